package quat

import "plaquette/api"

// vector is what a quaternion shares with the vectors that it turns: three coordinates.
type vector struct {
	b, c, d int
}

func (v vector) scaled(k int) vector {
	return vector{k * v.b, k * v.c, k * v.d}
}

func (v vector) plus(w vector) vector {
	return vector{v.b + w.b, v.c + w.c, v.d + w.d}
}

func (v vector) dot(w vector) int {
	return v.b*w.b + v.c*w.c + v.d*w.d
}

func (v vector) cross(w vector) vector {
	return vector{
		v.c*w.d - v.d*w.c,
		v.d*w.b - v.b*w.d,
		v.b*w.c - v.c*w.b,
	}
}

// within reports whether no coordinate is beyond a limit. It comes before any multiplication, because coordinates from outside may be so large that their squares overflow.
func (v vector) within(limit int) bool {
	return isWithin(v.b, limit) && isWithin(v.c, limit) && isWithin(v.d, limit)
}

// over returns the coordinates divided by n, which is above 0.
func (v vector) over(n int) [3]api.Rat {
	return [3]api.Rat{ratio(v.b, n), ratio(v.c, n), ratio(v.d, n)}
}

// isWithin has no absolute value of n in it, because that of the smallest int overflows.
func isWithin(n, limit int) bool {
	return -limit <= n && n <= limit
}

// ratio returns num / den in lowest terms; den is above 0.
func ratio(num, den int) api.Rat {
	g := divisor(den, num)
	return api.Rat{Num: num / g, Den: den / g}
}

// divisor returns the greatest common divisor of m, which is above 0, and n.
func divisor(m, n int) int {
	for n != 0 {
		m, n = n, m%n
	}
	if m < 0 {
		return -m
	}
	return m
}
