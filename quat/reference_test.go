package quat_test

import (
	"math/big"
	"testing"

	"plaquette/api"
	"plaquette/quat"
)

// exact is a quaternion of rational numbers without a limit: what the package is held against.
type exact [4]*big.Rat

func exactOf(a, b, c, d, n int) exact {
	var q exact
	for i, part := range [4]int{a, b, c, d} {
		q[i] = big.NewRat(int64(part), int64(n))
	}
	return q
}

func exactUnit(u api.Unit) exact {
	return exactOf(u.A, u.B, u.C, u.D, u.N)
}

// table holds the products of 1, i, j and k: the sign and the number of each.
var table = [4][4]struct{ sign, part int }{
	{{1, 0}, {1, 1}, {1, 2}, {1, 3}},
	{{1, 1}, {-1, 0}, {1, 3}, {-1, 2}},
	{{1, 2}, {-1, 3}, {-1, 0}, {1, 1}},
	{{1, 3}, {1, 2}, {-1, 1}, {-1, 0}},
}

func (q exact) times(p exact) exact {
	r := exactOf(0, 0, 0, 0, 1)
	for i := range q {
		for j := range p {
			x := new(big.Rat).Mul(q[i], p[j])
			x.Mul(x, big.NewRat(int64(table[i][j].sign), 1))
			to := table[i][j].part
			r[to] = new(big.Rat).Add(r[to], x)
		}
	}
	return r
}

func (q exact) inverse() exact {
	length := new(big.Rat)
	for _, part := range q {
		length.Add(length, new(big.Rat).Mul(part, part))
	}
	r := q
	for i, part := range q {
		r[i] = new(big.Rat).Quo(part, length)
		if i > 0 {
			r[i].Neg(r[i])
		}
	}
	return r
}

func (q exact) plus(p exact) exact {
	var r exact
	for i := range q {
		r[i] = new(big.Rat).Add(q[i], p[i])
	}
	return r
}

func (q exact) equal(p exact) bool {
	for i := range q {
		if q[i].Cmp(p[i]) != 0 {
			return false
		}
	}
	return true
}

// unit returns the valid unit, or ErrLarge: N is the least common denominator.
func (q exact) unit() (api.Unit, api.Errno) {
	n := big.NewInt(1)
	for _, part := range q {
		g := new(big.Int).GCD(nil, nil, n, part.Denom())
		n.Mul(n, new(big.Int).Quo(part.Denom(), g))
	}
	if n.Cmp(big.NewInt(api.MaxNorm)) > 0 {
		return api.Unit{}, api.ErrLarge
	}
	var parts [4]int
	for i, part := range q {
		x := new(big.Int).Mul(part.Num(), n)
		parts[i] = int(x.Quo(x, part.Denom()).Int64())
	}
	return u(parts[0], parts[1], parts[2], parts[3], int(n.Int64())), api.OK
}

// exactProduct is Product, calculated with exact.
func exactProduct(l ...api.Unit) (api.Unit, api.Errno) {
	p := u(1, 0, 0, 0, 1)
	for _, x := range l {
		var e api.Errno
		p, e = exactUnit(p).times(exactUnit(x)).unit()
		if e != api.OK {
			return api.Unit{}, e
		}
	}
	return p, api.OK
}

func exactTrace(q exact) api.Rat {
	return ratOf(new(big.Rat).Add(q[0], q[0]))
}

func ratOf(r *big.Rat) api.Rat {
	return api.Rat{Num: int(r.Num().Int64()), Den: int(r.Denom().Int64())}
}

func u(a, b, c, d, n int) api.Unit {
	return api.Unit{A: a, B: b, C: c, D: d, N: n}
}

func opposite(x api.Unit) api.Unit {
	return u(-x.A, -x.B, -x.C, -x.D, x.N)
}

func back(x api.Unit) api.Unit {
	return u(x.A, -x.B, -x.C, -x.D, x.N)
}

// Units with an N at the limit, and some whose products come close to it.
var (
	edge   = u(1040393, 2044, 22484, 128772, 1048575) // the greatest N of all valid units
	beyond = u(1040391, 6132, 44968, 122640, 1048577)
	n1023  = u(659, 58, 522, 580, 1023)
	n1025  = u(657, 116, 348, 696, 1025)
	n17    = u(15, 8, 0, 0, 17)
	n61681 = u(61327, 992, 992, 6448, 61681)
	third  = u(-5, 5, 1, 7, 10) // the order 3, but not small
	sixth  = u(5, -5, 1, 7, 10)
)

// someUnits returns all valid units with an N up to most, and large ones.
func someUnits(most int) []api.Unit {
	l := []api.Unit{edge, opposite(edge), n1023, n1025, n17, n61681, third, sixth, u(0, 3, 4, 0, 5), u(3, 0, 0, -4, 5), u(1, 2, 2, 4, 5)}
	for n := 1; n <= most; n++ {
		for a := -n; a <= n; a++ {
			for b := -n; b <= n; b++ {
				for c := -n; c <= n; c++ {
					for d := -n; d <= n; d++ {
						if isValid(a, b, c, d, n) {
							l = append(l, u(a, b, c, d, n))
						}
					}
				}
			}
		}
	}
	return l
}

// isValid is for small numbers only.
func isValid(a, b, c, d, n int) bool {
	if n < 1 || a*a+b*b+c*c+d*d != n*n {
		return false
	}
	for g := 2; g <= n; g++ {
		if a%g == 0 && b%g == 0 && c%g == 0 && d%g == 0 && n%g == 0 {
			return false
		}
	}
	return true
}

// invalidUnits returns a unit for each way in which one may be not valid.
func invalidUnits() []api.Unit {
	const huge = 1<<63 - 1
	return []api.Unit{
		{},
		u(1, 0, 0, 0, 0),
		u(-1, 0, 0, 0, -1),
		u(1, 0, 0, 0, -1),
		u(1, 1, 0, 0, 1),
		u(1, 0, 0, 0, 2),
		u(2, 0, 0, 0, 2),
		u(0, 0, 0, -7, 7),
		u(6, 8, 0, 0, 10),
		u(2, 2, 2, 2, 4),
		u(1<<20, 0, 0, 0, 1<<20),
		beyond,
		u(1<<62, 1<<62, 1<<62, 1<<62, 1),
		u(1<<32, 0, 0, 0, 1),
		u(1<<31, 1<<31, 1<<31, 1<<31, 1),
		u(1<<32, 1, 0, 0, 1),
		u(-huge-1, 0, 0, 0, 1),
		u(0, 0, 0, -huge-1, 1),
		u(1, 0, 0, 0, huge),
		u(1, 0, 0, 0, -huge-1),
		u(-huge-1, -huge-1, -huge-1, -huge-1, -huge-1),
		u(huge, huge, huge, huge, huge),
	}
}

// checkUnit compares a unit and an error with those that are wanted.
func checkUnit(t *testing.T, what string, got api.Unit, e api.Errno, want api.Unit, f api.Errno) {
	t.Helper()
	if got != want || e != f {
		t.Errorf("%s: %v %v, want %v %v", what, got, e, want, f)
	}
	if e == api.OK && quat.Validate(got) != api.OK {
		t.Errorf("%s: %v is not valid", what, got)
	}
}
