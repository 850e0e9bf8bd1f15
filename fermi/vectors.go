package fermi

import (
	"plaquette/api"
	"plaquette/quat"
	"plaquette/torus"
)

// isWithin reports whether all entries of a vector are from -most to most.
func isWithin(v []api.Spin, most int) bool {
	for _, q := range v {
		for _, n := range q {
			if n < -most || n > most {
				return false
			}
		}
	}
	return true
}

// times returns the product of two quaternions.
func times(p, q api.Spin) api.Spin {
	return api.Spin{
		p[0]*q[0] - p[1]*q[1] - p[2]*q[2] - p[3]*q[3],
		p[0]*q[1] + p[1]*q[0] + p[2]*q[3] - p[3]*q[2],
		p[0]*q[2] - p[1]*q[3] + p[2]*q[0] + p[3]*q[1],
		p[0]*q[3] + p[1]*q[2] - p[2]*q[1] + p[3]*q[0],
	}
}

// twice returns 2 times a small unit, whose N divides 2.
func twice(u api.Unit) api.Spin {
	n := 2 / u.N
	return api.Spin{n * u.A, n * u.B, n * u.C, n * u.D}
}

// add adds a multiple of a vector to v.
func add(v []api.Spin, n int, w []api.Spin) {
	for site, q := range w {
		for i, entry := range q {
			v[site][i] += n * entry
		}
	}
}

// multiple returns a vector times a number.
func multiple(n int, v []api.Spin) []api.Spin {
	w := make([]api.Spin, len(v))
	add(w, n, v)
	return w
}

// minus returns the difference of two vectors.
func minus(v, w []api.Spin) []api.Spin {
	difference := make([]api.Spin, len(v))
	copy(difference, v)
	add(difference, -1, w)
	return difference
}

// dot returns the sum of the products of all entries. With entries of at most MaxEntry it is at most 2^62.
func dot(v, w []api.Spin) int {
	sum := 0
	for site, q := range v {
		for i, n := range q {
			sum += n * w[site][i]
		}
	}
	return sum
}

// Dot: see P7.2.
func Dot(f api.Field, v, w []api.Spin) (int, api.Errno) {
	if e := Validate(f, v); e != api.OK {
		return 0, e
	}
	if e := Validate(f, w); e != api.OK {
		return 0, e
	}
	return dot(v, w), api.OK
}

// Point: see P7.3.
func Point(sizes [3]int, site, part int) ([]api.Spin, api.Errno) {
	if _, e := torus.Place(sizes, site); e != api.OK {
		return nil, e
	}
	if part < 0 || part >= len(api.Spin{}) {
		return nil, api.ErrArg
	}
	sites, e := torus.Sites(sizes)
	if e != api.OK {
		return nil, e
	}
	v := make([]api.Spin, sites)
	v[site][part] = api.MaxSource
	return v, api.OK
}

// Turned: see P7.3.
func Turned(f api.Field, g []api.Unit, v []api.Spin) ([]api.Spin, api.Errno) {
	if e := Validate(f, v); e != api.OK {
		return nil, e
	}
	if len(g) != len(v) {
		return nil, api.ErrArg
	}
	turned := make([]api.Spin, len(v))
	for site, u := range g {
		// A unit that is not valid at all is as wrong as one that is not small.
		if _, is, _ := quat.Number(u); !is {
			return nil, api.ErrArg
		}
		turned[site] = times(twice(u), v[site])
	}
	return turned, api.OK
}
