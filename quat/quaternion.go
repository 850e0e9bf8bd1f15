package quat

import "plaquette/api"

// quaternion is (a + b i + c j + d k) / n with n above 0. It need not be in lowest terms: only a result is reduced, so that a product which is merely looked at has no limit.
//
// No int overflows: coordinates of valid units are at most 2^20, so those of a product of two are at most 2^40, and a vector turned by a unit has coordinates of less than 2^52.
type quaternion struct {
	vector
	a, n int
}

func quaternionOf(u api.Unit) quaternion {
	return quaternion{vector{u.B, u.C, u.D}, u.A, u.N}
}

func one() quaternion {
	return quaternion{a: 1, n: 1}
}

// inverse is the conjugate, since a unit has the length 1.
func (q quaternion) inverse() quaternion {
	q.vector = q.scaled(-1)
	return q
}

func (q quaternion) times(p quaternion) quaternion {
	return quaternion{
		p.scaled(q.a).plus(q.scaled(p.a)).plus(q.cross(p.vector)),
		q.a*p.a - q.dot(p.vector),
		q.n * p.n,
	}
}

// isUnit reports whether the length is 1; n is at most 2^30, so that the squares fit.
func (q quaternion) isUnit() bool {
	return isWithin(q.a, q.n) && q.within(q.n) && q.a*q.a+q.dot(q.vector) == q.n*q.n
}

// common returns the greatest number that divides all five parts.
func (q quaternion) common() int {
	g := q.n
	for _, part := range [4]int{q.a, q.b, q.c, q.d} {
		g = divisor(g, part)
	}
	return g
}

// unit returns the valid unit for a quaternion of the length 1, or ErrLarge.
func (q quaternion) unit() (api.Unit, api.Errno) {
	g := q.common()
	if q.n/g > api.MaxNorm {
		return api.Unit{}, api.ErrLarge
	}
	return api.Unit{A: q.a / g, B: q.b / g, C: q.c / g, D: q.d / g, N: q.n / g}, api.OK
}
