// Package quat is layer 1: exact unit quaternions. See shared/doc/01-quat.md.
package quat

import "plaquette/api"

const (
	maxDivisor  = 1 << 30 // the n of Of
	maxExponent = 1000    // the absolute value of the n of Power
)

// Validate: see P1.1.
func Validate(u api.Unit) api.Errno {
	q := quaternionOf(u)
	if q.n < 1 || q.n > api.MaxNorm || !q.isUnit() || q.common() != 1 {
		return api.ErrArg
	}
	return api.OK
}

// validateAll is Validate for several units, one by one.
func validateAll(l ...api.Unit) api.Errno {
	for _, u := range l {
		if e := Validate(u); e != api.OK {
			return e
		}
	}
	return api.OK
}

// Of: see P1.1.
func Of(a, b, c, d, n int) (api.Unit, api.Errno) {
	q := quaternion{vector{b, c, d}, a, n}
	if n < 1 || n > maxDivisor || !q.isUnit() {
		return api.Unit{}, api.ErrArg
	}
	return q.unit()
}

// Mul: see P1.2.
func Mul(u, v api.Unit) (api.Unit, api.Errno) {
	if e := validateAll(u, v); e != api.OK {
		return api.Unit{}, e
	}
	return quaternionOf(u).times(quaternionOf(v)).unit()
}

// Inverse: see P1.2.
func Inverse(u api.Unit) (api.Unit, api.Errno) {
	if e := Validate(u); e != api.OK {
		return api.Unit{}, e
	}
	return quaternionOf(u).inverse().unit()
}

// Neg: see P1.2.
func Neg(u api.Unit) (api.Unit, api.Errno) {
	if e := Validate(u); e != api.OK {
		return api.Unit{}, e
	}
	return api.Unit{A: -u.A, B: -u.B, C: -u.C, D: -u.D, N: u.N}, api.OK
}

// Product: see P1.2.
func Product(l []api.Unit) (api.Unit, api.Errno) {
	if e := validateAll(l...); e != api.OK {
		return api.Unit{}, e
	}
	factors := make([]quaternion, 0, len(l))
	for _, u := range l {
		factors = append(factors, quaternionOf(u))
	}
	return product(factors...)
}

// product multiplies valid units; each product on the way has the limit, even if the last one is small again.
func product(factors ...quaternion) (api.Unit, api.Errno) {
	p, e := one().unit()
	for _, q := range factors {
		p, e = quaternionOf(p).times(q).unit()
		if e != api.OK {
			return api.Unit{}, e
		}
	}
	return p, e
}

// Power: see P1.2.
func Power(u api.Unit, n int) (api.Unit, api.Errno) {
	if e := Validate(u); e != api.OK {
		return api.Unit{}, e
	}
	if !isWithin(n, maxExponent) {
		return api.Unit{}, api.ErrArg
	}
	factor, left := quaternionOf(u), n
	if n < 0 {
		factor, left = factor.inverse(), -n
	}
	p, e := one().unit()
again:
	if left == 0 || e != api.OK {
		return p, e
	}
	// One factor at a time, not by squares: the products on the way have the limit.
	p, e = quaternionOf(p).times(factor).unit()
	left--
	goto again
}

// Conjugate: see P1.2.
func Conjugate(g, u api.Unit) (api.Unit, api.Errno) {
	if e := validateAll(g, u); e != api.OK {
		return api.Unit{}, e
	}
	q := quaternionOf(g)
	return product(q, quaternionOf(u), q.inverse())
}

// Commutator: see P1.2.
func Commutator(u, v api.Unit) (api.Unit, api.Errno) {
	if e := validateAll(u, v); e != api.OK {
		return api.Unit{}, e
	}
	p, q := quaternionOf(u), quaternionOf(v)
	return product(p, q, p.inverse(), q.inverse())
}

// Commute: see P1.2.
func Commute(u, v api.Unit) (bool, api.Errno) {
	if e := validateAll(u, v); e != api.OK {
		return false, e
	}
	p, q := quaternionOf(u), quaternionOf(v)
	return p.times(q) == q.times(p), api.OK
}
