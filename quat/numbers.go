package quat

import "plaquette/api"

// Trace: see P1.3.
func Trace(u api.Unit) (api.Rat, api.Errno) {
	if e := Validate(u); e != api.OK {
		return api.Rat{}, e
	}
	return ratio(2*u.A, u.N), api.OK
}

// Distance: see P1.3.
func Distance(u, v api.Unit) (api.Rat, api.Errno) {
	if e := validateAll(u, v); e != api.OK {
		return api.Rat{}, e
	}
	between := quaternionOf(u).inverse().times(quaternionOf(v))
	return ratio(2*between.n-2*between.a, between.n), api.OK
}

// Order: see P1.3. The trace alone decides: it is twice the cosine of an angle, and 1, 2, 3, 4 and 6 are the only numbers of equal parts of a turn whose cosine is rational.
func Order(u api.Unit) (int, api.Errno) {
	trace, e := Trace(u)
	if e != api.OK {
		return 0, e
	}
	if trace.Den != 1 {
		return 0, api.OK
	}
	switch trace.Num {
	case 2:
		return 1, api.OK
	case -2:
		return 2, api.OK
	case -1:
		return 3, api.OK
	case 0:
		return 4, api.OK
	}
	return 6, api.OK
}

// Rotate: see P1.4.
func Rotate(u api.Unit, v [3]int) ([3]api.Rat, api.Errno) {
	if e := Validate(u); e != api.OK {
		return [3]api.Rat{}, e
	}
	w := quaternion{vector{v[0], v[1], v[2]}, 0, 1}
	if !w.within(api.MaxVector) {
		return [3]api.Rat{}, api.ErrArg
	}
	q := quaternionOf(u)
	turned := q.times(w).times(q.inverse())
	return turned.over(turned.n), api.OK
}

// Cayley: see P1.4.
func Cayley(v [3]int, d int) (api.Unit, api.Errno) {
	p := vector{v[0], v[1], v[2]}
	if !p.within(api.MaxVector) || d < 1 || d > api.MaxVector {
		return api.Unit{}, api.ErrArg
	}
	l := p.dot(p)
	return quaternion{p.scaled(2 * d), d*d - l, d*d + l}.unit()
}

// Vector: see P1.4.
func Vector(u api.Unit) ([3]api.Rat, api.Errno) {
	if e := Validate(u); e != api.OK {
		return [3]api.Rat{}, e
	}
	if u.A == -u.N {
		return [3]api.Rat{}, api.ErrZero
	}
	return quaternionOf(u).over(u.N + u.A), api.OK
}
