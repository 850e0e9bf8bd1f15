package fermi

import (
	"plaquette/api"
	"plaquette/torus"
)

// Allowed: see P7.4.
func Allowed(sizes [3]int, mass int) (int, api.Errno) {
	sites, e := torus.Sites(sizes)
	if e != api.OK {
		return 0, e
	}
	if !isMass(mass) {
		return 0, api.ErrArg
	}
	length := 4*mass + 16
	return length * length * 4 * sites, api.OK
}

// remainder returns b minus the operator applied to v, whatever its entries are.
func remainder(f api.Field, mass int, v, b []api.Spin) ([]api.Spin, api.Errno) {
	h, e := start(f, mass, v, b)
	if e != api.OK {
		return nil, e
	}
	if !isWithin(b, api.MaxSource) {
		return nil, api.ErrArg
	}
	return minus(b, h.apply(mass, v)), api.OK
}

// Residual: see P7.4.
func Residual(f api.Field, mass int, v, b []api.Spin) ([]api.Spin, int, api.Errno) {
	r, e := remainder(f, mass, v, b)
	if e != api.OK {
		return nil, 0, e
	}
	if !isWithin(r, api.MaxEntry) {
		return nil, 0, api.ErrLarge
	}
	return r, dot(r, r), api.OK
}

// Check: see P7.4. An entry above MaxEntry is never allowed, and its square might be too large for the sum.
func Check(f api.Field, mass int, v, b []api.Spin) api.Errno {
	r, e := remainder(f, mass, v, b)
	if e != api.OK {
		return e
	}
	allowed, e := Allowed(f.Sizes, mass)
	if e != api.OK {
		return e
	}
	if !isWithin(r, api.MaxEntry) || dot(r, r) > allowed {
		return api.ErrProof
	}
	return api.OK
}

// Bound: see P7.4.
func Bound(f api.Field, mass int, v, b []api.Spin) (api.Rat, api.Errno) {
	_, squares, e := Residual(f, mass, v, b)
	if e != api.OK {
		return api.Rat{}, e
	}
	below := 16 * mass * mass
	g := divisor(squares, below)
	return api.Rat{Num: squares / g, Den: below / g}, api.OK
}

// divisor returns the greatest common divisor of two numbers, the second of which is above 0.
func divisor(m, n int) int {
	for m != 0 {
		m, n = n%m, m
	}
	return n
}
