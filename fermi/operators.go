package fermi

import (
	"plaquette/api"
	"plaquette/torus"
)

// Sign: see P7.2. In each direction it goes by the sum of the coordinates in the directions before.
func Sign(sizes [3]int, site, dir int) (int, api.Errno) {
	place, e := torus.Place(sizes, site)
	if e != api.OK {
		return 0, e
	}
	if dir < 0 || dir >= directions {
		return 0, api.ErrArg
	}
	sum := 0
	for _, n := range place[:dir] {
		sum += n
	}
	if sum%2 != 0 {
		return -1, api.OK
	}
	return 1, api.OK
}

// arm is what the hopping brings to a site from one beside it: a quaternion times the one that the vector has there.
type arm struct {
	from   int
	factor api.Spin
}

// hopping has the arms of each site.
type hopping [][]arm

// hoppingOf returns the hopping of a small field. Each link is an arm to both of its sites, with one sign, because a step in a direction leaves the coordinates before as they are.
func hoppingOf(f api.Field) (hopping, api.Errno) {
	h := make(hopping, len(f.Links)/directions)
	for link, u := range f.Links {
		site, dir := link/directions, link%directions
		next, e := torus.Next(f.Sizes, site, dir+1)
		if e != api.OK {
			return nil, e
		}
		sign, e := Sign(f.Sizes, site, dir)
		if e != api.OK {
			return nil, e
		}
		q := twice(u)
		for i := range q {
			q[i] *= sign
		}
		h[site] = append(h[site], arm{next, q})
		// The inverse of a unit has the opposite coordinates except the first, so its opposite has just that one.
		h[next] = append(h[next], arm{site, api.Spin{-q[0], q[1], q[2], q[3]}})
	}
	return h, api.OK
}

// of returns the hopping of a vector.
func (h hopping) of(v []api.Spin) []api.Spin {
	w := make([]api.Spin, len(v))
	for site, arms := range h {
		for _, a := range arms {
			for i, n := range times(a.factor, v[a.from]) {
				w[site][i] += n
			}
		}
	}
	return w
}

// apply returns the operator applied to a vector.
func (h hopping) apply(mass int, v []api.Spin) []api.Spin {
	w := h.of(v)
	add(w, 4*mass, v)
	return w
}

// dagger returns the dagger applied to a vector.
func (h hopping) dagger(mass int, v []api.Spin) []api.Spin {
	return minus(multiple(4*mass, v), h.of(v))
}

// Hop: see P7.2.
func Hop(f api.Field, v []api.Spin) ([]api.Spin, api.Errno) {
	if e := Validate(f, v); e != api.OK {
		return nil, e
	}
	h, e := hoppingOf(f)
	if e != api.OK {
		return nil, e
	}
	return h.of(v), api.OK
}

// Apply: see P7.2.
func Apply(f api.Field, mass int, v []api.Spin) ([]api.Spin, api.Errno) {
	h, e := start(f, mass, v)
	if e != api.OK {
		return nil, e
	}
	return h.apply(mass, v), api.OK
}

// Dagger: see P7.2.
func Dagger(f api.Field, mass int, v []api.Spin) ([]api.Spin, api.Errno) {
	h, e := start(f, mass, v)
	if e != api.OK {
		return nil, e
	}
	return h.dagger(mass, v), api.OK
}

// Twice: see P7.2.
func Twice(f api.Field, mass int, v []api.Spin) ([]api.Spin, api.Errno) {
	h, e := start(f, mass, v)
	if e != api.OK {
		return nil, e
	}
	return h.dagger(mass, h.apply(mass, v)), api.OK
}
