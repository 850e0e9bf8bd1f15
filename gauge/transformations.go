package gauge

import (
	"slices"

	"plaquette/api"
	"plaquette/quat"
	"plaquette/torus"
)

// Identity: see P4.1.
func Identity(sizes [3]int) ([]api.Unit, api.Errno) {
	sites, e := torus.Sites(sizes)
	if e != api.OK {
		return nil, e
	}
	return slices.Repeat([]api.Unit{{A: 1, N: 1}}, sites), api.OK
}

// Spread: see P4.1.
func Spread(f api.Field, u api.Unit) ([]api.Unit, api.Errno) {
	if e := torus.Validate(f); e != api.OK {
		return nil, e
	}
	if e := quat.Validate(u); e != api.OK {
		return nil, e
	}
	return limited(slices.Repeat([]api.Unit{u}, len(f.Links)/directions))
}

// Compose: see P4.1.
func Compose(f api.Field, g, h []api.Unit) ([]api.Unit, api.Errno) {
	if e := Validate(f, g); e != api.OK {
		return nil, e
	}
	if e := Validate(f, h); e != api.OK {
		return nil, e
	}
	products := make([]api.Unit, 0, len(g))
	for site := range g {
		u, e := quat.Mul(g[site], h[site])
		if e != api.OK {
			return nil, e
		}
		products = append(products, u)
	}
	return limited(products)
}

// Inverse: see P4.1.
func Inverse(f api.Field, g []api.Unit) ([]api.Unit, api.Errno) {
	if e := Validate(f, g); e != api.OK {
		return nil, e
	}
	inverses := make([]api.Unit, 0, len(g))
	for _, u := range g {
		inverse, e := quat.Inverse(u)
		if e != api.OK {
			return nil, e
		}
		inverses = append(inverses, inverse)
	}
	return inverses, api.OK
}

// Transform: see P4.1.
func Transform(f api.Field, g []api.Unit) (api.Field, api.Errno) {
	if e := Validate(f, g); e != api.OK {
		return api.Field{}, e
	}
	links := make([]api.Unit, 0, len(f.Links))
	for number := range f.Links {
		link, e := transformed(f, g, number)
		if e != api.OK {
			return api.Field{}, e
		}
		links = append(links, link)
	}
	links, e := limited(links)
	if e != api.OK {
		return api.Field{}, e
	}
	return api.Field{Sizes: f.Sizes, Links: links}, api.OK
}

// transformed returns a link of the transformed field. The N of a product of three links is far below MaxNorm, so quat.Product never refuses it on the way.
func transformed(f api.Field, g []api.Unit, number int) (api.Unit, api.Errno) {
	from, to, e := ends(f.Sizes, number)
	if e != api.OK {
		return api.Unit{}, e
	}
	back, e := quat.Inverse(g[to])
	if e != api.OK {
		return api.Unit{}, e
	}
	return quat.Product([]api.Unit{g[from], f.Links[number], back})
}

// Center: see P4.4.
func Center(f api.Field, dir int) (api.Field, api.Errno) {
	if e := torus.Validate(f); e != api.OK {
		return api.Field{}, e
	}
	if dir < 0 || dir >= directions {
		return api.Field{}, api.ErrArg
	}
	links := slices.Clone(f.Links)
	for number := dir; number < len(links); number += directions {
		place, e := torus.Place(f.Sizes, number/directions)
		if e != api.OK {
			return api.Field{}, e
		}
		if place[dir] != 0 {
			continue
		}
		if links[number], e = quat.Neg(links[number]); e != api.OK {
			return api.Field{}, e
		}
	}
	return api.Field{Sizes: f.Sizes, Links: links}, api.OK
}
