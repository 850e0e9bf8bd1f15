package torus

import (
	"slices"

	"plaquette/api"
	"plaquette/quat"
)

// blank returns a field whose links are not yet valid.
func blank(sizes [3]int) api.Field {
	return api.Field{Sizes: sizes, Links: make([]api.Unit, directions*count(sizes))}
}

// Cold: see P2.4.
func Cold(sizes [3]int) (api.Field, api.Errno) {
	if e := ValidateSizes(sizes); e != api.OK {
		return api.Field{}, e
	}
	f := blank(sizes)
	for i := range f.Links {
		f.Links[i] = api.Unit{A: 1, N: 1}
	}
	return f, api.OK
}

// Get: see P2.4.
func Get(f api.Field, site, dir int) (api.Unit, api.Errno) {
	if e := checkLink(f, site, dir); e != api.OK {
		return api.Unit{}, e
	}
	return f.Links[directions*site+dir], api.OK
}

// Put: see P2.4.
func Put(f api.Field, site, dir int, u api.Unit) (api.Field, api.Errno) {
	if e := checkLink(f, site, dir); e != api.OK {
		return api.Field{}, e
	}
	if e := checkUnit(u); e != api.OK {
		return api.Field{}, e
	}
	links := slices.Clone(f.Links)
	links[directions*site+dir] = u
	return api.Field{Sizes: f.Sizes, Links: links}, api.OK
}

// Along: see P2.4.
func Along(f api.Field, site int, path []int) (api.Unit, api.Errno) {
	if e := Validate(f); e != api.OK {
		return api.Unit{}, e
	}
	if e := checkWalk(f.Sizes, site, path); e != api.OK {
		return api.Unit{}, e
	}
	return along(f, site, path)
}

func along(f api.Field, site int, path []int) (api.Unit, api.Errno) {
	sites := walk(f.Sizes, site, path)
	units := make([]api.Unit, 0, len(path))
	for i, step := range path {
		u, e := passed(f, sites[i], sites[i+1], step)
		if e != api.OK {
			return api.Unit{}, e
		}
		units = append(units, u)
	}
	return quat.Product(units)
}

// passed returns the unit of a step from a site to the next one. The link of a step backward belongs to the site to which it leads.
func passed(f api.Field, from, to, step int) (api.Unit, api.Errno) {
	if step > 0 {
		return f.Links[directions*from+step-1], api.OK
	}
	return quat.Inverse(f.Links[directions*to-step-1])
}
