package torus

import "plaquette/api"

// Plaquettes: see P2.5.
func Plaquettes(f api.Field) ([]api.Unit, api.Errno) {
	if e := Validate(f); e != api.OK {
		return nil, e
	}
	units := make([]api.Unit, 0, len(f.Links))
	for site := range places(f.Sizes) {
		for _, sides := range [3][2]int{{1, 2}, {1, 3}, {2, 3}} {
			a, b := sides[0], sides[1]
			u, e := along(f, site, []int{a, b, -a, -b})
			if e != api.OK {
				return nil, e
			}
			units = append(units, u)
		}
	}
	return units, api.OK
}

// Shift: see P2.5. Only remainders are added to a place, because the numbers of by may be so large that a sum overflows.
func Shift(f api.Field, by [3]int) (api.Field, api.Errno) {
	if e := Validate(f); e != api.OK {
		return api.Field{}, e
	}
	shifted := blank(f.Sizes)
	for site, place := range places(f.Sizes) {
		for i, size := range f.Sizes {
			place[i] += modulo(by[i], size)
		}
		to := siteAt(f.Sizes, place)
		for dir := range directions {
			shifted.Links[directions*to+dir] = f.Links[directions*site+dir]
		}
	}
	return shifted, api.OK
}

// Turn: see P2.5.
func Turn(f api.Field) (api.Field, api.Errno) {
	if e := Validate(f); e != api.OK {
		return api.Field{}, e
	}
	turned := blank([3]int{f.Sizes[1], f.Sizes[2], f.Sizes[0]})
	for site, place := range places(turned.Sizes) {
		from := siteAt(f.Sizes, [3]int{place[2], place[0], place[1]})
		for dir := range directions {
			turned.Links[directions*site+dir] = f.Links[directions*from+(dir+1)%directions]
		}
	}
	return turned, api.OK
}
