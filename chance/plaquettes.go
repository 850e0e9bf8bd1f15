package chance

import (
	"slices"

	"plaquette/api"
	"plaquette/quat"
	"plaquette/torus"
)

// steps has the steps a and b of the plaquettes of a site.
var steps = [directions][2]int{{1, 2}, {1, 3}, {2, 3}}

// Through: see P5.2.
func Through(sizes [3]int, link int) ([]int, api.Errno) {
	sites, e := torus.Sites(sizes)
	if e != api.OK {
		return nil, e
	}
	if link < 0 || link >= directions*sites {
		return nil, api.ErrNone
	}
	site, dir := link/directions, link%directions
	var set []int
	for other := range directions {
		if other == dir {
			continue
		}
		// A plaquette has a link of each direction at its site, and one at the site next to it in the other direction.
		before, e := torus.Next(sizes, site, -other-1)
		if e != api.OK {
			return nil, e
		}
		n := dir + other - 1 // 0, 1, 2: no two pairs of directions have the same sum
		set = append(set, directions*site+n, directions*before+n)
	}
	slices.Sort(set)
	return slices.Compact(set), api.OK
}

// side is a step of the path of a plaquette: along a link, or back along it.
type side struct {
	link int
	back bool
}

// sidesOf returns the sides of a plaquette.
func sidesOf(sizes [3]int, plaquette int) ([]side, api.Errno) {
	a, b := steps[plaquette%directions][0], steps[plaquette%directions][1]
	path := []int{a, b, -a, -b}
	sites, e := torus.Walk(sizes, plaquette/directions, path)
	if e != api.OK {
		return nil, e
	}
	sides := make([]side, 0, len(path))
	for i, step := range path {
		if step > 0 {
			sides = append(sides, side{directions*sites[i] + step - 1, false})
		} else {
			sides = append(sides, side{directions*sites[i+1] - step - 1, true})
		}
	}
	return sides, api.OK
}

// crossing is a link of a small field, with the sides of each of its plaquettes.
type crossing struct {
	links      []api.Unit
	link       int
	plaquettes [][]side
}

func crossingAt(f api.Field, link int) (crossing, api.Errno) {
	numbers, e := Through(f.Sizes, link)
	if e != api.OK {
		return crossing{}, e
	}
	c := crossing{links: f.Links, link: link}
	for _, number := range numbers {
		sides, e := sidesOf(f.Sizes, number)
		if e != api.OK {
			return crossing{}, e
		}
		c.plaquettes = append(c.plaquettes, sides)
	}
	return c, api.OK
}

// weight returns the weight of a value of the link.
func (c crossing) weight(w [5]int, value api.Unit) (int, api.Errno) {
	product := 1
	for _, sides := range c.plaquettes {
		trace, e := c.trace(sides, value)
		if e != api.OK {
			return 0, e
		}
		product *= w[trace+2]
	}
	return product, api.OK
}

// trace returns the trace of a plaquette if the link has a value. It need not be the only side that is this link: on a short torus the path comes back along it. The trace is an integer, because all units are small.
func (c crossing) trace(sides []side, value api.Unit) (int, api.Errno) {
	units := make([]api.Unit, 0, len(sides))
	for _, s := range sides {
		u, e := c.links[s.link], api.OK
		if s.link == c.link {
			u = value
		}
		if s.back {
			u, e = quat.Inverse(u)
		}
		if e != api.OK {
			return 0, e
		}
		units = append(units, u)
	}
	along, e := quat.Product(units)
	if e != api.OK {
		return 0, e
	}
	trace, e := quat.Trace(along)
	return trace.Num, e
}
