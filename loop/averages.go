package loop

import (
	"slices"

	"plaquette/api"
	"plaquette/torus"
)

const (
	directions = 3               // of a torus
	maxSide    = 3               // steps of a side of a rectangle
	maxSides   = api.MaxPath / 2 // steps of two sides that meet: no rectangle is too long for a path
)

// Rectangle: see P3.1.
func Rectangle(a, b, m, n int) ([]int, api.Errno) {
	if !isDirection(a) || !isDirection(b) || a == b || !isSide(m) || !isSide(n) || m+n > maxSides {
		return nil, api.ErrArg
	}
	return slices.Concat(straight(a+1, m), straight(b+1, n), straight(-a-1, m), straight(-b-1, n)), api.OK
}

func isDirection(n int) bool {
	return 0 <= n && n < directions
}

func isSide(n int) bool {
	return 1 <= n && n <= maxSide
}

// straight returns the path of n times the same step.
func straight(step, n int) []int {
	return slices.Repeat([]int{step}, n)
}

// Wilson: see P3.1.
func Wilson(f api.Field, a, b, m, n int) (api.Rat, api.Errno) {
	if e := torus.Validate(f); e != api.OK {
		return api.Rat{}, e
	}
	path, e := Rectangle(a, b, m, n)
	if e != api.OK {
		return api.Rat{}, e
	}
	return meanAlong(f, path)
}

// Polyakov: see P3.1.
func Polyakov(f api.Field, dir int) (api.Rat, api.Errno) {
	// Get has just the errors of a field and a direction: there is always a site 0.
	if _, e := torus.Get(f, 0, dir); e != api.OK {
		return api.Rat{}, e
	}
	return meanAlong(f, straight(dir+1, f.Sizes[dir]))
}

// meanAlong returns the mean, over all sites, of the traces of a path.
func meanAlong(f api.Field, path []int) (api.Rat, api.Errno) {
	sites, e := torus.Sites(f.Sizes)
	if e != api.OK {
		return api.Rat{}, e
	}
	traces := make([]api.Rat, 0, sites)
	for site := range sites {
		trace, e := Trace(f, site, path)
		if e != api.OK {
			return api.Rat{}, e
		}
		traces = append(traces, trace)
	}
	return mean(traces), api.OK
}
