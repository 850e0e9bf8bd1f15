package path

import (
	"slices"

	"plaquette/api"
)

// Force: see P6.2.
func Force(f api.Field, link int) ([3]int, api.Errno) {
	c, e := resting(f)
	if e != api.OK {
		return [3]int{}, e
	}
	if !isWithin(link, 0, len(f.Links)-1) {
		return [3]int{}, api.ErrNone
	}
	return c.force(link), api.OK
}

// Push: see P6.2.
func Push(f api.Field, p []api.Kick) ([]api.Kick, api.Errno) {
	c, e := start(f, p)
	if e != api.OK {
		return nil, e
	}
	c.do(push{})
	return c.momenta, api.OK
}

// Drift: see P6.2.
func Drift(f api.Field, p []api.Kick) (api.Field, api.Errno) {
	c, e := start(f, p)
	if e != api.OK {
		return api.Field{}, e
	}
	c.do(drift{})
	g, _, e := c.end()
	return g, e
}

// Step: see P6.2.
func Step(f api.Field, p []api.Kick) (api.Field, []api.Kick, api.Errno) {
	return Run(f, p, 1)
}

// Run: see P6.2.
func Run(f api.Field, p []api.Kick, n int) (api.Field, []api.Kick, api.Errno) {
	c, e := start(f, p)
	if e != api.OK {
		return api.Field{}, nil, e
	}
	if !isWithin(n, 0, api.MaxSteps) {
		return api.Field{}, nil, api.ErrArg
	}
	for range n {
		c.step()
	}
	return c.end()
}

// Period: see P6.5.
func Period(f api.Field, p []api.Kick, limit int) (int, bool, api.Errno) {
	c, e := start(f, p)
	if e != api.OK {
		return 0, false, e
	}
	if !isWithin(limit, 1, api.MaxPeriod) {
		return 0, false, api.ErrArg
	}
	links := slices.Clone(c.links)
	for n := range limit {
		c.step()
		if slices.Equal(c.links, links) && slices.Equal(c.momenta, p) {
			return n + 1, true, api.OK
		}
	}
	return 0, false, api.OK
}
