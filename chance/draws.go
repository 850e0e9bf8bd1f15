package chance

import (
	"plaquette/api"
	"plaquette/quat"
	"plaquette/torus"
)

// generator has the seed from which is drawn next. A draw is its method value below: what draws need not know of seeds.
type generator struct {
	seed int
}

// below returns a draw among n. Seeds are below 2^31, so no int overflows.
func (g *generator) below(n int) int {
	a := next(g.seed)
	g.seed = next(a)
	return ((a-1)*(api.Prime-1) + g.seed - 1) % n
}

// next returns the next seed.
func next(seed int) int {
	return seed * api.Factor % api.Prime
}

func checkSeed(seed int) api.Errno {
	if seed < 1 || seed >= api.Prime {
		return api.ErrArg
	}
	return api.OK
}

// Step: see P5.1.
func Step(seed int) (int, api.Errno) {
	if e := checkSeed(seed); e != api.OK {
		return 0, e
	}
	return next(seed), api.OK
}

// Leap: see P5.1. So many steps cannot be gone one by one: each round doubles the steps for which the factor stands.
func Leap(seed, n int) (int, api.Errno) {
	if e := checkSeed(seed); e != api.OK {
		return 0, e
	}
	if n < 0 || n > api.MaxRange {
		return 0, api.ErrArg
	}
	for factor := api.Factor; n > 0; n /= 2 {
		if n%2 == 1 {
			seed = seed * factor % api.Prime
		}
		factor = factor * factor % api.Prime
	}
	return seed, api.OK
}

// Draw: see P5.1.
func Draw(seed, n int) (int, int, api.Errno) {
	if e := checkSeed(seed); e != api.OK {
		return 0, 0, e
	}
	if n < 1 || n > api.MaxRange {
		return 0, 0, api.ErrArg
	}
	g := generator{seed}
	drawn := g.below(n)
	return drawn, g.seed, api.OK
}

// Hot: see P5.2.
func Hot(sizes [3]int, seed int) (api.Field, int, api.Errno) {
	sites, e := torus.Sites(sizes)
	if e != api.OK {
		return api.Field{}, 0, e
	}
	units, behind, e := drawnUnits(directions*sites, seed)
	if e != api.OK {
		return api.Field{}, 0, e
	}
	return api.Field{Sizes: sizes, Links: units}, behind, api.OK
}

// Noise: see P5.2.
func Noise(sizes [3]int, seed int) ([]api.Unit, int, api.Errno) {
	sites, e := torus.Sites(sizes)
	if e != api.OK {
		return nil, 0, e
	}
	return drawnUnits(sites, seed)
}

// drawnUnits draws small units from a seed, and returns the seed behind them.
func drawnUnits(n, seed int) ([]api.Unit, int, api.Errno) {
	if e := checkSeed(seed); e != api.OK {
		return nil, 0, e
	}
	g := generator{seed}
	units, e := chosenUnits(n, g.below)
	if e != api.OK {
		return nil, 0, e
	}
	return units, g.seed, api.OK
}

// chosenUnits returns small units, each by a draw.
func chosenUnits(n int, draw func(n int) int) ([]api.Unit, api.Errno) {
	units := make([]api.Unit, 0, n)
	for range n {
		u, e := quat.Small(draw(values))
		if e != api.OK {
			return nil, e
		}
		units = append(units, u)
	}
	return units, api.OK
}
