package path

import (
	"slices"

	"plaquette/api"
	"plaquette/chance"
)

const (
	most  = 30        // the greatest change of the energy that may be accepted
	draws = 1 << most // among so many is drawn whether it is
)

// Accept: see P6.4.
func Accept(change, draw int) (bool, api.Errno) {
	if !isWithin(draw, 0, draws-1) {
		return false, api.ErrArg
	}
	switch {
	case change <= 0:
		return true, api.OK
	case change > most:
		return false, api.OK
	}
	return draw%(1<<change) == 0, api.OK
}

// Trajectory: see P6.4.
func Trajectory(f api.Field, seed, n, beta int) (api.Field, int, bool, api.Errno) {
	if e := checkField(f); e != api.OK {
		return api.Field{}, 0, false, e
	}
	p, behind, e := Momenta(f.Sizes, seed)
	if e != api.OK {
		return api.Field{}, 0, false, e
	}
	g, q, e := Run(f, p, n)
	if e != api.OK {
		return api.Field{}, 0, false, e
	}
	change, e := changeOf(f, p, g, q, beta)
	if e != api.OK {
		return api.Field{}, 0, false, e
	}
	draw, behind, e := chance.Draw(behind, draws)
	if e != api.OK {
		return api.Field{}, 0, false, e
	}
	is, e := Accept(change, draw)
	if e != api.OK {
		return api.Field{}, 0, false, e
	}
	if !is {
		g.Links = slices.Clone(f.Links)
	}
	return g, behind, is, api.OK
}

// changeOf returns the energy of the end of a run minus that of its beginning.
func changeOf(f api.Field, p []api.Kick, g api.Field, q []api.Kick, beta int) (int, api.Errno) {
	before, e := Energy(f, p, beta)
	if e != api.OK {
		return 0, e
	}
	after, e := Energy(g, q, beta)
	if e != api.OK {
		return 0, e
	}
	return after - before, api.OK
}
