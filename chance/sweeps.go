package chance

import (
	"plaquette/api"
	"plaquette/quat"
)

// Sweep: see P5.5.
func Sweep(f api.Field, w [5]int, seed int) (api.Field, int, []api.Move, api.Errno) {
	if e := checkSweep(f, w, seed); e != api.OK {
		return api.Field{}, 0, nil, e
	}
	return firstMoves(f, w, seed, len(f.Links))
}

// firstMoves goes through as many links as n says, the first ones of a sweep.
func firstMoves(f api.Field, w [5]int, seed, n int) (api.Field, int, []api.Move, api.Errno) {
	g := generator{seed}
	to := copied(f)
	moves := make([]api.Move, 0, n)
	for link := range n {
		move, e := drawnMove(to, w, link, g.below)
		if e != api.OK {
			return api.Field{}, 0, nil, e
		}
		if to.Links[link], e = quat.Small(move.To); e != api.OK {
			return api.Field{}, 0, nil, e
		}
		moves = append(moves, move)
	}
	return to, g.seed, moves, api.OK
}

// drawnMove returns the move of a link by a heat bath.
func drawnMove(f api.Field, w [5]int, link int, draw func(n int) int) (api.Move, api.Errno) {
	table, e := tableOf(f, w, link)
	if e != api.OK {
		return api.Move{}, e
	}
	weights, e := weightsOf(table)
	if e != api.OK {
		return api.Move{}, e
	}
	from, _, e := quat.Number(f.Links[link])
	if e != api.OK {
		return api.Move{}, e
	}
	drawn := draw(sum(weights))
	return api.Move{Link: link, From: from, To: chosen(weights, drawn), Draw: drawn}, api.OK
}

// Touch: see P5.5.
func Touch(f api.Field, w [5]int, seed int) (api.Field, int, int, api.Errno) {
	if e := checkSweep(f, w, seed); e != api.OK {
		return api.Field{}, 0, 0, e
	}
	g := generator{seed}
	draw := g.below
	to := copied(f)
	accepted := 0
	for link := range to.Links {
		p, e := proposalAt(to, w, link, draw(values))
		if e != api.OK {
			return api.Field{}, 0, 0, e
		}
		if p.accepts(draw(p.before)) {
			to.Links[link] = p.unit
			accepted++
		}
	}
	return to, g.seed, accepted, api.OK
}

// Audit: see P5.6. The moves are not carried out but held against those of Sweep: so none of their numbers need be checked.
func Audit(f api.Field, w [5]int, seed int, moves []api.Move) (api.Field, int, int, api.Errno) {
	if e := checkSweep(f, w, seed); e != api.OK {
		return api.Field{}, 0, 0, e
	}
	if len(moves) > len(f.Links) {
		return api.Field{}, 0, 0, api.ErrLarge
	}
	to, behind, right, e := firstMoves(f, w, seed, len(moves))
	if e != api.OK {
		return api.Field{}, 0, 0, e
	}
	for i, move := range moves {
		if move != right[i] {
			return api.Field{}, 0, i, api.ErrProof
		}
	}
	return to, behind, 0, api.OK
}
