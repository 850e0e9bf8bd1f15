package chance

import (
	"plaquette/api"
	"plaquette/quat"
)

// HeatBath: see P5.3.
func HeatBath(f api.Field, w [5]int, link, draw int) (api.Field, int, api.Errno) {
	weights, e := Weights(f, w, link)
	if e != api.OK {
		return api.Field{}, 0, e
	}
	if draw < 0 || draw >= sum(weights) {
		return api.Field{}, 0, api.ErrArg
	}
	to := copied(f)
	k := chosen(weights, draw)
	if to.Links[link], e = quat.Small(k); e != api.OK {
		return api.Field{}, 0, e
	}
	return to, k, api.OK
}

// sum returns the sum of all weights: at most 24 * 100^4, because no link has more than four plaquettes, and so within MaxRange.
func sum(weights [values]int) int {
	total := 0
	for _, weight := range weights {
		total += weight
	}
	return total
}

// chosen returns the value to which a draw leads. The draw is below the sum of the weights.
func chosen(weights [values]int, draw int) int {
	k := 0
	for draw >= weights[k] {
		draw -= weights[k]
		k++
	}
	return k
}

// proposal is a new unit for a link, with the weights of the old and of the new one.
type proposal struct {
	unit          api.Unit
	before, after int
}

// accepts reports whether a draw among the weight of the old unit leads to the new one.
func (p proposal) accepts(draw int) bool {
	return draw < p.after
}

// proposalAt returns what a turn proposes for a link.
func proposalAt(f api.Field, w [5]int, link, turn int) (proposal, api.Errno) {
	table, e := tableOf(f, w, link)
	if e != api.OK {
		return proposal{}, e
	}
	unit, e := quat.Mul(table[turn].unit, f.Links[link])
	if e != api.OK {
		return proposal{}, e
	}
	old, _, e := quat.Number(f.Links[link])
	if e != api.OK {
		return proposal{}, e
	}
	number, _, e := quat.Number(unit)
	if e != api.OK {
		return proposal{}, e
	}
	before, after, e := pair(table, old, number)
	return proposal{unit, before, after}, e
}

// Metropolis: see P5.4.
func Metropolis(f api.Field, w [5]int, link, turn, draw int) (api.Field, bool, api.Errno) {
	if e := checkLink(f, w, link); e != api.OK {
		return api.Field{}, false, e
	}
	if !isValue(turn) {
		return api.Field{}, false, api.ErrArg
	}
	p, e := proposalAt(f, w, link, turn)
	if e != api.OK {
		return api.Field{}, false, e
	}
	if draw < 0 || draw >= p.before {
		return api.Field{}, false, api.ErrArg
	}
	to := copied(f)
	if !p.accepts(draw) {
		return to, false, api.OK
	}
	to.Links[link] = p.unit
	return to, true, api.OK
}
