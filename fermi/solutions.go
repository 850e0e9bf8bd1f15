package fermi

import "plaquette/api"

// The solver counts with fine parts of 1, so that its own rounding makes no difference in the end.
const (
	fineBits = 16
	fine     = 1 << fineBits
)

// stop is what a solver panics with: the solution that it has found.
type stop struct{ solution []api.Spin }

// Solve: see P7.4. The solution is the exact one, with each entry off by hardly more than 1/2.
func Solve(f api.Field, mass int, b []api.Spin) (v []api.Spin, e api.Errno) {
	h, e := start(f, mass, b)
	if e != api.OK {
		return nil, e
	}
	if !isWithin(b, api.MaxSource) {
		return nil, api.ErrArg
	}
	defer func() {
		if s, is := recover().(stop); is {
			v = s.solution
		}
	}()
	h.solve(mass, multiple(fine, b))
	return nil, api.OK
}

// solve goes from 0 toward the solution, and stops with panic where nothing is left to correct.
//
// It does stop: the hopping makes no vector more than 12 times as long (an arm makes it twice as long, and a site has 6), so the operator multiplies the sum of the squares by at most 16*mass*mass + 144. That is less than twice the divisor. So a correction that is not 0, and whose entries are rounded toward 0, makes the sum of the squares of what is left smaller.
//
// And it stops near: then the dagger of what is left has entries below the divisor. Dagger and operator together make a vector at least 16*mass*mass times as long, so the solution is off by less than 6 fine parts for each entry, in the mean of their squares.
func (h hopping) solve(mass int, b []api.Spin) {
	v := make([]api.Spin, len(b))
	for {
		left := minus(b, h.apply(mass, v))
		correction := quotient(h.dagger(mass, left), 16*mass*mass+72)
		if isWithin(correction, 0) {
			panic(stop{rounded(v)})
		}
		add(v, 1, correction)
	}
}

// quotient returns a vector divided by a number, with each entry rounded toward 0.
func quotient(v []api.Spin, n int) []api.Spin {
	w := make([]api.Spin, len(v))
	for site, q := range v {
		for i, entry := range q {
			w[site][i] = entry / n
		}
	}
	return w
}

// rounded returns a vector of fine parts, with each entry rounded to the nearest integer.
func rounded(v []api.Spin) []api.Spin {
	w := make([]api.Spin, len(v))
	for site, q := range v {
		for i, entry := range q {
			w[site][i] = (entry + fine/2) >> fineBits
		}
	}
	return w
}
