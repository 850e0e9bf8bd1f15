package loop

import (
	"slices"

	"plaquette/api"
)

// term is a term on the way to a plain form: neither its coefficient nor its path has a limit yet.
type term struct {
	coef int
	walk
}

// read returns the terms of a sum of loops that is valid.
func read(l []api.Term) ([]term, api.Errno) {
	if e := ValidateTerms(l); e != api.OK {
		return nil, e
	}
	terms := make([]term, 0, len(l))
	for _, t := range l {
		w, e := walkOf(t.Path)
		if e != api.OK {
			return nil, e
		}
		terms = append(terms, term{t.Coef, w})
	}
	return terms, api.OK
}

// readBoth reads two sums of loops. The errors of the first one come first.
func readBoth(a, b []api.Term) (p, q []term, e api.Errno) {
	if p, e = read(a); e != api.OK {
		return nil, nil, e
	}
	if q, e = read(b); e != api.OK {
		return nil, nil, e
	}
	return p, q, api.OK
}

// key is a path as the key of a map: slices cannot be keys. It has room for a product of two paths, and behind the end of a shorter one zeros, which are no steps.
type key [2 * api.MaxPath]int

// plain returns the plain form, of any size.
func plain(l []term) []api.Term {
	sums := map[key]api.Term{}
	for _, t := range l {
		path := t.plain()
		var k key
		copy(k[:], path)
		sums[k] = api.Term{Coef: sums[k].Coef + t.coef, Path: path}
	}
	terms := make([]api.Term, 0, len(sums))
	for _, sum := range sums {
		if sum.Coef != 0 {
			terms = append(terms, sum)
		}
	}
	slices.SortFunc(terms, func(a, b api.Term) int { return slices.Compare(a.Path, b.Path) })
	return terms
}

// limited refuses a plain form that is beyond the limits of a sum of loops.
func limited(l []api.Term) ([]api.Term, api.Errno) {
	if ValidateTerms(l) != api.OK {
		return nil, api.ErrLarge
	}
	return l, api.OK
}
