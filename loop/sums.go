package loop

import (
	"slices"

	"plaquette/api"
	"plaquette/torus"
)

// ValidateTerms: see P3.2.
func ValidateTerms(l []api.Term) api.Errno {
	if len(l) > api.MaxTerms {
		return api.ErrLarge
	}
	for _, term := range l {
		if !isCoef(term.Coef) {
			return api.ErrLarge
		}
		if _, e := torus.Reduce(term.Path); e != api.OK {
			return e
		}
	}
	return api.OK
}

func isCoef(n int) bool {
	return -api.MaxCoef <= n && n <= api.MaxCoef
}

// Plain: see P3.2.
func Plain(l []api.Term) ([]api.Term, api.Errno) {
	terms, e := read(l)
	if e != api.OK {
		return nil, e
	}
	return limited(plain(terms))
}

// Same: see P3.2.
func Same(a, b []api.Term) (bool, api.Errno) {
	p, q, e := readBoth(a, b)
	if e != api.OK {
		return false, e
	}
	return slices.EqualFunc(plain(p), plain(q), areEqual), api.OK
}

func areEqual(a, b api.Term) bool {
	return a.Coef == b.Coef && slices.Equal(a.Path, b.Path)
}

// Add: see P3.3.
func Add(a, b []api.Term) ([]api.Term, api.Errno) {
	p, q, e := readBoth(a, b)
	if e != api.OK {
		return nil, e
	}
	return limited(plain(slices.Concat(p, q)))
}

// Scale: see P3.3.
func Scale(l []api.Term, k int) ([]api.Term, api.Errno) {
	terms, e := read(l)
	if e != api.OK {
		return nil, e
	}
	if !isCoef(k) {
		return nil, api.ErrArg
	}
	for i := range terms {
		terms[i].coef *= k
	}
	return limited(plain(terms))
}

// Times: see P3.3.
func Times(a, b []api.Term) ([]api.Term, api.Errno) {
	l, m, e := readBoth(a, b)
	if e != api.OK {
		return nil, e
	}
	products := make([]term, 0, 2*len(l)*len(m))
	for _, p := range l {
		for _, q := range m {
			coef := p.coef * q.coef
			products = append(products, term{coef, p.then(q.walk)}, term{coef, p.then(q.turned())})
		}
	}
	return limited(plain(products))
}

// Square: see P3.3.
func Square(path []int) ([]api.Term, api.Errno) {
	l := []api.Term{{Coef: 1, Path: path}}
	return Times(l, l)
}
