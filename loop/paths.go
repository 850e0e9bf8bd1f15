package loop

import (
	"cmp"
	"slices"

	"plaquette/api"
	"plaquette/torus"
)

// walk is a reduced path, together with the same path from its end: torus cannot turn round or reduce a path that has become too long, but the parts of it are never too long.
type walk struct {
	there, back []int
}

func walkOf(path []int) (walk, api.Errno) {
	there, e := torus.Reduce(path)
	if e != api.OK {
		return walk{}, e
	}
	back, e := torus.Back(there)
	if e != api.OK {
		return walk{}, e
	}
	return walk{there, back}, api.OK
}

func (w walk) turned() walk {
	return walk{w.back, w.there}
}

func (w walk) then(v walk) walk {
	return walk{joined(w.there, v.there), joined(v.back, w.back)}
}

// joined reduces a path followed by another one. Both are reduced, so opposite steps can only be where they meet.
func joined(p, q []int) []int {
	gone := 0
	for gone < min(len(p), len(q)) && p[len(p)-1-gone] == -q[gone] {
		gone++
	}
	return slices.Concat(p[:len(p)-gone], q[gone:])
}

func (w walk) plain() []int {
	return first(w.there, w.back)
}

// first returns the one of two slices that comes first in ascending order.
func first[E cmp.Ordered](a, b []E) []E {
	if slices.Compare(a, b) <= 0 {
		return a
	}
	return b
}

// PlainPath: see P3.2.
func PlainPath(path []int) ([]int, api.Errno) {
	w, e := walkOf(path)
	if e != api.OK {
		return nil, e
	}
	return w.plain(), api.OK
}
