package store

import (
	"slices"

	"plaquette/api"
	"plaquette/chance"
)

// maxSweeps says by how many sweeps an entry may follow another one.
const maxSweeps = 20

// Find: see P8.4.
func Find(text string, step int) (int, api.Errno) {
	r, e := whole(text)
	if e != api.OK {
		return 0, e
	}
	number := slices.IndexFunc(r.entries, func(x api.Entry) bool { return x.Step == step })
	if number < 0 {
		return 0, api.ErrNone
	}
	return number, api.OK
}

// validateBoth returns the first error of two entries.
func validateBoth(sizes [3]int, a, b api.Entry) api.Errno {
	if e := Validate(sizes, a); e != api.OK {
		return e
	}
	return Validate(sizes, b)
}

// Differ: see P8.4.
func Differ(sizes [3]int, a, b api.Entry) (int, int, api.Errno) {
	if e := validateBoth(sizes, a, b); e != api.OK {
		return 0, 0, e
	}
	count, first := 0, 0
	// Each letter of a valid entry is one byte, so both have the same places.
	for link := range a.Links {
		if a.Links[link] == b.Links[link] {
			continue
		}
		if count == 0 {
			first = link
		}
		count++
	}
	return count, first, api.OK
}

// Follows: see P8.4.
func Follows(sizes [3]int, a, b api.Entry, w [5]int) (bool, api.Errno) {
	if e := validateBoth(sizes, a, b); e != api.OK {
		return false, e
	}
	if e := chance.ValidateWeights(w); e != api.OK {
		return false, e
	}
	sweeps := b.Step - a.Step
	if sweeps < 1 || sweeps > maxSweeps {
		return false, api.ErrState
	}
	f, e := FieldOf(sizes, a)
	if e != api.OK {
		return false, e
	}
	seed := a.Seed
	for range sweeps {
		if f, seed, _, e = chance.Sweep(f, w, seed); e != api.OK {
			return false, e
		}
	}
	x, e := Of(f, b.Step, seed)
	if e != api.OK {
		return false, e
	}
	return x == b, api.OK
}

// Merge: see P8.5.
func Merge(a, b string) (string, int, api.Errno) {
	first, e := whole(a)
	if e != api.OK {
		return "", 0, e
	}
	second, e := whole(b)
	if e != api.OK {
		return "", 0, e
	}
	if first.sizes != second.sizes {
		return "", 0, api.ErrFit
	}
	m, n := len(first.entries), len(second.entries)
	for number := range min(m, n) {
		if first.entries[number] != second.entries[number] {
			return "", number, api.ErrProof
		}
	}
	if m >= n {
		return a, m, api.OK
	}
	return b, n, api.OK
}

// Since: see P8.5.
func Since(text string, n int) (string, api.Errno) {
	r, e := whole(text)
	if e != api.OK {
		return "", e
	}
	if n < 0 || n > len(r.entries) {
		return "", api.ErrArg
	}
	return text[r.starts[n]:], api.OK
}
