package store_test

import (
	"slices"
	"strings"
	"testing"

	"plaquette/api"
	"plaquette/store"
)

// P8.5
func TestSince(t *testing.T) {
	d := dice{51}
	for _, sizes := range validSizes() {
		for _, n := range []int{0, 1, 4} {
			text := archive(sizes, d.entries(t, sizes, n))
			lines := linesOf(text)
			for from := range n + 1 {
				if s, e := store.Since(text, from); s != strings.Join(lines[from+1:], "") || e != api.OK {
					t.Errorf("Since of %q from %d: %q %v", text, from, s, e)
				}
			}
			for _, from := range []int{-1, n + 1, n + 2, 60, 61, least, greatest} {
				s, e := store.Since(text, from)
				refused(t, "Since", e, api.ErrArg, s)
			}
		}
	}
	text := archive(point, colds(60))
	for from, want := range map[int]int{0: 60, 1: 59, 59: 1, 60: 0} {
		if s, e := store.Since(text, from); strings.Count(s, "\n") != want || !strings.HasSuffix(text, s) || e != api.OK {
			t.Error("Since", from, s, e)
		}
	}
	s, e := store.Since(text, 61)
	refused(t, "Since", e, api.ErrArg, s)
}

// merges checks a result of Merge.
func merges(t *testing.T, a, b, want string, n int, e api.Errno) {
	t.Helper()
	if s, m, f := store.Merge(a, b); s != want || m != n || f != e {
		t.Errorf("Merge of %q and %q: %q %d %v, want %q %d %v", a, b, s, m, f, want, n, e)
	}
}

// P8.5, S8: an archive and any beginning of it.
func TestMergeOfBeginnings(t *testing.T) {
	d := dice{52}
	for _, sizes := range validSizes() {
		l := d.entries(t, sizes, 5)
		for m := range len(l) + 1 {
			for n := range len(l) + 1 {
				a, b := archive(sizes, l[:m]), archive(sizes, l[:n])
				merges(t, a, b, archive(sizes, l[:max(m, n)]), max(m, n), api.OK)
			}
		}
	}
	merges(t, archive(point, colds(60)), archive(point, colds(59)), archive(point, colds(60)), 60, api.OK)
	merges(t, archive(point, nil), archive(point, colds(60)), archive(point, colds(60)), 60, api.OK)
}

// changes returns an entry with a change of each kind, so that a line with it can still be read.
func changes(x api.Entry) []api.Entry {
	l := slices.Repeat([]api.Entry{x}, 9)
	l[0].Step++
	l[1].Seed = x.Seed%(api.Prime-1) + 1
	for at := range 5 {
		l[2+at].Counts[at] = (x.Counts[at] + 1) % 49
	}
	for at, last := range []int{0, len(x.Links) - 1} {
		letter := (x.Links[last]-'a'+1)%24 + 'a'
		l[7+at].Links = x.Links[:last] + string(rune(letter)) + x.Links[last+1:]
	}
	return l
}

// P8.5: archives that differ, by whatever and wherever.
func TestMergeOfOthers(t *testing.T) {
	d := dice{53}
	for _, sizes := range [][3]int{point, {2, 1, 2}, {4, 2, 2}} {
		l := d.entries(t, sizes, 4)
		for at := range l {
			l[at].Step = 3 * at
		}
		text := archive(sizes, l)
		for at, x := range l {
			for _, y := range changes(x) {
				other := slices.Clone(l)
				other[at] = y
				for n := range len(l) + 1 {
					b := archive(sizes, other[:n])
					if n <= at {
						merges(t, text, b, text, 4, api.OK)
						merges(t, b, text, text, 4, api.OK)
					} else {
						merges(t, text, b, "", at, api.ErrProof)
						merges(t, b, text, "", at, api.ErrProof)
					}
				}
				// Of several entries that differ the first one decides.
				if at > 0 {
					other[0].Seed = l[0].Seed%(api.Prime-1) + 1
					merges(t, text, archive(sizes, other), "", 0, api.ErrProof)
				}
			}
		}
	}
}

// P8.5: sizes that differ, also with as many sites, and only after the errors of both.
func TestMergeOfOtherSizes(t *testing.T) {
	d := dice{54}
	for _, a := range validSizes() {
		for _, b := range validSizes() {
			if a != b {
				merges(t, headOf(a)+"\n", headOf(b)+"\n", "", 0, api.ErrFit)
			}
		}
	}
	l := d.entries(t, [3]int{2, 1, 1}, 2)
	merges(t, archive([3]int{2, 1, 1}, l), archive([3]int{1, 2, 1}, l), "", 0, api.ErrFit)
	merges(t, archive([3]int{2, 1, 1}, l), archive(point, colds(2)), "", 0, api.ErrFit)
	merges(t, "x", "torus 1 1 1\nx", "", 0, api.ErrSyntax)
	merges(t, "torus 1 1 1\nx", "x", "", 0, api.ErrBroken)
	merges(t, "torus 1 1 1\n", "torus 2 1 1\nx", "", 0, api.ErrBroken)
	merges(t, "torus 1 1 1\n", "torus 5 1 1\n", "", 0, api.ErrSyntax)
}

// P8.5: whether counts are right is not asked.
func TestMergeOfWrongCounts(t *testing.T) {
	a, b := archive(point, []api.Entry{cold(0), wrongCounts(1)}), archive(point, []api.Entry{cold(0)})
	merges(t, a, b, a, 2, api.OK)
	merges(t, b, a, a, 2, api.OK)
	if s, e := store.Since(a, 1); s != linesOf(a)[2] || e != api.OK {
		t.Error("Since", s, e)
	}
}
