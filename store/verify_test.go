package store_test

import (
	"slices"
	"strings"
	"testing"

	"plaquette/api"
	"plaquette/store"
)

// broken is a text with the error that the document requires of functions with an archive.
type broken struct {
	text string
	want api.Errno
}

// brokenTexts returns texts that are no archives on a torus with one site. None of the entries that are read has the step 9.
func brokenTexts() []broken {
	text := archive(point, colds(3))
	l := []broken{
		{"", api.ErrSyntax}, {"x", api.ErrSyntax}, {"torus 1 1 1", api.ErrSyntax}, {"torus 5 1 1\n", api.ErrSyntax}, {"x" + text, api.ErrSyntax}, {strings.Replace(text, " ", "  ", 1), api.ErrSyntax},
		{text + "x", api.ErrBroken}, {text + "\n", api.ErrBroken}, {text + text, api.ErrBroken}, {text[:len(text)-1], api.ErrBroken}, {"torus 1 1 1\nx", api.ErrBroken}, {"torus 1 1 1\n\n", api.ErrBroken},
		{strings.Replace(text, "aaa", "aab", 1), api.ErrBroken}, {strings.Replace(text, "aaa\n", "aaa\r\n", 1), api.ErrBroken}, {strings.Replace(text, "1 1 1", "2 1 1", 1), api.ErrBroken}, {archive(point, colds(61)), api.ErrBroken},
		{archive(point, []api.Entry{cold(0), cold(2), cold(1)}), api.ErrBroken},
	}
	lines := linesOf(text)
	return append(l, broken{lines[0] + lines[2] + lines[3], api.ErrBroken}, broken{lines[0] + lines[1] + lines[3], api.ErrBroken})
}

// P8.3, P8.4, P8.5, R3: functions with an archive.
func TestBrokenTexts(t *testing.T) {
	good := archive(point, colds(3))
	for _, c := range brokenTexts() {
		for _, x := range []api.Entry{cold(9), cold(0), {}} {
			s, e := store.Append(c.text, x)
			refused(t, "Append", e, c.want, s)
		}
		for _, n := range []int{0, 1, -1, 9, 100} {
			m, e := store.Find(c.text, n)
			refused(t, "Find", e, c.want, m)
			s, e := store.Since(c.text, n)
			refused(t, "Since", e, c.want, s)
		}
		for _, other := range []string{good, "torus 2 1 1\n", c.text} {
			s, n, e := store.Merge(c.text, other)
			refused(t, "Merge", e, c.want, s, n)
			s, n, e = store.Merge(other, c.text)
			refused(t, "Merge", e, c.want, s, n)
		}
		for _, other := range brokenTexts() {
			s, n, e := store.Merge(c.text, other.text)
			refused(t, "Merge", e, c.want, s, n)
		}
		if t.Failed() {
			t.Fatalf("the text %q", c.text)
		}
	}
}

// P8.3: line by line an archive becomes what Write returns.
func TestAppend(t *testing.T) {
	d := dice{31}
	for _, sizes := range validSizes() {
		l := d.entries(t, sizes, 6)
		text := headOf(sizes) + "\n"
		for n, x := range l {
			longer, e := store.Append(text, x)
			if longer != archive(sizes, l[:n+1]) || e != api.OK {
				t.Errorf("Append to %q: %q %v", text, longer, e)
			}
			text = longer
		}
	}
	text := "torus 1 1 1\n"
	for _, x := range colds(60) {
		text, _ = store.Append(text, x)
	}
	if text != archive(point, colds(60)) {
		t.Error("Append up to the limit", text)
	}
	last := api.Entry{Step: api.MaxCount, Seed: api.Prime - 1, Counts: [5]int{3, 0, 0, 0, 0}, Links: "ceg"}
	if s, e := store.Append("torus 1 1 1\n", last); s != archive(point, []api.Entry{last}) || e != api.OK {
		t.Error("Append", s, e)
	}
}

// P8.3: the errors of Validate, ErrState and ErrLarge, in this order.
func TestAppendErrors(t *testing.T) {
	full := archive(point, colds(60))
	for _, text := range []string{"torus 1 1 1\n", archive(point, colds(3)), archive(point, []api.Entry{cold(api.MaxCount)}), full} {
		for _, c := range wrongEntries() {
			s, e := store.Append(text, c.entry)
			refused(t, "Append", e, c.want, s)
		}
	}
	for _, step := range []int{0, 1, 58, 59} {
		s, e := store.Append(full, cold(step))
		refused(t, "Append", e, api.ErrState, s)
	}
	for _, step := range []int{60, 61, api.MaxCount} {
		s, e := store.Append(full, cold(step))
		refused(t, "Append", e, api.ErrLarge, s)
	}
	text := archive(point, []api.Entry{cold(3), cold(7)})
	for _, step := range []int{0, 3, 4, 6, 7} {
		s, e := store.Append(text, cold(step))
		refused(t, "Append", e, api.ErrState, s)
	}
	if s, e := store.Append(text, cold(8)); s != archive(point, []api.Entry{cold(3), cold(7), cold(8)}) || e != api.OK {
		t.Error("Append", s, e)
	}
	// An entry of a torus with other sizes has other links.
	s, e := store.Append("torus 2 1 1\n", cold(0))
	refused(t, "Append", e, api.ErrSyntax, s)
}

// wrongCounts returns an entry with counts that are not right.
func wrongCounts(step int) api.Entry {
	x := cold(step)
	x.Counts = [5]int{1, 0, 0, 0, 2}
	return x
}

// P8.3: whether the Counts of the entries that are there are right is not asked.
func TestAppendToWrongCounts(t *testing.T) {
	l := []api.Entry{cold(0), wrongCounts(1), wrongCounts(2)}
	if s, e := store.Append(archive(point, l), cold(5)); s != archive(point, append(l, cold(5))) || e != api.OK {
		t.Error("Append", s, e)
	}
	s, e := store.Append(archive(point, l), wrongCounts(5))
	refused(t, "Append", e, api.ErrProof, s)
	s, e = store.Append(archive(point, l), cold(2))
	refused(t, "Append", e, api.ErrState, s)
}

// verifies checks a result of Verify.
func verifies(t *testing.T, text string, n int, want api.Errno) {
	t.Helper()
	if m, e := store.Verify(text); m != n || e != want {
		t.Errorf("Verify of %q: %d %v, want %d %v", text, m, e, n, want)
	}
}

// P8.3, S7: Verify accepts what Write returns.
func TestVerify(t *testing.T) {
	d := dice{32}
	for _, sizes := range validSizes() {
		for _, n := range []int{0, 1, 5} {
			text, e := store.Write(sizes, d.entries(t, sizes, n))
			if e != api.OK {
				t.Fatal("Write", e)
			}
			verifies(t, text, n, api.OK)
			for _, rest := range []string{"x", "\n", text, "0 1 1"} {
				verifies(t, text+rest, n, api.ErrBroken)
			}
			if n > 0 {
				verifies(t, text[:len(text)-1], n-1, api.ErrBroken)
			}
		}
		verifies(t, archive(sizes, d.entries(t, sizes, 60)), 60, api.OK)
	}
	verifies(t, archive(point, colds(61)), 60, api.ErrBroken)
	for _, text := range []string{"", "x", "torus 1 1 1", "torus 1 1 1 \n", "torus 0 1 1\n"} {
		verifies(t, text, 0, api.ErrSyntax)
	}
}

// P8.3, S7: the first entry whose Counts are not right is found, wherever it is, also if there is a rest.
func TestVerifyOfWrongCounts(t *testing.T) {
	d := dice{33}
	for _, sizes := range [][3]int{point, {2, 1, 2}, {4, 2, 2}} {
		l := d.entries(t, sizes, 6)
		for m := range l {
			for n := range m + 1 {
				other := slices.Clone(l)
				for _, at := range []int{m, n} {
					other[at].Counts[0], other[at].Counts[4] = (l[at].Counts[0]+1)%49, l[at].Counts[3]
				}
				text := archive(sizes, other)
				verifies(t, text, n, api.ErrProof)
				verifies(t, text+"x", n, api.ErrProof)
				reads(t, text, sizes, other, "")
				// The entries before it are right.
				verifies(t, archive(sizes, other[:n]), n, api.OK)
				// A wrong entry that is not read does not count.
				verifies(t, strings.Join(linesOf(text)[:n+1], "")+"x"+strings.Join(linesOf(text)[n+1:], ""), n, api.ErrBroken)
			}
		}
	}
	text := archive(point, append(colds(60), wrongCounts(60)))
	verifies(t, text, 60, api.ErrBroken)
}

// P8.3, S7: whatever letter is altered, with all sums made right again, the counts tell it or the field has the same ones.
func TestVerifyOfAlteredLinks(t *testing.T) {
	d := dice{34}
	sizes := [3]int{2, 1, 1}
	l := d.entries(t, sizes, 3)
	for n, x := range l {
		for at := range x.Links {
			for _, letter := range letters {
				other := slices.Clone(l)
				other[n].Links = x.Links[:at] + string(letter) + x.Links[at+1:]
				if entryOf(t, sizes, numbersOf(other[n]), x.Step, x.Seed).Counts == x.Counts {
					verifies(t, archive(sizes, other), 3, api.OK)
				} else {
					verifies(t, archive(sizes, other), n, api.ErrProof)
				}
			}
		}
	}
}
