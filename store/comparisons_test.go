package store_test

import (
	"slices"
	"testing"

	"plaquette/api"
	"plaquette/chance"
	"plaquette/store"
)

// P8.4
func TestFind(t *testing.T) {
	d := dice{41}
	for _, sizes := range [][3]int{point, {2, 2, 1}, {4, 2, 2}} {
		for _, n := range []int{0, 1, 2, 9, 60} {
			l := d.entries(t, sizes, n)
			text := archive(sizes, l)
			for number, x := range l {
				if m, e := store.Find(text, x.Step); m != number || e != api.OK {
					t.Error("Find", text, x.Step, m, e)
				}
				for _, step := range []int{x.Step - 1, x.Step + 1} {
					m, e := store.Find(text, step)
					want := slices.IndexFunc(l, func(y api.Entry) bool { return y.Step == step })
					if want < 0 {
						refused(t, "Find", e, api.ErrNone, m)
					} else if m != want || e != api.OK {
						t.Error("Find", text, step, m, e)
					}
				}
			}
			for _, step := range []int{-1, least, greatest, api.MaxCount, api.MaxCount + 1} {
				m, e := store.Find(text, step)
				refused(t, "Find", e, api.ErrNone, m)
			}
		}
	}
	if m, e := store.Find(archive(point, []api.Entry{cold(0), wrongCounts(1), cold(2)}), 2); m != 2 || e != api.OK {
		t.Error("Find behind wrong counts", m, e)
	}
}

// differences counts the links in which two fields differ.
func differences(a, b []int) (count, first int) {
	for at := len(a) - 1; at >= 0; at-- {
		if a[at] != b[at] {
			count, first = count+1, at
		}
	}
	return count, first
}

// P8.4
func TestDiffer(t *testing.T) {
	d := dice{42}
	for _, sizes := range validSizes() {
		for range 20 {
			a := d.numbers(sizes)
			b := slices.Clone(a)
			for range d.below(4) {
				b[d.below(len(b))] = d.below(24)
			}
			if d.below(4) == 0 {
				b = d.numbers(sizes)
			}
			count, first := differences(a, b)
			// Steps and seeds are not compared.
			x, y := entryOf(t, sizes, a, d.below(5), d.seed()), entryOf(t, sizes, b, d.below(5), d.seed())
			if n, at, e := store.Differ(sizes, x, y); n != count || at != first || e != api.OK {
				t.Error("Differ", sizes, a, b, n, at, e)
			}
			if n, at, e := store.Differ(sizes, x, x); n != 0 || at != 0 || e != api.OK {
				t.Error("Differ of equal entries", sizes, a, n, at, e)
			}
		}
	}
	x := cold(1)
	for _, c := range []struct {
		links        string
		count, first int
	}{{"aaa", 0, 0}, {"baa", 1, 0}, {"aba", 1, 1}, {"aab", 1, 2}, {"abb", 2, 1}, {"bab", 2, 0}, {"bbb", 3, 0}} {
		y := x
		y.Links = c.links
		for _, pair := range [][2]api.Entry{{x, y}, {y, x}} {
			if n, at, e := store.Differ(point, pair[0], pair[1]); n != c.count || at != c.first || e != api.OK {
				t.Error("Differ", pair, n, at, e)
			}
		}
	}
}

// swept returns the entry that an entry becomes by sweeps.
func swept(t *testing.T, sizes [3]int, x api.Entry, w [5]int, sweeps int) api.Entry {
	t.Helper()
	numbers, step, seed := numbersOf(x), x.Step, x.Seed
	for range sweeps {
		_, behind, moves, e := chance.Sweep(fieldOf(t, sizes, numbers), w, seed)
		if e != api.OK {
			t.Fatal("Sweep", e)
		}
		for _, move := range moves {
			numbers[move.Link] = move.To
		}
		step, seed = step+1, behind
	}
	return entryOf(t, sizes, numbers, step, seed)
}

// follows checks a result of Follows.
func follows(t *testing.T, sizes [3]int, a, b api.Entry, w [5]int, want bool) {
	t.Helper()
	if is, e := store.Follows(sizes, a, b, w); is != want || e != api.OK {
		t.Error("Follows", sizes, a, b, w, is, e, "want", want)
	}
}

// P8.4
func TestFollows(t *testing.T) {
	d := dice{43}
	for _, sizes := range [][3]int{point, {1, 2, 1}, {2, 2, 2}, {4, 4, 1}} {
		for _, w := range [][5]int{{1, 1, 1, 1, 1}, {1, 2, 3, 4, 5}, {100, 1, 50, 1, 100}} {
			a := entryOf(t, sizes, d.numbers(sizes), d.below(api.MaxCount-20), d.seed())
			b := a
			for sweeps := 1; sweeps <= 20; sweeps++ {
				b = swept(t, sizes, b, w, 1)
				if sweeps == 2 || sweeps%9 == 1 || sweeps == 20 {
					follows(t, sizes, a, b, w, true)
				}
			}
			// It follows by 20 sweeps, and by no other number.
			for _, step := range []int{a.Step + 1, a.Step + 19} {
				other := b
				other.Step = step
				follows(t, sizes, a, other, w, false)
			}
			other := b
			other.Step = a.Step + 21
			is, e := store.Follows(sizes, a, other, w)
			refused(t, "Follows", e, api.ErrState, is)
		}
	}
}

// P8.4: other steps, seeds, links or weights.
func TestFollowsNot(t *testing.T) {
	d := dice{44}
	sizes, w := [3]int{2, 1, 2}, [5]int{3, 1, 4, 1, 5}
	a := entryOf(t, sizes, d.numbers(sizes), 0, d.seed())
	b := swept(t, sizes, a, w, 3)
	follows(t, sizes, a, b, w, true)
	follows(t, sizes, a, b, [5]int{90, 1, 1, 9, 1}, false)
	for _, step := range []int{1, 2, 4, 20} {
		other := b
		other.Step = step
		follows(t, sizes, a, other, w, false)
	}
	for _, seed := range []int{a.Seed, b.Seed%(api.Prime-1) + 1, 1, api.Prime - 1} {
		other := b
		other.Seed = seed
		follows(t, sizes, a, other, w, false)
		other = a
		other.Seed = seed
		follows(t, sizes, other, b, w, seed == a.Seed)
	}
	for at := range b.Links {
		numbers := numbersOf(b)
		numbers[at] = (numbers[at] + 1 + d.below(23)) % 24
		follows(t, sizes, a, entryOf(t, sizes, numbers, b.Step, b.Seed), w, false)
	}
}

// P8.4: a link with the other sign does not change the counts on a torus with one site, but it is another link.
func TestFollowsNotWithEqualCounts(t *testing.T) {
	d := dice{45}
	w := [5]int{1, 2, 3, 4, 5}
	for range 20 {
		a := entryOf(t, point, d.numbers(point), 3, d.seed())
		b := swept(t, point, a, w, 2)
		follows(t, point, a, b, w, true)
		for at := range 3 {
			numbers := numbersOf(b)
			if numbers[at] < 8 {
				numbers[at] ^= 1
			} else {
				numbers[at] = 31 - numbers[at]
			}
			other := entryOf(t, point, numbers, b.Step, b.Seed)
			if other.Counts != b.Counts || other.Links == b.Links {
				t.Error("only the links should be others", b, other)
			}
			follows(t, point, a, other, w, false)
		}
	}
}

// P8.4: the steps themselves make no difference, up to the last one.
func TestFollowsAtTheEnd(t *testing.T) {
	a := cold(api.MaxCount - 20)
	w := [5]int{1, 2, 3, 4, 5}
	b := swept(t, point, a, w, 20)
	follows(t, point, a, b, w, true)
	a.Step, b.Step = 0, 20
	follows(t, point, a, b, w, true)
}

// P8.4: the errors of the first entry, of the second one, of the weights, and then ErrState.
func TestPairErrors(t *testing.T) {
	good, bad := [5]int{1, 1, 1, 1, 1}, [5]int{1, 1, 0, 1, 1}
	pair := func(want api.Errno, sizes [3]int, a, b api.Entry, w [5]int) {
		t.Helper()
		n, at, e := store.Differ(sizes, a, b)
		refused(t, "Differ", e, want, n, at)
		is, e := store.Follows(sizes, a, b, w)
		refused(t, "Follows", e, want, is)
	}
	for _, sizes := range badSizes() {
		pair(api.ErrArg, sizes, cold(0), cold(1), good)
		pair(api.ErrArg, sizes, api.Entry{Step: 1, Seed: 1}, wrongCounts(1), bad)
	}
	for _, c := range wrongEntries() {
		for _, w := range [][5]int{good, bad} {
			pair(c.want, point, c.entry, cold(4), w)
			pair(c.want, point, cold(4), c.entry, w)
			for _, other := range []api.Entry{{}, wrongCounts(1), {Step: 1, Seed: 1, Links: "a"}} {
				pair(c.want, point, c.entry, other, w)
			}
		}
	}
	for _, steps := range [][2]int{{1, 1}, {1, 2}, {2, 1}, {0, 21}, {0, api.MaxCount}, {api.MaxCount, 0}} {
		a, b := cold(steps[0]), cold(steps[1])
		for at := range 5 {
			for _, weight := range outside(1, 100) {
				w := good
				w[at] = weight
				is, e := store.Follows(point, a, b, w)
				refused(t, "Follows", e, api.ErrArg, is)
			}
		}
		if steps == [2]int{1, 2} {
			continue
		}
		is, e := store.Follows(point, a, b, good)
		refused(t, "Follows", e, api.ErrState, is)
	}
}
