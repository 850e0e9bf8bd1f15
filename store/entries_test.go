package store_test

import (
	"slices"
	"testing"

	"plaquette/api"
	"plaquette/store"
)

// P8.1
func TestOf(t *testing.T) {
	d := dice{11}
	for _, sizes := range validSizes() {
		for _, seed := range []int{1, 2, api.Prime - 1, d.seed()} {
			for _, step := range []int{0, 1, 999999, api.MaxCount, d.below(api.MaxCount)} {
				numbers := d.numbers(sizes)
				f := fieldOf(t, sizes, numbers)
				before := slices.Clone(f.Links)
				x, e := store.Of(f, step, seed)
				if want := entryOf(t, sizes, numbers, step, seed); x != want || e != api.OK {
					t.Error("Of", sizes, numbers, step, seed, x, e)
				}
				if !slices.Equal(before, f.Links) {
					t.Error("a field was changed", before, f)
				}
			}
		}
	}
}

// P8.1: each letter stands for its number.
func TestLetters(t *testing.T) {
	numbers := make([]int, 24)
	for at := range numbers {
		numbers[at] = at
	}
	f := fieldOf(t, [3]int{2, 2, 2}, numbers)
	x, e := store.Of(f, 5, 6)
	if x.Links != "abcdefghijklmnopqrstuvwx" || e != api.OK {
		t.Error("Of", x, e)
	}
	g, e := store.FieldOf(f.Sizes, x)
	if g.Sizes != f.Sizes || !slices.Equal(g.Links, f.Links) || e != api.OK {
		t.Error("FieldOf", g, e)
	}
}

// P8.1: Counts begin with the trace -2 and end with 2.
func TestOfExamples(t *testing.T) {
	for _, c := range []struct {
		numbers []int
		want    api.Entry
	}{
		{[]int{0, 0, 0}, api.Entry{Step: 7, Seed: 8, Counts: [5]int{0, 0, 0, 0, 3}, Links: "aaa"}},
		{[]int{2, 4, 6}, api.Entry{Step: 7, Seed: 8, Counts: [5]int{3, 0, 0, 0, 0}, Links: "ceg"}},
		{[]int{2, 0, 4}, api.Entry{Step: 7, Seed: 8, Counts: [5]int{1, 0, 0, 0, 2}, Links: "cae"}},
		{[]int{8, 2, 1}, api.Entry{Step: 7, Seed: 8, Counts: [5]int{0, 0, 1, 0, 2}, Links: "icb"}},
		{[]int{23, 22, 0}, api.Entry{Step: 7, Seed: 8, Counts: [5]int{0, 0, 0, 0, 3}, Links: "xwa"}},
	} {
		if x, e := store.Of(fieldOf(t, point, c.numbers), 7, 8); x != c.want || e != api.OK {
			t.Error("Of", c.numbers, x, e, "want", c.want)
		}
	}
}

// P8.1: the errors of the field, ErrSmall, and then those of step and seed.
func TestOfErrors(t *testing.T) {
	fields := map[api.Errno][]api.Field{
		api.ErrArg:   {{}, {Sizes: point}, {Sizes: point, Links: []api.Unit{one, one, notValid}}, {Sizes: point, Links: []api.Unit{one, one, one, one}}, {Sizes: point, Links: []api.Unit{rough, notValid, beyond}}},
		api.ErrLarge: {{Sizes: point, Links: []api.Unit{one, one, beyond}}, {Sizes: point, Links: []api.Unit{rough, beyond, notValid}}},
		api.ErrSmall: {{Sizes: point, Links: []api.Unit{one, one, rough}}, {Sizes: point, Links: []api.Unit{rough, one, one}}},
	}
	for _, sizes := range badSizes() {
		fields[api.ErrArg] = append(fields[api.ErrArg], api.Field{Sizes: sizes, Links: []api.Unit{beyond, rough, one}})
	}
	for want, l := range fields {
		for _, f := range l {
			for _, c := range [][2]int{{0, 1}, {-1, 1}, {0, 0}, {api.MaxCount + 1, api.Prime}} {
				x, e := store.Of(f, c[0], c[1])
				refused(t, "Of", e, want, x)
			}
		}
	}
	f := fieldOf(t, point, []int{2, 4, 6})
	for _, n := range outside(0, api.MaxCount) {
		x, e := store.Of(f, n, 1)
		refused(t, "Of", e, api.ErrArg, x)
	}
	for _, n := range outside(1, api.Prime-1) {
		x, e := store.Of(f, 0, n)
		refused(t, "Of", e, api.ErrArg, x)
	}
}

// P8.1: what Of returns is valid, and FieldOf leads back.
func TestFieldOf(t *testing.T) {
	d := dice{12}
	for _, sizes := range validSizes() {
		for range 10 {
			numbers := d.numbers(sizes)
			f := fieldOf(t, sizes, numbers)
			x := entryOf(t, sizes, numbers, d.below(api.MaxCount+1), d.seed())
			if e := store.Validate(sizes, x); e != api.OK {
				t.Error("Validate", sizes, x, e)
			}
			g, e := store.FieldOf(sizes, x)
			if g.Sizes != sizes || !slices.Equal(g.Links, f.Links) || e != api.OK {
				t.Error("FieldOf", sizes, x, g, e)
			}
			clear(g.Links)
			if again, _ := store.FieldOf(sizes, x); !slices.Equal(again.Links, f.Links) {
				t.Error("FieldOf shares its memory with an earlier one")
			}
		}
	}
}

// wrong is an entry with the error that the document requires.
type wrong struct {
	entry api.Entry
	want  api.Errno
}

// wrongEntries returns entries that are not valid on a torus with one site: each kind of error, and those of several kinds.
func wrongEntries() []wrong {
	var l []wrong
	add := func(want api.Errno, change func(x *api.Entry)) {
		x := cold(5)
		change(&x)
		l = append(l, wrong{x, want})
	}
	for _, n := range outside(0, api.MaxCount) {
		add(api.ErrArg, func(x *api.Entry) { x.Step = n })
		add(api.ErrArg, func(x *api.Entry) { x.Step, x.Links = n, "aay" })
	}
	for _, n := range outside(1, api.Prime-1) {
		add(api.ErrArg, func(x *api.Entry) { x.Seed = n })
		add(api.ErrArg, func(x *api.Entry) { x.Seed, x.Links = n, "" })
	}
	for at := range 5 {
		for _, n := range outside(0, 48) {
			add(api.ErrArg, func(x *api.Entry) { x.Counts[at] = n })
			add(api.ErrArg, func(x *api.Entry) { x.Counts[at], x.Links = n, "aa\xff" })
		}
		for _, n := range []int{1, 2, 4, 47, 48} {
			add(api.ErrProof, func(x *api.Entry) { x.Counts[at] += n % (49 - x.Counts[at]) })
			add(api.ErrSyntax, func(x *api.Entry) { x.Counts[at], x.Links = n, "aaz" })
		}
	}
	for _, links := range []string{
		"", "a", "aa", "aaaa", "aaaaaa", "aay", "yaa", "aya", "aaA", "aaX", "aa`", "aa ", "a a", "aaa ", " aaa", "aa\n", "aaa\n", "aa0", "aa\x00", "aa\xff", "\xffaa",
		"aé", "éa", "aaé", "é", "ééé", "日", "日本語", "aa{", "aа", "aaа", "a\xd0", "ａ", "ａaa", "\u0161aa",
	} {
		add(api.ErrSyntax, func(x *api.Entry) { x.Links = links })
		add(api.ErrSyntax, func(x *api.Entry) { x.Links, x.Counts = links, [5]int{48, 0, 0, 0, 0} })
	}
	add(api.ErrProof, func(x *api.Entry) { x.Links = "ceg" })
	add(api.ErrProof, func(x *api.Entry) { x.Counts = [5]int{} })
	add(api.ErrProof, func(x *api.Entry) { x.Counts = [5]int{3, 0, 0, 0, 0} })
	add(api.ErrProof, func(x *api.Entry) { x.Counts = [5]int{0, 0, 0, 1, 2} })
	return append(l, wrong{api.Entry{}, api.ErrArg})
}

// P8.1
func TestValidateErrors(t *testing.T) {
	for _, c := range wrongEntries() {
		refused(t, "Validate", store.Validate(point, c.entry), c.want)
		f, e := store.FieldOf(point, c.entry)
		refused(t, "FieldOf", e, c.want, f)
		if t.Failed() {
			t.Fatalf("the entry %q", restOf(c.entry))
		}
	}
}

// P8.1: sizes that are none come first; those of another torus are those of other links.
func TestValidateSizes(t *testing.T) {
	for _, sizes := range badSizes() {
		for _, x := range []api.Entry{cold(0), {}, {Step: 1, Seed: 1}, {Step: 1, Seed: 1, Links: "aay"}} {
			refused(t, "Validate", store.Validate(sizes, x), api.ErrArg)
			f, e := store.FieldOf(sizes, x)
			refused(t, "FieldOf", e, api.ErrArg, f)
		}
	}
	d := dice{13}
	for _, sizes := range validSizes() {
		x := entryOf(t, sizes, d.numbers(sizes), 1, 1)
		for _, other := range validSizes() {
			e := store.Validate(other, x)
			if fits := other[0]*other[1]*other[2] == sizes[0]*sizes[1]*sizes[2]; fits == (e == api.ErrSyntax) || fits && e != api.OK && e != api.ErrProof {
				t.Error("Validate", other, x, e)
			}
		}
	}
}

// P8.1: counts that are not those of the field, but have the same sum, or are in another order.
func TestValidateCounts(t *testing.T) {
	d := dice{14}
	for _, sizes := range validSizes() {
		x := entryOf(t, sizes, d.numbers(sizes), 1, 1)
		for from := range 5 {
			for to := range 5 {
				y := x
				y.Counts[from]--
				y.Counts[to]++
				want := api.ErrProof
				if from == to {
					want = api.OK
				} else if y.Counts[from] < 0 {
					want = api.ErrArg
				}
				refused(t, "Validate", store.Validate(sizes, y), want)
			}
		}
		y := x
		slices.Reverse(y.Counts[:])
		if e := store.Validate(sizes, y); (e == api.OK) != (x.Counts == y.Counts) {
			t.Error("Validate", y, e)
		}
	}
}
