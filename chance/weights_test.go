package chance_test

import (
	"math/big"
	"slices"
	"testing"

	"plaquette/api"
	"plaquette/chance"
)

// P5.2: both ends of what a weight may be, in each place.
func TestValidateWeights(t *testing.T) {
	for _, w := range someWeights() {
		if e := chance.ValidateWeights(w); e != api.OK {
			t.Error("ValidateWeights", w, e)
		}
	}
	for at := range 5 {
		for _, weight := range []int{1, 2, 99, 100} {
			w := mixed
			w[at] = weight
			if e := chance.ValidateWeights(w); e != api.OK {
				t.Error("ValidateWeights", w, e)
			}
		}
	}
	for _, w := range badWeights() {
		if e := chance.ValidateWeights(w); e != api.ErrArg {
			t.Error("ValidateWeights", w, e)
		}
	}
}

// P5.2: on short toruses as well, where a plaquette goes twice along a link.
func TestThrough(t *testing.T) {
	for _, sizes := range validSizes() {
		n := 3 * sizes[0] * sizes[1] * sizes[2]
		for link := range n {
			if l, e := chance.Through(sizes, link); !slices.Equal(l, through(sizes, link)) || e != api.OK {
				t.Error("Through", sizes, link, l, e)
			}
		}
		for _, link := range []int{-1, n, n + 1, least, greatest} {
			l, e := chance.Through(sizes, link)
			refused(t, "Through", e, api.ErrNone, l)
		}
	}
	for _, sizes := range badSizes() {
		for _, link := range []int{0, -1, 48, greatest} {
			l, e := chance.Through(sizes, link)
			refused(t, "Through", e, api.ErrArg, l)
		}
	}
}

// P5.2
func TestThroughExamples(t *testing.T) {
	for _, x := range []struct {
		sizes [3]int
		link  int
		want  []int
	}{
		{[3]int{1, 1, 1}, 0, []int{0, 1}}, {[3]int{1, 1, 1}, 1, []int{0, 2}}, {[3]int{1, 1, 1}, 2, []int{1, 2}},
		{[3]int{2, 2, 1}, 0, []int{0, 1, 6}}, {[3]int{2, 2, 1}, 11, []int{5, 7, 10, 11}},
		{[3]int{4, 2, 2}, 0, []int{0, 1, 12, 25}}, {[3]int{1, 1, 4}, 2, []int{1, 2}}, {[3]int{1, 1, 4}, 0, []int{0, 1, 10}},
	} {
		if l, e := chance.Through(x.sizes, x.link); !slices.Equal(l, x.want) || e != api.OK {
			t.Error("Through", x.sizes, x.link, l, e)
		}
	}
}

// P5.2
func TestWeights(t *testing.T) {
	d := dice{21}
	for _, sizes := range validSizes() {
		for round, w := range someWeights() {
			numbers := d.numbers(sizes)
			if round == 0 {
				clear(numbers)
			}
			f := fieldOf(t, sizes, numbers)
			check := untouched(t, f)
			for link := range numbers {
				if l, e := chance.Weights(f, w, link); l != weightsOf(sizes, numbers, w, link) || e != api.OK {
					t.Error("Weights", sizes, numbers, w, link, l, e)
				}
			}
			check()
		}
	}
}

// P5.2: the trace -2 has the first weight, and 2 the last one.
func TestWeightsExamples(t *testing.T) {
	point := [3]int{1, 1, 1}
	var eights [24]int
	for k := range eights {
		eights[k] = 9
	}
	for _, x := range []struct {
		sizes   [3]int
		numbers []int
		w       [5]int
		link    int
		want    []int // the first eight ones; the others are all the same
		last    int
	}{
		// The plaquettes of the link are its commutators with i and j: 2 if they commute, and otherwise -2 or 0.
		{point, []int{8, 2, 4}, rising, 0, []int{25, 25, 5, 5, 5, 5, 1, 1}, 9},
		{point, []int{8, 0, 0}, rising, 0, []int{25, 25, 25, 25, 25, 25, 25, 25}, 25},
		{point, []int{8, 0, 1}, rising, 0, []int{25, 25, 25, 25, 25, 25, 25, 25}, 25},
		{point, []int{8, 2, 4}, ones, 0, []int{1, 1, 1, 1, 1, 1, 1, 1}, 1},
		{point, []int{8, 2, 4}, highest, 0, []int{10000, 10000, 10000, 10000, 10000, 10000, 10000, 10000}, 10000},
	} {
		l, e := chance.Weights(fieldOf(t, x.sizes, x.numbers), x.w, x.link)
		if !slices.Equal(l[:8], x.want) || l[8] != x.last || l[23] != x.last || e != api.OK {
			t.Error("Weights", x, l, e)
		}
	}
	// In the cold field of the sizes 4, 2, 2 all four plaquettes of a link have twice the real part of the link as their trace.
	f := fieldOf(t, [3]int{4, 2, 2}, make([]int, 48))
	for link := range f.Links {
		l, e := chance.Weights(f, [5]int{2, 3, 5, 7, 11}, link)
		want := [24]int{14641, 16, 625, 625, 625, 625, 625, 625}
		for k := 8; k < 24; k++ {
			want[k] = []int{2401, 81}[k%2]
		}
		if l != want || e != api.OK {
			t.Error("Weights of the cold field", link, l, e)
		}
	}
}

// P5.2: a weight that is as great as can be.
func TestGreatestWeights(t *testing.T) {
	f := fieldOf(t, [3]int{4, 2, 2}, make([]int, 48))
	l, e := chance.Weights(f, highest, 7)
	if e != api.OK || slices.Min(l[:]) != 100000000 || slices.Max(l[:]) != 100000000 {
		t.Error("Weights", l, e)
	}
	for _, x := range []struct{ draw, want int }{{0, 0}, {99999999, 0}, {100000000, 1}, {2299999999, 22}, {2300000000, 23}, {2399999999, 23}} {
		if _, k, e := chance.HeatBath(f, highest, 7, x.draw); k != x.want || e != api.OK {
			t.Error("HeatBath", x, k, e)
		}
	}
	for _, draw := range []int{2400000000, -1} {
		g, k, e := chance.HeatBath(f, highest, 7, draw)
		refused(t, "HeatBath", e, api.ErrArg, g, k)
	}
}

// P5.3: Flow is the number of draws, counted, from whatever value; it does not depend on the one that the link has.
func TestFlow(t *testing.T) {
	d := dice{22}
	w := [5]int{3, 1, 2, 1, 4}
	for _, sizes := range [][3]int{{1, 1, 1}, {2, 1, 1}, {1, 2, 2}} {
		numbers := d.numbers(sizes)
		link := d.below(len(numbers))
		weights := weightsOf(sizes, numbers, w, link)
		for _, from := range []int{0, 5, 8, 23} {
			with := slices.Clone(numbers)
			with[link] = from
			f := fieldOf(t, sizes, with)
			var counts [24]int
			for draw := range total(weights) {
				_, k, _ := chance.HeatBath(f, w, link, draw)
				counts[k]++
			}
			for to, count := range counts {
				if n, e := chance.Flow(fieldOf(t, sizes, numbers), w, link, from, to); n != count || e != api.OK {
					t.Error("Flow", sizes, with, link, from, to, n, e, "want", count)
				}
			}
		}
	}
}

// P5.3, S4: the weight of a value times Flow to another one is that of the other one times Flow back, whatever value the link has.
func TestBalanceOfHeatBath(t *testing.T) {
	d := dice{23}
	for _, sizes := range validSizes() {
		w := someWeights()[d.below(7)]
		numbers := d.numbers(sizes)
		link := d.below(len(numbers))
		weights := weightsOf(sizes, numbers, w, link)
		for from := range 24 {
			numbers[link] = d.below(24)
			f := fieldOf(t, sizes, numbers)
			for to := range from + 1 {
				there, e := chance.Flow(f, w, link, from, to)
				back, g := chance.Flow(f, w, link, to, from)
				if there != weights[to] || weights[from]*there != weights[to]*back || e != api.OK || g != api.OK {
					t.Error("Flow", numbers, w, link, from, to, there, back, e, g)
				}
			}
		}
	}
}

// P5.4
func TestRatio(t *testing.T) {
	d := dice{24}
	for _, sizes := range validSizes() {
		for _, w := range someWeights() {
			numbers := d.numbers(sizes)
			f := fieldOf(t, sizes, numbers)
			check := untouched(t, f)
			for range 4 {
				link := d.below(len(numbers))
				weights := weightsOf(sizes, numbers, w, link)
				for to, weight := range weights {
					r, e := chance.Ratio(f, w, link, to)
					if want := lowest(weight, weights[numbers[link]]); r != want || e != api.OK {
						t.Error("Ratio", numbers, w, link, to, r, e, "want", want)
					}
				}
			}
			check()
		}
	}
}

// lowest returns a rational number in lowest terms.
func lowest(num, den int) api.Rat {
	r := big.NewRat(int64(num), int64(den))
	return api.Rat{Num: int(r.Num().Int64()), Den: int(r.Denom().Int64())}
}

// P5.4
func TestRatioExamples(t *testing.T) {
	f := fieldOf(t, [3]int{1, 1, 1}, []int{8, 2, 4})
	for to, want := range map[int]api.Rat{0: {Num: 25, Den: 9}, 2: {Num: 5, Den: 9}, 6: {Num: 1, Den: 9}, 8: {Num: 1, Den: 1}, 23: {Num: 1, Den: 1}} {
		if r, e := chance.Ratio(f, rising, 0, to); r != want || e != api.OK {
			t.Error("Ratio", to, r, e)
		}
	}
	g := fieldOf(t, [3]int{1, 1, 1}, []int{0, 2, 4})
	if r, e := chance.Ratio(g, [5]int{10, 1, 1, 1, 40}, 0, 6); r != (api.Rat{Num: 1, Den: 16}) || e != api.OK {
		t.Error("Ratio", r, e)
	}
}
