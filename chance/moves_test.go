package chance_test

import (
	"slices"
	"testing"

	"plaquette/api"
	"plaquette/chance"
)

// checkHeatBath holds a heat bath against landing.
func checkHeatBath(t *testing.T, f api.Field, w [5]int, link, draw int, weights [24]int) {
	t.Helper()
	check := untouched(t, f)
	want := cloned(f)
	value := landing(weights, draw)
	want.Links[link] = doubleOf(value).unit()
	g, k, e := chance.HeatBath(f, w, link, draw)
	if !equal(g, want) || k != value || e != api.OK {
		t.Error("HeatBath", f, w, link, draw, g, k, e, "want", value)
	}
	scribble(g.Links)
	check()
}

// P5.3: the first and the last draw for each value.
func TestHeatBath(t *testing.T) {
	d := dice{31}
	for _, sizes := range validSizes() {
		for _, w := range someWeights() {
			numbers := d.numbers(sizes)
			f := fieldOf(t, sizes, numbers)
			link := d.below(len(numbers))
			weights := weightsOf(sizes, numbers, w, link)
			sum := 0
			for _, weight := range weights {
				checkHeatBath(t, f, w, link, sum, weights)
				sum += weight
				checkHeatBath(t, f, w, link, sum-1, weights)
			}
			for _, draw := range []int{-1, sum, sum + 1, least, greatest} {
				g, k, e := chance.HeatBath(f, w, link, draw)
				refused(t, "HeatBath", e, api.ErrArg, g, k)
			}
		}
	}
}

// P5.3: all draws.
func TestHeatBathOfAllDraws(t *testing.T) {
	numbers := []int{8, 2, 4}
	f := fieldOf(t, [3]int{1, 1, 1}, numbers)
	for link := range numbers {
		weights := weightsOf(f.Sizes, numbers, rising, link)
		for draw := range total(weights) {
			checkHeatBath(t, f, rising, link, draw, weights)
		}
		for draw := range 24 {
			if g, k, e := chance.HeatBath(f, ones, link, draw); k != draw || g.Links[link] != doubleOf(draw).unit() || e != api.OK {
				t.Error("HeatBath", link, draw, g, k, e)
			}
		}
	}
}

// checkMetropolis holds a try against the weights of the old and of the new value, and reports whether it is accepted.
func checkMetropolis(t *testing.T, f api.Field, w [5]int, link, turn, draw int, before, after int, to api.Unit) bool {
	t.Helper()
	check := untouched(t, f)
	want, wanted := cloned(f), draw < after
	if wanted {
		want.Links[link] = to
	}
	g, is, e := chance.Metropolis(f, w, link, turn, draw)
	if !equal(g, want) || is != wanted || e != api.OK {
		t.Error("Metropolis", f, w, link, turn, draw, g, is, e, "want", wanted, before, after)
	}
	scribble(g.Links)
	check()
	return is
}

// P5.4: with the draws at the ends and at the border between those that are accepted and the others.
func TestMetropolis(t *testing.T) {
	d := dice{32}
	for _, sizes := range validSizes() {
		for _, w := range someWeights() {
			numbers := d.numbers(sizes)
			f := fieldOf(t, sizes, numbers)
			link := d.below(len(numbers))
			weights := weightsOf(sizes, numbers, w, link)
			before := weights[numbers[link]]
			for turn := range 24 {
				// The turn is the left factor.
				to := doubleOf(turn).times(doubleOf(numbers[link]))
				after := weights[to.number()]
				for _, draw := range []int{0, after - 1, after, before / 2, before - 1} {
					if draw < before {
						checkMetropolis(t, f, w, link, turn, draw, before, after, to.unit())
					}
				}
				for _, draw := range []int{-1, before, before + 1, least, greatest} {
					g, is, e := chance.Metropolis(f, w, link, turn, draw)
					refused(t, "Metropolis", e, api.ErrArg, g, is)
				}
			}
		}
	}
}

// P5.4: of as many draws as the old weight says, the smaller one of both weights are accepted.
func TestMetropolisOfAllDraws(t *testing.T) {
	for _, value := range []int{0, 1, 2, 5, 6, 8, 17} {
		numbers := []int{value, 2, 4}
		f := fieldOf(t, [3]int{1, 1, 1}, numbers)
		weights := weightsOf(f.Sizes, numbers, rising, 0)
		for turn := range 24 {
			to := doubleOf(turn).times(doubleOf(value))
			before, after, accepted := weights[value], weights[to.number()], 0
			for draw := range before {
				if checkMetropolis(t, f, rising, 0, turn, draw, before, after, to.unit()) {
					accepted++
				}
			}
			if accepted != min(before, after) {
				t.Error("Metropolis", value, turn, accepted, "of", before, after)
			}
		}
	}
}

// P5.4, S4: the weight of a value, times the part of turns and draws that lead to another one, is that of the other one times the part that leads back. All parts are of 24 turns and as many draws as the weight says, so that these numbers are what is left.
func TestBalanceOfMetropolis(t *testing.T) {
	w := [5]int{3, 1, 4, 2, 5}
	for _, x := range []struct {
		sizes [3]int
		link  int
	}{{[3]int{1, 1, 1}, 0}, {[3]int{1, 1, 1}, 2}, {[3]int{1, 2, 1}, 1}} {
		d := dice{33}
		numbers := d.numbers(x.sizes)
		weights := weightsOf(x.sizes, numbers, w, x.link)
		var ways [24][24]int
		for from := range 24 {
			numbers[x.link] = from
			f := fieldOf(t, x.sizes, numbers)
			for turn := range 24 {
				for draw := range weights[from] {
					g, _, e := chance.Metropolis(f, w, x.link, turn, draw)
					if e != api.OK {
						t.Fatal("Metropolis", f, turn, draw, e)
					}
					ways[from][numbersOf(t, g)[x.link]]++
				}
			}
		}
		for from := range 24 {
			for to := range 24 {
				if ways[from][to] != ways[to][from] || from != to && ways[from][to] != min(weights[from], weights[to]) {
					t.Error("from", from, "to", to, ways[from][to], "and back", ways[to][from], "with the weights", weights[from], weights[to])
				}
			}
		}
	}
}

// P5.4
func TestMetropolisExamples(t *testing.T) {
	f := fieldOf(t, [3]int{1, 1, 1}, []int{8, 2, 4})
	// The link is (1 + i + j + k)/2, and its weight is 9. The turn is the left factor: from the right, k would lead to (-1 + i - j + k)/2.
	for _, x := range []struct {
		turn, draw int
		want       api.Unit
		is         bool
	}{
		{0, 0, f.Links[0], true}, {0, 8, f.Links[0], true},
		{22, 0, one, true}, {22, 8, one, true}, {9, 8, u(-1, 0, 0, 0, 1), true},
		{6, 8, u(-1, -1, 1, 1, 2), true}, {7, 8, u(1, 1, -1, -1, 2), true},
		{16, 4, u(0, 1, 0, 0, 1), true}, {16, 5, f.Links[0], false}, {16, 8, f.Links[0], false},
		{12, 0, u(0, 0, 0, 1, 1), true}, {12, 1, f.Links[0], false},
	} {
		g, is, e := chance.Metropolis(f, rising, 0, x.turn, x.draw)
		if g.Links[0] != x.want || is != x.is || !slices.Equal(g.Links[1:], f.Links[1:]) || e != api.OK {
			t.Error("Metropolis", x, g, is, e)
		}
	}
	h := fieldOf(t, [3]int{1, 1, 1}, []int{0, 2, 4})
	for draw, want := range map[int]bool{0: true, 4: true, 5: false, 24: false} {
		g, is, e := chance.Metropolis(h, rising, 0, 2, draw)
		if is != want || is == equal(g, h) || e != api.OK {
			t.Error("Metropolis", draw, g, is, e)
		}
	}
}
