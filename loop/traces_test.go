package loop_test

import (
	"slices"
	"testing"

	"plaquette/api"
	"plaquette/loop"
	"plaquette/torus"
)

// plaquettes are the paths of the plaquettes of a site.
var plaquettes = [][]int{{1, 2, -1, -2}, {1, 3, -1, -3}, {2, 3, -2, -3}}

// point returns a small field on one site.
func point(t *testing.T, a, b, c int) api.Field {
	t.Helper()
	f, e := torus.FromNumbers([3]int{1, 1, 1}, []int{a, b, c})
	if e != api.OK {
		t.Fatal(e)
	}
	return f
}

// P3.1
func TestTrace(t *testing.T) {
	d := dice{1}
	for _, f := range someFields(1) {
		before := clonedField(f)
		for i := range 60 {
			site, path := d.below(len(f.Links)/3), d.path(i%9)
			if i%2 == 0 {
				path = d.closed()
			}
			steps := slices.Clone(path)
			sites, _ := torus.Walk(f.Sizes, site, path)
			got, e := loop.Trace(f, site, path)
			if sites[len(path)] != site {
				refused(t, show("Trace", f.Sizes, site, path), got, e, api.ErrOpen)
			} else {
				checkRat(t, show("Trace", f, site, path), got, e, ratOf(exactTrace(t, f, site, path)))
			}
			if !slices.Equal(steps, path) {
				t.Error("a path was changed", steps, path)
			}
		}
		if !slices.Equal(before.Links, f.Links) {
			t.Error("a field was changed", before, f)
		}
	}
}

// P3.1
func TestTraceExamples(t *testing.T) {
	f := point(t, 8, 2, 4)
	for _, x := range []struct {
		path []int
		want api.Rat
	}{
		{nil, rat(2, 1)}, {[]int{1}, rat(1, 1)}, {[]int{-1}, rat(1, 1)}, {[]int{2}, rat(0, 1)}, {[]int{1, 1}, rat(-1, 1)},
		{[]int{1, 1, 1}, rat(-2, 1)}, {[]int{2, 3, -2, -3}, rat(-2, 1)}, {[]int{1, 2}, rat(-1, 1)}, {[]int{1, -2}, rat(1, 1)},
	} {
		got, e := loop.Trace(f, 0, x.path)
		checkRat(t, show("Trace", x.path), got, e, x.want)
	}
	rough := api.Field{Sizes: [3]int{1, 1, 1}, Links: []api.Unit{u(3, 4, 0, 0, 5), u(-1, 2, 2, 0, 3), u(-1, 1, 1, -1, 2)}}
	for step, want := range map[int]api.Rat{1: rat(6, 5), -1: rat(6, 5), 2: rat(-2, 3), -2: rat(-2, 3), 3: rat(-1, 1)} {
		got, e := loop.Trace(rough, 0, []int{step})
		checkRat(t, show("Trace", step), got, e, want)
	}
}

// P3.1, P2.1: site, path and its end, in this order.
func TestTraceErrors(t *testing.T) {
	for _, f := range someFields(2) {
		for _, site := range noSites(f) {
			for _, path := range [][]int{nil, {1}, {0}, {least}, ones} {
				got, e := loop.Trace(f, site, path)
				refused(t, "Trace", got, e, api.ErrNone)
			}
		}
		for want, paths := range badPaths {
			for _, path := range paths {
				got, e := loop.Trace(f, 0, path)
				refused(t, show("Trace", path), got, e, want)
			}
		}
	}
	cold, _ := torus.Cold([3]int{2, 3, 2})
	for _, path := range [][]int{{1}, {-3}, {1, 2, -1}, {2, 2}, {1, 1, 3}, {3, 3, 3}, {1, 2, 1, 2, 1, 2, 1, 3}} {
		got, e := loop.Trace(cold, 0, path)
		refused(t, show("Trace", path), got, e, api.ErrOpen)
	}
	for _, path := range [][]int{{1, 1}, {2, 2, 2}, {-3, -3}, {1, 2, 1, 2, 2}, {1, 3, 1, 3, -2, 3, 2, 3}} {
		got, e := loop.Trace(cold, 0, path)
		checkRat(t, show("Trace", path), got, e, rat(2, 1))
	}
}

// P3.1
func TestTracesAndMean(t *testing.T) {
	for _, f := range someFields(3) {
		var want []api.Rat
		for site := range len(f.Links) / 3 {
			for _, path := range plaquettes {
				want = append(want, ratOf(exactTrace(t, f, site, path)))
			}
		}
		got, e := loop.Traces(f)
		if !slices.Equal(got, want) || e != api.OK {
			t.Error("Traces", f, got, e, "want", want)
		}
		m, e := loop.Mean(f)
		checkRat(t, show("Mean", f), m, e, exactMean(t, f, plaquettes...))
	}
}

// P3.1
func TestMeanExamples(t *testing.T) {
	for _, sizes := range validSizes() {
		cold, _ := torus.Cold(sizes)
		m, e := loop.Mean(cold)
		checkRat(t, "Mean", m, e, rat(2, 1))
		for i := range cold.Links {
			cold.Links[i] = u(-1, 0, 0, 0, 1)
		}
		m, e = loop.Mean(cold)
		checkRat(t, "Mean", m, e, rat(2, 1))
	}
	m, e := loop.Mean(point(t, 8, 2, 4))
	checkRat(t, "Mean", m, e, rat(-2, 3))
	// The commutators have the traces 2, -2 and 0.
	f := point(t, 2, 2, 4)
	f.Links[0] = one
	m, e = loop.Mean(f)
	checkRat(t, "Mean", m, e, rat(2, 3))
	l, e := loop.Traces(f)
	if !slices.Equal(l, []api.Rat{rat(2, 1), rat(2, 1), rat(-2, 1)}) || e != api.OK {
		t.Error("Traces", l, e)
	}
	// Traces that sum up to 0.
	f, _ = torus.FromNumbers([3]int{2, 1, 1}, []int{2, 4, 0, 4, 4, 0})
	m, e = loop.Mean(f)
	checkRat(t, show("Mean", f), m, e, exactMean(t, f, plaquettes...))
}

// P3.1
func TestRectangle(t *testing.T) {
	numbers := []int{least, least + 1, -1, 0, 1, 2, 3, 4, 5, 1 << 62, greatest - 1, greatest}
	for _, a := range numbers {
		for _, b := range numbers {
			for _, m := range numbers {
				for _, n := range numbers {
					right := 0 <= a && a <= 2 && 0 <= b && b <= 2 && a != b && 1 <= m && m <= 3 && 1 <= n && n <= 3 && m <= 4-n
					got, e := loop.Rectangle(a, b, m, n)
					if !right {
						refused(t, show("Rectangle", a, b, m, n), got, e, api.ErrArg)
						continue
					}
					var want []int
					for _, side := range [][2]int{{a + 1, m}, {b + 1, n}, {-a - 1, m}, {-b - 1, n}} {
						for range side[1] {
							want = append(want, side[0])
						}
					}
					if !slices.Equal(got, want) || e != api.OK {
						t.Error("Rectangle", a, b, m, n, got, e)
					}
				}
			}
		}
	}
	if l, e := loop.Rectangle(2, 0, 3, 1); !slices.Equal(l, []int{3, 3, 3, 1, -3, -3, -3, -1}) || e != api.OK {
		t.Error("Rectangle", l, e)
	}
}

// P3.1
func TestWilson(t *testing.T) {
	for _, f := range someFields(4) {
		for a := -1; a <= 3; a++ {
			for b := -1; b <= 3; b++ {
				for m := range 5 {
					for n := range 5 {
						got, e := loop.Wilson(f, a, b, m, n)
						path, want := loop.Rectangle(a, b, m, n)
						if want != api.OK {
							refused(t, "Wilson", got, e, want)
						} else {
							checkRat(t, show("Wilson", f, path), got, e, exactMean(t, f, path))
						}
					}
				}
			}
		}
	}
}

// P3.1
func TestPolyakov(t *testing.T) {
	for _, f := range someFields(5) {
		for dir := range 3 {
			got, e := loop.Polyakov(f, dir)
			checkRat(t, show("Polyakov", f, dir), got, e, exactMean(t, f, slices.Repeat([]int{dir + 1}, f.Sizes[dir])))
		}
		for _, dir := range []int{-1, 3, -3, least, greatest} {
			got, e := loop.Polyakov(f, dir)
			refused(t, "Polyakov", got, e, api.ErrArg)
		}
	}
	got, e := loop.Polyakov(point(t, 8, 2, 1), 2)
	checkRat(t, "Polyakov", got, e, rat(-2, 1))
	// Two links of a row: i and j have the product k.
	f, _ := torus.FromNumbers([3]int{1, 2, 1}, []int{8, 2, 0, 0, 4, 9})
	for dir, want := range []api.Rat{rat(3, 2), rat(0, 1), rat(1, 2)} {
		got, e := loop.Polyakov(f, dir)
		checkRat(t, show("Polyakov", dir), got, e, want)
	}
}

// P3.1
func TestHistogram(t *testing.T) {
	for _, f := range someFields(6) {
		got, e := loop.Histogram(f)
		if small, _ := torus.IsSmall(f); !small {
			refused(t, "Histogram", got, e, api.ErrSmall)
			continue
		}
		var want [5]int
		traces, _ := loop.Traces(f)
		for i, trace := range []api.Rat{rat(-2, 1), rat(-1, 1), rat(0, 1), rat(1, 1), rat(2, 1)} {
			for _, r := range traces {
				if r == trace {
					want[i]++
				}
			}
		}
		if got != want || e != api.OK || got[0]+got[1]+got[2]+got[3]+got[4] != len(f.Links) {
			t.Error("Histogram", f, got, e, "want", want)
		}
	}
	if h, e := loop.Histogram(point(t, 8, 2, 4)); h != [5]int{1, 0, 2, 0, 0} || e != api.OK {
		t.Error("Histogram", h, e)
	}
	cold, _ := torus.Cold([3]int{4, 2, 2})
	if h, e := loop.Histogram(cold); h != [5]int{0, 0, 0, 0, 48} || e != api.OK {
		t.Error("Histogram", h, e)
	}
}

// P3.1: the links decide, not the plaquettes.
func TestHistogramOfLinksThatAreNotSmall(t *testing.T) {
	for _, x := range []api.Unit{u(3, 4, 0, 0, 5), u(1, 2, 2, 0, 3)} {
		f := api.Field{Sizes: [3]int{1, 1, 1}, Links: []api.Unit{x, x, x}}
		m, e := loop.Mean(f)
		checkRat(t, "Mean", m, e, rat(2, 1))
		h, e := loop.Histogram(f)
		refused(t, "Histogram", h, e, api.ErrSmall)
	}
}

// R2, R3: the error of a field comes first, whatever the other arguments are.
func TestBadFields(t *testing.T) {
	for want, l := range badFields() {
		for _, f := range l {
			for _, x := range fieldCalls {
				r, e := x.call(f)
				refused(t, x.name, r, e, want)
			}
		}
	}
}

// Sums with the largest denominators, 3^8 and 5^8, and the largest values are exact: they fit only over the least common denominator.
func TestLargeNumbers(t *testing.T) {
	f := api.Field{Sizes: [3]int{1, 1, 1}, Links: []api.Unit{u(3, 4, 0, 0, 5), u(1, 2, 2, 0, 3), u(1, 2, 2, 4, 5)}}
	for _, coef := range []int{1000, -1000} {
		l := slices.Repeat([]api.Term{term(coef)}, 34)
		for i := range 6 {
			// 998, 997 and 996 do not make these fractions shorter.
			l = append(l, term(998-i%3, slices.Repeat([]int{1 + i%3}, 8)...))
		}
		got, e := loop.Value(f, 0, l)
		want := ratOf(exactValue(t, f, 0, l))
		checkRat(t, "Value", got, e, want)
		if want.Den != 2562890625 {
			t.Error("the denominator is not the largest one:", want)
		}
	}
	d := dice{7}
	for range 20 {
		g := d.field([3]int{4, 2, 2}, []api.Unit{u(3, 4, 0, 0, 5), u(1, 2, 2, 0, 3), u(1, 2, 2, 4, 5), u(-2, 1, 2, 0, 3)})
		for _, side := range []int{1, 2, 3} {
			path, _ := loop.Rectangle(0, 1, side, 4-side)
			got, e := loop.Wilson(g, 0, 1, side, 4-side)
			checkRat(t, "Wilson", got, e, exactMean(t, g, path))
		}
	}
}
