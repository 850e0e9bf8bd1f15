package fermi_test

import (
	"math/big"
	"slices"
	"testing"

	"plaquette/api"
	"plaquette/fermi"
)

// P7.2: all sites of all toruses.
func TestSign(t *testing.T) {
	for _, sizes := range validSizes() {
		for site := range sitesOf(sizes) {
			place := [3]int{site % sizes[0], site / sizes[0] % sizes[1], site / sizes[0] / sizes[1]}
			for dir := range 3 {
				if n, e := fermi.Sign(sizes, site, dir); n != signAt(place, dir) || e != api.OK {
					t.Error("Sign", sizes, site, dir, n, e)
				}
			}
		}
	}
}

// P7.2
func TestSignExamples(t *testing.T) {
	sizes := [3]int{2, 2, 2}
	want := [8][3]int{{1, 1, 1}, {1, -1, -1}, {1, 1, -1}, {1, -1, 1}, {1, 1, 1}, {1, -1, -1}, {1, 1, -1}, {1, -1, 1}}
	for site, signs := range want {
		for dir, sign := range signs {
			if n, e := fermi.Sign(sizes, site, dir); n != sign || e != api.OK {
				t.Error("Sign", site, dir, n, e, "want", sign)
			}
		}
	}
}

// P7.2: the errors of sizes, site and direction, in this order.
func TestSignRefused(t *testing.T) {
	for _, sizes := range badSizes() {
		for _, site := range []int{0, -1} {
			for _, dir := range []int{0, 3} {
				n, e := fermi.Sign(sizes, site, dir)
				refused(t, "Sign", e, api.ErrArg, n)
			}
		}
	}
	for _, sizes := range validSizes() {
		sites := sitesOf(sizes)
		for _, site := range outside(0, sites-1) {
			for _, dir := range []int{0, 2, 3, -1} {
				n, e := fermi.Sign(sizes, site, dir)
				refused(t, "Sign", e, api.ErrNone, n)
			}
		}
		for _, dir := range outside(0, 2) {
			n, e := fermi.Sign(sizes, sites-1, dir)
			refused(t, "Sign", e, api.ErrArg, n)
		}
	}
}

// becomes checks what a function made of a vector.
func becomes(t *testing.T, name string, f api.Field, v, got []api.Spin, e api.Errno, want wide) {
	t.Helper()
	if !want.is(got) || e != api.OK {
		t.Error(name, f, v, got, e, "want", want)
	}
}

// checkOperators holds the hopping and the three operators of each mass against the reference.
func checkOperators(t *testing.T, f api.Field, v []api.Spin, masses ...int) {
	t.Helper()
	check := untouched(t, f, v)
	w := wideOf(v)
	l, e := fermi.Hop(f, v)
	becomes(t, "Hop", f, v, l, e, hopping(f, w))
	scribble(l)
	for _, mass := range masses {
		l, e := fermi.Apply(f, mass, v)
		becomes(t, "Apply", f, v, l, e, operator(f, mass, 1, w))
		scribble(l)
		l, e = fermi.Dagger(f, mass, v)
		becomes(t, "Dagger", f, v, l, e, operator(f, mass, -1, w))
		scribble(l)
		l, e = fermi.Twice(f, mass, v)
		becomes(t, "Twice", f, v, l, e, operator(f, mass, -1, operator(f, mass, 1, w)))
		becomes(t, "Twice the other way round", f, v, l, e, operator(f, mass, 1, operator(f, mass, -1, w)))
		scribble(l)
	}
	check()
}

// P7.1, P7.2: entries of each size, up to the limit, in fields of all sizes.
func TestOperators(t *testing.T) {
	d := dice{71}
	for _, sizes := range validSizes() {
		f := d.field(t, sizes)
		sites := sitesOf(sizes)
		checkOperators(t, f, d.vector(sites, 9), 1, 2+d.below(8), 10)
		checkOperators(t, f, d.vector(sites, api.MaxEntry), 1, 10)
		checkOperators(t, f, d.ends(sites, api.MaxEntry), 1, 10)
		checkOperators(t, f, make([]api.Spin, sites), 1, 10)
	}
}

// P7.2: the results that are the farthest beyond MaxEntry.
func TestGreatestResults(t *testing.T) {
	for _, numbers := range [][]int{{2, 2, 2}, {8, 8, 8}, {15, 23, 9}} {
		f := fieldOf(t, [3]int{1, 1, 1}, numbers...)
		for signs := range 16 {
			v := filled(1, api.MaxEntry)
			for at := range 4 {
				v[0][at] *= 1 - 2*(signs>>at&1)
			}
			checkOperators(t, f, v, 1, 10)
		}
	}
}

// P7.2: all values of a link in each direction, and all masses.
func TestOperatorsOfAllUnits(t *testing.T) {
	d := dice{72}
	for number := range 24 {
		for dir := range 3 {
			for _, sizes := range [][3]int{{1, 1, 1}, {2, 1, 2}, {3, 1, 1}, {1, 3, 1}, {1, 1, 3}} {
				numbers := make([]int, 3*sitesOf(sizes))
				numbers[3*d.below(sitesOf(sizes))+dir] = number
				checkOperators(t, fieldOf(t, sizes, numbers...), d.vector(sitesOf(sizes), 100), 1+number%10)
			}
		}
	}
}

// P7.2
func TestHopExamples(t *testing.T) {
	unit, row, column := [3]int{1, 1, 1}, [3]int{3, 1, 1}, [3]int{2, 3, 1}
	for _, x := range []struct {
		f       api.Field
		v, want []api.Spin
	}{
		{cold(t, unit), []api.Spin{{1, 2, 3, 4}}, []api.Spin{{}}},
		{cold(t, [3]int{2, 1, 1}), []api.Spin{{1, 0, 7, 0}, {0, 5, 0, -1}}, []api.Spin{{}, {}}},
		{fieldOf(t, unit, 2, 0, 0), []api.Spin{{1, 2, 3, 4}}, []api.Spin{{-8, 4, -16, 12}}},
		{fieldOf(t, unit, 2, 2, 2), []api.Spin{{1, 0, 0, 0}}, []api.Spin{{0, 12, 0, 0}}},
		{fieldOf(t, unit, 0, 8, 0), []api.Spin{{1, 0, 0, 0}}, []api.Spin{{0, 2, 2, 2}}},
		{cold(t, row), []api.Spin{{1}, {0, 10}, {0, 0, 100}}, []api.Spin{{0, 20, -200, 0}, {-2, 0, 200, 0}, {2, -20, 0, 0}}},
		{fieldOf(t, row, 4, 0, 0, 0, 0, 0, 0, 0, 0), []api.Spin{{1}, {0, 10}, {}}, []api.Spin{{0, 0, 0, -20}, {0, 0, 2, 0}, {2, -20, 0, 0}}},
		{cold(t, column), []api.Spin{{1}, {10}, {}, {}, {}, {}}, []api.Spin{{}, {}, {-2}, {20}, {2}, {-20}}},
	} {
		if l, e := fermi.Hop(x.f, x.v); !slices.Equal(l, x.want) || e != api.OK {
			t.Error("Hop", x.f, x.v, l, e, "want", x.want)
		}
	}
}

// P7.2
func TestOperatorExamples(t *testing.T) {
	unit := [3]int{1, 1, 1}
	v := []api.Spin{{1, 2, 3, 4}}
	if l, e := fermi.Apply(cold(t, unit), 2, v); !slices.Equal(l, []api.Spin{{8, 16, 24, 32}}) || e != api.OK {
		t.Error("Apply", l, e)
	}
	f := fieldOf(t, unit, 2, 0, 0)
	if l, e := fermi.Apply(f, 1, v); !slices.Equal(l, []api.Spin{{-4, 12, -4, 28}}) || e != api.OK {
		t.Error("Apply", l, e)
	}
	if l, e := fermi.Dagger(f, 1, v); !slices.Equal(l, []api.Spin{{12, 4, 28, 4}}) || e != api.OK {
		t.Error("Dagger", l, e)
	}
	if l, e := fermi.Twice(f, 1, v); !slices.Equal(l, []api.Spin{{32, 64, 96, 128}}) || e != api.OK {
		t.Error("Twice", l, e)
	}
}

// product returns the result of Dot, held against the reference.
func product(t *testing.T, f api.Field, v, w []api.Spin) int {
	t.Helper()
	check := untouched(t, f, v, w)
	n, e := fermi.Dot(f, v, w)
	if want := wideOf(v).dot(wideOf(w)); want.Cmp(big.NewInt(int64(n))) != 0 || e != api.OK {
		t.Error("Dot", v, w, n, e, "want", want)
	}
	check()
	return n
}

// P7.2: entries of each size, up to the greatest sums.
func TestDot(t *testing.T) {
	d := dice{73}
	for _, sizes := range validSizes() {
		f := d.field(t, sizes)
		sites := sitesOf(sizes)
		for _, most := range []int{9, api.MaxEntry} {
			v, w := d.vector(sites, most), d.vector(sites, most)
			if n := product(t, f, v, w); n != product(t, f, w, v) {
				t.Error("Dot the other way round is not", n)
			}
			product(t, f, d.ends(sites, most), d.ends(sites, most))
		}
		full, opposite := filled(sites, api.MaxEntry), filled(sites, -api.MaxEntry)
		if n, most := product(t, f, full, full), 4*sites<<56; n != most || product(t, f, full, opposite) != -most || product(t, f, opposite, opposite) != most {
			t.Error("the greatest Dot", n, "want", most)
		}
	}
}

// P7.2: the consequences, with Hop and Apply of the program.
func TestOpposites(t *testing.T) {
	d := dice{74}
	for _, sizes := range validSizes() {
		f := d.field(t, sizes)
		v, w := d.vector(sitesOf(sizes), 1<<20), d.vector(sitesOf(sizes), 1<<20)
		hopV, _ := fermi.Hop(f, v)
		hopW, e := fermi.Hop(f, w)
		if m, n := product(t, f, v, hopW), product(t, f, hopV, w); m != -n || e != api.OK {
			t.Error("Dot of Hop", sizes, m, n, e)
		}
		for mass := 1; mass <= 10; mass++ {
			l, e := fermi.Apply(f, mass, v)
			if n := product(t, f, v, l); n != 4*mass*product(t, f, v, v) || e != api.OK {
				t.Error("Dot of Apply", sizes, mass, n, e)
			}
		}
	}
}
