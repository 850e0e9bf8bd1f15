package fermi_test

import (
	"math/big"
	"slices"
	"testing"

	"plaquette/api"
	"plaquette/fermi"
)

// P7.4
func TestAllowed(t *testing.T) {
	for _, sizes := range validSizes() {
		f := cold(t, sizes)
		for mass := 1; mass <= 10; mass++ {
			if n, e := fermi.Allowed(sizes, mass); allowed(f, mass).Cmp(big.NewInt(int64(n))) != 0 || e != api.OK {
				t.Error("Allowed", sizes, mass, n, e)
			}
		}
	}
	for mass, want := range map[int]int{1: 1600, 2: 2304, 10: 12544} {
		if n, e := fermi.Allowed([3]int{1, 1, 1}, mass); n != want || e != api.OK {
			t.Error("Allowed", mass, n, e)
		}
	}
	if n, e := fermi.Allowed([3]int{4, 2, 2}, 10); n != 200704 || e != api.OK {
		t.Error("Allowed", n, e)
	}
}

// P7.4
func TestAllowedRefused(t *testing.T) {
	for _, sizes := range badSizes() {
		for _, mass := range []int{1, 0} {
			n, e := fermi.Allowed(sizes, mass)
			refused(t, "Allowed", e, api.ErrArg, n)
		}
	}
	for _, mass := range outside(1, 10) {
		n, e := fermi.Allowed([3]int{1, 1, 1}, mass)
		refused(t, "Allowed", e, api.ErrArg, n)
	}
}

// checkResidual holds Residual, Check and Bound against the reference, and returns whether a solution is accepted.
func checkResidual(t *testing.T, f api.Field, mass int, v, b []api.Spin) bool {
	t.Helper()
	check := untouched(t, f, v, b)
	r := remainder(f, mass, v, b)
	squares := r.dot(r)
	l, n, e := fermi.Residual(f, mass, v, b)
	bound, g := fermi.Bound(f, mass, v, b)
	if r.isWithin(api.MaxEntry) {
		becomes(t, "Residual", f, v, l, e, r)
		if squares.Cmp(big.NewInt(int64(n))) != 0 {
			t.Error("the squares of a Residual", n, "want", squares)
		}
		want := new(big.Rat).SetFrac(squares, big.NewInt(int64(16*mass*mass)))
		if want.Num().Cmp(big.NewInt(int64(bound.Num))) != 0 || want.Denom().Cmp(big.NewInt(int64(bound.Den))) != 0 || g != api.OK {
			t.Error("Bound", f, mass, v, b, bound, g, "want", want)
		}
	} else {
		refused(t, "Residual", e, api.ErrLarge, l, n)
		refused(t, "Bound", g, api.ErrLarge, bound)
	}
	accepted, want := squares.Cmp(allowed(f, mass)) <= 0, api.OK
	if !accepted {
		want = api.ErrProof
	}
	if e := fermi.Check(f, mass, v, b); e != want {
		t.Error("Check", f, mass, v, b, e, "want", want, squares)
	}
	scribble(l)
	check()
	return accepted
}

// P7.1, P7.4: vectors and sources of each size, up to the limits.
func TestResidual(t *testing.T) {
	d := dice{81}
	accepted := 0
	for _, sizes := range validSizes() {
		f, sites := d.field(t, sizes), sitesOf(sizes)
		for _, mass := range []int{1, 2 + d.below(8), 10} {
			for _, most := range []int{1, 100, 1 << 20, api.MaxEntry} {
				checkResidual(t, f, mass, d.vector(sites, most), d.vector(sites, min(most, api.MaxSource)))
				checkResidual(t, f, mass, d.ends(sites, most), d.ends(sites, min(most, api.MaxSource)))
			}
			if checkResidual(t, f, mass, make([]api.Spin, sites), d.vector(sites, 2*mass+8)) {
				accepted++
			}
			if !checkResidual(t, f, mass, make([]api.Spin, sites), make([]api.Spin, sites)) {
				t.Error("the solution 0 of the source 0 is not accepted")
			}
		}
	}
	if accepted < 50 {
		t.Error("only so many solutions of this test are accepted:", accepted)
	}
}

// P7.4: entries of MaxEntry, on both sides, and those just beyond.
func TestResidualLimits(t *testing.T) {
	for _, sizes := range [][3]int{{1, 1, 1}, {2, 2, 1}, {4, 2, 2}} {
		f, sites := cold(t, sizes), sitesOf(sizes)
		for _, mass := range []int{1, 2, 4, 8} {
			for _, sign := range []int{1, -1} {
				// In the cold field a vector with the same entries everywhere has no hopping.
				v, b := filled(sites, -sign*api.MaxEntry/(4*mass)), make([]api.Spin, sites)
				l, n, e := fermi.Residual(f, mass, v, b)
				if !slices.Equal(l, filled(sites, sign*api.MaxEntry)) || n != 4*sites<<56 || e != api.OK {
					t.Error("Residual at its limit", sizes, mass, l, n, e)
				}
				checkResidual(t, f, mass, v, b)
				for at := range 4 {
					b[sites-1] = api.Spin{}
					b[sites-1][at] = sign
					l, n, e := fermi.Residual(f, mass, v, b)
					refused(t, "Residual", e, api.ErrLarge, l, n)
					bound, e := fermi.Bound(f, mass, v, b)
					refused(t, "Bound", e, api.ErrLarge, bound)
					b[sites-1][at] = -sign
					checkResidual(t, f, mass, v, b)
				}
			}
		}
	}
}

// P7.4: residuals whose squares add up to just what is allowed, and to a little more, in any field and around any vector.
func TestCheckAtItsLimit(t *testing.T) {
	d := dice{82}
	for _, sizes := range validSizes() {
		f, sites := d.field(t, sizes), sitesOf(sizes)
		for mass := 1; mass <= 10; mass++ {
			v := d.vector(sites, 10000)
			b, e := fermi.Apply(f, mass, v)
			if e != api.OK {
				t.Fatal("Apply", e)
			}
			for site, q := range d.ends(sites, 4*mass+16) {
				for at, n := range q {
					b[site][at] += n
				}
			}
			if e := fermi.Check(f, mass, v, b); e != api.OK {
				t.Error("Check at its limit", sizes, mass, e)
			}
			checkResidual(t, f, mass, v, b)
			site, at := d.below(sites), d.below(4)
			refusals := 0
			for _, by := range []int{1, -1} {
				c := slices.Clone(b)
				c[site][at] += by
				if !checkResidual(t, f, mass, v, c) {
					refusals++
				}
			}
			if refusals != 1 {
				t.Error("of one more and one less there should be one refusal", sizes, mass, refusals)
			}
		}
	}
}

// P7.4: squares that add up to just what is allowed, and to one more.
func TestCheckByOne(t *testing.T) {
	f, none := cold(t, [3]int{1, 1, 1}), []api.Spin{{}}
	for mass := 1; mass <= 10; mass++ {
		root := 8*mass + 32
		for at := range 4 {
			b := []api.Spin{{}}
			b[0][at] = -root
			if !checkResidual(t, f, mass, none, b) {
				t.Error("what is allowed is refused", mass, b)
			}
			b[0][(at+1)%4] = 1
			if checkResidual(t, f, mass, none, b) {
				t.Error("one more is accepted", mass, b)
			}
		}
	}
	if !checkResidual(t, f, 1, none, []api.Spin{{39, 8, 3, 2}}) || checkResidual(t, f, 1, none, []api.Spin{{39, 8, 4, 0}}) {
		t.Error("1598 should be accepted with the mass 1, and 1601 refused")
	}
}

// P7.4: squares whose sum is a multiple of 2^64, or more than 2^63, are not small.
func TestCheckOfHugeResiduals(t *testing.T) {
	unit := [3]int{1, 1, 1}
	for _, x := range []struct{ mass, entry int }{{4, 1 << 28}, {8, 1 << 27}, {8, 1 << 28}, {1, 1 << 28}, {10, 1 << 28}, {2, 1 << 28}, {4, 1 << 27}} {
		for parts := 1; parts <= 4; parts++ {
			for _, sign := range []int{1, -1} {
				v := make([]api.Spin, 1)
				for at := range parts {
					v[0][at] = sign * x.entry
				}
				if checkResidual(t, cold(t, unit), x.mass, v, make([]api.Spin, 1)) {
					t.Error("a huge residual is accepted", x, v)
				}
				checkResidual(t, steep(t), x.mass, v, filled(1, api.MaxSource))
			}
		}
	}
}

// P7.4
func TestBoundExamples(t *testing.T) {
	f := cold(t, [3]int{1, 1, 1})
	for _, x := range []struct {
		mass int
		v, b api.Spin
		want api.Rat
	}{
		{1, api.Spin{}, api.Spin{1 << 20}, api.Rat{Num: 1 << 36, Den: 1}},
		{3, api.Spin{1}, api.Spin{13}, api.Rat{Num: 1, Den: 144}},
		{1, api.Spin{}, api.Spin{}, api.Rat{Num: 0, Den: 1}},
		{10, api.Spin{1, 2, 3, 4}, api.Spin{40, 80, 120, 160}, api.Rat{Num: 0, Den: 1}},
		{1, api.Spin{}, api.Spin{1, -1, 1, 0}, api.Rat{Num: 3, Den: 16}},
		{1, api.Spin{}, api.Spin{2, 2, 0, 0}, api.Rat{Num: 1, Den: 2}},
		{10, api.Spin{}, api.Spin{20, 0, 20, 0}, api.Rat{Num: 1, Den: 2}},
		{1, api.Spin{1 << 26, 1 << 26, 1 << 26, 1 << 26}, api.Spin{}, api.Rat{Num: 1 << 54, Den: 1}},
	} {
		if r, e := fermi.Bound(f, x.mass, []api.Spin{x.v}, []api.Spin{x.b}); r != x.want || e != api.OK {
			t.Error("Bound", x.mass, x.v, x.b, r, e, "want", x.want)
		}
	}
}

// bounded checks that a vector is as near to the exact solution as Bound says.
func bounded(t *testing.T, f api.Field, mass int, v, b []api.Spin, solution []*big.Rat) {
	t.Helper()
	bound, e := fermi.Bound(f, mass, v, b)
	if d := distance(v, solution); e != api.OK || d.Cmp(big.NewRat(int64(bound.Num), int64(bound.Den))) > 0 {
		t.Error("the distance of", v, "is", d, "and above the bound", bound, e)
	}
}

// P7.4, S6: sources made from a solution, and vectors around it.
func TestDistancesFromKnownSolutions(t *testing.T) {
	d := dice{83}
	for _, sizes := range validSizes() {
		f, sites := d.field(t, sizes), sitesOf(sizes)
		for _, mass := range []int{1, 2 + d.below(8), 10} {
			known := d.vector(sites, 10000)
			b, e := fermi.Apply(f, mass, known)
			if e != api.OK {
				t.Fatal("Apply", e)
			}
			var solution []*big.Rat
			for _, n := range wideOf(known) {
				solution = append(solution, new(big.Rat).SetInt(n))
			}
			for _, most := range []int{0, 1, 50, 100000} {
				v := d.vector(sites, most)
				for site, q := range known {
					for at, n := range q {
						v[site][at] += n
					}
				}
				bounded(t, f, mass, v, b, solution)
				bounded(t, f, mass, d.vector(sites, most), b, solution)
			}
		}
	}
}

// P7.4, S6: exact solutions that are not integers, and the nearest integers to them, which are always accepted.
func TestDistancesFromExactSolutions(t *testing.T) {
	d := dice{84}
	for _, sizes := range [][3]int{{1, 1, 1}, {2, 1, 1}, {1, 3, 1}, {1, 2, 2}, {4, 1, 1}, {2, 2, 2}} {
		for _, f := range []api.Field{d.field(t, sizes), cold(t, sizes)} {
			for _, mass := range []int{1, 7, 10} {
				b := d.vector(sitesOf(sizes), api.MaxSource)
				solution := exact(f, mass, b)
				bounded(t, f, mass, d.vector(sitesOf(sizes), 100), b, solution)
				v := nearest(solution)
				bounded(t, f, mass, v, b, solution)
				if e := fermi.Check(f, mass, v, b); e != api.OK {
					t.Error("the exact solution, rounded, is not accepted", f, mass, b, v, e)
				}
			}
		}
	}
}

// P7.4, S6: two vectors differ by no more than both residuals, divided by the mass.
func TestTwoVectors(t *testing.T) {
	d := dice{85}
	for _, sizes := range validSizes() {
		f, sites := d.field(t, sizes), sitesOf(sizes)
		for _, mass := range []int{1, 10} {
			b, v, w := d.vector(sites, 1000), d.vector(sites, 1000), d.vector(sites, 1000)
			_, m, e := fermi.Residual(f, mass, v, b)
			_, n, g := fermi.Residual(f, mass, w, b)
			difference := wideOf(v).plus(-1, wideOf(w))
			squares := int(difference.dot(difference).Int64())
			if 16*mass*mass*squares > 2*(m+n) || e != api.OK || g != api.OK {
				t.Error("two vectors differ by", squares, "with the residuals", m, n, e, g)
			}
		}
	}
}
