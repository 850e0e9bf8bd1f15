package fermi_test

import (
	"slices"
	"testing"

	"plaquette/api"
	"plaquette/fermi"
	"plaquette/gauge"
	"plaquette/quat"
)

// P7.3: each entry of each torus.
func TestPoint(t *testing.T) {
	for _, sizes := range validSizes() {
		for site := range sitesOf(sizes) {
			for part := range 4 {
				want := make([]api.Spin, sitesOf(sizes))
				want[site][part] = 1048576
				l, e := fermi.Point(sizes, site, part)
				if !slices.Equal(l, want) || e != api.OK {
					t.Error("Point", sizes, site, part, l, e)
				}
				scribble(l)
				if again, e := fermi.Point(sizes, site, part); !slices.Equal(again, want) || e != api.OK {
					t.Error("Point shares its memory with an earlier one", again, e)
				}
			}
		}
	}
}

// P7.3: the errors of sizes, site and part, in this order.
func TestPointRefused(t *testing.T) {
	for _, sizes := range badSizes() {
		for _, site := range []int{0, -1} {
			for _, part := range []int{0, 4} {
				l, e := fermi.Point(sizes, site, part)
				refused(t, "Point", e, api.ErrArg, l)
			}
		}
	}
	for _, sizes := range validSizes() {
		sites := sitesOf(sizes)
		for _, site := range outside(0, sites-1) {
			for _, part := range []int{0, 3, 4, -1} {
				l, e := fermi.Point(sizes, site, part)
				refused(t, "Point", e, api.ErrNone, l)
			}
		}
		for _, part := range outside(0, 3) {
			l, e := fermi.Point(sizes, sites-1, part)
			refused(t, "Point", e, api.ErrArg, l)
		}
	}
}

// transformation returns a list of any small units.
func (d *dice) transformation(t *testing.T, sites int) []api.Unit {
	t.Helper()
	var g []api.Unit
	for range sites {
		x, e := quat.Small(d.below(24))
		if e != api.OK {
			t.Fatal("Small", e)
		}
		g = append(g, x)
	}
	return g
}

// checkTurned holds Turned against the reference.
func checkTurned(t *testing.T, f api.Field, g []api.Unit, v []api.Spin) {
	t.Helper()
	check, units := untouched(t, f, v), slices.Clone(g)
	want := zero(len(v))
	for site, x := range g {
		want.addProduct(site, 1, doubled(x), wideOf(v), site)
	}
	l, e := fermi.Turned(f, g, v)
	becomes(t, "Turned", f, v, l, e, want)
	scribble(l)
	check()
	if !slices.Equal(g, units) {
		t.Error("the list of units was changed", g, units)
	}
}

// P7.3: all small units, and entries up to the limit.
func TestTurned(t *testing.T) {
	d := dice{75}
	for _, sizes := range validSizes() {
		f, sites := d.field(t, sizes), sitesOf(sizes)
		checkTurned(t, f, d.transformation(t, sites), d.vector(sites, 9))
		checkTurned(t, f, d.transformation(t, sites), d.ends(sites, api.MaxEntry))
	}
	f := cold(t, [3]int{1, 1, 1})
	for number := range 24 {
		x, _ := quat.Small(number)
		for range 5 {
			checkTurned(t, f, []api.Unit{x}, d.vector(1, api.MaxEntry))
		}
	}
}

// P7.3: the unit is the left factor, and 2 times it is taken.
func TestTurnedExamples(t *testing.T) {
	f := cold(t, [3]int{2, 1, 1})
	l, e := fermi.Turned(f, []api.Unit{u(0, 1, 0, 0, 1), u(1, 1, 1, 1, 2)}, []api.Spin{{0, 0, 3, 0}, {1, 2, 3, 4}})
	if !slices.Equal(l, []api.Spin{{0, 0, 0, 6}, {-8, 4, 2, 6}}) || e != api.OK {
		t.Error("Turned", l, e)
	}
}

// P7.3: a list must have a small unit for each site.
func TestTurnedRefused(t *testing.T) {
	d := dice{76}
	for _, sizes := range [][3]int{{1, 1, 1}, {2, 1, 1}, {4, 2, 2}} {
		f, sites := d.field(t, sizes), sitesOf(sizes)
		v, g := d.vector(sites, 9), d.transformation(t, sites)
		bad := [][]api.Unit{nil, {}, g[1:], append(slices.Clone(g), one), slices.Repeat(g, 3)}
		for _, x := range []api.Unit{rough, atLimit, beyond, notValid, {}, u(2, 0, 0, 0, 2), u(-1, 0, 0, 0, -1), u(1, 0, 0, 0, 0), u(1, 1, 1, 1, 1), u(greatest, least, 0, 0, greatest)} {
			for _, site := range []int{0, sites / 2, sites - 1} {
				h := slices.Clone(g)
				h[site] = x
				bad = append(bad, h)
			}
		}
		for _, h := range bad {
			l, e := fermi.Turned(f, h, v)
			refused(t, "Turned", e, api.ErrArg, l)
			// The field comes before the units.
			odd := cloned(f)
			odd.Links[0] = rough
			l, e = fermi.Turned(odd, h, v)
			refused(t, "Turned", e, api.ErrSmall, l)
		}
	}
}

// P7.3, S2: in the transformed field the operator takes the turned vector to what is turned.
func TestTransformed(t *testing.T) {
	d := dice{77}
	for _, sizes := range validSizes() {
		f, sites := d.field(t, sizes), sitesOf(sizes)
		g, v := d.transformation(t, sites), d.vector(sites, 1000)
		moved, e := gauge.Transform(f, g)
		if e != api.OK {
			t.Fatal("Transform", e)
		}
		turned, e := fermi.Turned(f, g, v)
		if e != api.OK {
			t.Fatal("Turned", e)
		}
		for mass := 1; mass <= 10; mass += 3 {
			first, e := fermi.Apply(moved, mass, turned)
			if e != api.OK {
				t.Fatal("Apply", e)
			}
			applied, _ := fermi.Apply(f, mass, v)
			if second, e := fermi.Turned(f, g, applied); !slices.Equal(first, second) || e != api.OK {
				t.Error("Apply of Turned", sizes, mass, first, second, e)
			}
		}
	}
}
