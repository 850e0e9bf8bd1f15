package gauge_test

import (
	"slices"
	"testing"

	"plaquette/api"
	"plaquette/gauge"
	"plaquette/torus"
)

// checkTransform holds Transform against carried.
func checkTransform(t *testing.T, f api.Field, g []api.Unit) api.Errno {
	t.Helper()
	field, units := untouched(t, f), unchanged(t, g)
	want, wanted := carried(t, f, g)
	got, e := gauge.Transform(f, g)
	if wanted != api.OK {
		refused(t, "Transform", got, e, wanted)
	} else if !equal(got, want) || e != api.OK {
		t.Error("Transform", f, g, got, e, "want", want)
	}
	scribble(got.Links)
	field()
	units()
	return wanted
}

// fitting returns a field that stays within the limit when it is transformed by g, though its links and the units of g are of all kinds.
func (d *dice) fitting(t *testing.T, sizes [3]int, g []api.Unit) api.Field {
	all := units(api.MaxLink)
	f := api.Field{Sizes: sizes}
	for number := range 3 * count(sizes) {
		from, to := g[number/3], g[next(sizes, number/3, number%3)]
		link := to // so the transformed link is that of g where it begins
		for range 60 {
			if x := product(t, inverse(from), all[d.below(len(all))], to); x.N <= api.MaxLink && x.N > 2 {
				link = x
				break
			}
		}
		f.Links = append(f.Links, link)
	}
	return f
}

// P4.1
func TestTransform(t *testing.T) {
	d := dice{11}
	small, all := units(2), units(api.MaxLink)
	for _, sizes := range validSizes() {
		n := count(sizes)
		for range 10 {
			if e := checkTransform(t, d.field(sizes, small), d.draw(n, small)); e != api.OK {
				t.Error("a small field does not stay small", sizes)
			}
			if e := checkTransform(t, d.field(sizes, all), d.draw(n, units(1))); e != api.OK {
				t.Error("a field became too large", sizes)
			}
			checkTransform(t, d.field(sizes, all), d.draw(n, small))
			checkTransform(t, d.field(sizes, all), d.draw(n, all))
			g := d.draw(n, all)
			if e := checkTransform(t, d.fitting(t, sizes, g), g); e != api.OK {
				t.Error("a field that should fit does not", sizes)
			}
		}
	}
}

// P4.1: one link alone, with all that it may have and with units at its ends.
func TestTransformOneLink(t *testing.T) {
	d := dice{12}
	all := units(api.MaxLink)
	seen := map[api.Errno]int{}
	for number := range 6 {
		for range 3000 {
			f := cold([3]int{2, 1, 1}, map[int]api.Unit{number: all[d.below(len(all))]})
			g := []api.Unit{one, one}
			if d.below(2) == 0 {
				g[d.below(2)] = all[d.below(len(all))]
			} else {
				g = d.draw(2, all)
			}
			seen[checkTransform(t, f, g)]++
		}
	}
	if seen[api.OK] < 1000 || seen[api.ErrLarge] < 1000 {
		t.Error("hardly any:", seen)
	}
}

// P4.1: only the whole product counts: on the way N is 25.
func TestTransformLimit(t *testing.T) {
	a := u(3, 4, 0, 0, 5)
	point := cold([3]int{1, 1, 1}, map[int]api.Unit{0: a, 1: opposite(a), 2: inverse(a)})
	for _, x := range []api.Unit{a, opposite(a), inverse(a), u(4, 3, 0, 0, 5), u(0, -1, 0, 0, 1)} {
		if f, e := gauge.Transform(point, []api.Unit{x}); !equal(f, point) || e != api.OK {
			t.Error("Transform", x, f, e)
		}
	}
	for _, x := range []api.Unit{u(4, 0, 3, 0, 5), u(1, 2, 2, 0, 3)} {
		f, e := gauge.Transform(point, []api.Unit{x})
		refused(t, "Transform", f, e, api.ErrLarge)
	}
	// Just above the limit, and at it.
	third := cold([3]int{1, 1, 2}, map[int]api.Unit{2: u(1, 2, 2, 0, 3)})
	f, e := gauge.Transform(third, []api.Unit{half, one})
	refused(t, "Transform: N is 6", f, e, api.ErrLarge)
	f, e = gauge.Transform(third, []api.Unit{i, one})
	if want := cold([3]int{1, 1, 2}, map[int]api.Unit{0: one, 2: u(-2, 1, 0, 2, 3), 5: u(0, -1, 0, 0, 1)}); !equal(f, want) || e != api.OK {
		t.Error("Transform", f, e)
	}
}

// P4.1
func TestTransformExamples(t *testing.T) {
	f, _ := torus.FromNumbers([3]int{2, 1, 1}, []int{0, 2, 4, 6, 2, 4})
	g, e := gauge.Transform(f, []api.Unit{i, one})
	want := api.Field{Sizes: f.Sizes, Links: []api.Unit{i, i, opposite(j), opposite(j), i, j}}
	if !equal(g, want) || e != api.OK {
		t.Error("Transform", g, e, "want", want)
	}
	g, e = gauge.Transform(f, []api.Unit{one, j})
	want = api.Field{Sizes: f.Sizes, Links: []api.Unit{opposite(j), i, j, i, opposite(i), j}}
	if !equal(g, want) || e != api.OK {
		t.Error("Transform", g, e, "want", want)
	}
}

// P4.1, S2: the unit along a closed path is conjugated, and its trace stays.
func TestTransformedPaths(t *testing.T) {
	d := dice{13}
	small, all := units(2), units(api.MaxLink)
	for _, sizes := range validSizes() {
		for round := range 6 {
			g := d.draw(count(sizes), all)
			f := d.fitting(t, sizes, g)
			if round < 3 {
				g = d.draw(count(sizes), small)
				f = d.field(sizes, small)
			}
			h, e := gauge.Transform(f, g)
			if e != api.OK {
				t.Fatal("Transform", f, g, e)
			}
			for range 20 {
				site, path := d.below(count(sizes)), d.closed()
				checkPath(t, f, h, site, path, g[site])
			}
			for dir, size := range sizes {
				site := d.below(count(sizes))
				checkPath(t, f, h, site, slices.Repeat([]int{dir + 1}, size), g[site])
			}
		}
	}
}

// checkPath holds the unit along a closed path of a transformed field against the conjugate of that of the field.
func checkPath(t *testing.T, f, h api.Field, site int, path []int, by api.Unit) {
	t.Helper()
	before, _ := torus.Along(f, site, path)
	after, e := torus.Along(h, site, path)
	if e != api.OK || !sameTrace(before, after) {
		t.Error("the trace has changed", f, h, site, path, before, after, e)
	}
	if scaled(times(parts(after), parts(by)), before.N) != scaled(times(parts(by), parts(before)), after.N) {
		t.Error("the unit is not conjugated", f, h, site, path, before, after, by)
	}
}

// P4.1
func TestCompose(t *testing.T) {
	d := dice{14}
	small, all := units(2), units(api.MaxLink)
	seen := map[api.Errno]int{}
	for _, sizes := range validSizes() {
		f := d.field(sizes, all)
		for round := range 40 {
			g, h := d.draw(count(sizes), small), d.draw(count(sizes), small)
			if round%2 == 0 {
				at := d.below(len(g))
				g[at], h[at] = all[d.below(len(all))], all[d.below(len(all))]
			}
			check := unchanged(t, g, h)
			want, wanted := make([]api.Unit, len(g)), api.OK
			for site := range g {
				want[site] = product(t, g[site], h[site])
				if want[site].N > api.MaxLink {
					wanted = api.ErrLarge
				}
			}
			got, e := gauge.Compose(f, g, h)
			if seen[wanted]++; wanted != api.OK {
				refused(t, "Compose", got, e, wanted)
			} else if !slices.Equal(got, want) || e != api.OK {
				t.Error("Compose", g, h, got, e, "want", want)
			}
			scribble(got)
			check()
		}
	}
	if seen[api.OK] < 100 || seen[api.ErrLarge] < 100 {
		t.Error("hardly any:", seen)
	}
}

// P4.1
func TestComposeExamples(t *testing.T) {
	f := cold([3]int{1, 2, 1}, map[int]api.Unit{0: atLimit})
	a := u(3, 4, 0, 0, 5)
	for _, x := range []struct{ g, h, want []api.Unit }{
		{[]api.Unit{i, one}, []api.Unit{j, k}, []api.Unit{k, k}},
		{[]api.Unit{j, k}, []api.Unit{i, one}, []api.Unit{opposite(k), k}},
		{[]api.Unit{a, a}, []api.Unit{inverse(a), minus}, []api.Unit{one, opposite(a)}},
		{[]api.Unit{a, one}, []api.Unit{u(4, 3, 0, 0, 5), one}, []api.Unit{i, one}},
	} {
		if got, e := gauge.Compose(f, x.g, x.h); !slices.Equal(got, x.want) || e != api.OK {
			t.Error("Compose", x.g, x.h, got, e)
		}
	}
	for _, x := range [][2][]api.Unit{{{a, one}, {a, one}}, {{one, a}, {one, a}}, {{half, one}, {u(1, 2, 2, 0, 3), one}}} {
		got, e := gauge.Compose(f, x[0], x[1])
		refused(t, "Compose", got, e, api.ErrLarge)
	}
	// N is 25 in the first product, but the second factor is not valid.
	got, e := gauge.Compose(f, []api.Unit{a, one}, []api.Unit{a, notValid})
	refused(t, "Compose", got, e, api.ErrArg)
	tooLarge := cold([3]int{1, 2, 1}, map[int]api.Unit{0: atLimit})
	field, e := gauge.Transform(tooLarge, []api.Unit{u(4, 0, 3, 0, 5), notValid})
	refused(t, "Transform", field, e, api.ErrArg)
}

// P4.1: Transform by Compose of g and h is Transform by h, and then by g.
func TestTransformByCompose(t *testing.T) {
	d := dice{15}
	small, all := units(2), units(api.MaxLink)
	compared := 0
	for _, sizes := range validSizes() {
		for round := range 20 {
			f, g, h := d.field(sizes, small), d.draw(count(sizes), small), d.draw(count(sizes), small)
			if round%2 == 0 {
				h = d.draw(count(sizes), all)
				f = d.fitting(t, sizes, h)
				g = d.draw(count(sizes), units(1))
			}
			gh, e0 := gauge.Compose(f, g, h)
			first, e1 := gauge.Transform(f, h)
			if e0 != api.OK || e1 != api.OK {
				continue
			}
			second, e2 := gauge.Transform(first, g)
			at, e3 := gauge.Transform(f, gh)
			if e2 != api.OK || e3 != api.OK {
				continue
			}
			if compared++; !equal(second, at) {
				t.Error("Transform by Compose", f, g, h, second, at)
			}
		}
	}
	if compared < 300 {
		t.Error("hardly any:", compared)
	}
}

// P4.1
func TestInverse(t *testing.T) {
	d := dice{16}
	all := units(api.MaxLink)
	for _, sizes := range validSizes() {
		for range 20 {
			g := d.draw(count(sizes), all)
			f := d.fitting(t, sizes, g)
			check := unchanged(t, g)
			back, e := gauge.Inverse(f, g)
			if !slices.Equal(back, inverses(g)) || e != api.OK {
				t.Error("Inverse", g, back, e)
			}
			if l, e := gauge.Compose(f, g, back); !slices.Equal(l, slices.Repeat([]api.Unit{one}, len(g))) || e != api.OK {
				t.Error("Compose with Inverse", g, l, e)
			}
			there, _ := gauge.Transform(f, g)
			if again, e := gauge.Transform(there, back); !equal(again, f) || e != api.OK {
				t.Error("Transform by Inverse", f, g, again, e)
			}
			scribble(back)
			check()
		}
	}
}

// P4.1: the identity, and -1 everywhere, change nothing.
func TestTransformByNothing(t *testing.T) {
	d := dice{17}
	for _, sizes := range validSizes() {
		f := d.field(sizes, units(api.MaxLink))
		nothing, _ := gauge.Identity(sizes)
		turned, _ := gauge.Spread(f, minus)
		for _, g := range [][]api.Unit{nothing, turned} {
			if got, e := gauge.Transform(f, g); !equal(got, f) || e != api.OK {
				t.Error("Transform", f, g, got, e)
			}
		}
	}
}

// P4.4
func TestCenter(t *testing.T) {
	d := dice{18}
	for _, sizes := range validSizes() {
		for _, f := range []api.Field{d.field(sizes, units(api.MaxLink)), d.field(sizes, units(2)), cold(sizes, nil)} {
			check := untouched(t, f)
			for dir := range 3 {
				want := cloned(f)
				for site := range count(sizes) {
					place := [3]int{site % sizes[0], site / sizes[0] % sizes[1], site / sizes[0] / sizes[1]}
					if place[dir] == 0 {
						want.Links[3*site+dir] = opposite(f.Links[3*site+dir])
					}
				}
				got, e := gauge.Center(f, dir)
				if !equal(got, want) || e != api.OK {
					t.Error("Center", f, dir, got, e)
				}
				checkCenter(t, f, got, dir)
				scribble(got.Links)
				check()
			}
			for _, dir := range []int{-1, 3, -3, least, greatest} {
				got, e := gauge.Center(f, dir)
				refused(t, "Center", got, e, api.ErrArg)
			}
		}
	}
}

// checkCenter checks that all plaquettes stay, and that only traces around the torus in this direction change their sign.
func checkCenter(t *testing.T, f, g api.Field, dir int) {
	t.Helper()
	before, _ := torus.Plaquettes(f)
	if after, e := torus.Plaquettes(g); !slices.Equal(before, after) || e != api.OK {
		t.Error("Center has changed plaquettes", f, g, dir, e)
	}
	for around, size := range f.Sizes {
		path := slices.Repeat([]int{around + 1}, size)
		for site := range count(f.Sizes) {
			x, _ := torus.Along(f, site, path)
			y, _ := torus.Along(g, site, path)
			if around == dir {
				x = opposite(x)
			}
			if x != y {
				t.Error("around a centered torus", f, g, dir, around, site, x, y)
			}
		}
	}
	if again, e := gauge.Center(g, dir); !equal(again, f) || e != api.OK {
		t.Error("Center of Center", f, dir, again, e)
	}
}
