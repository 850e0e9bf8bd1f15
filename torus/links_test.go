package torus_test

import (
	"slices"
	"testing"

	"plaquette/api"
	"plaquette/quat"
	"plaquette/torus"
)

// P2.4
func TestCold(t *testing.T) {
	for _, sizes := range validSizes() {
		f, e := torus.Cold(sizes)
		want := api.Field{Sizes: sizes, Links: slices.Repeat([]api.Unit{one}, 3*sizes[0]*sizes[1]*sizes[2])}
		if !equal(f, want) || e != api.OK {
			t.Error("Cold", sizes, f, e)
		}
		scribble(f)
		if again, _ := torus.Cold(sizes); !equal(again, want) {
			t.Error("Cold shares its memory with an earlier one")
		}
	}
}

// P2.4
func TestGet(t *testing.T) {
	for _, f := range someFields() {
		check := untouched(t, f)
		l := latticeOf(f)
		for site := range len(f.Links) / 3 {
			place, _ := torus.Place(f.Sizes, site)
			for dir := range 3 {
				if unit, e := torus.Get(f, site, dir); unit != l.at(place, dir) || e != api.OK {
					t.Error("Get", f.Sizes, site, dir, unit, e)
				}
			}
		}
		check()
	}
}

// P2.4, R5
func TestPut(t *testing.T) {
	all := linkUnits()
	d := dice{3}
	for _, f := range someFields() {
		check := untouched(t, f)
		for site := range len(f.Links) / 3 {
			place, _ := torus.Place(f.Sizes, site)
			for dir := range 3 {
				unit := all[d.below(len(all))]
				l := latticeOf(f)
				l.links[[4]int{place[0], place[1], place[2], dir}] = unit
				g, e := torus.Put(f, site, dir, unit)
				if !equal(g, l.field()) || e != api.OK {
					t.Error("Put", f.Sizes, site, dir, unit, g, e)
				}
				scribble(g)
				check()
			}
		}
	}
}

// P2.4
func TestAlong(t *testing.T) {
	d := dice{4}
	fields := someFields()
	for i, path := range somePaths() {
		f := fields[i%len(fields)]
		check := untouched(t, f)
		before := slices.Clone(path)
		site := d.below(len(f.Links) / 3)
		place, _ := torus.Place(f.Sizes, site)
		want := latticeOf(f).along(t, place, path)
		if unit, e := torus.Along(f, site, path); unit != want || e != api.OK {
			t.Error("Along", f, site, path, unit, e, "want", want)
		}
		check()
		if !slices.Equal(path, before) {
			t.Error("a path was changed", before, path)
		}
	}
}

// P2.4: along a path from its end back to its start is the inverse.
func TestAlongBack(t *testing.T) {
	fields := someFields()
	for i, path := range somePaths() {
		f := fields[i%len(fields)]
		sites, _ := torus.Walk(f.Sizes, 0, path)
		back, _ := torus.Back(path)
		unit, _ := torus.Along(f, 0, path)
		want, _ := quat.Inverse(unit)
		if got, e := torus.Along(f, sites[len(path)], back); got != want || e != api.OK {
			t.Error("Along back", f, path, got, e, "want", want)
		}
	}
}

// P2.4: the longest path with links of the greatest N.
func TestAlongIsNeverTooLarge(t *testing.T) {
	sizes := [3]int{2, 1, 1}
	f, _ := torus.Cold(sizes)
	f.Links[0], f.Links[3] = u(3, 4, 0, 0, 5), u(4, 0, 3, 0, 5)
	if unit, e := torus.Along(f, 0, slices.Repeat([]int{1}, 8)); unit.N != 390625 || e != api.OK {
		t.Error("Along", unit, e)
	}
	for _, x := range linkUnits() {
		for i, y := range linkUnits() {
			if x.N < 5 || y.N < 5 || i%7 != 0 {
				continue
			}
			f.Links[0], f.Links[3] = x, y
			if unit, e := torus.Along(f, 0, slices.Repeat([]int{1}, 8)); quat.Validate(unit) != api.OK || e != api.OK {
				t.Fatal("Along", f, unit, e)
			}
		}
	}
}

// P2.4
func TestAlongExamples(t *testing.T) {
	f, _ := torus.Cold([3]int{2, 1, 1})
	f.Links[0], f.Links[3] = u(3, 4, 0, 0, 5), u(4, 0, 3, 0, 5)
	for _, x := range []struct {
		site int
		path []int
		want api.Unit
	}{
		{0, nil, one},
		{0, []int{1}, u(3, 4, 0, 0, 5)},
		{1, []int{1}, u(4, 0, 3, 0, 5)},
		{0, []int{-1}, u(4, 0, -3, 0, 5)},
		{1, []int{-1}, u(3, -4, 0, 0, 5)},
		{0, []int{1, 1}, u(12, 16, 9, 12, 25)},
		{1, []int{1, 1}, u(12, 16, 9, -12, 25)},
		{0, []int{1, -1}, one},
		{0, []int{2, 3, -2, 1}, u(3, 4, 0, 0, 5)},
	} {
		if unit, e := torus.Along(f, x.site, x.path); unit != x.want || e != api.OK {
			t.Error("Along", x.site, x.path, unit, e)
		}
	}
}
