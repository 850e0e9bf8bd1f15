package torus_test

import (
	"math/big"
	"slices"
	"testing"

	"plaquette/api"
	"plaquette/torus"
)

// P2.2
func TestSitesAndPlaces(t *testing.T) {
	for _, sizes := range validSizes() {
		number := 0
		for z := range sizes[2] {
			for y := range sizes[1] {
				for x := range sizes[0] {
					if place, e := torus.Place(sizes, number); place != [3]int{x, y, z} || e != api.OK {
						t.Error("Place", sizes, number, place, e)
					}
					if site, e := torus.Site(sizes, x, y, z); site != number || e != api.OK {
						t.Error("Site", sizes, x, y, z, site, e)
					}
					number++
				}
			}
		}
		if n, e := torus.Sites(sizes); n != number || e != api.OK {
			t.Error("Sites", sizes, n, e)
		}
	}
}

// remainder is n modulo a size, with numbers that cannot overflow.
func remainder(n, size int) int {
	return int(new(big.Int).Mod(big.NewInt(int64(n)), big.NewInt(int64(size))).Int64())
}

// anyNumbers are numbers of all kinds for a place or a shift.
func anyNumbers() []int {
	return []int{least, least + 1, least + 2, -1 << 32, -17, -5, -4, -3, -2, -1, 0, 1, 2, 3, 4, 5, 6, 7, 13, 1 << 40, greatest - 2, greatest - 1, greatest}
}

// P2.2: the numbers of a place may be any.
func TestSiteOfAnyPlace(t *testing.T) {
	for _, sizes := range validSizes() {
		for _, x := range anyNumbers() {
			for _, y := range anyNumbers() {
				for _, z := range anyNumbers() {
					want := remainder(x, sizes[0]) + sizes[0]*(remainder(y, sizes[1])+sizes[1]*remainder(z, sizes[2]))
					if site, e := torus.Site(sizes, x, y, z); site != want || e != api.OK {
						t.Fatal("Site", sizes, x, y, z, site, e, "want", want)
					}
				}
			}
		}
	}
}

// reached is Next, by a place that is counted up or down.
func reached(sizes [3]int, site, step int) int {
	place, _ := torus.Place(sizes, site)
	if step > 0 {
		place[step-1]++
	} else {
		place[-step-1]--
	}
	for i, size := range sizes {
		place[i] = wrapped(place[i], size)
	}
	return place[0] + sizes[0]*(place[1]+sizes[1]*place[2])
}

// P2.2
func TestNext(t *testing.T) {
	for _, sizes := range validSizes() {
		n, _ := torus.Sites(sizes)
		for site := range n {
			for _, step := range []int{1, 2, 3, -1, -2, -3} {
				to, e := torus.Next(sizes, site, step)
				if to != reached(sizes, site, step) || e != api.OK {
					t.Error("Next", sizes, site, step, to, e)
				}
				if again, e := torus.Next(sizes, to, -step); again != site || e != api.OK {
					t.Error("Next and back", sizes, site, step, again, e)
				}
			}
			for _, step := range []int{0, 4, -4, 5, least, greatest, 1<<32 + 1} {
				to, e := torus.Next(sizes, site, step)
				refused(t, "Next", to, e, api.ErrArg)
			}
		}
	}
}

// P2.2
func TestNextExamples(t *testing.T) {
	sizes := [3]int{2, 3, 1}
	for _, x := range [][3]int{{5, 1, 4}, {5, -1, 4}, {5, 2, 1}, {5, -2, 3}, {5, 3, 5}, {5, -3, 5}, {0, 2, 2}, {0, -2, 4}} {
		if to, e := torus.Next(sizes, x[0], x[1]); to != x[2] || e != api.OK {
			t.Error("Next", x, to, e)
		}
	}
	sizes = [3]int{2, 2, 4}
	for _, x := range [][3]int{{0, 3, 4}, {0, -3, 12}, {15, 3, 3}, {15, 1, 14}, {15, 2, 13}} {
		if to, e := torus.Next(sizes, x[0], x[1]); to != x[2] || e != api.OK {
			t.Error("Next", x, to, e)
		}
	}
}

// P2.2
func TestWalk(t *testing.T) {
	d := dice{10}
	for _, sizes := range validSizes() {
		n, _ := torus.Sites(sizes)
		for site := range n {
			for steps := range 9 {
				path := d.path(steps)
				before := slices.Clone(path)
				want := []int{site}
				for _, step := range path {
					want = append(want, reached(sizes, want[len(want)-1], step))
				}
				sites, e := torus.Walk(sizes, site, path)
				if !slices.Equal(sites, want) || e != api.OK {
					t.Error("Walk", sizes, site, path, sites, e)
				}
				is, e := torus.IsClosed(sizes, site, path)
				if is != (want[steps] == site) || e != api.OK {
					t.Error("IsClosed", sizes, site, path, is, e)
				}
				clear(sites)
				if !slices.Equal(path, before) {
					t.Error("a path was changed", before, path)
				}
			}
		}
	}
}

// P2.2
func TestIsClosed(t *testing.T) {
	for _, x := range []struct {
		sizes [3]int
		path  []int
		want  bool
	}{
		{[3]int{4, 2, 2}, nil, true},
		{[3]int{4, 2, 2}, []int{1}, false},
		{[3]int{4, 2, 2}, []int{1, -1}, true},
		{[3]int{4, 2, 2}, []int{1, 1}, false},
		{[3]int{4, 2, 2}, []int{2, 2}, true},
		{[3]int{4, 2, 2}, []int{1, 1, 1, 1}, true},
		{[3]int{4, 2, 2}, []int{-1, -1, -1, -1, 3, 2, 3, 2}, true},
		{[3]int{4, 2, 2}, []int{1, 2, -1, -2}, true},
		{[3]int{4, 2, 2}, []int{1, 2, -1, -2, 3}, false},
		{[3]int{1, 4, 4}, []int{1}, true},
		{[3]int{1, 4, 4}, []int{-1, -1, -1}, true},
		{[3]int{1, 1, 1}, []int{1, 2, 3, 3, 2, 1, 1, 1}, true},
	} {
		if is, e := torus.IsClosed(x.sizes, 0, x.path); is != x.want || e != api.OK {
			t.Error("IsClosed", x.sizes, x.path, is, e)
		}
	}
}
