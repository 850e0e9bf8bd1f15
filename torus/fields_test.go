package torus_test

import (
	"slices"
	"testing"

	"plaquette/api"
	"plaquette/quat"
	"plaquette/torus"
)

// P2.5
func TestPlaquettes(t *testing.T) {
	paths := [3][]int{{1, 2, -1, -2}, {1, 3, -1, -3}, {2, 3, -2, -3}}
	for _, f := range someFields() {
		check := untouched(t, f)
		l, e := torus.Plaquettes(f)
		if e != api.OK || len(l) != len(f.Links) {
			t.Fatal("Plaquettes", f, l, e)
		}
		for number, unit := range l {
			place, _ := torus.Place(f.Sizes, number/3)
			if want := latticeOf(f).along(t, place, paths[number%3]); unit != want {
				t.Error("Plaquettes", f, number, unit, want)
			}
		}
		check()
	}
}

// P2.5: on a torus of one site each plaquette is a commutator of two links.
func TestPlaquettesOfOneSite(t *testing.T) {
	d := dice{2}
	for range 100 {
		f := d.field([3]int{1, 1, 1})
		a, b, c := f.Links[0], f.Links[1], f.Links[2]
		var want []api.Unit
		for _, pair := range [][2]api.Unit{{a, b}, {a, c}, {b, c}} {
			unit, _ := quat.Commutator(pair[0], pair[1])
			want = append(want, unit)
		}
		if l, e := torus.Plaquettes(f); !slices.Equal(l, want) || e != api.OK {
			t.Error("Plaquettes", f, l, e)
		}
	}
}

// P2.5
func TestShift(t *testing.T) {
	var l [][3]int
	for _, n := range anyNumbers() {
		l = append(l, [3]int{n, 0, 0}, [3]int{0, n, 0}, [3]int{0, 0, n}, [3]int{n, n, n}, [3]int{n, -n, 1})
	}
	for _, f := range someFields() {
		check := untouched(t, f)
		for _, by := range l {
			from, to := latticeOf(f), lattice{f.Sizes, map[[4]int]api.Unit{}}
			for at, unit := range from.links {
				for i, size := range f.Sizes {
					at[i] = wrapped(at[i]+remainder(by[i], size), size)
				}
				to.links[at] = unit
			}
			g, e := torus.Shift(f, by)
			if !equal(g, to.field()) || e != api.OK {
				t.Fatal("Shift", f, by, g, e)
			}
			scribble(g)
			check()
		}
	}
}

// P2.5
func TestShiftThereAndBack(t *testing.T) {
	for _, f := range someFields() {
		for _, by := range [][3]int{{1, 2, 3}, {-1, 0, 7}, {greatest, -greatest, 5}} {
			there, _ := torus.Shift(f, by)
			back, e := torus.Shift(there, [3]int{-by[0], -by[1], -by[2]})
			if !equal(back, f) || e != api.OK {
				t.Error("Shift and back", f.Sizes, by, e)
			}
		}
		round, e := torus.Shift(f, f.Sizes)
		if !equal(round, f) || e != api.OK {
			t.Error("Shift round", f.Sizes, e)
		}
	}
}

// P2.5
func TestShiftExample(t *testing.T) {
	f, _ := torus.FromNumbers([3]int{3, 1, 1}, []int{0, 1, 2, 3, 4, 5, 6, 7, 8})
	for _, x := range []struct {
		by   [3]int
		want []int
	}{
		{[3]int{}, []int{0, 1, 2, 3, 4, 5, 6, 7, 8}},
		{[3]int{1, 0, 0}, []int{6, 7, 8, 0, 1, 2, 3, 4, 5}},
		{[3]int{-1, 9, -9}, []int{3, 4, 5, 6, 7, 8, 0, 1, 2}},
		{[3]int{2, 0, 0}, []int{3, 4, 5, 6, 7, 8, 0, 1, 2}},
	} {
		g, e := torus.Shift(f, x.by)
		if numbers, _ := torus.Numbers(g); !slices.Equal(numbers, x.want) || e != api.OK {
			t.Error("Shift", x.by, numbers, e)
		}
	}
}

// P2.5
func TestTurn(t *testing.T) {
	for _, f := range someFields() {
		check := untouched(t, f)
		from := latticeOf(f)
		to := lattice{[3]int{f.Sizes[1], f.Sizes[2], f.Sizes[0]}, map[[4]int]api.Unit{}}
		for a := range to.sizes[0] {
			for b := range to.sizes[1] {
				for c := range to.sizes[2] {
					for d := range 3 {
						to.links[[4]int{a, b, c, d}] = from.links[[4]int{c, a, b, (d + 1) % 3}]
					}
				}
			}
		}
		g, e := torus.Turn(f)
		if !equal(g, to.field()) || e != api.OK {
			t.Fatal("Turn", f, g, e)
		}
		second, _ := torus.Turn(g)
		third, e := torus.Turn(second)
		if !equal(third, f) || e != api.OK {
			t.Error("three turns of", f, third, e)
		}
		for _, x := range []api.Field{g, second, third} {
			scribble(x)
		}
		check()
	}
}

// P2.5
func TestTurnExamples(t *testing.T) {
	f, _ := torus.FromNumbers([3]int{1, 1, 1}, []int{2, 4, 6})
	g, e := torus.Turn(f)
	if numbers, _ := torus.Numbers(g); !slices.Equal(numbers, []int{4, 6, 2}) || e != api.OK {
		t.Error("Turn", numbers, e)
	}
	f, _ = torus.FromNumbers([3]int{2, 1, 3}, []int{0, 1, 2, 3, 4, 5, 6, 7, 8, 9, 10, 11, 12, 13, 14, 15, 16, 17})
	g, e = torus.Turn(f)
	want := []int{1, 2, 0, 7, 8, 6, 13, 14, 12, 4, 5, 3, 10, 11, 9, 16, 17, 15}
	if numbers, _ := torus.Numbers(g); g.Sizes != [3]int{1, 3, 2} || !slices.Equal(numbers, want) || e != api.OK {
		t.Error("Turn", g.Sizes, numbers, e)
	}
}
