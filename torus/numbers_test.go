package torus_test

import (
	"slices"
	"testing"

	"plaquette/api"
	"plaquette/quat"
	"plaquette/torus"
)

// P2.6
func TestNumbersOfSmallFields(t *testing.T) {
	d := dice{5}
	for _, sizes := range validSizes() {
		numbers := make([]int, 3*sizes[0]*sizes[1]*sizes[2])
		want := api.Field{Sizes: sizes}
		for i := range numbers {
			numbers[i] = d.below(24)
			unit, _ := quat.Small(numbers[i])
			want.Links = append(want.Links, unit)
		}
		before := slices.Clone(numbers)
		f, e := torus.FromNumbers(sizes, numbers)
		if !equal(f, want) || e != api.OK {
			t.Error("FromNumbers", sizes, numbers, f, e)
		}
		check := untouched(t, f)
		if is, e := torus.IsSmall(f); !is || e != api.OK {
			t.Error("IsSmall", f, is, e)
		}
		back, e := torus.Numbers(f)
		if !slices.Equal(back, numbers) || e != api.OK {
			t.Error("Numbers", f, back, e)
		}
		clear(back)
		check()
		scribble(f)
		if !slices.Equal(before, numbers) {
			t.Error("numbers were changed", before, numbers)
		}
	}
}

// P2.6
func TestAllNumbers(t *testing.T) {
	numbers := make([]int, 24)
	for i := range numbers {
		numbers[i] = 23 - i
	}
	f, e := torus.FromNumbers([3]int{2, 2, 2}, numbers)
	if e != api.OK || f.Links[0] != u(-1, -1, -1, -1, 2) || f.Links[15] != u(1, 1, 1, 1, 2) || f.Links[16] != u(0, 0, 0, -1, 1) || f.Links[23] != one {
		t.Error("FromNumbers", f, e)
	}
	if back, e := torus.Numbers(f); !slices.Equal(back, numbers) || e != api.OK {
		t.Error("Numbers", back, e)
	}
}

// P2.6: one link that is not small is enough, wherever it is.
func TestNotSmall(t *testing.T) {
	d := dice{6}
	for _, sizes := range validSizes() {
		f := d.small(sizes)
		for i := range f.Links {
			for _, other := range []api.Unit{atLimit, u(0, 3, 4, 0, 5), u(1, 2, 2, 0, 3), u(0, -3, 0, 4, 5)} {
				g := cloned(f)
				g.Links[i] = other
				if is, e := torus.IsSmall(g); is || e != api.OK {
					t.Error("IsSmall", g, is, e)
				}
				numbers, e := torus.Numbers(g)
				refused(t, "Numbers", numbers, e, api.ErrSmall)
			}
		}
	}
	for _, x := range linkUnits() {
		f := api.Field{Sizes: [3]int{1, 1, 1}, Links: []api.Unit{one, one, x}}
		if is, e := torus.IsSmall(f); is != (x.N <= 2) || e != api.OK {
			t.Error("IsSmall", f, is, e)
		}
	}
}

// P2.6
func TestBadNumbers(t *testing.T) {
	for _, sizes := range validSizes() {
		n := 3 * sizes[0] * sizes[1] * sizes[2]
		for _, length := range []int{0, 1, n / 3, n - 1, n + 1, 2 * n} {
			if length == n {
				continue
			}
			f, e := torus.FromNumbers(sizes, make([]int, length))
			refused(t, "FromNumbers", f, e, api.ErrArg)
		}
		for at := range n {
			for _, number := range []int{-1, 24, 25, least, greatest, 1 << 32} {
				numbers := make([]int, n)
				numbers[at] = number
				f, e := torus.FromNumbers(sizes, numbers)
				refused(t, "FromNumbers", f, e, api.ErrArg)
			}
		}
	}
	for _, none := range [][]int{nil, {}} {
		f, e := torus.FromNumbers([3]int{1, 1, 1}, none)
		refused(t, "FromNumbers", f, e, api.ErrArg)
	}
}
