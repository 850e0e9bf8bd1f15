package gauge_test

import (
	"slices"
	"testing"

	"plaquette/api"
	"plaquette/gauge"
	"plaquette/torus"
)

// P4.2
func TestTreeExamples(t *testing.T) {
	for _, x := range []struct {
		sizes [3]int
		want  []int
	}{
		{[3]int{1, 1, 1}, nil},
		{[3]int{2, 1, 1}, []int{0}},
		{[3]int{1, 2, 1}, []int{1}},
		{[3]int{1, 1, 2}, []int{2}},
		{[3]int{4, 1, 1}, []int{0, 3, 6}},
		{[3]int{1, 4, 1}, []int{1, 4, 7}},
		{[3]int{1, 1, 4}, []int{2, 5, 8}},
		{[3]int{2, 2, 1}, []int{0, 1, 4}},
		{[3]int{2, 1, 2}, []int{0, 2, 5}},
		{[3]int{1, 2, 2}, []int{1, 2, 5}},
		{[3]int{3, 2, 1}, []int{0, 1, 3, 4, 7}},
		{[3]int{2, 2, 2}, []int{0, 1, 2, 4, 5, 8, 11}},
		{[3]int{3, 3, 1}, []int{0, 1, 3, 4, 10, 7, 13, 16}},
	} {
		if l, e := gauge.Tree(x.sizes); !slices.Equal(l, x.want) || e != api.OK {
			t.Error("Tree", x.sizes, l, e, "want", x.want)
		}
	}
}

// P4.2, R3
func TestTree(t *testing.T) {
	for _, sizes := range validSizes() {
		want := treeOf(sizes)
		l, e := gauge.Tree(sizes)
		if !slices.Equal(l, want) || e != api.OK {
			t.Error("Tree", sizes, l, e, "want", want)
		}
		clear(l)
		if l, _ = gauge.Tree(sizes); !slices.Equal(l, want) {
			t.Error("Tree shares its memory with an earlier one", sizes)
		}
	}
	for _, sizes := range badSizes() {
		l, e := gauge.Tree(sizes)
		refused(t, "Tree", l, e, api.ErrArg)
	}
}

// someSmall returns small fields for the sizes of each torus.
func someSmall(state uint64) []api.Field {
	d := dice{state}
	all := units(2)
	var l []api.Field
	for _, sizes := range validSizes() {
		for range 8 {
			l = append(l, d.field(sizes, all))
		}
		l = append(l, cold(sizes, nil), d.field(sizes, []api.Unit{one, minus}), d.field(sizes, []api.Unit{i, j, k}))
	}
	return l
}

// P4.2
func TestBranchesAndLoops(t *testing.T) {
	for _, f := range someSmall(21) {
		check := untouched(t, f)
		want := branchesOf(t, f)
		branches, e := gauge.Branches(f)
		if !slices.Equal(branches, want) || e != api.OK {
			t.Error("Branches", f, branches, e, "want", want)
		}
		scribble(branches)
		check()
		want = loopsOf(t, f)
		loops, e := gauge.Loops(f)
		if !slices.Equal(loops, want) || e != api.OK {
			t.Error("Loops", f, loops, e, "want", want)
		}
		scribble(loops)
		check()
	}
}

// P4.2: the loop of a link is the unit along a closed path from the site 0.
func TestLoopsExamples(t *testing.T) {
	point, _ := torus.FromNumbers([3]int{1, 1, 1}, []int{2, 8, 5})
	if l, e := gauge.Loops(point); !slices.Equal(l, point.Links) || e != api.OK {
		t.Error("Loops", l, e)
	}
	if l, e := gauge.Branches(point); !slices.Equal(l, []api.Unit{one}) || e != api.OK {
		t.Error("Branches", l, e)
	}
	// The links of the tree are 1 (i) and 2 (j), and 5 (k).
	f := cold([3]int{1, 2, 2}, map[int]api.Unit{1: i, 2: j, 5: k})
	if l, e := gauge.Branches(f); !slices.Equal(l, []api.Unit{one, i, j, opposite(j)}) || e != api.OK {
		t.Error("Branches: 1, i, j, ik", l, e)
	}
	want := []api.Unit{one, one, i, one, minus, j, one, minus, opposite(k)}
	if l, e := gauge.Loops(f); !slices.Equal(l, want) || e != api.OK {
		t.Error("Loops", l, e, "want", want)
	}
}

// P4.2
func TestFix(t *testing.T) {
	for _, f := range someSmall(22) {
		check := untouched(t, f)
		want, _ := carried(t, f, branchesOf(t, f))
		fixed, e := gauge.Fix(f)
		if !equal(fixed, want) || e != api.OK {
			t.Error("Fix", f, fixed, e, "want", want)
		}
		checkFixed(t, f, fixed)
		scribble(fixed.Links)
		check()
	}
}

// checkFixed checks that the links in the tree are 1, that the others are their loops, and that to fix again changes nothing.
func checkFixed(t *testing.T, f, fixed api.Field) {
	t.Helper()
	tree, loops := treeOf(f.Sizes), loopsOf(t, f)
	for number, link := range fixed.Links {
		want := one
		if !slices.Contains(tree, number) {
			want, loops = loops[0], loops[1:]
		}
		if link != want {
			t.Error("Fix", f, number, link, "want", want)
		}
	}
	before, _ := gauge.Loops(f)
	if after, e := gauge.Loops(fixed); !slices.Equal(after, before) || e != api.OK {
		t.Error("Loops of Fix", f, after, e)
	}
	if again, e := gauge.Fix(fixed); !equal(again, fixed) || e != api.OK {
		t.Error("Fix of Fix", f, again, e)
	}
	if is, e := torus.IsSmall(fixed); !is || e != api.OK {
		t.Error("Fix is not small", f, e)
	}
}

// P4.2: Fix of a transformed field is Fix of it, transformed by one unit everywhere: that of the site 0.
func TestFixOfTransformed(t *testing.T) {
	d := dice{23}
	for _, f := range someSmall(24) {
		g := d.draw(count(f.Sizes), units(2))
		moved, _ := gauge.Transform(f, g)
		got, e := gauge.Fix(moved)
		fixed, _ := gauge.Fix(f)
		by, _ := gauge.Spread(f, g[0])
		want, _ := gauge.Transform(fixed, by)
		if !equal(got, want) || e != api.OK {
			t.Error("Fix of a transformed field", f, g, got, e, "want", want)
		}
	}
}
