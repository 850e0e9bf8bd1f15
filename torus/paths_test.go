package torus_test

import (
	"slices"
	"testing"

	"plaquette/api"
	"plaquette/torus"
)

// somePaths returns all paths of at most four steps, and some of each greater length.
func somePaths() [][]int {
	l := [][]int{{}}
	for from, steps := 0, 1; steps <= 4; steps++ {
		to := len(l)
		for _, path := range l[from:to] {
			for _, step := range []int{-3, -2, -1, 1, 2, 3} {
				l = append(l, append(slices.Clone(path), step))
			}
		}
		from = to
	}
	d := dice{7}
	for i := range 800 {
		l = append(l, d.path(5+i%4))
	}
	for i := range 400 { // with few kinds of steps, so that much is left out
		path := d.path(5 + i%4)
		for k, step := range path {
			path[k] = (step%2 + 2) * (1 - 2*d.below(2))
		}
		l = append(l, path)
	}
	return l
}

// leftOut returns what is left of a path if opposite steps are left out, each time a pair that is chosen.
func leftOut(path []int, choose func(n int) int) []int {
	for {
		var pairs []int
		for i := 1; i < len(path); i++ {
			if path[i-1]+path[i] == 0 {
				pairs = append(pairs, i-1)
			}
		}
		if len(pairs) == 0 {
			return path
		}
		at := pairs[choose(len(pairs))]
		path = slices.Concat(path[:at], path[at+2:])
	}
}

// P2.3
func TestBack(t *testing.T) {
	for _, path := range somePaths() {
		before := slices.Clone(path)
		back, e := torus.Back(path)
		if e != api.OK || len(back) != len(path) {
			t.Fatal("Back", path, back, e)
		}
		for i, step := range back {
			if step != -path[len(path)-1-i] {
				t.Fatal("Back", path, back)
			}
		}
		clear(back)
		if !slices.Equal(path, before) {
			t.Fatal("a path was changed", before, path)
		}
	}
}

// P2.3: in whatever order steps are left out, the same path is left.
func TestReduce(t *testing.T) {
	d := dice{8}
	for _, path := range somePaths() {
		before := slices.Clone(path)
		reduced, e := torus.Reduce(path)
		if e != api.OK {
			t.Fatal("Reduce", path, e)
		}
		for _, choose := range []func(n int) int{func(int) int { return 0 }, func(n int) int { return n - 1 }, d.below} {
			if want := leftOut(path, choose); !slices.Equal(reduced, want) {
				t.Fatal("Reduce", path, reduced, want)
			}
		}
		clear(reduced)
		if !slices.Equal(path, before) {
			t.Fatal("a path was changed", before, path)
		}
	}
}

// P2.3
func TestReduceExamples(t *testing.T) {
	for _, x := range []struct{ path, want []int }{
		{nil, nil},
		{[]int{}, nil},
		{[]int{2}, []int{2}},
		{[]int{1, -1}, nil},
		{[]int{-1, 1}, nil},
		{[]int{1, 1}, []int{1, 1}},
		{[]int{1, 2, -2, -1, 3}, []int{3}},
		{[]int{1, -1, 1}, []int{1}},
		{[]int{1, -2, -1, 2}, []int{1, -2, -1, 2}},
		{[]int{3, 2, 1, 1, -1, -1, -2, -3}, nil},
		{[]int{1, 2, 3, -3, -2, 2, 3, 1}, []int{1, 2, 3, 1}},
	} {
		if reduced, e := torus.Reduce(x.path); !slices.Equal(reduced, x.want) || e != api.OK {
			t.Error("Reduce", x.path, reduced, e)
		}
	}
}

// P2.3: the end of a path and the unit along it stay.
func TestReduceKeepsEndAndUnit(t *testing.T) {
	d := dice{9}
	fields := someFields()
	for i, path := range somePaths() {
		f := fields[i%len(fields)]
		site := d.below(len(f.Links) / 3)
		reduced, _ := torus.Reduce(path)
		long, _ := torus.Walk(f.Sizes, site, path)
		short, _ := torus.Walk(f.Sizes, site, reduced)
		if long[len(long)-1] != short[len(short)-1] {
			t.Error("the end of", path, "and of", reduced)
		}
		u, _ := torus.Along(f, site, path)
		v, _ := torus.Along(f, site, reduced)
		if u != v {
			t.Error("the unit along", path, "and along", reduced, u, v)
		}
	}
}
