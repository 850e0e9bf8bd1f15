package fermi_test

import (
	"slices"
	"testing"

	"plaquette/api"
	"plaquette/fermi"
)

// solved returns a solution of the program, which Check and the reference accept.
func solved(t *testing.T, f api.Field, mass int, b []api.Spin) []api.Spin {
	t.Helper()
	check := untouched(t, f, b)
	v, e := fermi.Solve(f, mass, b)
	if e != api.OK || len(v) != len(b) {
		t.Fatal("Solve", f, mass, b, v, e)
	}
	if e := fermi.Check(f, mass, v, b); e != api.OK {
		t.Error("a solution is not accepted", f, mass, b, v, e)
	}
	if r := remainder(f, mass, v, b); r.dot(r).Cmp(allowed(f, mass)) > 0 {
		t.Error("the residual of a solution is too large", f, mass, b, v, r)
	}
	check()
	return v
}

// P7.4: all toruses and masses, with sources of each size up to the limit.
func TestSolve(t *testing.T) {
	d := dice{91}
	for _, sizes := range validSizes() {
		sites := sitesOf(sizes)
		for _, f := range []api.Field{d.field(t, sizes), cold(t, sizes)} {
			for mass := 1; mass <= 10; mass++ {
				solved(t, f, mass, d.vector(sites, api.MaxSource))
				solved(t, f, mass, d.ends(sites, api.MaxSource))
			}
			for _, most := range []int{1, 20, 1000} {
				solved(t, f, 1, d.vector(sites, most))
				solved(t, f, 10, d.ends(sites, most))
			}
			point, e := fermi.Point(sizes, d.below(sites), d.below(4))
			if e != api.OK {
				t.Fatal("Point", e)
			}
			solved(t, f, 1, point)
			solved(t, f, 10, filled(sites, -api.MaxSource))
		}
	}
}

// P7.4: the hopping is the greatest that there is, or 0, or both in one field.
func TestSolveExtremes(t *testing.T) {
	d := dice{92}
	for number := range 24 {
		for _, numbers := range [][]int{{number, number, number}, {number, 0, 2}, {2, number, 1}} {
			for mass := 1; mass <= 10; mass++ {
				f := fieldOf(t, [3]int{1, 1, 1}, numbers...)
				solved(t, f, mass, filled(1, api.MaxSource))
				solved(t, f, mass, d.ends(1, api.MaxSource))
			}
		}
	}
	for _, sizes := range [][3]int{{4, 2, 2}, {4, 4, 1}} {
		for _, numbers := range [][]int{{2, 4, 6}, {2, 2, 2}, {8, 8, 23}} {
			f := fieldOf(t, sizes, slices.Repeat(numbers, 16)...)
			for _, mass := range []int{1, 2, 10} {
				solved(t, f, mass, d.ends(16, api.MaxSource))
				solved(t, f, mass, filled(16, api.MaxSource))
			}
		}
	}
}

// P7.4: which solution is free, but the solver says that it comes so near to the exact one that integers are found.
func TestSolveExamples(t *testing.T) {
	for _, sizes := range [][3]int{{1, 1, 1}, {2, 2, 2}, {4, 4, 1}} {
		f, none := cold(t, sizes), make([]api.Spin, sitesOf(sizes))
		if v := solved(t, f, 1, none); !slices.Equal(v, none) {
			t.Error("the solution of the source 0", v)
		}
	}
	f := cold(t, [3]int{1, 1, 1})
	point, _ := fermi.Point(f.Sizes, 0, 2)
	v := solved(t, f, 2, point)
	for at, n := range v[0] {
		// Allowed has the root 48, and the operator is 8 times the vector.
		if want := point[0][at] / 8; n < want-6 || n > want+6 {
			t.Error("the solution of a point", v)
		}
	}
	if v := solved(t, steep(t), 4, []api.Spin{{20000}}); !slices.Equal(v, []api.Spin{{800, -600}}) {
		// (16 + 12i) * (800 - 600i) is 20000.
		t.Error("the solution in a steep field", v)
	}
}

// P7.4, S6: solutions are as near to the exact ones as Bound says.
func TestSolutionsAreNear(t *testing.T) {
	d := dice{93}
	for _, sizes := range [][3]int{{1, 1, 1}, {1, 1, 2}, {3, 1, 1}, {2, 2, 1}, {2, 2, 2}} {
		f := d.field(t, sizes)
		for _, mass := range []int{1, 3, 10} {
			b := d.vector(sitesOf(sizes), api.MaxSource)
			bounded(t, f, mass, solved(t, f, mass, b), b, exact(f, mass, b))
		}
	}
}

// R5, R11: the same call has the same solution, in memory of its own.
func TestSolveTwice(t *testing.T) {
	d := dice{94}
	for _, sizes := range validSizes() {
		f, b := d.field(t, sizes), d.vector(sitesOf(sizes), api.MaxSource)
		v := solved(t, f, 1, b)
		want := slices.Clone(v)
		scribble(v)
		if again := solved(t, cloned(f), 1, slices.Clone(b)); !slices.Equal(again, want) {
			t.Error("another solution", again, want)
		}
	}
}
