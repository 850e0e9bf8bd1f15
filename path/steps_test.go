package path_test

import (
	"slices"
	"testing"

	"plaquette/api"
	"plaquette/path"
	"plaquette/torus"
)

// reaches checks what a function made of a point: the right field and momenta, in memory of their own.
func reaches(t *testing.T, name string, want point, f api.Field, p []api.Kick, e api.Errno) {
	t.Helper()
	if !equal(f, want.field()) || !slices.Equal(p, want.momenta) || e != api.OK {
		t.Error(name, f, p, e, "want", want.field(), want.momenta)
	}
	if is, e := torus.IsSmall(f); !is || e != api.OK {
		t.Error(name, "does not lead to a small field", f, e)
	}
}

// P6.2: all links of fields of all sizes.
func TestForce(t *testing.T) {
	d := dice{71}
	for _, sizes := range validSizes() {
		for range 5 {
			x := d.point(sizes)
			f := x.field()
			check := untouched(t, f, nil)
			for link := range f.Links {
				if got, e := path.Force(f, link); got != x.force(link) || e != api.OK {
					t.Error("Force", f, link, got, e, "want", x.force(link))
				}
			}
			check()
		}
	}
}

// P6.2: all values of two links, of which the third is 1.
func TestForceOfTwoLinks(t *testing.T) {
	for a := range 24 {
		for b := range 24 {
			x := pointOf([3]int{1, 1, 1}, []int{a, b, 0}, nil)
			for link := range 3 {
				if got, e := path.Force(x.field(), link); got != x.force(link) || e != api.OK {
					t.Error("Force", a, b, link, got, e, "want", x.force(link))
				}
			}
		}
	}
}

// P6.2
func TestForceExamples(t *testing.T) {
	unit, row := [3]int{1, 1, 1}, [3]int{2, 1, 1}
	for _, x := range []struct {
		f    api.Field
		link int
		want [3]int
	}{
		{fieldOf(t, unit, 0, 0, 0), 2, [3]int{}},
		{fieldOf(t, unit, 2, 4, 6), 1, [3]int{}}, // all plaquettes are -1
		{fieldOf(t, unit, 2, 8, 0), 0, [3]int{0, 2, -2}},
		{fieldOf(t, unit, 2, 8, 0), 2, [3]int{}},
		{fieldOf(t, unit, 2, 8, 8), 0, [3]int{0, 4, -4}}, // the same for each of the other directions
		{fieldOf(t, row, 0, 2, 0, 0, 0, 0), 0, [3]int{}}, // -i there and i on the other side
		{fieldOf(t, row, 0, 2, 0, 0, 0, 0), 1, [3]int{4, 0, 0}},
		{fieldOf(t, row, 0, 2, 0, 0, 0, 0), 4, [3]int{-4, 0, 0}},
		{fieldOf(t, row, 2, 0, 0, 0, 0, 0), 0, [3]int{}}, // the paths come back along the same link
	} {
		if got, e := path.Force(x.f, x.link); got != x.want || e != api.OK {
			t.Error("Force", x.f, x.link, got, e, "want", x.want)
		}
	}
}

// P6.2
func TestForceOfNoLink(t *testing.T) {
	d := dice{72}
	for _, sizes := range validSizes() {
		f := d.point(sizes).field()
		for _, link := range outside(0, len(f.Links)-1) {
			got, e := path.Force(f, link)
			refused(t, "Force", e, api.ErrNone, got)
		}
	}
}

// P6.2, S1: what a step does, and the step.
func TestPushDriftStep(t *testing.T) {
	d := dice{73}
	for _, sizes := range validSizes() {
		for range 5 {
			x := d.point(sizes)
			f, p := x.field(), x.momenta
			check := untouched(t, f, p)
			q, e := path.Push(f, p)
			reaches(t, "Push", x.pushed(), f, q, e)
			g, e := path.Drift(f, p)
			reaches(t, "Drift", x.drifted(), g, p, e)
			h, r, e := path.Step(f, p)
			reaches(t, "Step", x.stepped(), h, r, e)
			scribble(g, q)
			scribble(h, r)
			check()
		}
	}
}

// P6.2: each momentum with some links.
func TestDriftOfAllMomenta(t *testing.T) {
	d := dice{74}
	for _, k := range allKicks() {
		x := d.point([3]int{1, 1, 1})
		x.momenta[1] = k
		g, e := path.Drift(x.field(), x.momenta)
		reaches(t, "Drift", x.drifted(), g, x.momenta, e)
	}
}

// P6.2
func TestPushAndDriftExamples(t *testing.T) {
	unit := [3]int{1, 1, 1}
	cold := fieldOf(t, unit, 0, 0, 0)
	p := []api.Kick{{1, 2, 3}, {4, 5, 6}, {7, 0, 1}}
	if q, e := path.Push(cold, p); !slices.Equal(q, p) || e != api.OK {
		t.Error("Push without a force", q, e)
	}
	// The force on the first link is 0, 2, -2, and none is on the last one.
	q, e := path.Push(fieldOf(t, unit, 2, 8, 0), []api.Kick{{7, 7, 1}, {}, {5, 6, 7}})
	if q[0] != (api.Kick{7, 1, 7}) || q[2] != (api.Kick{5, 6, 7}) || e != api.OK {
		t.Error("Push", q, e)
	}
	// The turner is the left factor: k times i is j.
	g, e := path.Drift(fieldOf(t, unit, 2, 0, 0), []api.Kick{{0, 0, 1}, {1, 7, 3}, {}})
	if !slices.Equal(g.Links, []api.Unit{u(0, 0, 1, 0, 1), u(1, 1, -1, 1, 2), one}) || e != api.OK {
		t.Error("Drift", g, e)
	}
	if h, r, e := path.Step(cold, make([]api.Kick, 3)); !equal(h, cold) || !slices.Equal(r, make([]api.Kick, 3)) || e != api.OK {
		t.Error("Step without momenta in the cold field", h, r, e)
	}
}

// P6.2: as many steps as are asked for, also none and the most.
func TestRun(t *testing.T) {
	d := dice{75}
	for _, sizes := range validSizes() {
		x := d.point(sizes)
		f, p := x.field(), x.momenta
		check := untouched(t, f, p)
		for _, n := range []int{0, 1, 2, 3 + d.below(5)} {
			g, q, e := path.Run(f, p, n)
			reaches(t, "Run", x.behind(n), g, q, e)
			scribble(g, q)
			check()
		}
	}
	for _, sizes := range [][3]int{{1, 1, 1}, {2, 1, 2}} {
		x := d.point(sizes)
		for _, n := range []int{99, 100} {
			g, q, e := path.Run(x.field(), x.momenta, n)
			reaches(t, "Run", x.behind(n), g, q, e)
		}
	}
}

// P6.2, S5: Run, then Reverse, then Run, then Reverse.
func TestThereAndBack(t *testing.T) {
	d := dice{76}
	for _, sizes := range validSizes() {
		for _, n := range []int{0, 1, 2 + d.below(98), 100} {
			x := d.point(sizes)
			f, p := x.field(), x.momenta
			there, q, e := path.Run(f, p, n)
			if e != api.OK {
				t.Fatal("Run", e)
			}
			q, _ = path.Reverse(there, q)
			back, q, e := path.Run(there, q, n)
			if e != api.OK {
				t.Fatal("Run", e)
			}
			q, e = path.Reverse(back, q)
			reaches(t, "there and back", x, back, q, e)
		}
	}
}
