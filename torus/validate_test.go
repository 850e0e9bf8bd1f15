package torus_test

import (
	"slices"
	"testing"

	"plaquette/api"
	"plaquette/quat"
	"plaquette/torus"
)

// P2.1
func TestValidateSizes(t *testing.T) {
	for x := -2; x <= 17; x++ {
		for y := -2; y <= 17; y++ {
			for z := -2; z <= 17; z++ {
				sizes := [3]int{x, y, z}
				want := api.ErrArg
				if slices.Contains(validSizes(), sizes) {
					want = api.OK
				}
				if e := torus.ValidateSizes(sizes); e != want {
					t.Error("ValidateSizes", sizes, e)
				}
			}
		}
	}
	for _, sizes := range badSizes() {
		if e := torus.ValidateSizes(sizes); e != api.ErrArg {
			t.Error("ValidateSizes", sizes, e)
		}
	}
}

// P2.1: both sides of MaxSize and of MaxSites.
func TestValidateSizesLimits(t *testing.T) {
	for _, x := range []struct {
		sizes [3]int
		want  api.Errno
	}{
		{[3]int{1, 1, 1}, api.OK}, {[3]int{4, 4, 1}, api.OK}, {[3]int{1, 4, 4}, api.OK}, {[3]int{4, 1, 4}, api.OK},
		{[3]int{4, 2, 2}, api.OK}, {[3]int{2, 3, 2}, api.OK}, {[3]int{3, 3, 1}, api.OK},
		{[3]int{3, 3, 2}, api.ErrArg}, {[3]int{4, 4, 2}, api.ErrArg}, {[3]int{2, 3, 3}, api.ErrArg}, {[3]int{5, 1, 1}, api.ErrArg},
		{[3]int{1, 0, 1}, api.ErrArg}, {[3]int{16, 1, 1}, api.ErrArg}, {[3]int{-4, -4, 1}, api.ErrArg},
	} {
		if e := torus.ValidateSizes(x.sizes); e != x.want {
			t.Error("ValidateSizes", x.sizes, e)
		}
	}
}

// P2.1, R2, R3
func TestFunctionsOfSizes(t *testing.T) {
	for _, x := range sizesCalls {
		for _, sizes := range badSizes() {
			r, e := x.call(sizes)
			refused(t, x.name, r, e, api.ErrArg)
		}
	}
}

// P2.1
func TestValidateAcceptsLinks(t *testing.T) {
	for _, f := range someFields() {
		if e := torus.Validate(f); e != api.OK {
			t.Error("Validate", f, e)
		}
	}
	for _, x := range linkUnits() {
		f := api.Field{Sizes: [3]int{1, 1, 1}, Links: []api.Unit{x, one, x}}
		if e := torus.Validate(f); e != api.OK {
			t.Error("Validate", f, e)
		}
	}
}

// badFields returns fields with the error that the document requires.
func badFields() map[api.Errno][]api.Field {
	l := map[api.Errno][]api.Field{}
	add := func(want api.Errno, f api.Field) { l[want] = append(l[want], f) }
	good := someFields()
	for _, f := range good {
		for _, sizes := range badSizes() {
			add(api.ErrArg, api.Field{Sizes: sizes, Links: f.Links})
		}
		for _, n := range []int{0, 1, len(f.Links) / 3, len(f.Links) - 1} {
			add(api.ErrArg, api.Field{Sizes: f.Sizes, Links: f.Links[:n]})
		}
		add(api.ErrArg, api.Field{Sizes: f.Sizes, Links: append(slices.Clone(f.Links), one)})
		add(api.ErrArg, api.Field{Sizes: f.Sizes, Links: append(slices.Clone(f.Links), f.Links...)})
		for i := range f.Links {
			g := cloned(f)
			g.Links[i] = beyond
			add(api.ErrLarge, g)
			g = cloned(f)
			g.Links[i] = notValid
			add(api.ErrArg, g)
		}
	}
	for _, bad := range badUnits() {
		add(api.ErrArg, api.Field{Sizes: [3]int{1, 1, 1}, Links: []api.Unit{one, bad, one}})
	}
	add(api.ErrArg, api.Field{})
	add(api.ErrArg, api.Field{Sizes: [3]int{1, 1, 1}})
	// The links one by one: the first one with an error decides.
	add(api.ErrLarge, api.Field{Sizes: [3]int{1, 1, 1}, Links: []api.Unit{one, beyond, notValid}})
	add(api.ErrArg, api.Field{Sizes: [3]int{1, 1, 1}, Links: []api.Unit{one, notValid, beyond}})
	// The sizes come before the number of links, and this one before the links.
	add(api.ErrArg, api.Field{Sizes: [3]int{1, 1, 5}, Links: []api.Unit{beyond, beyond, beyond}})
	add(api.ErrArg, api.Field{Sizes: [3]int{1, 1, 1}, Links: []api.Unit{beyond, beyond}})
	add(api.ErrArg, api.Field{Sizes: [3]int{1, 1, 1}, Links: []api.Unit{beyond, one, one, one}})
	add(api.ErrArg, api.Field{Sizes: [3]int{2, 1, 1}, Links: []api.Unit{beyond, one, one}})
	return l
}

// P2.1, R2, R3
func TestBadFields(t *testing.T) {
	for want, l := range badFields() {
		for _, f := range l {
			if e := torus.Validate(f); e != want {
				t.Error("Validate", f, e, "want", want)
			}
			for _, x := range fieldCalls {
				r, e := x.call(f)
				refused(t, x.name, r, e, want)
			}
		}
	}
}

// P2.1: MaxLink, for links and for the unit of Put.
func TestLinkLimit(t *testing.T) {
	for _, x := range []struct {
		unit api.Unit
		want api.Errno
	}{
		{atLimit, api.OK}, {u(3, 4, 0, 0, 5), api.OK}, {beyond, api.ErrLarge}, {u(2, 4, 5, 2, 7), api.ErrLarge},
		{u(1040393, 2044, 22484, 128772, 1048575), api.ErrLarge}, {u(6, 8, 0, 0, 10), api.ErrArg}, {notValid, api.ErrArg},
	} {
		f := api.Field{Sizes: [3]int{1, 1, 1}, Links: []api.Unit{one, one, x.unit}}
		if e := torus.Validate(f); e != x.want {
			t.Error("Validate", f, e)
		}
		cold, _ := torus.Cold([3]int{1, 1, 1})
		if _, e := torus.Put(cold, 0, 2, x.unit); e != x.want {
			t.Error("Put", x.unit, e)
		}
	}
}

// P2.1: a number that is no site, whatever comes behind it.
func TestNoSite(t *testing.T) {
	for _, f := range someFields() {
		n := len(f.Links) / 3
		for _, site := range []int{-1, n, n + 1, -n, 3*n - 1, least, greatest} {
			place, e := torus.Place(f.Sizes, site)
			refused(t, "Place", place, e, api.ErrNone)
			for _, step := range []int{1, 0, 4, least} {
				next, e := torus.Next(f.Sizes, site, step)
				refused(t, "Next", next, e, api.ErrNone)
			}
			for _, path := range [][]int{nil, {1}, {0}, {least}, make([]int, 9)} {
				sites, e := torus.Walk(f.Sizes, site, path)
				refused(t, "Walk", sites, e, api.ErrNone)
				is, e := torus.IsClosed(f.Sizes, site, path)
				refused(t, "IsClosed", is, e, api.ErrNone)
				unit, e := torus.Along(f, site, path)
				refused(t, "Along", unit, e, api.ErrNone)
			}
			for _, dir := range []int{0, 2, 3, -1} {
				unit, e := torus.Get(f, site, dir)
				refused(t, "Get", unit, e, api.ErrNone)
				for _, unit := range []api.Unit{one, beyond, notValid} {
					g, e := torus.Put(f, site, dir, unit)
					refused(t, "Put", g, e, api.ErrNone)
				}
			}
		}
	}
}

// P2.1: both sides of MaxPath, and that it comes before the steps.
func TestBadPaths(t *testing.T) {
	f := someFields()[5]
	ones := []int{1, 1, 1, 1, 1, 1, 1, 1, 1}
	tooLong := [][]int{ones, make([]int, 9), make([]int, 100), slices.Repeat([]int{1, -1}, 10), append([]int{least}, ones...)}
	noSteps := [][]int{{0}, {4}, {-4}, {least}, {greatest}, {1, 0}, {0, 1}, {1, 2, 3, -1, -2, -3, 1, 4}, make([]int, 8), {1<<32 + 1}}
	for want, l := range map[api.Errno][][]int{api.ErrLarge: tooLong, api.ErrArg: noSteps, api.OK: {ones[:8], nil, {}}} {
		for _, path := range l {
			before := slices.Clone(path)
			sites, e1 := torus.Walk(f.Sizes, 0, path)
			is, e2 := torus.IsClosed(f.Sizes, 0, path)
			unit, e3 := torus.Along(f, 0, path)
			back, e4 := torus.Back(path)
			reduced, e5 := torus.Reduce(path)
			if want == api.OK {
				if e1|e2|e3|e4|e5 != api.OK {
					t.Error(path, e1, e2, e3, e4, e5)
				}
				continue
			}
			refused(t, "Walk", sites, e1, want)
			refused(t, "IsClosed", is, e2, want)
			refused(t, "Along", unit, e3, want)
			refused(t, "Back", back, e4, want)
			refused(t, "Reduce", reduced, e5, want)
			if !slices.Equal(before, path) {
				t.Error("a path was changed", before, path)
			}
		}
	}
}

// P2.1: a direction comes before a unit.
func TestBadDirections(t *testing.T) {
	for _, f := range someFields() {
		for _, dir := range []int{-1, 3, -3, least, greatest} {
			unit, e := torus.Get(f, 0, dir)
			refused(t, "Get", unit, e, api.ErrArg)
			for _, unit := range []api.Unit{one, beyond, notValid} {
				g, e := torus.Put(f, 0, dir, unit)
				refused(t, "Put", g, e, api.ErrArg)
			}
		}
	}
}

// P2.1
func TestPutBadUnits(t *testing.T) {
	for _, f := range someFields() {
		check := untouched(t, f)
		for _, bad := range badUnits() {
			g, e := torus.Put(f, 0, 0, bad)
			refused(t, "Put", g, e, quat.Validate(bad))
		}
		g, e := torus.Put(f, 0, 2, beyond)
		refused(t, "Put", g, e, api.ErrLarge)
		check()
	}
}
