package fermi_test

import (
	"slices"
	"testing"

	"plaquette/api"
	"plaquette/fermi"
)

// call is a function with a field, and which of the other arguments it takes: a mass, a vector v, and a vector w that may have to be a source.
type call struct {
	name               string
	mass, v, w, source bool
	of                 func(f api.Field, mass int, v, w []api.Spin) ([]any, api.Errno)
}

func calls() []call {
	return []call{
		{"Validate", false, true, false, false, func(f api.Field, mass int, v, w []api.Spin) ([]any, api.Errno) {
			return nil, fermi.Validate(f, v)
		}},
		{"Hop", false, true, false, false, func(f api.Field, mass int, v, w []api.Spin) ([]any, api.Errno) {
			l, e := fermi.Hop(f, v)
			return []any{l}, e
		}},
		{"Apply", true, true, false, false, func(f api.Field, mass int, v, w []api.Spin) ([]any, api.Errno) {
			l, e := fermi.Apply(f, mass, v)
			return []any{l}, e
		}},
		{"Dagger", true, true, false, false, func(f api.Field, mass int, v, w []api.Spin) ([]any, api.Errno) {
			l, e := fermi.Dagger(f, mass, v)
			return []any{l}, e
		}},
		{"Twice", true, true, false, false, func(f api.Field, mass int, v, w []api.Spin) ([]any, api.Errno) {
			l, e := fermi.Twice(f, mass, v)
			return []any{l}, e
		}},
		{"Dot", false, true, true, false, func(f api.Field, mass int, v, w []api.Spin) ([]any, api.Errno) {
			n, e := fermi.Dot(f, v, w)
			return []any{n}, e
		}},
		{"Turned", false, true, false, false, func(f api.Field, mass int, v, w []api.Spin) ([]any, api.Errno) {
			l, e := fermi.Turned(f, slices.Repeat([]api.Unit{one}, len(f.Links)/3), v)
			return []any{l}, e
		}},
		{"Residual", true, true, true, true, func(f api.Field, mass int, v, w []api.Spin) ([]any, api.Errno) {
			l, n, e := fermi.Residual(f, mass, v, w)
			return []any{l, n}, e
		}},
		{"Check", true, true, true, true, func(f api.Field, mass int, v, w []api.Spin) ([]any, api.Errno) {
			return nil, fermi.Check(f, mass, v, w)
		}},
		{"Bound", true, true, true, true, func(f api.Field, mass int, v, w []api.Spin) ([]any, api.Errno) {
			r, e := fermi.Bound(f, mass, v, w)
			return []any{r}, e
		}},
		{"Solve", true, false, true, true, func(f api.Field, mass int, v, w []api.Spin) ([]any, api.Errno) {
			l, e := fermi.Solve(f, mass, w)
			return []any{l}, e
		}},
	}
}

// badFields returns fields with the error that the document requires.
func badFields(t *testing.T) map[api.Errno][]api.Field {
	l := map[api.Errno][]api.Field{}
	add := func(want api.Errno, sizes [3]int, links ...api.Unit) {
		l[want] = append(l[want], api.Field{Sizes: sizes, Links: links})
	}
	unit := [3]int{1, 1, 1}
	for _, sizes := range badSizes() {
		add(api.ErrArg, sizes, one, one, one)
		add(api.ErrArg, sizes, rough, beyond, notValid)
		add(api.ErrArg, sizes)
	}
	for _, sizes := range validSizes() {
		f := cold(t, sizes)
		for _, n := range []int{0, 1, len(f.Links) - 1} {
			add(api.ErrArg, sizes, f.Links[:n]...)
		}
		add(api.ErrArg, sizes, append(cloned(f).Links, one)...)
		for number := range f.Links {
			for want, link := range map[api.Errno]api.Unit{api.ErrLarge: beyond, api.ErrArg: notValid, api.ErrSmall: rough} {
				g := cloned(f)
				g.Links[number] = link
				add(want, sizes, g.Links...)
			}
		}
	}
	for _, bad := range []api.Unit{{}, u(2, 0, 0, 0, 2), u(1, 0, 0, 0, 0), u(-1, 0, 0, 0, -1), u(1, 0, 0, 0, least), u(least, least, least, least, least)} {
		add(api.ErrArg, unit, rough, bad, one)
	}
	add(api.ErrSmall, unit, atLimit, one, one)
	add(api.ErrSmall, unit, one, one, u(3, 4, 0, 0, 5))
	add(api.ErrLarge, unit, one, rough, beyond)
	add(api.ErrLarge, unit, one, beyond, notValid)
	add(api.ErrArg, unit, rough, notValid, beyond)
	return l
}

// badVectors returns vectors that are none of a torus with so many sites, for a limit of the entries.
func badVectors(sites, most int) [][]api.Spin {
	l := [][]api.Spin{nil, {}, filled(sites-1, 0), filled(sites+1, 0), filled(3*sites, 0)}
	for _, n := range append(outside(-most, most), 1<<62) {
		for _, site := range []int{0, sites / 2, sites - 1} {
			for at := range 4 {
				v := filled(sites, 1)
				v[site][at] = n
				l = append(l, v)
			}
		}
	}
	return l
}

// P7.1, P7.2, P7.3, P7.4, R2, R3: the error of a field comes before those of vectors, mass and source.
func TestBadFields(t *testing.T) {
	for want, l := range badFields(t) {
		for _, f := range l {
			for _, v := range [][]api.Spin{filled(len(f.Links)/3, 1), nil, {{api.MaxEntry + 1}}} {
				for _, mass := range []int{1, 0} {
					for _, c := range calls() {
						results, e := c.of(f, mass, v, v)
						refused(t, c.name, e, want, results...)
					}
				}
			}
		}
	}
}

// P7.1, P7.2, P7.3, P7.4: one quaternion for each site, with entries within their limit. The other arguments are right, or so that a residual is too large.
func TestBadVectors(t *testing.T) {
	d := dice{61}
	for _, sizes := range [][3]int{{1, 1, 1}, {2, 1, 1}, {4, 2, 2}} {
		f, sites := d.field(t, sizes), sitesOf(sizes)
		for _, good := range [][]api.Spin{filled(sites, 0), filled(sites, api.MaxEntry)} {
			for _, bad := range badVectors(sites, api.MaxEntry) {
				for _, c := range calls() {
					if c.v {
						results, e := c.of(f, 10, bad, filled(sites, 1))
						refused(t, c.name, e, api.ErrArg, results...)
					}
					if c.w {
						results, e := c.of(f, 10, good, bad)
						refused(t, c.name, e, api.ErrArg, results...)
					}
				}
			}
		}
	}
}

// P7.4: a source has entries of at most MaxSource, also where a residual is too large. Other vectors may have larger ones.
func TestBadSources(t *testing.T) {
	d := dice{62}
	for _, sizes := range [][3]int{{1, 1, 1}, {1, 2, 1}, {4, 2, 2}} {
		f, sites := d.field(t, sizes), sitesOf(sizes)
		bad := append(badVectors(sites, api.MaxSource), filled(sites, api.MaxEntry), filled(sites, -api.MaxEntry))
		for _, v := range [][]api.Spin{filled(sites, 0), filled(sites, api.MaxEntry)} {
			for _, c := range calls() {
				for _, b := range bad {
					if c.source {
						results, e := c.of(f, 10, v, b)
						refused(t, c.name, e, api.ErrArg, results...)
					}
				}
				if _, e := c.of(f, 1, filled(sites, 0), filled(sites, api.MaxSource)); e != api.OK && c.name != "Check" {
					t.Error(c.name, "with a source at its limit", e)
				}
				if _, e := c.of(f, 1, filled(sites, 0), filled(sites, -api.MaxEntry)); e != api.OK && !c.source {
					t.Error(c.name, "with a vector at its limit", e)
				}
			}
		}
	}
}

// P7.1, P7.4: both ends of the masses. A mass that is none comes before a residual that is too large.
func TestBadMasses(t *testing.T) {
	d := dice{63}
	for _, sizes := range [][3]int{{1, 1, 1}, {1, 2, 2}} {
		f, sites := d.field(t, sizes), sitesOf(sizes)
		for _, c := range calls() {
			if !c.mass {
				continue
			}
			for _, mass := range outside(1, 10) {
				for _, v := range [][]api.Spin{filled(sites, 0), filled(sites, api.MaxEntry)} {
					results, e := c.of(f, mass, v, filled(sites, 1))
					refused(t, c.name, e, api.ErrArg, results...)
				}
			}
			for _, mass := range []int{1, 10} {
				if _, e := c.of(f, mass, filled(sites, 0), filled(sites, 1)); e != api.OK {
					t.Error(c.name, mass, e)
				}
			}
		}
	}
}

// P7.1: what is right has no error, up to the limits of the entries.
func TestValidate(t *testing.T) {
	d := dice{64}
	for _, sizes := range validSizes() {
		f, sites := d.field(t, sizes), sitesOf(sizes)
		for _, v := range [][]api.Spin{d.vector(sites, 9), d.ends(sites, api.MaxEntry), filled(sites, api.MaxEntry), filled(sites, -api.MaxEntry), filled(sites, 0)} {
			check := untouched(t, f, v)
			if e := fermi.Validate(f, v); e != api.OK {
				t.Error("Validate", f, v, e)
			}
			check()
		}
	}
}

// R11: the same call has the same results.
func TestEqualCalls(t *testing.T) {
	d := dice{65}
	f := d.field(t, [3]int{2, 2, 2})
	v, b := d.vector(8, 1000), d.vector(8, api.MaxSource)
	for _, c := range calls() {
		first, e := c.of(f, 3, v, b)
		second, g := c.of(cloned(f), 3, slices.Clone(v), slices.Clone(b))
		if e != g || len(first) != len(second) {
			t.Error(c.name, e, g)
		}
		for at := range first {
			l, is := first[at].([]api.Spin)
			if is && !slices.Equal(l, second[at].([]api.Spin)) || !is && first[at] != second[at] {
				t.Error(c.name, first[at], second[at])
			}
		}
	}
}
