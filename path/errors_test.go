package path_test

import (
	"slices"
	"testing"

	"plaquette/api"
	"plaquette/path"
)

// call is a function with a field, whether it takes momenta, and the numbers that its last argument may be: none if from is above to.
type call struct {
	name     string
	momenta  bool
	from, to int
	of       func(f api.Field, p []api.Kick, n int) ([]any, api.Errno)
}

func calls() []call {
	return []call{
		{"Validate", true, 1, 0, func(f api.Field, p []api.Kick, n int) ([]any, api.Errno) {
			return nil, path.Validate(f, p)
		}},
		{"Push", true, 1, 0, func(f api.Field, p []api.Kick, n int) ([]any, api.Errno) {
			q, e := path.Push(f, p)
			return []any{q}, e
		}},
		{"Drift", true, 1, 0, func(f api.Field, p []api.Kick, n int) ([]any, api.Errno) {
			g, e := path.Drift(f, p)
			return []any{g}, e
		}},
		{"Step", true, 1, 0, func(f api.Field, p []api.Kick, n int) ([]any, api.Errno) {
			g, q, e := path.Step(f, p)
			return []any{g, q}, e
		}},
		{"Run", true, 0, 100, func(f api.Field, p []api.Kick, n int) ([]any, api.Errno) {
			g, q, e := path.Run(f, p, n)
			return []any{g, q}, e
		}},
		{"Reverse", true, 1, 0, func(f api.Field, p []api.Kick, n int) ([]any, api.Errno) {
			q, e := path.Reverse(f, p)
			return []any{q}, e
		}},
		{"Kinetic", true, 1, 0, func(f api.Field, p []api.Kick, n int) ([]any, api.Errno) {
			m, e := path.Kinetic(f, p)
			return []any{m}, e
		}},
		{"Energy", true, 0, 10, func(f api.Field, p []api.Kick, n int) ([]any, api.Errno) {
			m, e := path.Energy(f, p, n)
			return []any{m}, e
		}},
		{"Period", true, 1, 1000, func(f api.Field, p []api.Kick, n int) ([]any, api.Errno) {
			m, is, e := path.Period(f, p, n)
			return []any{m, is}, e
		}},
		{"Force", false, 1, 0, func(f api.Field, p []api.Kick, n int) ([]any, api.Errno) {
			v, e := path.Force(f, n)
			return []any{v}, e
		}},
		{"Potential", false, 1, 0, func(f api.Field, p []api.Kick, n int) ([]any, api.Errno) {
			m, e := path.Potential(f)
			return []any{m}, e
		}},
		{"Trajectory", false, 1, 0, func(f api.Field, p []api.Kick, n int) ([]any, api.Errno) {
			g, s, is, e := path.Trajectory(f, n, n, n)
			return []any{g, s, is}, e
		}},
	}
}

// badFields returns fields with the error that the document requires.
func badFields(t *testing.T) map[api.Errno][]api.Field {
	l := map[api.Errno][]api.Field{}
	add := func(want api.Errno, sizes [3]int, links ...api.Unit) {
		l[want] = append(l[want], api.Field{Sizes: sizes, Links: links})
	}
	unit := [3]int{1, 1, 1}
	for _, sizes := range badSizes() {
		add(api.ErrArg, sizes, one, one, one)
		add(api.ErrArg, sizes, rough, beyond, notValid)
		add(api.ErrArg, sizes)
	}
	for _, sizes := range validSizes() {
		f := fieldOf(t, sizes, make([]int, 3*sizes[0]*sizes[1]*sizes[2])...)
		for _, n := range []int{0, 1, len(f.Links) - 1} {
			add(api.ErrArg, sizes, f.Links[:n]...)
		}
		add(api.ErrArg, sizes, append(cloned(f).Links, one)...)
		for number := range f.Links {
			for want, link := range map[api.Errno]api.Unit{api.ErrLarge: beyond, api.ErrArg: notValid, api.ErrSmall: rough} {
				g := cloned(f)
				g.Links[number] = link
				add(want, sizes, g.Links...)
			}
		}
	}
	for _, bad := range []api.Unit{{}, u(2, 0, 0, 0, 2), u(1, 0, 0, 0, 0), u(-1, 0, 0, 0, -1), u(1, 0, 0, 0, least), u(least, least, least, least, least)} {
		add(api.ErrArg, unit, rough, bad, one)
	}
	add(api.ErrSmall, unit, atLimit, one, one)
	add(api.ErrSmall, unit, one, one, u(3, 4, 0, 0, 5))
	add(api.ErrLarge, unit, one, rough, beyond)
	add(api.ErrLarge, unit, one, beyond, notValid)
	add(api.ErrArg, unit, rough, notValid, beyond)
	return l
}

// P6.1, P6.2, P6.3, P6.4, P6.5, R2, R3: the error of a field comes before those of momenta and of other numbers.
func TestBadFields(t *testing.T) {
	for want, l := range badFields(t) {
		for _, f := range l {
			for _, p := range [][]api.Kick{make([]api.Kick, len(f.Links)), nil, {{8, 0, 0}}} {
				for _, n := range []int{1, -1} {
					for _, c := range calls() {
						results, e := c.of(f, p, n)
						refused(t, c.name, e, want, results...)
					}
				}
			}
		}
	}
}

// P6.1, P6.2, P6.3, P6.5: one momentum for each link, each number from 0 to Turns - 1, whatever the last argument is.
func TestBadMomenta(t *testing.T) {
	d := dice{101}
	for _, sizes := range [][3]int{{1, 1, 1}, {2, 1, 1}, {4, 2, 2}} {
		x := d.point(sizes)
		f := x.field()
		bad := [][]api.Kick{nil, {}, x.momenta[1:], x.momenta[:1], append(slices.Clone(x.momenta), api.Kick{})}
		for _, k := range badKicks() {
			for _, link := range []int{0, len(f.Links) / 2, len(f.Links) - 1} {
				p := slices.Clone(x.momenta)
				p[link] = k
				bad = append(bad, p)
			}
		}
		for _, p := range bad {
			for _, n := range []int{1, -1} {
				for _, c := range calls() {
					if c.momenta {
						results, e := c.of(f, p, n)
						refused(t, c.name, e, api.ErrArg, results...)
					}
				}
			}
		}
	}
}

// P6.2, P6.3, P6.5: both ends of the numbers that the last argument may be.
func TestBadNumbers(t *testing.T) {
	d := dice{102}
	x := d.point([3]int{1, 2, 1})
	f := x.field()
	for _, c := range calls() {
		if c.from > c.to {
			continue
		}
		for _, n := range outside(c.from, c.to) {
			results, e := c.of(f, x.momenta, n)
			refused(t, c.name, e, api.ErrArg, results...)
		}
		for _, n := range []int{c.from, c.to} {
			if _, e := c.of(f, x.momenta, n); e != api.OK {
				t.Error(c.name, n, e)
			}
		}
	}
}

// P6.1: what is right has no error.
func TestValidate(t *testing.T) {
	d := dice{103}
	for _, sizes := range validSizes() {
		x := d.point(sizes)
		f := x.field()
		check := untouched(t, f, x.momenta)
		if e := path.Validate(f, x.momenta); e != api.OK {
			t.Error("Validate", f, x.momenta, e)
		}
		check()
	}
	f := fieldOf(t, [3]int{1, 1, 1}, 1, 9, 23)
	for _, k := range allKicks() {
		if e := path.Validate(f, []api.Kick{{}, k, {7, 7, 7}}); e != api.OK {
			t.Error("Validate", k, e)
		}
	}
}

// R5, R11: the same call has the same results, which share no memory.
func TestEqualCalls(t *testing.T) {
	d := dice{104}
	x := d.point([3]int{2, 2, 1})
	f, p := x.field(), x.momenta
	g, q, _ := path.Run(f, p, 5)
	want, momenta := cloned(g), slices.Clone(q)
	scribble(g, q)
	if h, r, e := path.Run(f, p, 5); !equal(h, want) || !slices.Equal(r, momenta) || e != api.OK {
		t.Error("Run", h, r, e)
	}
	l, behind, _ := path.Momenta(f.Sizes, 7)
	momenta = slices.Clone(l)
	scribble(api.Field{}, l)
	if m, s, e := path.Momenta(f.Sizes, 7); !slices.Equal(m, momenta) || s != behind || e != api.OK {
		t.Error("Momenta", m, s, e)
	}
	for seed := 1; seed < 20; seed++ {
		g, s, is, _ := path.Trajectory(f, seed, 2, 1)
		want := cloned(g)
		scribble(g, nil)
		if h, behind, was, e := path.Trajectory(f, seed, 2, 1); !equal(h, want) || behind != s || was != is || e != api.OK {
			t.Error("Trajectory", seed, h, behind, was, e)
		}
	}
}
