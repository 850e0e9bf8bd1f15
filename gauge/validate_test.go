package gauge_test

import (
	"slices"
	"testing"

	"plaquette/api"
	"plaquette/gauge"
	"plaquette/quat"
)

// proof is what Certificate returns beside its error.
type proof struct {
	q  [4]int
	is bool
}

// smallCalls are the functions for small fields.
var smallCalls = []struct {
	name string
	call func(f api.Field) (any, api.Errno)
}{
	{"Branches", func(f api.Field) (any, api.Errno) { r, e := gauge.Branches(f); return r, e }},
	{"Loops", func(f api.Field) (any, api.Errno) { r, e := gauge.Loops(f); return r, e }},
	{"Fix", func(f api.Field) (any, api.Errno) { r, e := gauge.Fix(f); return r, e }},
	{"Freedom", func(f api.Field) (any, api.Errno) { r, e := gauge.Freedom(f); return r, e }},
}

// pairCalls are the functions with two fields.
var pairCalls = []struct {
	name string
	call func(a, b api.Field) (any, api.Errno)
}{
	{"Check", func(a, b api.Field) (any, api.Errno) { return 0, gauge.Check(a, b, [4]int{1, 0, 0, 0}) }},
	{"Check of 0", func(a, b api.Field) (any, api.Errno) { return 0, gauge.Check(a, b, [4]int{}) }},
	{"Check of too much", func(a, b api.Field) (any, api.Errno) { return 0, gauge.Check(a, b, [4]int{0, 0, 0, 1001}) }},
	{"Certificate", func(a, b api.Field) (any, api.Errno) {
		q, is, e := gauge.Certificate(a, b)
		return proof{q, is}, e
	}},
	{"Equivalent", func(a, b api.Field) (any, api.Errno) { r, e := gauge.Equivalent(a, b); return r, e }},
}

// fieldCalls are the other functions that take a field, also with other arguments that are wrong.
var fieldCalls = []struct {
	name string
	call func(f api.Field) (any, api.Errno)
}{
	{"Validate", func(f api.Field) (any, api.Errno) { return 0, gauge.Validate(f, make([]api.Unit, len(f.Links)/3)) }},
	{"Validate of nothing", func(f api.Field) (any, api.Errno) { return 0, gauge.Validate(f, nil) }},
	{"Transform", func(f api.Field) (any, api.Errno) {
		r, e := gauge.Transform(f, slices.Repeat([]api.Unit{one}, len(f.Links)/3))
		return r, e
	}},
	{"Transform by nothing", func(f api.Field) (any, api.Errno) { r, e := gauge.Transform(f, nil); return r, e }},
	{"Compose", func(f api.Field) (any, api.Errno) {
		g := slices.Repeat([]api.Unit{one}, len(f.Links)/3)
		r, e := gauge.Compose(f, g, g)
		return r, e
	}},
	{"Compose of what is too large", func(f api.Field) (any, api.Errno) {
		r, e := gauge.Compose(f, []api.Unit{beyond}, []api.Unit{beyond})
		return r, e
	}},
	{"Inverse", func(f api.Field) (any, api.Errno) {
		r, e := gauge.Inverse(f, slices.Repeat([]api.Unit{one}, len(f.Links)/3))
		return r, e
	}},
	{"Inverse of what is too large", func(f api.Field) (any, api.Errno) { r, e := gauge.Inverse(f, []api.Unit{beyond}); return r, e }},
	{"Center", func(f api.Field) (any, api.Errno) { r, e := gauge.Center(f, 0); return r, e }},
	{"Center of no direction", func(f api.Field) (any, api.Errno) { r, e := gauge.Center(f, 3); return r, e }},
	{"Spread", func(f api.Field) (any, api.Errno) { r, e := gauge.Spread(f, one); return r, e }},
	{"Spread of what is too large", func(f api.Field) (any, api.Errno) { r, e := gauge.Spread(f, beyond); return r, e }},
	{"Spread of what is not valid", func(f api.Field) (any, api.Errno) { r, e := gauge.Spread(f, notValid); return r, e }},
}

// badFields returns fields with the error that the document requires.
func badFields() map[api.Errno][]api.Field {
	l := map[api.Errno][]api.Field{}
	add := func(want api.Errno, sizes [3]int, links ...api.Unit) {
		l[want] = append(l[want], api.Field{Sizes: sizes, Links: links})
	}
	point := [3]int{1, 1, 1}
	for _, sizes := range badSizes() {
		add(api.ErrArg, sizes, one, one, one)
		add(api.ErrArg, sizes, atLimit, beyond, notValid)
		add(api.ErrArg, sizes)
	}
	for _, sizes := range validSizes() {
		f := cold(sizes, nil)
		for _, n := range []int{0, 1, len(f.Links) - 1} {
			add(api.ErrArg, sizes, f.Links[:n]...)
		}
		add(api.ErrArg, sizes, append(cloned(f).Links, one)...)
		for number := range f.Links {
			add(api.ErrLarge, sizes, cold(sizes, map[int]api.Unit{number: beyond}).Links...)
			add(api.ErrArg, sizes, cold(sizes, map[int]api.Unit{number: notValid}).Links...)
		}
	}
	for _, bad := range badUnits() {
		add(api.ErrArg, point, atLimit, bad, one)
	}
	add(api.ErrLarge, point, one, beyond, notValid)
	add(api.ErrArg, point, atLimit, notValid, beyond)
	add(api.ErrArg, point, beyond, beyond)
	return l
}

// P4.1, P4.2, P4.3, P4.4, R2, R3: the error of a field comes before those of the other arguments.
func TestBadFields(t *testing.T) {
	goods := []api.Field{cold([3]int{1, 1, 1}, nil), cold([3]int{2, 1, 1}, nil), cold([3]int{1, 1, 1}, map[int]api.Unit{1: atLimit})}
	for want, l := range badFields() {
		for _, f := range l {
			for _, x := range slices.Concat(smallCalls, fieldCalls) {
				r, e := x.call(f)
				refused(t, x.name, r, e, want)
			}
			for _, x := range pairCalls {
				for _, good := range goods {
					r, e := x.call(f, good)
					refused(t, x.name, r, e, want)
					r, e = x.call(good, f)
					refused(t, x.name, r, e, want)
				}
			}
		}
	}
}

// P4.3: the first of two bad fields decides.
func TestTwoBadFields(t *testing.T) {
	tooLarge, invalid := cold([3]int{1, 1, 1}, map[int]api.Unit{2: beyond}), cold([3]int{2, 1, 1}, map[int]api.Unit{0: notValid})
	for _, x := range pairCalls {
		r, e := x.call(tooLarge, invalid)
		refused(t, x.name, r, e, api.ErrLarge)
		r, e = x.call(invalid, tooLarge)
		refused(t, x.name, r, e, api.ErrArg)
	}
}

// P4.2, P4.3: one link that is not small is enough, wherever it is; it comes before sizes that differ and before the certificate.
func TestNotSmall(t *testing.T) {
	d := dice{1}
	small := units(2)
	for _, sizes := range validSizes() {
		f := d.field(sizes, small)
		others := []api.Field{d.field(sizes, small), d.field([3]int{1, 1, 1}, small), d.field([3]int{2, 3, 2}, small)}
		for number := range f.Links {
			for _, link := range []api.Unit{atLimit, u(1, 2, 2, 0, 3), u(0, 0, -3, 4, 5)} {
				g := cloned(f)
				g.Links[number] = link
				for _, x := range smallCalls {
					r, e := x.call(g)
					refused(t, x.name, r, e, api.ErrSmall)
				}
				for _, x := range pairCalls {
					for _, other := range others {
						r, e := x.call(g, other)
						refused(t, x.name, r, e, api.ErrSmall)
						r, e = x.call(other, g)
						refused(t, x.name, r, e, api.ErrSmall)
					}
					r, e := x.call(g, g)
					refused(t, x.name, r, e, api.ErrSmall)
				}
			}
		}
	}
}

// P4.2: all units with an N up to MaxLink, small or not.
func TestWhichLinksAreSmall(t *testing.T) {
	for _, link := range units(api.MaxLink) {
		f := cold([3]int{1, 1, 1}, map[int]api.Unit{1: link})
		want := api.OK
		if link.N > 2 {
			want = api.ErrSmall
		}
		for _, x := range smallCalls {
			if _, e := x.call(f); e != want {
				t.Error(x.name, f, e)
			}
		}
		if _, e := gauge.Equivalent(f, f); e != want {
			t.Error("Equivalent", f, e)
		}
	}
}

// P4.3: sizes that differ come before the certificate, also where there are as many sites.
func TestSizesThatDiffer(t *testing.T) {
	d := dice{2}
	for _, a := range validSizes() {
		for _, b := range validSizes() {
			if a == b {
				continue
			}
			f, g := d.field(a, units(2)), d.field(b, units(2))
			for _, x := range pairCalls {
				r, e := x.call(f, g)
				refused(t, x.name, r, e, api.ErrFit)
			}
		}
	}
}

// badTransformations returns lists that are none for a number of sites, with the error that the document requires.
func badTransformations(sites int) map[api.Errno][][]api.Unit {
	l := map[api.Errno][][]api.Unit{}
	with := func(links map[int]api.Unit) []api.Unit {
		g := slices.Repeat([]api.Unit{atLimit}, sites)
		for at, x := range links {
			g[at] = x
		}
		return g
	}
	for _, n := range []int{0, sites - 1, sites + 1, 3 * sites} {
		for _, x := range []api.Unit{one, beyond, notValid} {
			if n != sites {
				l[api.ErrArg] = append(l[api.ErrArg], slices.Repeat([]api.Unit{x}, n))
			}
		}
	}
	for at := range sites {
		for _, bad := range badUnits() {
			l[api.ErrArg] = append(l[api.ErrArg], with(map[int]api.Unit{at: bad}))
		}
		for _, large := range []api.Unit{beyond, u(2, 4, 5, 2, 7), u(1040393, 2044, 22484, 128772, 1048575)} {
			l[api.ErrLarge] = append(l[api.ErrLarge], with(map[int]api.Unit{at: large}))
		}
		if at > 0 {
			l[api.ErrArg] = append(l[api.ErrArg], with(map[int]api.Unit{at - 1: notValid, at: beyond}))
			l[api.ErrLarge] = append(l[api.ErrLarge], with(map[int]api.Unit{at - 1: beyond, at: notValid}))
		}
	}
	return l
}

// P4.1, R2, R3: these errors come before that of a result which is too large.
func TestBadTransformations(t *testing.T) {
	d := dice{3}
	for _, sizes := range validSizes() {
		f := d.field(sizes, units(api.MaxLink))
		for want, l := range badTransformations(count(sizes)) {
			for _, g := range l {
				check := unchanged(t, g)
				if e := gauge.Validate(f, g); e != want {
					t.Error("Validate", f, g, e)
				}
				r, e := gauge.Transform(f, g)
				refused(t, "Transform", r, e, want)
				h, e := gauge.Inverse(f, g)
				refused(t, "Inverse", h, e, want)
				good := slices.Repeat([]api.Unit{atLimit}, count(sizes))
				h, e = gauge.Compose(f, g, good)
				refused(t, "Compose", h, e, want)
				h, e = gauge.Compose(f, good, g)
				refused(t, "Compose", h, e, want)
				check()
			}
		}
	}
}

// P4.1, R2: the errors of the first transformation come first.
func TestTwoBadTransformations(t *testing.T) {
	f := cold([3]int{2, 1, 1}, nil)
	invalid, tooLarge, short := []api.Unit{one, notValid}, []api.Unit{beyond, one}, []api.Unit{beyond}
	for _, x := range []struct {
		g, h []api.Unit
		want api.Errno
	}{
		{invalid, tooLarge, api.ErrArg}, {tooLarge, invalid, api.ErrLarge}, {short, tooLarge, api.ErrArg}, {tooLarge, short, api.ErrLarge}, {tooLarge, nil, api.ErrLarge},
	} {
		l, e := gauge.Compose(f, x.g, x.h)
		refused(t, "Compose", l, e, x.want)
	}
}

// P4.1: both sides of MaxLink.
func TestValidate(t *testing.T) {
	d := dice{4}
	all := units(api.MaxLink)
	for _, sizes := range validSizes() {
		for range 20 {
			f, g := d.field(sizes, all), d.draw(count(sizes), all)
			if e := gauge.Validate(f, g); e != api.OK {
				t.Error("Validate", f, g, e)
			}
		}
	}
	for _, x := range all {
		if e := gauge.Validate(cold([3]int{1, 1, 1}, nil), []api.Unit{x}); e != api.OK {
			t.Error("Validate", x, e)
		}
	}
}

// P4.1, R3
func TestIdentity(t *testing.T) {
	for _, sizes := range validSizes() {
		want := slices.Repeat([]api.Unit{one}, count(sizes))
		l, e := gauge.Identity(sizes)
		if !slices.Equal(l, want) || e != api.OK {
			t.Error("Identity", sizes, l, e)
		}
		scribble(l)
		if l, e = gauge.Identity(sizes); !slices.Equal(l, want) || e != api.OK {
			t.Error("Identity shares its memory with an earlier one", sizes, l, e)
		}
	}
	for _, sizes := range badSizes() {
		l, e := gauge.Identity(sizes)
		refused(t, "Identity", l, e, api.ErrArg)
	}
}

// P4.1
func TestSpread(t *testing.T) {
	d := dice{5}
	for _, sizes := range validSizes() {
		f := d.field(sizes, units(api.MaxLink))
		check := untouched(t, f)
		for _, x := range units(api.MaxLink) {
			if l, e := gauge.Spread(f, x); !slices.Equal(l, slices.Repeat([]api.Unit{x}, count(sizes))) || e != api.OK {
				t.Fatal("Spread", sizes, x, l, e)
			}
		}
		for _, bad := range badUnits() {
			l, e := gauge.Spread(f, bad)
			refused(t, "Spread", l, e, quat.Validate(bad))
		}
		for _, large := range []api.Unit{beyond, u(2, 4, 5, 2, 7), u(1040393, 2044, 22484, 128772, 1048575)} {
			l, e := gauge.Spread(f, large)
			refused(t, "Spread", l, e, api.ErrLarge)
		}
		check()
	}
}
