package chance_test

import (
	"slices"
	"testing"

	"plaquette/api"
	"plaquette/chance"
)

// arguments are those that functions with a field take; each function takes some of them.
type arguments struct {
	f     api.Field
	w     [5]int
	seed  int
	link  int
	other int // a value, a turn or a draw
	moves []api.Move
}

// call is a function with a field, and whether it takes a seed, a link, and another number that has a range.
type call struct {
	name              string
	seed, link, other bool
	of                func(x arguments) ([]any, api.Errno)
}

func calls() []call {
	return []call{
		{"Weights", false, true, false, func(x arguments) ([]any, api.Errno) {
			l, e := chance.Weights(x.f, x.w, x.link)
			return []any{l}, e
		}},
		{"HeatBath", false, true, true, func(x arguments) ([]any, api.Errno) {
			f, k, e := chance.HeatBath(x.f, x.w, x.link, x.other)
			return []any{f, k}, e
		}},
		{"Metropolis by a turn", false, true, true, func(x arguments) ([]any, api.Errno) {
			f, is, e := chance.Metropolis(x.f, x.w, x.link, x.other, 0)
			return []any{f, is}, e
		}},
		{"Metropolis by a draw", false, true, true, func(x arguments) ([]any, api.Errno) {
			f, is, e := chance.Metropolis(x.f, x.w, x.link, 0, x.other)
			return []any{f, is}, e
		}},
		{"Flow from", false, true, true, func(x arguments) ([]any, api.Errno) {
			n, e := chance.Flow(x.f, x.w, x.link, x.other, 0)
			return []any{n}, e
		}},
		{"Flow to", false, true, true, func(x arguments) ([]any, api.Errno) {
			n, e := chance.Flow(x.f, x.w, x.link, 0, x.other)
			return []any{n}, e
		}},
		{"Ratio", false, true, true, func(x arguments) ([]any, api.Errno) {
			r, e := chance.Ratio(x.f, x.w, x.link, x.other)
			return []any{r}, e
		}},
		{"Sweep", true, false, false, func(x arguments) ([]any, api.Errno) {
			f, s, l, e := chance.Sweep(x.f, x.w, x.seed)
			return []any{f, s, l}, e
		}},
		{"Touch", true, false, false, func(x arguments) ([]any, api.Errno) {
			f, s, n, e := chance.Touch(x.f, x.w, x.seed)
			return []any{f, s, n}, e
		}},
		{"Audit", true, false, false, func(x arguments) ([]any, api.Errno) {
			f, s, n, e := chance.Audit(x.f, x.w, x.seed, x.moves)
			return []any{f, s, n}, e
		}},
	}
}

// rest returns the arguments beside the field: right ones, and such in which all are wrong.
func rest(f api.Field) []arguments {
	return []arguments{{f, rising, 1, 0, 0, nil}, {f, [5]int{}, 0, -1, -1, make([]api.Move, 100)}, {f, rising, 0, 48, greatest, make([]api.Move, 100)}}
}

// badFields returns fields with the error that the document requires.
func badFields(t *testing.T) map[api.Errno][]api.Field {
	l := map[api.Errno][]api.Field{}
	add := func(want api.Errno, sizes [3]int, links ...api.Unit) {
		l[want] = append(l[want], api.Field{Sizes: sizes, Links: links})
	}
	point := [3]int{1, 1, 1}
	for _, sizes := range badSizes() {
		add(api.ErrArg, sizes, one, one, one)
		add(api.ErrArg, sizes, rough, beyond, notValid)
		add(api.ErrArg, sizes)
	}
	for _, sizes := range validSizes() {
		f := fieldOf(t, sizes, make([]int, 3*sizes[0]*sizes[1]*sizes[2]))
		for _, n := range []int{0, 1, len(f.Links) - 1} {
			add(api.ErrArg, sizes, f.Links[:n]...)
		}
		add(api.ErrArg, sizes, append(cloned(f).Links, one)...)
		for number := range f.Links {
			for want, link := range map[api.Errno]api.Unit{api.ErrLarge: beyond, api.ErrArg: notValid, api.ErrSmall: rough} {
				g := cloned(f)
				g.Links[number] = link
				add(want, sizes, g.Links...)
			}
		}
	}
	for _, bad := range []api.Unit{{}, u(2, 0, 0, 0, 2), u(1, 0, 0, 0, 0), u(-1, 0, 0, 0, -1), u(1, 0, 0, 0, least), u(least, least, least, least, least)} {
		add(api.ErrArg, point, rough, bad, one)
	}
	add(api.ErrSmall, point, atLimit, one, one)
	add(api.ErrSmall, point, one, one, u(3, 4, 0, 0, 5))
	add(api.ErrLarge, point, one, rough, beyond)
	add(api.ErrLarge, point, one, beyond, notValid)
	add(api.ErrArg, point, rough, notValid, beyond)
	return l
}

// P5.2, P5.3, P5.4, P5.5, P5.6, R2, R3: the error of a field comes before all others, also that it is not small.
func TestBadFields(t *testing.T) {
	for want, l := range badFields(t) {
		for _, f := range l {
			for _, x := range rest(f) {
				for _, c := range calls() {
					results, e := c.of(x)
					refused(t, c.name, e, want, results...)
				}
			}
		}
	}
}

// P5.2, P5.3, P5.4, P5.5, P5.6: the error of weights comes before those of a link, and before that of too many moves.
func TestBadWeights(t *testing.T) {
	d := dice{51}
	for _, sizes := range [][3]int{{1, 1, 1}, {2, 1, 3}, {4, 2, 2}} {
		f := d.field(t, sizes)
		for _, w := range badWeights() {
			for _, x := range rest(f) {
				x.w = w
				for _, c := range calls() {
					results, e := c.of(x)
					refused(t, c.name, e, api.ErrArg, results...)
				}
			}
		}
	}
}

// P5.2, P5.3, P5.4: the error of a link comes before that of another number.
func TestBadLinks(t *testing.T) {
	d := dice{52}
	for _, sizes := range validSizes() {
		f := d.field(t, sizes)
		for _, link := range noLinks(f) {
			for _, other := range append(noValues(), 0) {
				for _, c := range calls() {
					if c.link {
						results, e := c.of(arguments{f: f, w: rising, link: link, other: other})
						refused(t, c.name, e, api.ErrNone, results...)
					}
				}
			}
		}
	}
}

// P5.3, P5.4: all of these numbers are below the weights here, so that a draw has no error by itself.
func TestBadValues(t *testing.T) {
	d := dice{53}
	for _, sizes := range [][3]int{{1, 1, 1}, {2, 1, 3}} {
		f := d.field(t, sizes)
		for link := range f.Links {
			for _, value := range noValues() {
				for _, c := range calls() {
					if c.other {
						results, e := c.of(arguments{f: f, w: ones, link: link, other: value})
						refused(t, c.name, e, api.ErrArg, results...)
					}
				}
				n, e := chance.Flow(f, highest, link, value, value)
				refused(t, "Flow", e, api.ErrArg, n)
				g, is, e := chance.Metropolis(f, highest, link, value, value)
				refused(t, "Metropolis", e, api.ErrArg, g, is)
				g, is, e = chance.Metropolis(f, highest, link, value, 100)
				refused(t, "Metropolis", e, api.ErrArg, g, is)
			}
			for value := range 24 {
				if n, e := chance.Flow(f, highest, link, 23-value, value); n < 10000 || e != api.OK {
					t.Error("Flow", f, link, value, n, e)
				}
			}
		}
	}
}

// P5.5, P5.6: the error of a seed comes before that of too many moves.
func TestBadSeeds(t *testing.T) {
	d := dice{54}
	f := d.field(t, [3]int{2, 1, 2})
	for _, seed := range badSeeds() {
		for _, moves := range [][]api.Move{nil, make([]api.Move, 12), make([]api.Move, 13)} {
			for _, c := range calls() {
				if c.seed {
					results, e := c.of(arguments{f: f, w: rising, seed: seed, moves: moves})
					refused(t, c.name, e, api.ErrArg, results...)
				}
			}
		}
	}
}

// R5, R11: the same call has the same results, which share no memory.
func TestEqualCalls(t *testing.T) {
	d := dice{55}
	f, seed := d.field(t, [3]int{2, 2, 1}), d.seed()
	a, s, l, _ := chance.Sweep(f, mixed, seed)
	want, moves := cloned(a), slices.Clone(l)
	scribble(a.Links)
	clear(l)
	if b, behind, m, e := chance.Sweep(f, mixed, seed); !equal(b, want) || behind != s || !slices.Equal(m, moves) || e != api.OK {
		t.Error("Sweep", b, behind, m, e)
	}
	g, s, _ := chance.Hot(f.Sizes, seed)
	want = cloned(g)
	scribble(g.Links)
	if h, behind, e := chance.Hot(f.Sizes, seed); !equal(h, want) || behind != s || e != api.OK {
		t.Error("Hot", h, behind, e)
	}
	through, _ := chance.Through(f.Sizes, 3)
	clear(through)
	if again, e := chance.Through(f.Sizes, 3); slices.Equal(again, through) || e != api.OK {
		t.Error("Through", again, e)
	}
}
