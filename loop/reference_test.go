package loop_test

import (
	"fmt"
	"math/big"
	"reflect"
	"slices"
	"testing"

	"plaquette/api"
	"plaquette/loop"
	"plaquette/quat"
	"plaquette/torus"
)

const (
	least    = -1 << 63
	greatest = 1<<63 - 1
)

func u(a, b, c, d, n int) api.Unit {
	return api.Unit{A: a, B: b, C: c, D: d, N: n}
}

func rat(num, den int) api.Rat {
	return api.Rat{Num: num, Den: den}
}

func term(coef int, path ...int) api.Term {
	return api.Term{Coef: coef, Path: path}
}

var (
	one      = u(1, 0, 0, 0, 1)
	beyond   = u(1, 5, 3, 1, 6) // valid, but its N is just above MaxLink
	notValid = u(1, 1, 0, 0, 1)
)

// validSizes returns the sizes of all toruses.
func validSizes() [][3]int {
	var l [][3]int
	for x := 1; x <= 4; x++ {
		for y := 1; y <= 4; y++ {
			for z := 1; z <= 4; z++ {
				if x*y*z <= 16 {
					l = append(l, [3]int{x, y, z})
				}
			}
		}
	}
	return l
}

// dice are numbers that look drawn and are the same in each run.
type dice struct{ state uint64 }

func (d *dice) below(n int) int {
	d.state = d.state*6364136223846793005 + 1442695040888963407
	return int(d.state>>33) % n
}

// path returns a path with a number of steps.
func (d *dice) path(steps int) []int {
	path := make([]int, steps)
	for i := range path {
		path[i] = []int{-3, -2, -1, 1, 2, 3}[d.below(6)]
	}
	return path
}

// sum returns a sum of loops with few kinds of paths, so that many of its terms become one or nothing.
func (d *dice) sum(terms, steps int) []api.Term {
	l := make([]api.Term, terms)
	for i := range l {
		path := d.path(d.below(steps + 1))
		for k, step := range path {
			path[k] = step % 3
			if path[k] == 0 {
				path[k] = 1
			}
		}
		l[i] = api.Term{Coef: d.below(7) - 3, Path: path}
	}
	return l
}

// closed returns a path that is closed on each torus.
func (d *dice) closed() []int {
	path := d.path(1 + d.below(4))
	steps := slices.Clone(path)
	for i := range steps {
		k := d.below(i + 1)
		steps[i], steps[k] = steps[k], steps[i]
	}
	for _, step := range steps {
		path = append(path, -step)
	}
	return path
}

// field returns a field with links that are drawn among some units.
func (d *dice) field(sizes [3]int, units []api.Unit) api.Field {
	f := api.Field{Sizes: sizes}
	for range 3 * sizes[0] * sizes[1] * sizes[2] {
		f.Links = append(f.Links, units[d.below(len(units))])
	}
	return f
}

// linkUnits returns all units that a link may have, up to an N.
func linkUnits(most int) []api.Unit {
	var l []api.Unit
	for n := 1; n <= most; n++ {
		for a := -n; a <= n; a++ {
			for b := -n; b <= n; b++ {
				for c := -n; c <= n; c++ {
					for d := -n; d <= n; d++ {
						if quat.Validate(u(a, b, c, d, n)) == api.OK {
							l = append(l, u(a, b, c, d, n))
						}
					}
				}
			}
		}
	}
	return l
}

// someFields returns a field with links of all kinds, and a small one, for the sizes of each torus.
func someFields(state uint64) []api.Field {
	d := dice{state}
	all, small := linkUnits(5), linkUnits(2)
	var l []api.Field
	for _, sizes := range validSizes() {
		l = append(l, d.field(sizes, all), d.field(sizes, small))
	}
	return l
}

func clonedField(f api.Field) api.Field {
	return api.Field{Sizes: f.Sizes, Links: slices.Clone(f.Links)}
}

func cloned(l []api.Term) []api.Term {
	m := slices.Clone(l)
	for i := range m {
		m[i].Path = slices.Clone(l[i].Path)
	}
	return m
}

func equal(a, b []api.Term) bool {
	return slices.EqualFunc(a, b, func(a, b api.Term) bool { return a.Coef == b.Coef && slices.Equal(a.Path, b.Path) })
}

// exactTrace is the trace of the unit along a path.
func exactTrace(t *testing.T, f api.Field, site int, path []int) *big.Rat {
	t.Helper()
	unit, e := torus.Along(f, site, path)
	if e != api.OK {
		t.Fatal("Along", path, e)
	}
	return big.NewRat(int64(2*unit.A), int64(unit.N))
}

// exactMean is the mean over all sites of the sum of the traces of some paths, each counted as one.
func exactMean(t *testing.T, f api.Field, paths ...[]int) api.Rat {
	t.Helper()
	sum, n := new(big.Rat), 0
	for site := range len(f.Links) / 3 {
		for _, path := range paths {
			sum.Add(sum, exactTrace(t, f, site, path))
			n++
		}
	}
	return ratOf(sum.Quo(sum, big.NewRat(int64(n), 1)))
}

// exactValue is the value of a sum of loops.
func exactValue(t *testing.T, f api.Field, site int, l []api.Term) *big.Rat {
	t.Helper()
	sum := new(big.Rat)
	for _, term := range l {
		product := exactTrace(t, f, site, term.Path)
		sum.Add(sum, product.Mul(product, big.NewRat(int64(term.Coef), 1)))
	}
	return sum
}

func ratOf(r *big.Rat) api.Rat {
	return rat(int(r.Num().Int64()), int(r.Denom().Int64()))
}

// leftOut leaves out opposite steps, a pair at a time, from a path of any length.
func leftOut(path []int) []int {
	for i := 1; i < len(path); i++ {
		if path[i-1]+path[i] == 0 {
			return leftOut(slices.Concat(path[:i-1], path[i+1:]))
		}
	}
	return path
}

func turned(path []int) []int {
	var back []int
	for _, step := range slices.Backward(path) {
		back = append(back, -step)
	}
	return back
}

// isBefore is the order of two slices, as the document has it.
func isBefore(a, b []int) bool {
	for i := range min(len(a), len(b)) {
		if a[i] != b[i] {
			return a[i] < b[i]
		}
	}
	return len(a) < len(b)
}

func plainPath(path []int) []int {
	there := leftOut(path)
	if back := turned(there); isBefore(back, there) {
		return back
	}
	return there
}

// plainForm is the plain form of a sum of loops of any size, with paths of any length.
func plainForm(l []api.Term) []api.Term {
	var plain []api.Term
	for _, x := range l {
		path := plainPath(x.Path)
		at := slices.IndexFunc(plain, func(y api.Term) bool { return slices.Equal(y.Path, path) })
		if at < 0 {
			plain = append(plain, api.Term{Coef: x.Coef, Path: path})
		} else {
			plain[at].Coef += x.Coef
		}
	}
	plain = slices.DeleteFunc(plain, func(x api.Term) bool { return x.Coef == 0 })
	slices.SortFunc(plain, func(x, y api.Term) int {
		if isBefore(x.Path, y.Path) {
			return -1
		}
		return 1
	})
	return plain
}

// product is the product of two sums of loops, not in plain form.
func product(a, b []api.Term) []api.Term {
	var l []api.Term
	for _, p := range a {
		for _, q := range b {
			l = append(l, term(p.Coef*q.Coef, slices.Concat(p.Path, q.Path)...))
			l = append(l, term(p.Coef*q.Coef, slices.Concat(p.Path, turned(q.Path))...))
		}
	}
	return l
}

func multiplied(l []api.Term, k int) []api.Term {
	l = cloned(l)
	for i := range l {
		l[i].Coef *= k
	}
	return l
}

// isLarge reports whether a plain form is beyond the limits of a sum of loops.
func isLarge(l []api.Term) bool {
	return len(l) > 40 || slices.ContainsFunc(l, func(x api.Term) bool { return x.Coef < -1000 || x.Coef > 1000 || len(x.Path) > 8 })
}

// checkSum holds a result against a plain form, which counts only if it is within the limits.
func checkSum(t *testing.T, name string, got []api.Term, e api.Errno, want []api.Term) {
	t.Helper()
	if isLarge(want) {
		refused(t, name, got, e, api.ErrLarge)
	} else if !equal(got, want) || e != api.OK {
		t.Errorf("%s: %v %v, want %v", name, got, e, want)
	}
}

func checkRat(t *testing.T, what string, got api.Rat, e api.Errno, want api.Rat) {
	t.Helper()
	if got != want || e != api.OK {
		t.Errorf("%s: %v %v, want %v", what, got, e, want)
	}
}

// refused checks the error of a call, and that its result is the zero value.
func refused(t *testing.T, name string, result any, e, want api.Errno) {
	t.Helper()
	value := reflect.ValueOf(result)
	empty := value.IsZero() || value.Kind() == reflect.Slice && value.Len() == 0
	if e != want || !empty {
		t.Errorf("%s: %v %v, want the zero value and %v", name, result, e, want)
	}
}

// untouched returns a function that checks that sums of loops are as they were. Called after scribble, it finds memory that a result shares with them.
func untouched(t *testing.T, sums ...[]api.Term) func() {
	var before [][]api.Term
	for _, l := range sums {
		before = append(before, cloned(l))
	}
	return func() {
		t.Helper()
		for i, l := range sums {
			if !equal(l, before[i]) {
				t.Error("an argument was changed", before[i], l)
			}
		}
	}
}

// scribble writes into a result, one path after the other, and checks that this shows nowhere else in it.
func scribble(t *testing.T, l []api.Term) {
	t.Helper()
	for i := range l {
		before := cloned(l)
		path := l[i].Path[:cap(l[i].Path)]
		for k := range path {
			path[k] = 99
		}
		for k := range l {
			if k != i && !slices.Equal(l[k].Path, before[k].Path) {
				t.Error("two paths share their memory", l)
			}
		}
	}
	clear(l)
}

func noSites(f api.Field) []int {
	n := len(f.Links) / 3
	return []int{-1, n, n + 1, -n, least, greatest}
}

var (
	ones     = []int{1, 1, 1, 1, 1, 1, 1, 1, 1}
	tooLong  = [][]int{ones, make([]int, 9), slices.Repeat([]int{1, -1}, 5), append([]int{least}, ones...), make([]int, 100)}
	noSteps  = [][]int{{0}, {4}, {-4}, {least}, {greatest}, {1, 0}, {0, 1}, {1, -1, 4}, make([]int, 8), {1<<32 + 1}}
	badPaths = map[api.Errno][][]int{api.ErrLarge: tooLong, api.ErrArg: noSteps}
)

// badSums returns sums of loops with the error that the document requires.
func badSums() map[api.Errno][][]api.Term {
	l := map[api.Errno][][]api.Term{}
	add := func(want api.Errno, terms ...api.Term) { l[want] = append(l[want], terms) }
	add(api.ErrLarge, make([]api.Term, 41)...)
	add(api.ErrLarge, slices.Repeat([]api.Term{term(1, 0)}, 41)...)
	for _, coef := range []int{1001, -1001, least, greatest} {
		add(api.ErrLarge, term(coef))
		add(api.ErrLarge, term(1, 1), term(coef, 1))
		// Of the errors of a term the one of the coefficient comes first.
		add(api.ErrLarge, term(coef, 0))
		// The first term with an error decides.
		add(api.ErrArg, term(1, 1), term(1, 7), term(coef))
		add(api.ErrLarge, term(coef), term(1, 7))
	}
	for want, paths := range badPaths {
		for _, path := range paths {
			add(want, term(0, path...))
			add(want, term(1, 1), term(1), term(2, path...))
			add(want, term(1, path...), term(1, 0), term(1001))
		}
	}
	add(api.ErrArg, term(1, 0), term(1, ones...))
	add(api.ErrLarge, term(1, ones...), term(1, 0))
	return l
}

// fieldCalls are the functions that take a field.
var fieldCalls = []struct {
	name string
	call func(f api.Field) (any, api.Errno)
}{
	{"Trace", func(f api.Field) (any, api.Errno) { r, e := loop.Trace(f, 0, nil); return r, e }},
	{"Traces", func(f api.Field) (any, api.Errno) { r, e := loop.Traces(f); return r, e }},
	{"Mean", func(f api.Field) (any, api.Errno) { r, e := loop.Mean(f); return r, e }},
	{"Wilson", func(f api.Field) (any, api.Errno) { r, e := loop.Wilson(f, 0, 1, 1, 1); return r, e }},
	{"Polyakov", func(f api.Field) (any, api.Errno) { r, e := loop.Polyakov(f, 0); return r, e }},
	{"Histogram", func(f api.Field) (any, api.Errno) { r, e := loop.Histogram(f); return r, e }},
	{"Value", func(f api.Field) (any, api.Errno) { r, e := loop.Value(f, 0, nil); return r, e }},
	{"Trace of what is not there", func(f api.Field) (any, api.Errno) { r, e := loop.Trace(f, -1, ones); return r, e }},
	{"Trace of an open path", func(f api.Field) (any, api.Errno) { r, e := loop.Trace(f, 0, []int{1}); return r, e }},
	{"Wilson of no rectangle", func(f api.Field) (any, api.Errno) { r, e := loop.Wilson(f, 0, 0, 0, 0); return r, e }},
	{"Polyakov of no direction", func(f api.Field) (any, api.Errno) { r, e := loop.Polyakov(f, 3); return r, e }},
	{"Value of what is not there", func(f api.Field) (any, api.Errno) {
		r, e := loop.Value(f, -1, make([]api.Term, 41))
		return r, e
	}},
}

// badFields returns fields with the error that the document requires.
func badFields() map[api.Errno][]api.Field {
	sizes := [3]int{1, 1, 1}
	l := map[api.Errno][]api.Field{
		api.ErrArg: {
			{}, {Sizes: sizes}, {Sizes: sizes, Links: []api.Unit{one, one}}, {Sizes: sizes, Links: []api.Unit{one, one, one, one}},
			{Sizes: [3]int{1, 1, 0}, Links: []api.Unit{one, one, one}}, {Sizes: [3]int{1, 5, 1}, Links: slices.Repeat([]api.Unit{one}, 15)},
			{Sizes: [3]int{least, least, least}, Links: []api.Unit{one, one, one}}, {Sizes: [3]int{-1, -1, 1}, Links: []api.Unit{one, one, one}},
			{Sizes: [3]int{2, 3, 3}, Links: slices.Repeat([]api.Unit{one}, 54)},
			{Sizes: sizes, Links: []api.Unit{one, notValid, beyond}}, {Sizes: sizes, Links: []api.Unit{{}, one, one}},
		},
		api.ErrLarge: {{Sizes: sizes, Links: []api.Unit{one, beyond, notValid}}},
	}
	for _, f := range someFields(20) {
		for i, bad := range map[api.Errno]api.Unit{api.ErrArg: notValid, api.ErrLarge: beyond} {
			g := clonedField(f)
			g.Links[len(g.Links)-1] = bad
			l[i] = append(l[i], g)
		}
	}
	return l
}

func show(name string, arguments ...any) string {
	return fmt.Sprint(append([]any{name, " "}, arguments...)...)
}
