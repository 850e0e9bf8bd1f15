package loop_test

import (
	"slices"
	"testing"

	"plaquette/api"
	"plaquette/loop"
	"plaquette/torus"
)

// somePaths returns all paths of at most four steps, and some of each greater length.
func somePaths() [][]int {
	l := [][]int{{}}
	for from, steps := 0, 1; steps <= 4; steps++ {
		to := len(l)
		for _, path := range l[from:to] {
			for _, step := range []int{-3, -2, -1, 1, 2, 3} {
				l = append(l, append(slices.Clone(path), step))
			}
		}
		from = to
	}
	d := dice{8}
	for i := range 800 {
		l = append(l, d.path(5+i%4))
		l = append(l, d.closed())
	}
	return l
}

// P3.2
func TestPlainPath(t *testing.T) {
	for _, path := range somePaths() {
		before := slices.Clone(path)
		got, e := loop.PlainPath(path)
		if !slices.Equal(got, plainPath(path)) || e != api.OK {
			t.Fatal("PlainPath", path, got, e)
		}
		back, e := loop.PlainPath(turned(path))
		if !slices.Equal(got, back) || e != api.OK {
			t.Fatal("PlainPath from the end", path, got, back, e)
		}
		clear(got)
		if !slices.Equal(path, before) {
			t.Fatal("a path was changed", before, path)
		}
	}
}

// P3.2
func TestPlainPathExamples(t *testing.T) {
	for _, x := range []struct{ path, want []int }{
		{nil, nil}, {[]int{1}, []int{-1}}, {[]int{-1}, []int{-1}}, {[]int{1, -1}, nil},
		{[]int{2, 1, -2, -1}, []int{1, 2, -1, -2}}, {[]int{1, 2, -1, -2}, []int{1, 2, -1, -2}},
		{[]int{1, 2, -2, -1}, nil}, {[]int{1, 2, 2, -2, -1, -2}, []int{1, 2, -1, -2}}, {[]int{3, 2, -2, -1}, []int{1, -3}},
		{[]int{1, 1, 1, 1, 1, 1, 1, 1}, []int{-1, -1, -1, -1, -1, -1, -1, -1}}, {[]int{3, -2, -3}, []int{3, -2, -3}}, {[]int{3, 2, -3}, []int{3, -2, -3}},
	} {
		if got, e := loop.PlainPath(x.path); !slices.Equal(got, x.want) || e != api.OK {
			t.Error("PlainPath", x.path, got, e)
		}
	}
}

// P3.2, P3.3
func TestBadPaths(t *testing.T) {
	for want, paths := range badPaths {
		for _, path := range paths {
			before := slices.Clone(path)
			plain, e := loop.PlainPath(path)
			refused(t, show("PlainPath", path), plain, e, want)
			square, e := loop.Square(path)
			refused(t, show("Square", path), square, e, want)
			if !slices.Equal(before, path) {
				t.Error("a path was changed", before, path)
			}
		}
	}
}

// P3.2
func TestPlainPathKeepsTrace(t *testing.T) {
	d := dice{9}
	fields := someFields(9)
	for i := range 2000 {
		f, path := fields[i%len(fields)], d.closed()
		plain, _ := loop.PlainPath(path)
		site := d.below(len(f.Links) / 3)
		a, e := loop.Trace(f, site, path)
		b, g := loop.Trace(f, site, plain)
		if a != b || e != api.OK || g != api.OK {
			t.Error("the traces of", path, "and", plain, a, e, b, g)
		}
	}
}

// distinct returns terms with as many different plain paths.
func distinct(n, coef int) []api.Term {
	var l []api.Term
	for _, path := range somePaths() {
		if len(l) < n && slices.Equal(plainPath(path), path) {
			l = append(l, term(coef, path...))
		}
	}
	return l
}

// P3.2
func TestValidateTerms(t *testing.T) {
	for _, l := range [][]api.Term{nil, {}, make([]api.Term, 40), distinct(40, 1000), distinct(40, -1000), {term(0)}, {term(1, ones[:8]...)}, {term(1, 1), term(1, 1)}, {term(1, 1, -1, 3, -3)}} {
		if e := loop.ValidateTerms(l); e != api.OK {
			t.Error("ValidateTerms", l, e)
		}
	}
	for want, sums := range badSums() {
		for _, l := range sums {
			if e := loop.ValidateTerms(l); e != want {
				t.Error("ValidateTerms", l, e, "want", want)
			}
		}
	}
}

// R2, R3: the errors of the sums of loops come first, those of the first one before those of the second one.
func TestBadSums(t *testing.T) {
	cold, _ := torus.Cold([3]int{2, 2, 2})
	good := distinct(40, 600)
	for want, sums := range badSums() {
		for _, l := range sums {
			check := untouched(t, l)
			for name, call := range map[string]func() (any, api.Errno){
				"Plain":         func() (any, api.Errno) { r, e := loop.Plain(l); return r, e },
				"Add":           func() (any, api.Errno) { r, e := loop.Add(l, good); return r, e },
				"Add to":        func() (any, api.Errno) { r, e := loop.Add(good, l); return r, e },
				"Scale":         func() (any, api.Errno) { r, e := loop.Scale(l, 1); return r, e },
				"Scale by much": func() (any, api.Errno) { r, e := loop.Scale(l, 1001); return r, e },
				"Times":         func() (any, api.Errno) { r, e := loop.Times(l, good); return r, e },
				"Times of none": func() (any, api.Errno) { r, e := loop.Times(nil, l); return r, e },
				"Same":          func() (any, api.Errno) { r, e := loop.Same(l, good); return r, e },
				"Same as":       func() (any, api.Errno) { r, e := loop.Same(good, l); return r, e },
				"Same as it":    func() (any, api.Errno) { r, e := loop.Same(l, l); return r, e },
				"Value":         func() (any, api.Errno) { r, e := loop.Value(cold, 0, l); return r, e },
			} {
				r, e := call()
				refused(t, show(name, l), r, e, want)
			}
			for second, others := range badSums() {
				for _, m := range others {
					if second == want {
						continue
					}
					r, e := loop.Add(l, m)
					refused(t, "Add", r, e, want)
					r, e = loop.Times(l, m)
					refused(t, "Times", r, e, want)
					is, e := loop.Same(l, m)
					refused(t, "Same", is, e, want)
				}
			}
			check()
		}
	}
}

// P3.2, P3.3
func TestDrawnSums(t *testing.T) {
	d := dice{10}
	for i := range 3000 {
		a, b, k := d.sum(d.below(8), 1+i%8), d.sum(d.below(8), 1+d.below(5)), d.below(9)-4
		check := untouched(t, a, b)
		plain, e := loop.Plain(a)
		checkSum(t, show("Plain", a), plain, e, plainForm(a))
		sum, e := loop.Add(a, b)
		checkSum(t, show("Add", a, b), sum, e, plainForm(slices.Concat(a, b)))
		scaled, e := loop.Scale(a, k)
		checkSum(t, show("Scale", a, k), scaled, e, plainForm(multiplied(a, k)))
		times, e := loop.Times(a, b)
		checkSum(t, show("Times", a, b), times, e, plainForm(product(a, b)))
		for _, l := range [][]api.Term{plain, sum, scaled, times} {
			scribble(t, l)
		}
		check()
	}
}

// P3.2
func TestSame(t *testing.T) {
	d := dice{11}
	for range 3000 {
		a, b := d.sum(d.below(5), 2), d.sum(d.below(5), 2)
		check := untouched(t, a, b)
		is, e := loop.Same(a, b)
		if is != equal(plainForm(a), plainForm(b)) || e != api.OK {
			t.Error("Same", a, b, is, e)
		}
		plain, _ := loop.Plain(a)
		if is, e := loop.Same(plain, a); !is || e != api.OK {
			t.Error("Same as the plain form", a, is, e)
		}
		check()
	}
}

// P3.2: the plain forms have no limit here.
func TestSameOfLargeForms(t *testing.T) {
	for _, x := range []struct {
		a, b []api.Term
		want bool
	}{
		{nil, nil, true},
		{nil, []api.Term{term(0, 1), term(5, 2), term(-5, -2)}, true},
		{[]api.Term{term(2, 1)}, []api.Term{term(1, -1), term(1, 2, -2, 1)}, true},
		{[]api.Term{term(900, 1), term(900, 1)}, []api.Term{term(900, -1), term(800, 1), term(100, 1)}, true},
		{[]api.Term{term(900, 1), term(900, 1)}, []api.Term{term(900, -1), term(800, 1), term(101, 1)}, false},
		{[]api.Term{term(900, 1), term(900, 1)}, nil, false},
		{[]api.Term{term(1)}, []api.Term{term(1, 1)}, false},
		{[]api.Term{term(1, 1)}, []api.Term{term(1, 1), term(1, 2)}, false},
		{[]api.Term{term(1, 1)}, []api.Term{term(-1, 1)}, false},
		{[]api.Term{term(1, 1, 2, -1, -2)}, []api.Term{term(1, 2, -1, -2, 1)}, false},
	} {
		for _, l := range [][2][]api.Term{{x.a, x.b}, {x.b, x.a}} {
			if is, e := loop.Same(l[0], l[1]); is != x.want || e != api.OK {
				t.Error("Same", l, is, e)
			}
		}
	}
}

// P3.2: both sides of MaxCoef and of MaxTerms, for results.
func TestLimitsOfResults(t *testing.T) {
	for _, x := range []struct {
		name string
		a, b []api.Term
	}{
		{"1000", []api.Term{term(500, 1)}, []api.Term{term(500, -1)}},
		{"1001", []api.Term{term(501, 1)}, []api.Term{term(500, -1)}},
		{"-1000", []api.Term{term(-500, 1)}, []api.Term{term(-500, -1)}},
		{"-1001", []api.Term{term(-501, 1)}, []api.Term{term(-500, -1)}},
		{"on the way only", []api.Term{term(900, 1), term(900, 1)}, []api.Term{term(-900, 1)}},
		{"40 terms", distinct(40, 1), distinct(20, 1)},
		{"40 terms of 41", distinct(41, 1)[:40], distinct(41, 1)[40:]},
		{"40 terms, one left out", distinct(40, 1), append(distinct(1, -1), distinct(41, 1)[40])},
		{"no terms", distinct(40, 1000), distinct(40, -1000)},
	} {
		got, e := loop.Add(x.a, x.b)
		checkSum(t, x.name, got, e, plainForm(slices.Concat(x.a, x.b)))
		if all := slices.Concat(x.a, x.b); len(all) <= 40 {
			got, e = loop.Plain(all)
			checkSum(t, x.name, got, e, plainForm(all))
		}
	}
	got, e := loop.Plain([]api.Term{term(501, 1), term(500, 1)})
	refused(t, "Plain", got, e, api.ErrLarge)
	got, e = loop.Add(distinct(41, 1)[:40], distinct(41, 1)[40:])
	refused(t, "Add", got, e, api.ErrLarge)
}

// P3.2: the empty path is before the others, and a prefix before what begins with it.
func TestOrderOfTerms(t *testing.T) {
	l := []api.Term{term(1, 1, -2), term(2, -1, -2), term(3), term(4, -1), term(5, -3, 1), term(6, 2), term(7, -1, -2, -2), term(8, 1, -3)}
	want := []api.Term{term(3), term(5, -3, 1), term(6, -2), term(4, -1), term(2, -1, -2), term(7, -1, -2, -2), term(8, 1, -3), term(1, 1, -2)}
	// 5 has the path -3 1, from its end -1 3.
	if got, e := loop.Plain(l); !equal(got, want) || e != api.OK {
		t.Error("Plain", got, e)
	}
	slices.Reverse(l)
	if got, e := loop.Plain(l); !equal(got, want) || e != api.OK {
		t.Error("Plain", got, e)
	}
}

// P3.3
func TestScale(t *testing.T) {
	l := []api.Term{term(2, 1), term(-3), term(1, 2, 2, -2)}
	for _, x := range []struct {
		k    int
		want []api.Term
	}{
		{1, []api.Term{term(-3), term(1, -2), term(2, -1)}},
		{-3, []api.Term{term(9), term(-3, -2), term(-6, -1)}},
		{0, nil},
		{333, []api.Term{term(-999), term(333, -2), term(666, -1)}},
	} {
		if got, e := loop.Scale(l, x.k); !equal(got, x.want) || e != api.OK {
			t.Error("Scale", x.k, got, e)
		}
	}
	for _, k := range []int{334, -334, 1000, -1000} {
		got, e := loop.Scale(l, k)
		refused(t, "Scale", got, e, api.ErrLarge)
	}
	for _, k := range []int{1000, -1000} {
		if got, e := loop.Scale([]api.Term{term(1, 3)}, k); !equal(got, []api.Term{term(k, -3)}) || e != api.OK {
			t.Error("Scale", k, got, e)
		}
	}
	for _, k := range []int{1001, -1001, least, greatest} {
		for _, m := range [][]api.Term{nil, l, {term(1000, 1), term(1000, 1)}} {
			got, e := loop.Scale(m, k)
			refused(t, "Scale", got, e, api.ErrArg)
		}
	}
	// Only the result has a limit: the plain form of the sum itself may be too large.
	large := []api.Term{term(900, 1), term(900, 1)}
	if got, e := loop.Scale(large, 0); len(got) != 0 || e != api.OK {
		t.Error("Scale", got, e)
	}
}

// P3.3
func TestTimes(t *testing.T) {
	long := []int{1, 2, 3, 1, 2, 3, 1, 2}
	folded := []int{1, -1, 2, -2, 3, -3, 1, 2}
	for _, x := range []struct{ a, b, want []api.Term }{
		{nil, nil, nil},
		{[]api.Term{term(3, 1)}, nil, nil},
		{nil, []api.Term{term(3, 1)}, nil},
		{[]api.Term{term(3)}, []api.Term{term(-2)}, []api.Term{term(-12)}},
		{[]api.Term{term(1, 1)}, []api.Term{term(1, 2)}, []api.Term{term(1, -2, -1), term(1, 1, -2)}},
		{[]api.Term{term(1, 2)}, []api.Term{term(1, 1)}, []api.Term{term(1, -1, -2), term(1, 1, -2)}},
		{[]api.Term{term(5, 1)}, []api.Term{term(1, 1)}, []api.Term{term(5), term(5, -1, -1)}},
		// As long as a path may be before it is reduced, and short after that.
		{[]api.Term{term(1, folded...)}, []api.Term{term(1, folded...)}, []api.Term{term(1), term(1, -2, -1, -2, -1)}},
		{[]api.Term{term(2, long...)}, []api.Term{term(-1)}, []api.Term{term(-4, -2, -1, -3, -2, -1, -3, -2, -1)}},
		// Paths that are too long are left out if their coefficients sum up to 0.
		{[]api.Term{term(1, long...), term(-1, turned(long)...)}, []api.Term{term(1, long...)}, nil},
		{[]api.Term{term(1, 1, 2)}, []api.Term{term(1, long...), term(-1, long...), term(1)}, []api.Term{term(2, -2, -1)}},
		{[]api.Term{term(0, long...)}, []api.Term{term(1000, long...)}, nil},
		{[]api.Term{term(1000, 1)}, []api.Term{term(1, 2), term(-1, -2)}, nil},
	} {
		check := untouched(t, x.a, x.b)
		got, e := loop.Times(x.a, x.b)
		if !equal(got, x.want) || e != api.OK {
			t.Error("Times", x.a, x.b, got, e)
		}
		scribble(t, got)
		check()
	}
	for _, x := range [][2][]api.Term{
		{{term(1, long...)}, {term(1, long...)}}, {{term(1, long...)}, {term(1, turned(long)...)}}, {{term(1, long...)}, {term(1, 3)}},
		{{term(1000)}, {term(1000)}}, {{term(32, 1)}, {term(-32, 2)}}, {{term(501)}, {term(1)}}, {distinct(40, 1), distinct(40, 1)},
	} {
		got, e := loop.Times(x[0], x[1])
		refused(t, show("Times", x), got, e, api.ErrLarge)
	}
}

// P3.3
func TestSquare(t *testing.T) {
	for _, path := range somePaths() {
		before := slices.Clone(path)
		l := []api.Term{term(1, path...)}
		got, e := loop.Square(path)
		checkSum(t, show("Square", path), got, e, plainForm(product(l, l)))
		scribble(t, got)
		if !slices.Equal(path, before) {
			t.Fatal("a path was changed", before, path)
		}
	}
	for _, x := range []struct {
		path []int
		want []api.Term
	}{
		{nil, []api.Term{term(2)}},
		{[]int{1, 2, -1, -2}, []api.Term{term(1), term(1, 1, 2, -1, -2, 1, 2, -1, -2)}},
		{[]int{1, 2, 3, 2, -1}, []api.Term{term(1), term(1, 1, -2, -3, -2, -2, -3, -2, -1)}},
	} {
		if got, e := loop.Square(x.path); !equal(got, x.want) || e != api.OK {
			t.Error("Square", x.path, got, e)
		}
	}
	for _, path := range [][]int{{1, 2, 3, 1, 2}, {1, 2, 3, 1, 2, 3, 1, 2}} {
		got, e := loop.Square(path)
		refused(t, show("Square", path), got, e, api.ErrLarge)
	}
}
