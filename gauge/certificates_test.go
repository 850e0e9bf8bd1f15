package gauge_test

import (
	"slices"
	"testing"

	"plaquette/api"
	"plaquette/gauge"
	"plaquette/quat"
	"plaquette/torus"
)

// checkEquivalence holds Equivalent and Certificate against what is wanted.
func checkEquivalence(t *testing.T, a, b api.Field, want bool) {
	t.Helper()
	if is, e := gauge.Equivalent(a, b); is != want || e != api.OK {
		t.Error("Equivalent", a, b, is, e)
	}
	q, is, e := gauge.Certificate(a, b)
	if is != want || e != api.OK {
		t.Error("Certificate", a, b, q, is, e)
	}
	if !want {
		refused(t, "Certificate", q, e, api.OK)
		return
	}
	for _, element := range q {
		if element < -10 || element > 10 {
			t.Error("Certificate has an element beyond 10", a, b, q)
		}
	}
	if !proves(q, loopsOf(t, a), loopsOf(t, b)) {
		t.Error("Certificate proves nothing", a, b, q)
	}
	if e := gauge.Check(a, b, q); e != api.OK {
		t.Error("Check of Certificate", a, b, q, e)
	}
}

// point is the field of one site with three links, which are its loops.
func point(a, b, c api.Unit) api.Field {
	return api.Field{Sizes: [3]int{1, 1, 1}, Links: []api.Unit{a, b, c}}
}

// P4.3: all pairs of links that have the traces of all other pairs: these are all systems of equations from which a certificate comes.
func TestCertificatesOfAllPairs(t *testing.T) {
	var pairs [][2]api.Unit
	for _, x := range units(2) {
		for _, y := range units(2) {
			if sameTrace(x, y) {
				pairs = append(pairs, [2]api.Unit{x, y})
			}
		}
	}
	d := dice{31}
	for at, x := range pairs {
		checkEquivalence(t, point(x[0], one, minus), point(x[1], one, minus), true)
		checkEquivalence(t, point(one, x[0], one), point(one, x[1], one), true)
		checkEquivalence(t, point(minus, minus, x[0]), point(minus, minus, x[1]), true)
		for _, y := range pairs {
			want := sameTrace(product(t, x[0], y[0]), product(t, x[1], y[1]))
			switch l := d.draw(1, []api.Unit{one, minus})[0]; at % 3 {
			case 0:
				checkEquivalence(t, point(x[0], y[0], l), point(x[1], y[1], l), want)
			case 1:
				checkEquivalence(t, point(x[0], l, y[0]), point(x[1], l, y[1]), want)
			case 2:
				checkEquivalence(t, point(l, x[0], y[0]), point(l, x[1], y[1]), want)
			}
		}
	}
}

// P4.3: all pairs of one link, whose traces may differ.
func TestCertificatesOfOneLink(t *testing.T) {
	for _, x := range units(2) {
		for _, y := range units(2) {
			for at := range 3 {
				a, b := cold([3]int{1, 1, 1}, map[int]api.Unit{at: x}), cold([3]int{1, 1, 1}, map[int]api.Unit{at: y})
				checkEquivalence(t, a, b, sameTrace(x, y))
			}
		}
	}
}

// conjugated returns units with the traces of others: each turned by a unit of its own.
func (d *dice) conjugated(t *testing.T, l []api.Unit) []api.Unit {
	turned := make([]api.Unit, len(l))
	for at, x := range l {
		by := d.draw(1, units(2))[0]
		turned[at] = product(t, by, x, inverse(by))
	}
	return turned
}

// P4.3: three loops, each of which could be carried to the other one alone.
func TestCertificatesOfThreeLoops(t *testing.T) {
	d := dice{32}
	seen := map[bool]int{}
	for _, among := range [][]api.Unit{units(2), {i, j, k, opposite(i), opposite(j), opposite(k)}, {half, inverse(half), i, j}, {one, minus, i}} {
		for range 3000 {
			l := d.draw(3, among)
			m := d.conjugated(t, l)
			want := alike(t, l, m)
			seen[want]++
			checkEquivalence(t, point(l[0], l[1], l[2]), point(m[0], m[1], m[2]), want)
		}
	}
	if seen[true] < 500 || seen[false] < 500 {
		t.Error("hardly any:", seen)
	}
	// Only the trace of the product of all three differs.
	checkEquivalence(t, point(i, j, k), point(opposite(i), j, k), false)
	checkEquivalence(t, point(i, j, k), point(i, j, opposite(k)), false)
	checkEquivalence(t, point(i, j, k), point(opposite(i), opposite(j), k), true)
}

// P4.3, S2: a field and one that is transformed from it are equivalent, and traces along closed paths are equal.
func TestTransformedFieldsAreEquivalent(t *testing.T) {
	d := dice{33}
	small := units(2)
	for _, f := range someSmall(34) {
		g := d.draw(count(f.Sizes), small)
		h, e := gauge.Transform(f, g)
		if e != api.OK {
			t.Fatal("Transform", f, g, e)
		}
		check := untouched(t, f, h)
		checkEquivalence(t, f, h, true)
		checkEquivalence(t, h, f, true)
		checkEquivalence(t, f, f, true)
		fixed, _ := gauge.Fix(f)
		checkEquivalence(t, f, fixed, true)
		checkTraces(t, &d, f, h)
		// The unit at the site 0 is a certificate, because the loops begin and end there.
		q := parts(g[0])
		if e := gauge.Check(f, h, q); e != api.OK {
			t.Error("Check", f, h, q, e)
		}
		check()
	}
}

// checkTraces checks that traces along closed paths are equal in two fields.
func checkTraces(t *testing.T, d *dice, f, g api.Field) {
	t.Helper()
	paths := [][]int{d.closed(), d.closed(), d.closed()}
	for dir, size := range f.Sizes {
		paths = append(paths, slices.Repeat([]int{dir + 1}, size))
	}
	for _, path := range paths {
		site := d.below(count(f.Sizes))
		x, _ := torus.Along(f, site, path)
		y, _ := torus.Along(g, site, path)
		if !sameTrace(x, y) {
			t.Error("traces of equivalent fields", f, g, site, path, x, y)
		}
	}
}

// swapped returns the field whose links are turned by 1 + i: this one is no unit, and yet it carries small units to small ones.
func swapped(f api.Field) api.Field {
	g := cloned(f)
	for number, x := range f.Links {
		g.Links[number] = u(x.A, x.B, -x.D, x.C, x.N)
	}
	return g
}

// P4.3: equivalent by a certificate that no transformation of the small field has.
func TestEquivalentByNoSmallTransformation(t *testing.T) {
	d := dice{35}
	for _, f := range someSmall(36) {
		g, _ := gauge.Transform(swapped(f), d.draw(count(f.Sizes), units(2)))
		checkEquivalence(t, f, g, true)
		checkEquivalence(t, g, f, true)
		checkTraces(t, &d, f, g)
	}
	checkEquivalence(t, point(i, j, k), point(i, k, opposite(j)), true)
	for _, x := range []struct {
		q    [4]int
		want api.Errno
	}{{[4]int{1, 1, 0, 0}, api.OK}, {[4]int{-9, -9, 0, 0}, api.OK}, {[4]int{1, -1, 0, 0}, api.ErrProof}, {[4]int{1, 1, 1, 1}, api.ErrProof}} {
		if e := gauge.Check(point(i, j, k), point(i, k, opposite(j)), x.q); e != x.want {
			t.Error("Check", x.q, e)
		}
	}
}

// P4.3: one link is another one: mostly the fields are equivalent no more, and each loop counts.
func TestFieldsThatDifferInOneLink(t *testing.T) {
	d := dice{37}
	small := units(2)
	seen := map[bool]int{}
	for _, sizes := range validSizes() {
		f := d.field(sizes, small)
		for number := range f.Links {
			g := cloned(f)
			g.Links[number] = small[d.below(len(small))]
			h, _ := gauge.Transform(g, d.draw(count(sizes), small))
			want := alike(t, loopsOf(t, f), loopsOf(t, h))
			seen[want]++
			checkEquivalence(t, f, h, want)
		}
	}
	if seen[true] < 10 || seen[false] < 100 {
		t.Error("hardly any:", seen)
	}
}

// P4.3: one loop alone is another one.
func TestEachLoopCounts(t *testing.T) {
	for _, sizes := range validSizes() {
		f, tree := cold(sizes, nil), treeOf(sizes)
		for number := range f.Links {
			if slices.Contains(tree, number) {
				continue
			}
			for _, x := range []api.Unit{minus, i, half} {
				g := cold(sizes, map[int]api.Unit{number: x})
				checkEquivalence(t, f, g, false)
				checkEquivalence(t, g, f, false)
				if e := gauge.Check(f, g, [4]int{1, 0, 0, 0}); e != api.ErrProof {
					t.Error("Check", f, g, e)
				}
			}
			a, b := cold(sizes, map[int]api.Unit{number: i}), cold(sizes, map[int]api.Unit{number: j})
			checkEquivalence(t, a, b, true)
			for q, want := range map[[4]int]api.Errno{{1, 0, 0, 0}: api.ErrProof, {0, 1, 1, 0}: api.OK, {1, 0, 0, 1}: api.OK, {1, 0, 0, -1}: api.ErrProof} {
				if e := gauge.Check(a, b, q); e != want {
					t.Error("Check", a, b, q, e)
				}
			}
		}
	}
}

// P4.3: links that are all -1 have the plaquettes of the cold field; they are equivalent if each path around the torus has an even number of steps.
func TestAllMinusOne(t *testing.T) {
	for _, sizes := range validSizes() {
		f, g := cold(sizes, nil), cold(sizes, nil)
		for number := range g.Links {
			g.Links[number] = minus
		}
		before, _ := torus.Plaquettes(f)
		if after, _ := torus.Plaquettes(g); !slices.Equal(before, after) {
			t.Error("the plaquettes differ", sizes)
		}
		checkEquivalence(t, f, g, sizes[0]%2 == 0 && sizes[1]%2 == 0 && sizes[2]%2 == 0)
	}
}

// P4.3: what is centered has the same plaquettes, but it is equivalent only where the sign does not show.
func TestCenteredFields(t *testing.T) {
	d := dice{38}
	for _, sizes := range validSizes() {
		for dir := range 3 {
			g, _ := gauge.Center(cold(sizes, nil), dir)
			checkEquivalence(t, cold(sizes, nil), g, false)
			f := d.field(sizes, []api.Unit{i, opposite(i)})
			g, _ = gauge.Center(f, dir)
			checkEquivalence(t, f, g, alike(t, loopsOf(t, f), loopsOf(t, g)))
		}
	}
}

// P4.3: all quaternions with small elements, and large multiples of them.
func TestCheck(t *testing.T) {
	d := dice{39}
	small := units(2)
	pairs := [][2]api.Field{{point(i, j, k), point(i, k, opposite(j))}, {cold([3]int{2, 1, 1}, nil), cold([3]int{2, 1, 1}, nil)}}
	for _, sizes := range [][3]int{{1, 1, 1}, {2, 2, 1}, {1, 3, 1}, {2, 2, 2}} {
		f := d.field(sizes, small)
		g, _ := gauge.Transform(f, d.draw(count(sizes), small))
		h := d.field(sizes, []api.Unit{half, inverse(half), one})
		x, _ := gauge.Transform(h, d.draw(count(sizes), small))
		pairs = append(pairs, [2]api.Field{f, g}, [2]api.Field{h, x}, [2]api.Field{f, d.field(sizes, small)}, [2]api.Field{f, swapped(f)})
	}
	seen := map[api.Errno]int{}
	for _, p := range pairs {
		a, b := loopsOf(t, p[0]), loopsOf(t, p[1])
		for n := range 625 {
			q := [4]int{n%5 - 2, n/5%5 - 2, n/25%5 - 2, n/125 - 2}
			want := api.ErrProof
			if proves(q, a, b) {
				want = api.OK
			}
			if q == [4]int{} {
				want = api.ErrZero
			}
			seen[want]++
			for _, factor := range []int{1, 500} {
				if e := gauge.Check(p[0], p[1], scaled(q, factor)); e != want {
					t.Error("Check", p, q, factor, e, "want", want)
				}
			}
		}
	}
	if seen[api.OK] < 100 || seen[api.ErrProof] < 1000 {
		t.Error("hardly any:", seen)
	}
}

// P4.3: both sides of the limit for each element, the zero, and what comes first.
func TestCheckErrors(t *testing.T) {
	f, g := cold([3]int{1, 2, 1}, nil), cold([3]int{1, 2, 1}, map[int]api.Unit{0: minus})
	for at := range 4 {
		for n, want := range map[int]api.Errno{
			1000: api.OK, -1000: api.OK, 1: api.OK, -1: api.OK, 1001: api.ErrArg, -1001: api.ErrArg, least: api.ErrArg, greatest: api.ErrArg, 1 << 32: api.ErrArg, 0: api.ErrZero,
		} {
			var q [4]int
			q[at] = n
			if e := gauge.Check(f, f, q); e != want {
				t.Error("Check", q, e)
			}
			wrong := want
			if want == api.OK {
				wrong = api.ErrProof
			}
			if e := gauge.Check(f, g, q); e != wrong {
				t.Error("Check", q, e)
			}
		}
	}
	if e := gauge.Check(f, f, [4]int{1000, -1000, 1000, -1000}); e != api.OK {
		t.Error("Check", e)
	}
}

// R11: which certificate is free, but it is the same each time.
func TestCertificateAgain(t *testing.T) {
	d := dice{40}
	for _, f := range someSmall(41) {
		g, _ := gauge.Transform(f, d.draw(count(f.Sizes), units(2)))
		q, is, e := gauge.Certificate(f, g)
		again, still, e2 := gauge.Certificate(cloned(f), cloned(g))
		if q != again || is != still || e != e2 {
			t.Error("Certificate", f, g, q, again)
		}
	}
}

// freedomOf is the dimension of what commutes with all loops, by the rule of the document.
func freedomOf(t *testing.T, f api.Field) int {
	t.Helper()
	loops := loopsOf(t, f)
	freedom := 4
	for at, x := range loops {
		if x != one && x != minus && freedom == 4 {
			freedom = 2
		}
		for _, y := range loops[:at] {
			if is, _ := quat.Commute(x, y); !is {
				freedom = 1
			}
		}
	}
	return freedom
}

// P4.4
func TestFreedom(t *testing.T) {
	d := dice{42}
	small := units(2)
	seen := map[int]int{}
	for _, sizes := range validSizes() {
		for _, among := range [][]api.Unit{{one}, {one, minus}, {one, minus, i, opposite(i)}, {one, half, inverse(half)}, {i, j}, {opposite(half), inverse(half)}, small} {
			for range 6 {
				f := d.field(sizes, among)
				f, _ = gauge.Transform(f, d.draw(count(sizes), small))
				check := untouched(t, f)
				want := freedomOf(t, f)
				seen[want]++
				if n, e := gauge.Freedom(f); n != want || e != api.OK {
					t.Error("Freedom", f, n, e, "want", want)
				}
				check()
			}
		}
	}
	if seen[1] < 100 || seen[2] < 100 || seen[4] < 100 {
		t.Error("hardly any:", seen)
	}
}

// P4.4: each loop counts, and each pair of them.
func TestFreedomOfTwoLoops(t *testing.T) {
	for _, sizes := range validSizes() {
		f, tree := cold(sizes, nil), treeOf(sizes)
		if n, e := gauge.Freedom(f); n != 4 || e != api.OK {
			t.Error("Freedom", f, n, e)
		}
		if count(sizes) > 8 {
			continue // too many pairs
		}
		for x := range f.Links {
			for y := range x {
				if slices.Contains(tree, x) || slices.Contains(tree, y) {
					continue
				}
				for _, c := range []struct {
					a, b api.Unit
					want int
				}{{minus, minus, 4}, {i, minus, 2}, {one, half, 2}, {k, opposite(k), 2}, {half, inverse(half), 2}, {i, j, 1}, {half, u(1, -1, 1, 1, 2), 1}} {
					if n, e := gauge.Freedom(cold(sizes, map[int]api.Unit{x: c.a, y: c.b})); n != c.want || e != api.OK {
						t.Error("Freedom", sizes, x, y, c, n, e)
					}
				}
			}
		}
	}
}

// P4.4
func TestFreedomOfAllPairs(t *testing.T) {
	for _, x := range units(2) {
		for _, y := range units(2) {
			f := point(x, y, one)
			if n, e := gauge.Freedom(f); n != freedomOf(t, f) || e != api.OK {
				t.Error("Freedom", f, n, e)
			}
		}
	}
}
