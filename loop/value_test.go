package loop_test

import (
	"math/big"
	"slices"
	"testing"

	"plaquette/api"
	"plaquette/loop"
	"plaquette/torus"
)

// closedSum returns a sum of closed loops, not of the longest, so that products are often within the limits.
func (d *dice) closedSum() []api.Term {
	l := make([]api.Term, d.below(5))
	for i := range l {
		path := d.closed()
		for len(leftOut(path)) > 4 {
			path = d.closed()
		}
		l[i] = api.Term{Coef: d.below(41) - 20, Path: path}
	}
	return l
}

// P3.4
func TestValue(t *testing.T) {
	d := dice{12}
	for _, f := range someFields(12) {
		before := clonedField(f)
		for range 20 {
			site, l := d.below(len(f.Links)/3), d.closedSum()
			check := untouched(t, l)
			got, e := loop.Value(f, site, l)
			checkRat(t, show("Value", f, site, l), got, e, ratOf(exactValue(t, f, site, l)))
			check()
		}
		if !slices.Equal(before.Links, f.Links) {
			t.Error("a field was changed", before, f)
		}
	}
}

// P3.4, S3
func TestValuesOfSumsAndProducts(t *testing.T) {
	d := dice{13}
	products := 0
	for _, f := range someFields(13) {
		for range 20 {
			site, k := d.below(len(f.Links)/3), d.below(21)-10
			a, b := d.closedSum(), d.closedSum()
			x, y := exactValue(t, f, site, a), exactValue(t, f, site, b)
			l, e := loop.Plain(a)
			checkValue(t, f, site, l, e, x)
			l, e = loop.Add(a, b)
			checkValue(t, f, site, l, e, new(big.Rat).Add(x, y))
			l, e = loop.Scale(a, k)
			checkValue(t, f, site, l, e, new(big.Rat).Mul(x, big.NewRat(int64(k), 1)))
			l, e = loop.Times(a, b)
			checkValue(t, f, site, l, e, new(big.Rat).Mul(x, y))
			if e == api.OK && len(l) > 1 {
				products++
			}
		}
	}
	if products < 100 {
		t.Error("hardly any products:", products)
	}
}

// checkValue checks the value of a result, if there is one.
func checkValue(t *testing.T, f api.Field, site int, l []api.Term, e api.Errno, want *big.Rat) {
	t.Helper()
	if e == api.ErrLarge {
		return
	}
	if e != api.OK {
		t.Error(e)
	}
	got, e := loop.Value(f, site, l)
	checkRat(t, show("Value", f, site, l), got, e, ratOf(want))
}

// P3.4
func TestValueExamples(t *testing.T) {
	f := point(t, 8, 2, 4)
	for _, x := range []struct {
		l    []api.Term
		want api.Rat
	}{
		{nil, rat(0, 1)},
		{[]api.Term{term(7)}, rat(14, 1)},
		{[]api.Term{term(0, 1)}, rat(0, 1)},
		{[]api.Term{term(3, 1), term(-1)}, rat(1, 1)},
		{[]api.Term{term(2, 1, 2), term(1, 1, 1)}, rat(-3, 1)},
		{[]api.Term{term(5, 1), term(-5, -1)}, rat(0, 1)},
		{slices.Repeat([]api.Term{term(-1000)}, 40), rat(-80000, 1)},
	} {
		got, e := loop.Value(f, 0, x.l)
		checkRat(t, show("Value", x.l), got, e, x.want)
	}
	rough := api.Field{Sizes: [3]int{1, 1, 1}, Links: []api.Unit{u(3, 4, 0, 0, 5), u(-1, 2, 2, 0, 3), one}}
	// 6/5 and -2/3.
	got, e := loop.Value(rough, 0, []api.Term{term(2, 1), term(-1, 2), term(1)})
	checkRat(t, "Value", got, e, rat(76, 15))
	got, e = loop.Value(rough, 0, []api.Term{term(5, 1), term(9, 2)})
	checkRat(t, "Value", got, e, rat(0, 1))
}

// P3.4: the errors of the site, of the sum and of open paths, in this order.
func TestValueErrors(t *testing.T) {
	for _, f := range someFields(14) {
		for _, site := range noSites(f) {
			for _, l := range [][]api.Term{nil, {term(1)}, {term(1, 1)}, {term(1001)}, {term(1, 0)}} {
				got, e := loop.Value(f, site, l)
				refused(t, "Value", got, e, api.ErrNone)
			}
		}
	}
	cold, _ := torus.Cold([3]int{2, 3, 2})
	for _, l := range [][]api.Term{
		{term(1, 1)}, {term(0, 1)}, {term(1), term(1, 2, 2)}, {term(1, 1), term(-1, 1)}, {term(1, 1, 1), term(3, 1, 2, -1)}, {term(1, 3), term(1)},
	} {
		got, e := loop.Value(cold, 0, l)
		refused(t, show("Value", l), got, e, api.ErrOpen)
	}
	for want, sums := range badSums() {
		for _, l := range sums {
			got, e := loop.Value(cold, 0, append([]api.Term{term(1, 1)}, l...))
			refused(t, "Value", got, e, want)
		}
	}
	// Open in one torus, closed in another.
	for _, x := range []struct {
		path []int
		want api.Errno
	}{{[]int{1, 1}, api.OK}, {[]int{2, 2}, api.ErrOpen}, {[]int{2, 2, 2}, api.OK}, {[]int{3, 1, 3, 1}, api.OK}, {nil, api.OK}} {
		if _, e := loop.Value(cold, 5, []api.Term{{Coef: 1, Path: x.path}}); e != x.want {
			t.Error("Value", x.path, e)
		}
	}
}
