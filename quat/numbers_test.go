package quat_test

import (
	"math/big"
	"testing"

	"plaquette/api"
	"plaquette/quat"
)

func checkRat(t *testing.T, what string, got api.Rat, e api.Errno, want api.Rat, f api.Errno) {
	t.Helper()
	if got != want || e != f {
		t.Errorf("%s: %v %v, want %v %v", what, got, e, want, f)
	}
}

func checkRats(t *testing.T, what string, got [3]api.Rat, e api.Errno, want [3]api.Rat, f api.Errno) {
	t.Helper()
	if got != want || e != f {
		t.Errorf("%s: %v %v, want %v %v", what, got, e, want, f)
	}
}

// P1.3
func TestTrace(t *testing.T) {
	for _, x := range someUnits(5) {
		got, e := quat.Trace(x)
		checkRat(t, "Trace", got, e, exactTrace(exactUnit(x)), api.OK)
	}
	for _, x := range []struct {
		u    api.Unit
		want api.Rat
	}{
		{u(3, 4, 0, 0, 5), api.Rat{Num: 6, Den: 5}},
		{u(0, 1, 0, 0, 1), api.Rat{Num: 0, Den: 1}},
		{u(0, 3, 4, 0, 5), api.Rat{Num: 0, Den: 1}},
		{third, api.Rat{Num: -1, Den: 1}},
		{opposite(edge), api.Rat{Num: -2 * 1040393, Den: 1048575}},
	} {
		got, e := quat.Trace(x.u)
		checkRat(t, "Trace", got, e, x.want, api.OK)
	}
}

// P1.3: the inverse of u times v has no limit.
func TestDistance(t *testing.T) {
	l := someUnits(3)
	for _, x := range l {
		for _, y := range l {
			trace := exactUnit(x).inverse().times(exactUnit(y))[0]
			want := new(big.Rat).Sub(big.NewRat(2, 1), new(big.Rat).Add(trace, trace))
			got, e := quat.Distance(x, y)
			checkRat(t, "Distance", got, e, ratOf(want), api.OK)
			if got.Num < 0 || got.Num > 4*got.Den {
				t.Error("Distance", x, y, got)
			}
		}
	}
	got, e := quat.Distance(u(3, 4, 0, 0, 5), u(4, 0, 3, 0, 5))
	checkRat(t, "Distance", got, e, api.Rat{Num: 26, Den: 25}, api.OK)
	got, e = quat.Distance(edge, edge)
	checkRat(t, "Distance", got, e, api.Rat{Num: 0, Den: 1}, api.OK)
	got, e = quat.Distance(edge, opposite(edge))
	checkRat(t, "Distance", got, e, api.Rat{Num: 4, Den: 1}, api.OK)
}

// P1.3
func TestOrder(t *testing.T) {
	one := exactOf(1, 0, 0, 0, 1)
	for _, x := range someUnits(5) {
		want, q := 0, one
		for n := 1; n <= 13 && want == 0; n++ {
			q = q.times(exactUnit(x))
			if q.equal(one) {
				want = n
			}
		}
		if got, e := quat.Order(x); got != want || e != api.OK {
			t.Error("Order", x, got, e, "want", want)
		}
	}
	for _, x := range []struct {
		u    api.Unit
		want int
	}{
		{u(1, 0, 0, 0, 1), 1}, {u(-1, 0, 0, 0, 1), 2}, {u(-1, 1, 1, 1, 2), 3}, {third, 3},
		{u(0, 1, 0, 0, 1), 4}, {u(0, 3, 4, 0, 5), 4}, {u(1, 1, 1, 1, 2), 6}, {sixth, 6},
		{u(3, 4, 0, 0, 5), 0}, {edge, 0},
	} {
		if got, e := quat.Order(x.u); got != x.want || e != api.OK {
			t.Error("Order", x.u, got, e, "want", x.want)
		}
	}
}

// P1.4
func TestRotate(t *testing.T) {
	vectors := [][3]int{
		{0, 0, 0}, {1, 0, 0}, {0, 1, 0}, {0, 0, 1}, {3, -4, 12}, {7, 11, -13},
		{1000, 1000, 1000}, {-1000, -1000, -1000}, {1000, -999, 998},
	}
	for _, x := range someUnits(5) {
		for _, v := range vectors {
			q := exactUnit(x)
			w := q.times(exactOf(0, v[0], v[1], v[2], 1)).times(q.inverse())
			want := [3]api.Rat{ratOf(w[1]), ratOf(w[2]), ratOf(w[3])}
			got, e := quat.Rotate(x, v)
			checkRats(t, "Rotate", got, e, want, api.OK)
			checkLength(t, v, got)
		}
	}
	got, e := quat.Rotate(u(3, 4, 0, 0, 5), [3]int{0, 1, 0})
	checkRats(t, "Rotate", got, e, [3]api.Rat{{Num: 0, Den: 1}, {Num: -7, Den: 25}, {Num: 24, Den: 25}}, api.OK)
}

func checkLength(t *testing.T, v [3]int, w [3]api.Rat) {
	t.Helper()
	sum := new(big.Rat)
	for _, x := range w {
		r := big.NewRat(int64(x.Num), int64(x.Den))
		sum.Add(sum, r.Mul(r, r))
	}
	if sum.Cmp(big.NewRat(int64(v[0]*v[0]+v[1]*v[1]+v[2]*v[2]), 1)) != 0 {
		t.Error("the length of", v, "and of", w)
	}
}

// badVectors returns vectors with a coordinate beyond MaxVector.
func badVectors() [][3]int {
	var l [][3]int
	for i := range 3 {
		for _, n := range []int{1001, -1001, 1<<63 - 1, -1 << 63} {
			var v [3]int
			v[i] = n
			l = append(l, v)
		}
	}
	return l
}

// P1.4
func TestBadVectors(t *testing.T) {
	for _, v := range badVectors() {
		r, e := quat.Rotate(u(1, 0, 0, 0, 1), v)
		checkRats(t, "Rotate", r, e, [3]api.Rat{}, api.ErrArg)
		x, e := quat.Cayley(v, 1)
		checkUnit(t, "Cayley", x, e, api.Unit{}, api.ErrArg)
	}
	for _, d := range []int{0, -1, 1001, -1000, 1<<63 - 1, -1 << 63} {
		x, e := quat.Cayley([3]int{1, 2, 3}, d)
		checkUnit(t, "Cayley", x, e, api.Unit{}, api.ErrArg)
		x, e = quat.Cayley([3]int{1000, 999, 997}, d)
		checkUnit(t, "Cayley", x, e, api.Unit{}, api.ErrArg)
	}
}

// P1.4: Cayley is (1 + p) / (1 - p), and Vector undoes it.
func TestCayley(t *testing.T) {
	one := exactOf(1, 0, 0, 0, 1)
	for _, d := range []int{1, 2, 3, 7, 500, 999, 1000} {
		for _, v := range [][3]int{
			{0, 0, 0}, {1, 0, 0}, {0, -1, 0}, {1, 1, 1}, {1, 2, -3}, {-4, 5, 6}, {12, 0, -35}, {229, 11, 3},
			{999, 0, 0}, {1000, 0, 0}, {0, 1000, 0}, {0, 0, -1000}, {1000, 1000, 1000}, {-1000, 1000, -1000}, {1000, 999, 997},
		} {
			p := exactOf(0, v[0], v[1], v[2], d)
			minus := exactOf(0, -v[0], -v[1], -v[2], d)
			want, f := one.plus(p).times(one.plus(minus).inverse()).unit()
			got, e := quat.Cayley(v, d)
			checkUnit(t, "Cayley", got, e, want, f)
			if e == api.OK {
				w, e := quat.Vector(got)
				checkRats(t, "Vector", w, e, [3]api.Rat{ratOf(p[1]), ratOf(p[2]), ratOf(p[3])}, api.OK)
			}
		}
	}
}

// P1.4
func TestCayleyExamples(t *testing.T) {
	for _, x := range []struct {
		v    [3]int
		d    int
		want api.Unit
		e    api.Errno
	}{
		{[3]int{1, 0, 0}, 2, u(3, 4, 0, 0, 5), api.OK},
		{[3]int{1, 1, 1}, 1, u(-1, 1, 1, 1, 2), api.OK},
		{[3]int{0, 0, 0}, 1000, u(1, 0, 0, 0, 1), api.OK},
		{[3]int{1000, 1000, 1000}, 1000, u(-1, 1, 1, 1, 2), api.OK},
		{[3]int{229, 11, 3}, 998, u(943433, 457084, 21956, 5988, 1048575), api.OK},
		{[3]int{224, 20, 0}, 999, api.Unit{}, api.ErrLarge},
		{[3]int{1000, 999, 997}, 1, api.Unit{}, api.ErrLarge},
	} {
		got, e := quat.Cayley(x.v, x.d)
		checkUnit(t, "Cayley", got, e, x.want, x.e)
	}
}

// P1.4
func TestVector(t *testing.T) {
	minusOne := u(-1, 0, 0, 0, 1)
	for _, x := range someUnits(5) {
		if x == minusOne {
			continue
		}
		var want [3]api.Rat
		for i, part := range [3]int{x.B, x.C, x.D} {
			want[i] = ratOf(big.NewRat(int64(part), int64(x.N+x.A)))
		}
		got, e := quat.Vector(x)
		checkRats(t, "Vector", got, e, want, api.OK)
	}
	got, e := quat.Vector(minusOne)
	checkRats(t, "Vector", got, e, [3]api.Rat{}, api.ErrZero)
	got, e = quat.Vector(u(3, 4, 0, 0, 5))
	checkRats(t, "Vector", got, e, [3]api.Rat{{Num: 1, Den: 2}, {Num: 0, Den: 1}, {Num: 0, Den: 1}}, api.OK)
}

// P1.3, P1.4, R2, R3
func TestNumbersOfInvalidUnits(t *testing.T) {
	good := u(3, 4, 0, 0, 5)
	for _, bad := range invalidUnits() {
		r, e := quat.Trace(bad)
		checkRat(t, "Trace", r, e, api.Rat{}, api.ErrArg)
		for _, pair := range [][2]api.Unit{{bad, good}, {good, bad}, {bad, bad}} {
			r, e = quat.Distance(pair[0], pair[1])
			checkRat(t, "Distance", r, e, api.Rat{}, api.ErrArg)
		}
		if n, e := quat.Order(bad); n != 0 || e != api.ErrArg {
			t.Error("Order", bad, n, e)
		}
		for _, v := range [][3]int{{1, 2, 3}, {0, 0, 1001}} {
			w, e := quat.Rotate(bad, v)
			checkRats(t, "Rotate", w, e, [3]api.Rat{}, api.ErrArg)
		}
		w, e := quat.Vector(bad)
		checkRats(t, "Vector", w, e, [3]api.Rat{}, api.ErrArg)
	}
}
