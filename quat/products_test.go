package quat_test

import (
	"slices"
	"testing"

	"plaquette/api"
	"plaquette/quat"
)

// P1.2
func TestPairs(t *testing.T) {
	l := someUnits(3)
	for _, x := range l {
		for _, y := range l {
			want, f := exactUnit(x).times(exactUnit(y)).unit()
			got, e := quat.Mul(x, y)
			checkUnit(t, "Mul", got, e, want, f)
			is, e := quat.Commute(x, y)
			if e != api.OK || is != exactUnit(x).times(exactUnit(y)).equal(exactUnit(y).times(exactUnit(x))) {
				t.Error("Commute", x, y, is, e)
			}
		}
	}
}

// P1.2
func TestProductsOfThreeAndFour(t *testing.T) {
	var l []api.Unit
	for i, x := range someUnits(5) {
		if i < 11 || i%9 == 0 {
			l = append(l, x)
		}
	}
	for _, x := range l {
		for _, y := range l {
			want, f := exactProduct(x, y, back(x))
			got, e := quat.Conjugate(x, y)
			checkUnit(t, "Conjugate", got, e, want, f)
			want, f = exactProduct(x, y, back(x), back(y))
			got, e = quat.Commutator(x, y)
			checkUnit(t, "Commutator", got, e, want, f)
		}
	}
}

// P1.2
func TestMulExamples(t *testing.T) {
	a, b := u(3, 4, 0, 0, 5), u(4, 0, 3, 0, 5)
	i, j, k := u(0, 1, 0, 0, 1), u(0, 0, 1, 0, 1), u(0, 0, 0, 1, 1)
	for _, x := range [][3]api.Unit{
		{a, b, u(12, 16, 9, 12, 25)}, {b, a, u(12, 16, 9, -12, 25)},
		{i, j, k}, {j, k, i}, {k, i, j}, {j, i, opposite(k)},
		{i, i, u(-1, 0, 0, 0, 1)}, {j, j, u(-1, 0, 0, 0, 1)}, {k, k, u(-1, 0, 0, 0, 1)},
		{edge, back(edge), u(1, 0, 0, 0, 1)}, {edge, u(1, 0, 0, 0, 1), edge},
	} {
		got, e := quat.Mul(x[0], x[1])
		checkUnit(t, "Mul", got, e, x[2], api.OK)
	}
}

// P1.2: the limit counts for the reduced product.
func TestMulLimit(t *testing.T) {
	got, e := quat.Mul(n1023, n1025)
	if e != api.OK || got.N != 1048575 {
		t.Error(got, e)
	}
	got, e = quat.Mul(n17, n61681)
	checkUnit(t, "Mul", got, e, api.Unit{}, api.ErrLarge)
	got, e = quat.Mul(edge, edge)
	checkUnit(t, "Mul", got, e, api.Unit{}, api.ErrLarge)
}

// P1.2
func TestInverseAndNeg(t *testing.T) {
	for _, x := range someUnits(5) {
		got, e := quat.Inverse(x)
		checkUnit(t, "Inverse", got, e, back(x), api.OK)
		got, e = quat.Neg(x)
		checkUnit(t, "Neg", got, e, opposite(x), api.OK)
	}
}

// P1.2
func TestPower(t *testing.T) {
	for _, x := range someUnits(3) {
		for _, n := range []int{0, 1, 2, 3, 7, 8, 9, 12, 13, 20, 999, 1000} {
			l := make([]api.Unit, n)
			for i := range l {
				l[i] = x
			}
			want, f := exactProduct(l...)
			got, e := quat.Power(x, n)
			checkUnit(t, "Power", got, e, want, f)
			for i := range l {
				l[i] = back(x)
			}
			want, f = exactProduct(l...)
			got, e = quat.Power(x, -n)
			checkUnit(t, "Power", got, e, want, f)
		}
		for _, n := range []int{1001, -1001, 1<<63 - 1, -1 << 63} {
			got, e := quat.Power(x, n)
			checkUnit(t, "Power", got, e, api.Unit{}, api.ErrArg)
		}
	}
}

// P1.2
func TestPowerExamples(t *testing.T) {
	a := u(3, 4, 0, 0, 5)
	for _, x := range []struct {
		u    api.Unit
		n    int
		want api.Unit
		e    api.Errno
	}{
		{a, 0, u(1, 0, 0, 0, 1), api.OK},
		{a, 2, u(-7, 24, 0, 0, 25), api.OK},
		{a, -2, u(-7, -24, 0, 0, 25), api.OK},
		{a, 9, api.Unit{}, api.ErrLarge},
		{a, -9, api.Unit{}, api.ErrLarge},
		{edge, 0, u(1, 0, 0, 0, 1), api.OK},
		{edge, 1, edge, api.OK},
		{edge, -1, back(edge), api.OK},
		{edge, 2, api.Unit{}, api.ErrLarge},
		{u(0, 1, 0, 0, 1), 1000, u(1, 0, 0, 0, 1), api.OK},
		{u(0, 1, 0, 0, 1), -999, u(0, 1, 0, 0, 1), api.OK},
		{third, 1000, third, api.OK},
		{third, -1000, back(third), api.OK},
	} {
		got, e := quat.Power(x.u, x.n)
		checkUnit(t, "Power", got, e, x.want, x.e)
	}
}

// P1.2
func TestProduct(t *testing.T) {
	one, a, b := u(1, 0, 0, 0, 1), u(3, 4, 0, 0, 5), u(4, 0, 3, 0, 5)
	bad := api.Unit{}
	for _, x := range []struct {
		l    []api.Unit
		want api.Unit
		e    api.Errno
	}{
		{nil, one, api.OK},
		{[]api.Unit{}, one, api.OK},
		{[]api.Unit{edge}, edge, api.OK},
		{[]api.Unit{a, b}, u(12, 16, 9, 12, 25), api.OK},
		{[]api.Unit{b, a}, u(12, 16, 9, -12, 25), api.OK},
		{[]api.Unit{edge, back(edge), n61681, n17}, bad, api.ErrLarge},
		{[]api.Unit{n17, n61681, back(n61681)}, bad, api.ErrLarge},
		{[]api.Unit{n61681, back(n61681), n17}, n17, api.OK},
		{[]api.Unit{bad}, bad, api.ErrArg},
		{[]api.Unit{edge, edge, bad}, bad, api.ErrArg},
		{[]api.Unit{a, u(2, 0, 0, 0, 2), b}, bad, api.ErrArg},
	} {
		before := slices.Clone(x.l)
		got, e := quat.Product(x.l)
		checkUnit(t, "Product", got, e, x.want, x.e)
		if !slices.Equal(before, x.l) {
			t.Error("Product has changed its argument", before, x.l)
		}
	}
}

// P1.2: the products on the way have the limit as well, though the last one would be small.
func TestLimitOnTheWay(t *testing.T) {
	one := u(1, 0, 0, 0, 1)
	got, e := quat.Conjugate(edge, one)
	checkUnit(t, "Conjugate", got, e, one, api.OK)
	got, e = quat.Conjugate(edge, edge)
	checkUnit(t, "Conjugate", got, e, api.Unit{}, api.ErrLarge)
	got, e = quat.Conjugate(edge, back(edge))
	checkUnit(t, "Conjugate", got, e, back(edge), api.OK)
	got, e = quat.Commutator(edge, edge)
	checkUnit(t, "Commutator", got, e, api.Unit{}, api.ErrLarge)
	got, e = quat.Commutator(edge, back(edge))
	checkUnit(t, "Commutator", got, e, one, api.OK)
	got, e = quat.Commutator(u(0, 1, 0, 0, 1), u(0, 0, 1, 0, 1))
	checkUnit(t, "Commutator", got, e, u(-1, 0, 0, 0, 1), api.OK)
	for _, x := range []struct {
		v    api.Unit
		want bool
	}{{edge, true}, {back(edge), true}, {opposite(edge), true}, {n61681, false}} {
		if is, e := quat.Commute(edge, x.v); is != x.want || e != api.OK {
			t.Error("Commute", x.v, is, e)
		}
	}
}

// P1.2, R2, R3
func TestProductsOfInvalidUnits(t *testing.T) {
	good := u(3, 4, 0, 0, 5)
	for _, bad := range invalidUnits() {
		for _, pair := range [][2]api.Unit{{bad, good}, {good, bad}, {bad, bad}} {
			x, y := pair[0], pair[1]
			got, e := quat.Mul(x, y)
			checkUnit(t, "Mul", got, e, api.Unit{}, api.ErrArg)
			got, e = quat.Conjugate(x, y)
			checkUnit(t, "Conjugate", got, e, api.Unit{}, api.ErrArg)
			got, e = quat.Commutator(x, y)
			checkUnit(t, "Commutator", got, e, api.Unit{}, api.ErrArg)
			got, e = quat.Product([]api.Unit{x, y})
			checkUnit(t, "Product", got, e, api.Unit{}, api.ErrArg)
			if is, e := quat.Commute(x, y); is || e != api.ErrArg {
				t.Error("Commute", x, y, is, e)
			}
		}
		got, e := quat.Inverse(bad)
		checkUnit(t, "Inverse", got, e, api.Unit{}, api.ErrArg)
		got, e = quat.Neg(bad)
		checkUnit(t, "Neg", got, e, api.Unit{}, api.ErrArg)
		for _, n := range []int{0, 1, -1, 1000} {
			got, e = quat.Power(bad, n)
			checkUnit(t, "Power", got, e, api.Unit{}, api.ErrArg)
		}
	}
}
