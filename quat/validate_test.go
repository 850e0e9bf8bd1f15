package quat_test

import (
	"testing"

	"plaquette/api"
	"plaquette/quat"
)

// P1.1
func TestValidateSmallNumbers(t *testing.T) {
	for n := -2; n <= 6; n++ {
		for a := -7; a <= 7; a++ {
			for b := -7; b <= 7; b++ {
				for c := -7; c <= 7; c++ {
					for d := -7; d <= 7; d++ {
						e := quat.Validate(u(a, b, c, d, n))
						if (e == api.OK) != isValid(a, b, c, d, n) || e != api.OK && e != api.ErrArg {
							t.Fatal(a, b, c, d, n, e)
						}
					}
				}
			}
		}
	}
}

// P1.1
func TestValidateLimits(t *testing.T) {
	for _, x := range []api.Unit{edge, opposite(edge), back(edge), u(edge.D, edge.C, edge.B, edge.A, edge.N), n1023, n1025, n17, n61681} {
		if e := quat.Validate(x); e != api.OK {
			t.Error(x, e)
		}
	}
	for _, x := range invalidUnits() {
		if e := quat.Validate(x); e != api.ErrArg {
			t.Error(x, e)
		}
	}
}

// P1.1
func TestOf(t *testing.T) {
	const top = 1 << 30
	for _, x := range []struct {
		from, want api.Unit
		e          api.Errno
	}{
		{u(2, 4, 4, 0, 6), u(1, 2, 2, 0, 3), api.OK},
		{u(1, 2, 2, 0, 3), u(1, 2, 2, 0, 3), api.OK},
		{u(-4, 0, 0, 0, 4), u(-1, 0, 0, 0, 1), api.OK},
		{u(0, 0, -9, 0, 9), u(0, 0, -1, 0, 1), api.OK},
		{u(3, -3, 3, -3, 6), u(1, -1, 1, -1, 2), api.OK},
		{u(1<<20, 0, 0, 0, 1<<20), u(1, 0, 0, 0, 1), api.OK},
		{u(top, 0, 0, 0, top), u(1, 0, 0, 0, 1), api.OK},
		{u(0, -top, 0, 0, top), u(0, -1, 0, 0, 1), api.OK},
		{u(top/2, top/2, -top/2, top/2, top), u(1, 1, -1, 1, 2), api.OK},
		{edge, edge, api.OK},
		{u(1000*edge.A, 1000*edge.B, 1000*edge.C, 1000*edge.D, 1000*edge.N), edge, api.OK},
		{beyond, api.Unit{}, api.ErrLarge},
		{u(1000*beyond.A, 1000*beyond.B, 1000*beyond.C, 1000*beyond.D, 1000*beyond.N), api.Unit{}, api.ErrLarge},
		{u(top+1, 0, 0, 0, top+1), api.Unit{}, api.ErrArg},
		{u(0, 0, 0, 3*top, 3*top), api.Unit{}, api.ErrArg},
		{u(1100*beyond.A, 1100*beyond.B, 1100*beyond.C, 1100*beyond.D, 1100*beyond.N), api.Unit{}, api.ErrArg},
		{u(beyond.A, beyond.B, beyond.C, beyond.D+1, beyond.N), api.Unit{}, api.ErrArg},
		{u(1, 1, 1, 0, 2), api.Unit{}, api.ErrArg},
		{u(0, 0, 0, 0, 0), api.Unit{}, api.ErrArg},
		{u(-1, 0, 0, 0, -1), api.Unit{}, api.ErrArg},
		{u(top, top, top, top, top), api.Unit{}, api.ErrArg},
		{u(1<<62, 1<<62, 1<<62, 1<<62, 1), api.Unit{}, api.ErrArg},
		{u(1<<32, 1, 0, 0, 1), api.Unit{}, api.ErrArg},
		{u(0, -1<<63, 0, 1, 1), api.Unit{}, api.ErrArg},
		{u(1, 0, 0, 0, -1<<63), api.Unit{}, api.ErrArg},
		{u(1, 0, 0, 0, 1<<63-1), api.Unit{}, api.ErrArg},
	} {
		got, e := quat.Of(x.from.A, x.from.B, x.from.C, x.from.D, x.from.N)
		if got != x.want || e != x.e {
			t.Errorf("Of %v: %v %v, want %v %v", x.from, got, e, x.want, x.e)
		}
	}
}

// P1.1
func TestOfMultiples(t *testing.T) {
	for _, x := range someUnits(3) {
		for _, k := range []int{1, 2, 3, 5, 8, 1000} {
			got, e := quat.Of(k*x.A, k*x.B, k*x.C, k*x.D, k*x.N)
			checkUnit(t, "Of", got, e, x, api.OK)
		}
	}
}
