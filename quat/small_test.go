package quat_test

import (
	"strconv"
	"strings"
	"testing"

	"plaquette/api"
	"plaquette/quat"
)

// smallUnits lists the small units by their numbers.
var smallUnits = [24]api.Unit{
	u(1, 0, 0, 0, 1), u(-1, 0, 0, 0, 1), u(0, 1, 0, 0, 1), u(0, -1, 0, 0, 1),
	u(0, 0, 1, 0, 1), u(0, 0, -1, 0, 1), u(0, 0, 0, 1, 1), u(0, 0, 0, -1, 1),
	u(1, 1, 1, 1, 2), u(-1, 1, 1, 1, 2), u(1, -1, 1, 1, 2), u(-1, -1, 1, 1, 2),
	u(1, 1, -1, 1, 2), u(-1, 1, -1, 1, 2), u(1, -1, -1, 1, 2), u(-1, -1, -1, 1, 2),
	u(1, 1, 1, -1, 2), u(-1, 1, 1, -1, 2), u(1, -1, 1, -1, 2), u(-1, -1, 1, -1, 2),
	u(1, 1, -1, -1, 2), u(-1, 1, -1, -1, 2), u(1, -1, -1, -1, 2), u(-1, -1, -1, -1, 2),
}

// P1.5
func TestSmall(t *testing.T) {
	for n, want := range smallUnits {
		got, e := quat.Small(n)
		checkUnit(t, "Small", got, e, want, api.OK)
		if k, is, e := quat.Number(want); k != n || !is || e != api.OK {
			t.Error("Number", want, k, is, e)
		}
	}
	for _, n := range []int{-1, 24, -24, 25, 1<<63 - 1, -1 << 63} {
		got, e := quat.Small(n)
		checkUnit(t, "Small", got, e, api.Unit{}, api.ErrArg)
	}
}

// P1.5
func TestNumberOfOthers(t *testing.T) {
	for _, x := range someUnits(5) {
		if k, is, e := quat.Number(x); x.N > 2 && (k != 0 || is) || x.N <= 2 && (!is || smallUnits[k] != x) || e != api.OK {
			t.Error("Number", x, k, is, e)
		}
	}
	for _, bad := range invalidUnits() {
		if k, is, e := quat.Number(bad); k != 0 || is || e != api.ErrArg {
			t.Error("Number", bad, k, is, e)
		}
	}
}

// P1.5
func TestSmallUnitsAreAGroup(t *testing.T) {
	for _, x := range smallUnits {
		for _, y := range smallUnits {
			xy, _ := quat.Mul(x, y)
			if _, is, e := quat.Number(xy); !is || e != api.OK {
				t.Error(x, y, xy, is, e)
			}
		}
		inverse, _ := quat.Inverse(x)
		if _, is, e := quat.Number(inverse); !is || e != api.OK {
			t.Error(x, inverse, is, e)
		}
	}
}

// P1.6
func TestFormat(t *testing.T) {
	for _, x := range []struct {
		u    api.Unit
		want string
	}{
		{u(1, 0, 0, 0, 1), "1 0 0 0 1"},
		{u(-1, 1, 1, 1, 2), "-1 1 1 1 2"},
		{u(12, 16, 9, -12, 25), "12 16 9 -12 25"},
		{edge, "1040393 2044 22484 128772 1048575"},
	} {
		if s, e := quat.Format(x.u); s != x.want || e != api.OK {
			t.Errorf("Format %v: %q %v", x.u, s, e)
		}
	}
	for _, x := range someUnits(5) {
		s, e := quat.Format(x)
		if e != api.OK {
			t.Error("Format", x, e)
		}
		got, e := quat.Parse(s)
		checkUnit(t, "Parse", got, e, x, api.OK)
	}
	for _, bad := range invalidUnits() {
		if s, e := quat.Format(bad); s != "" || e != api.ErrArg {
			t.Errorf("Format %v: %q %v", bad, s, e)
		}
	}
}

// P1.6
func TestParseRefuses(t *testing.T) {
	for _, s := range []string{
		"", " ", "    ", "1", "1 0 0 0", "1 0 0 0 ", "1 0 0 0 1 ", " 1 0 0 0 1", "1 0 0 0 1 1", "1  0 0 0 1",
		"1 0 0 0 1\n", "1 0 0 0 1\x00", "1\t0 0 0 1", "1,0,0,0,1", "1 0 0 0 x", "x 0 0 0 1",
		"01 0 0 0 1", "1 00 0 0 1", "1 0 0 -0 1", "1 0 0 +0 1", "+1 0 0 0 1", "--1 0 0 0 1", "- 0 0 0 1",
		"1_0 0 0 0 10", "0x1 0 0 0 1", "1.0 0 0 0 1", "1e0 0 0 0 1", "٣ 4 0 0 5",
		"99999999999999999999 0 0 0 1", "-9223372036854775808 0 0 0 1", "4294967296 1 0 0 1", "18446744073709551617 0 0 0 1",
		strings.Repeat(" ", 1000), strings.Repeat("1", 1000), "1 0 0 0 1" + strings.Repeat(" 1", 1000),
	} {
		got, e := quat.Parse(s)
		if got != (api.Unit{}) || e != api.ErrSyntax {
			t.Errorf("Parse %q: %v %v", s, got, e)
		}
	}
	for _, bad := range invalidUnits() {
		var words []string
		for _, n := range []int{bad.A, bad.B, bad.C, bad.D, bad.N} {
			words = append(words, strconv.Itoa(n))
		}
		s := strings.Join(words, " ")
		got, e := quat.Parse(s)
		if got != (api.Unit{}) || e != api.ErrSyntax {
			t.Errorf("Parse %q: %v %v", s, got, e)
		}
	}
}
