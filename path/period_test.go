package path_test

import (
	"testing"

	"plaquette/api"
	"plaquette/path"
)

// checkPeriod holds Period against the steps until a point is reached again, or 0 if there are more than the limit.
func checkPeriod(t *testing.T, x point, limit, want int) {
	t.Helper()
	f := x.field()
	check := untouched(t, f, x.momenta)
	if n, is, e := path.Period(f, x.momenta, limit); n != want || is != (want != 0) || e != api.OK {
		t.Error("Period", f, x.momenta, limit, n, is, e, "want", want)
	}
	check()
}

// longest returns a point to which exactly MaxPeriod steps lead back.
func longest() point {
	return pointOf([3]int{2, 1, 1}, []int{21, 10, 6, 4, 7, 2}, []api.Kick{{2, 2, 1}, {1, 7, 5}, {3, 2, 7}, {0, 7, 0}, {7, 5, 5}, {3, 7, 6}})
}

// P6.5: with the limits at the period and just below it, from several steps of the trajectory.
func TestPeriod(t *testing.T) {
	d := dice{81}
	var found, none int
	for _, sizes := range [][3]int{{1, 1, 1}, {1, 1, 1}, {1, 1, 1}, {2, 1, 1}, {1, 2, 1}, {1, 1, 2}, {2, 1, 1}, {1, 1, 2}, {2, 2, 1}, {3, 1, 1}} {
		for range 6 {
			x := d.point(sizes)
			n := x.period(1000)
			checkPeriod(t, x, 1000, n)
			if n == 0 {
				none++
				continue
			}
			found++
			checkPeriod(t, x, n, n)
			if n > 1 {
				checkPeriod(t, x, n-1, 0)
			}
			checkPeriod(t, x.stepped(), 1000, n)
			checkPeriod(t, x.behind(2+d.below(n)), 1000, n)
		}
	}
	if found < 20 || none < 10 {
		t.Error("the points of this test are not as different as they should be", found, none)
	}
}

// P6.5: a period of MaxPeriod is within the limit, and all steps are counted, also behind MaxSteps.
func TestLongestPeriod(t *testing.T) {
	x := longest()
	if n := x.period(1000); n != 1000 {
		t.Fatal("the point of this test has the period", n)
	}
	for limit, want := range map[int]int{1: 0, 99: 0, 100: 0, 101: 0, 999: 0, 1000: 1000} {
		checkPeriod(t, x, limit, want)
		checkPeriod(t, x.behind(100), limit, want)
	}
}

// P6.5: in the cold field a link turns without a force, until its turner has come to its order. A period needs the field and the momenta.
func TestPeriodExamples(t *testing.T) {
	cold := []int{0, 0, 0}
	for _, x := range []struct {
		numbers []int
		momenta []api.Kick
		want    int
	}{
		{cold, []api.Kick{{}, {}, {}}, 1},
		{cold, []api.Kick{{4, 4, 4}, {0, 4, 0}, {}}, 1},
		{cold, []api.Kick{{1, 0, 0}, {}, {}}, 4},
		{cold, []api.Kick{{}, {}, {4, 0, 7}}, 4},
		{cold, []api.Kick{{}, {1, 1, 1}, {}}, 6},
		{cold, []api.Kick{{2, 0, 0}, {5, 0, 0}, {}}, 4},
		{cold, []api.Kick{{5, 3, 7}, {}, {}}, 6},
		{[]int{2, 4, 6}, []api.Kick{{}, {}, {}}, 1}, // no force, because all plaquettes are -1
		{[]int{2, 4, 6}, []api.Kick{{4, 0, 0}, {}, {0, 4, 4}}, 1},
	} {
		p := pointOf([3]int{1, 1, 1}, x.numbers, x.momenta)
		checkPeriod(t, p, 1000, x.want)
		checkPeriod(t, p, x.want, x.want)
		if x.want > 1 {
			checkPeriod(t, p, x.want-1, 0)
		}
	}
}
