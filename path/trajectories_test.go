package path_test

import (
	"testing"

	"plaquette/api"
	"plaquette/path"
)

// P6.4: the draws at both ends, and those beside each power of 2.
func TestAccept(t *testing.T) {
	draws := []int{0, 1<<30 - 1}
	for bit := range 30 {
		draws = append(draws, 1<<bit, 3<<bit%(1<<30), 1<<bit-1, 5<<bit%(1<<30)+1)
	}
	changes := []int{0, -1, -2, -30, -31, -64, least, least + 1, 31, 32, 33, 62, 63, 64, 65, 1 << 32, 1<<32 + 1, 1 << 62, greatest}
	for change := 1; change <= 30; change++ {
		changes = append(changes, change)
	}
	for _, change := range changes {
		for _, draw := range draws {
			want := change <= 0
			if 1 <= change && change <= 30 {
				power := 1
				for range change {
					power *= 2
				}
				want = draw/power*power == draw
			}
			if is, e := path.Accept(change, draw); is != want || e != api.OK {
				t.Error("Accept", change, draw, is, e, "want", want)
			}
		}
		for _, draw := range outside(0, 1<<30-1) {
			is, e := path.Accept(change, draw)
			refused(t, "Accept", e, api.ErrArg, is)
		}
	}
}

// P6.4: of 2^k draws one behind another, 2^(k - change) accept a change.
func TestHowManyAccept(t *testing.T) {
	for change := 1; change <= 12; change++ {
		accepted := 0
		for draw := range 1 << 12 {
			if is, _ := path.Accept(change, 1<<30-1-draw); is {
				accepted++
			}
		}
		if accepted != 1<<(12-change) {
			t.Error("a change of", change, "is accepted by", accepted)
		}
	}
}

// checkTrajectory holds a trajectory against one that is run and drawn by the reference, and returns the change of the energy.
func checkTrajectory(t *testing.T, x point, seed, n, beta int) (change int, accepted bool) {
	t.Helper()
	s := sourceOf(seed)
	x.momenta = s.momenta(x.sizes)
	y := x.behind(n)
	draw := s.draw(1 << 30)
	change = y.kinetic() + beta*y.potential() - x.kinetic() - beta*x.potential()
	accepted = change <= 0 || change <= 30 && draw%(1<<change) == 0
	want := x.field()
	if accepted {
		want = y.field()
	}
	f := x.field()
	check := untouched(t, f, nil)
	g, behind, is, e := path.Trajectory(f, seed, n, beta)
	if !equal(g, want) || behind != s.now() || is != accepted || e != api.OK {
		t.Error("Trajectory", f, seed, n, beta, g, behind, is, e, "want", want, s.now(), accepted, change)
	}
	scribble(g, nil)
	check()
	return change, accepted
}

// P6.4, S1: a chain of trajectories for each torus.
func TestTrajectory(t *testing.T) {
	d := dice{93}
	kinds := map[string]int{}
	for _, sizes := range validSizes() {
		x := d.point(sizes)
		for _, beta := range []int{0, 1, 2, 10} {
			change, accepted := checkTrajectory(t, x, d.seed(), 1+d.below(4), beta)
			switch {
			case change <= 0:
				kinds["down"]++
			case change > 30:
				kinds["far up"]++
			case accepted:
				kinds["up"]++
			default:
				kinds["refused"]++
			}
		}
	}
	if kinds["down"] < 10 || kinds["far up"] < 10 || kinds["refused"] < 10 {
		t.Error("the trajectories of this test are not as different as they should be", kinds)
	}
}

// P6.4: changes up that the draw accepts are rare, so the seeds are gone through until there are some.
func TestTrajectoryUp(t *testing.T) {
	d := dice{94}
	up := 0
	for seed := 1; seed <= 300; seed++ {
		change, accepted := checkTrajectory(t, d.point([3]int{1, 1, 1}), seed, 1, 1)
		if change > 0 && accepted {
			up++
		}
	}
	if up < 3 {
		t.Error("only so many changes up were accepted:", up)
	}
}

// P6.4: no step changes nothing, and is accepted, but both draws are made.
func TestTrajectoryOfFewAndManySteps(t *testing.T) {
	d := dice{95}
	for _, sizes := range [][3]int{{1, 1, 1}, {2, 1, 3}} {
		x := d.point(sizes)
		for _, seed := range []int{1, api.Prime - 1, d.seed()} {
			for _, beta := range []int{0, 10} {
				if change, accepted := checkTrajectory(t, x, seed, 0, beta); change != 0 || !accepted {
					t.Error("without a step", change, accepted)
				}
				checkTrajectory(t, x, seed, 100, beta)
			}
		}
	}
}

// P6.4
func TestTrajectoryRefused(t *testing.T) {
	d := dice{96}
	for _, sizes := range [][3]int{{1, 1, 1}, {2, 2, 2}} {
		f := d.point(sizes).field()
		check := func(seed, n, beta int) {
			g, behind, is, e := path.Trajectory(f, seed, n, beta)
			refused(t, "Trajectory", e, api.ErrArg, g, behind, is)
		}
		for _, seed := range badSeeds() {
			check(seed, 1, 1)
		}
		for _, n := range outside(0, 100) {
			check(1, n, 1)
		}
		for _, beta := range outside(0, 10) {
			check(1, 1, beta)
			check(1, 0, beta)
		}
		check(0, -1, -1)
	}
}
