package chance_test

import (
	"math/big"
	"slices"
	"testing"

	"plaquette/api"
	"plaquette/chance"
)

// someSeeds returns seeds from both ends, and others.
func someSeeds() []int {
	d := dice{1}
	l := []int{1, 2, 3, 48270, 48271, 48272, 1 << 30, 1<<31 - 3, api.Prime - 1, api.Prime - 2, api.Prime / 2}
	for range 30 {
		l = append(l, d.seed())
	}
	return l
}

// power returns the seed behind any number of steps.
func power(seed, n int) int {
	prime := big.NewInt(2147483647)
	p := new(big.Int).Exp(big.NewInt(48271), big.NewInt(int64(n)), prime)
	return int(p.Mul(p, big.NewInt(int64(seed))).Mod(p, prime).Int64())
}

// P5.1
func TestStep(t *testing.T) {
	for _, x := range [][2]int{{1, 48271}, {48271, 182605794}, {api.Prime - 1, api.Prime - 48271}} {
		if n, e := chance.Step(x[0]); n != x[1] || e != api.OK {
			t.Error("Step", x[0], n, e)
		}
	}
	for _, seed := range someSeeds() {
		s := sourceOf(seed)
		for range 50 {
			before := s.now()
			want := int(s.step().Int64())
			if n, e := chance.Step(before); n != want || e != api.OK {
				t.Error("Step", before, n, e, "want", want)
			}
		}
	}
	// What others say of this generator: the state behind 10000 steps from 1.
	seed := 1
	for range 10000 {
		seed, _ = chance.Step(seed)
	}
	if seed != 399268537 {
		t.Error("10000 steps", seed)
	}
}

// P5.1
func TestLeap(t *testing.T) {
	for _, seed := range someSeeds() {
		at := seed
		for n := range 200 {
			if s, e := chance.Leap(seed, n); s != at || e != api.OK {
				t.Error("Leap", seed, n, s, e, "want", at)
			}
			at, _ = chance.Step(at)
		}
		for _, n := range []int{api.Prime - 2, api.Prime - 1, api.Prime, 1 << 31, 1 << 32, 1<<32 + 1, 1<<40 - 1, 1 << 40, 999999999999} {
			if s, e := chance.Leap(seed, n); s != power(seed, n) || e != api.OK {
				t.Error("Leap", seed, n, s, e, "want", power(seed, n))
			}
		}
		if s, _ := chance.Leap(seed, api.Prime-1); s != seed {
			t.Error("so many steps do not lead back", seed, s)
		}
	}
}

// P5.1: leaps add up.
func TestLeapsAddUp(t *testing.T) {
	d := dice{2}
	for _, seed := range someSeeds() {
		for range 20 {
			m, n := d.below(1<<30)*d.below(512), d.below(1<<30)*d.below(512)
			first, _ := chance.Leap(seed, m)
			second, _ := chance.Leap(first, n)
			if whole, e := chance.Leap(seed, m+n); whole != second || e != api.OK {
				t.Error("Leap", seed, m, n, whole, second, e)
			}
		}
	}
}

// P5.1
func TestDraw(t *testing.T) {
	d := dice{3}
	numbers := []int{1, 2, 3, 7, 8, 24, 100, 1 << 30, api.Prime - 1, api.Prime, 1<<40 - 1, 1 << 40}
	for range 20 {
		numbers = append(numbers, 1+d.below(1<<30)*d.below(1<<10))
	}
	// From this seed both of the next ones, from the other one the first of them, are as great as they can be.
	edge, _ := chance.Leap(api.Prime-1, api.Prime-2)
	other, _ := chance.Leap(api.Prime-1, api.Prime-3)
	for _, seed := range append(someSeeds(), edge, other) {
		for _, n := range numbers {
			s := sourceOf(seed)
			want := s.draw(n)
			if drawn, behind, e := chance.Draw(seed, n); drawn != want || behind != s.now() || e != api.OK {
				t.Error("Draw", seed, n, drawn, behind, e, "want", want, s.now())
			}
		}
	}
	if drawn, behind, e := chance.Draw(1, 24); drawn != 5 || behind != 182605794 || e != api.OK {
		t.Error("Draw", drawn, behind, e)
	}
	// 48270 * (2^31 - 2) + 182605793, without a remainder's loss.
	if drawn, _, e := chance.Draw(1, 1<<40); drawn != (48270*2147483646+182605793)%(1<<40) || e != api.OK {
		t.Error("Draw", drawn, e)
	}
}

// P5.1, R3
func TestBadDraws(t *testing.T) {
	for _, seed := range badSeeds() {
		s, e := chance.Step(seed)
		refused(t, "Step", e, api.ErrArg, s)
		for _, n := range []int{0, 1, 5, 1 << 40, -1, 1<<40 + 1} {
			s, e = chance.Leap(seed, n)
			refused(t, "Leap", e, api.ErrArg, s)
			drawn, s, e := chance.Draw(seed, n)
			refused(t, "Draw", e, api.ErrArg, drawn, s)
		}
	}
	for _, seed := range []int{1, 77, api.Prime - 1} {
		for _, n := range []int{-1, 1<<40 + 1, 1 << 41, least, greatest} {
			s, e := chance.Leap(seed, n)
			refused(t, "Leap", e, api.ErrArg, s)
			drawn, s, e := chance.Draw(seed, n)
			refused(t, "Draw", e, api.ErrArg, drawn, s)
		}
		drawn, s, e := chance.Draw(seed, 0)
		refused(t, "Draw", e, api.ErrArg, drawn, s)
	}
}

// P5.2
func TestHot(t *testing.T) {
	for _, sizes := range validSizes() {
		for _, seed := range someSeeds() {
			s := sourceOf(seed)
			want := api.Field{Sizes: sizes}
			for range 3 * sizes[0] * sizes[1] * sizes[2] {
				want.Links = append(want.Links, doubleOf(s.draw(24)).unit())
			}
			f, behind, e := chance.Hot(sizes, seed)
			if !equal(f, want) || behind != s.now() || e != api.OK {
				t.Error("Hot", sizes, seed, f, behind, e)
			}
		}
	}
}

// P5.2
func TestNoise(t *testing.T) {
	for _, sizes := range validSizes() {
		for _, seed := range someSeeds() {
			s := sourceOf(seed)
			var want []api.Unit
			for range sizes[0] * sizes[1] * sizes[2] {
				want = append(want, doubleOf(s.draw(24)).unit())
			}
			g, behind, e := chance.Noise(sizes, seed)
			if !slices.Equal(g, want) || behind != s.now() || e != api.OK {
				t.Error("Noise", sizes, seed, g, behind, e)
			}
		}
	}
}

// P5.2: each of the small units is drawn now and then.
func TestHotHasAllUnits(t *testing.T) {
	seen := map[api.Unit]int{}
	seed := 1
	for range 20 {
		f, behind, _ := chance.Hot([3]int{4, 2, 2}, seed)
		for _, link := range f.Links {
			seen[link]++
		}
		seed = behind
	}
	for number := range 24 {
		if seen[doubleOf(number).unit()] < 15 {
			t.Error("hardly ever drawn:", number)
		}
	}
	if len(seen) != 24 {
		t.Error("units that are not small", seen)
	}
}

// P5.2, R3
func TestBadHotAndNoise(t *testing.T) {
	for _, seed := range append(badSeeds(), 1) {
		for _, sizes := range append(badSizes(), [3]int{1, 1, 1}, [3]int{4, 4, 1}) {
			if seed == 1 && slices.Contains(validSizes(), sizes) {
				continue
			}
			f, s, e := chance.Hot(sizes, seed)
			refused(t, "Hot", e, api.ErrArg, f, s)
			g, s, e := chance.Noise(sizes, seed)
			refused(t, "Noise", e, api.ErrArg, g, s)
		}
	}
}
