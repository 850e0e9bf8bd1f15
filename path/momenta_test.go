package path_test

import (
	"slices"
	"testing"

	"plaquette/api"
	"plaquette/path"
	"plaquette/quat"
)

// P6.1: any number may be centered.
func TestCenter(t *testing.T) {
	for n := range 8 {
		for _, rounds := range []int{0, 1, -1, 2, -2, 12345, -12345, 1<<60 - 1, -1 << 60} {
			if got := path.Center(n + 8*rounds); got != centered(n) {
				t.Error("Center", n+8*rounds, got, "want", centered(n))
			}
		}
	}
	for n, want := range map[int]int{0: 0, 4: 4, 5: -3, 7: -1, 8: 0, -1: -1, -3: -3, -4: 4, -5: 3, least: 0, least + 4: 4, least + 5: -3, greatest: -1, greatest - 3: 4} {
		if got := path.Center(n); got != want {
			t.Error("Center", n, got, "want", want)
		}
	}
}

// P6.1: all momenta, and the turner of the opposite one.
func TestTurner(t *testing.T) {
	for _, k := range allKicks() {
		want := turnerOf(k)
		if got, e := path.Turner(k); got != want.unit() || e != api.OK {
			t.Error("Turner", k, got, e, "want", want.unit())
		}
		back, e := path.Turner(api.Kick{(8 - k[0]) % 8, (8 - k[1]) % 8, (8 - k[2]) % 8})
		if inverse, _ := quat.Inverse(want.unit()); back != inverse || e != api.OK {
			t.Error("Turner of the opposite", k, back, e, "want", inverse)
		}
	}
	for _, k := range badKicks() {
		got, e := path.Turner(k)
		refused(t, "Turner", e, api.ErrArg, got)
	}
}

// P6.1
func TestTurnerExamples(t *testing.T) {
	for k, want := range map[api.Kick]api.Unit{
		{1, 7, 3}: u(1, 1, -1, 1, 2), {0, 7, 2}: u(0, 0, -1, 0, 1), {4, 0, 4}: one, {}: one,
		{4, 4, 4}: one, {5, 5, 5}: u(1, -1, -1, -1, 2), {3, 3, 3}: u(1, 1, 1, 1, 2), {3, 4, 5}: u(0, 1, 0, 0, 1),
		{5, 3, 0}: u(0, -1, 0, 0, 1), {4, 4, 1}: u(0, 0, 0, 1, 1), {0, 0, 6}: u(0, 0, 0, -1, 1), {4, 2, 7}: u(0, 0, 1, 0, 1),
	} {
		if got, e := path.Turner(k); got != want || e != api.OK {
			t.Error("Turner", k, got, e, "want", want)
		}
	}
}

// P6.2: all numbers, and back again.
func TestReverse(t *testing.T) {
	d := dice{61}
	for _, sizes := range validSizes() {
		x := d.point(sizes)
		f, p := x.field(), x.momenta
		check := untouched(t, f, p)
		back, e := path.Reverse(f, p)
		if len(back) != len(p) || e != api.OK {
			t.Fatal("Reverse", back, e)
		}
		for link, k := range p {
			for at, n := range k {
				if m := back[link][at]; m < 0 || m > 7 || (m+n)%8 != 0 {
					t.Error("Reverse", k, back[link])
				}
			}
		}
		if again, e := path.Reverse(f, back); !slices.Equal(again, p) || e != api.OK {
			t.Error("Reverse of Reverse", p, again, e)
		}
		scribble(api.Field{}, back)
		check()
	}
	f := fieldOf(t, [3]int{1, 1, 1}, 2, 9, 23)
	if back, e := path.Reverse(f, []api.Kick{{0, 4, 1}, {7, 3, 5}, {2, 6, 0}}); !slices.Equal(back, []api.Kick{{0, 4, 7}, {1, 5, 3}, {6, 2, 0}}) || e != api.OK {
		t.Error("Reverse", back, e)
	}
}

// P6.4: three draws for each link, one after another.
func TestMomenta(t *testing.T) {
	d := dice{62}
	for _, sizes := range validSizes() {
		for _, seed := range []int{1, api.Prime - 1, d.seed(), d.seed()} {
			s := sourceOf(seed)
			want := s.momenta(sizes)
			p, behind, e := path.Momenta(sizes, seed)
			if !slices.Equal(p, want) || behind != s.now() || e != api.OK {
				t.Error("Momenta", sizes, seed, p, behind, e, "want", want, s.now())
			}
		}
	}
}

// P6.4: the error of the sizes comes before that of the seed.
func TestMomentaRefused(t *testing.T) {
	for _, sizes := range badSizes() {
		for _, seed := range append(badSeeds(), 1) {
			p, behind, e := path.Momenta(sizes, seed)
			refused(t, "Momenta", e, api.ErrArg, p, behind)
		}
	}
	for _, sizes := range [][3]int{{1, 1, 1}, {4, 2, 2}} {
		for _, seed := range badSeeds() {
			p, behind, e := path.Momenta(sizes, seed)
			refused(t, "Momenta", e, api.ErrArg, p, behind)
		}
	}
}
