package path_test

import (
	"testing"

	"plaquette/api"
	"plaquette/path"
)

// checkEnergies checks the three energies of a field with momenta.
func checkEnergies(t *testing.T, f api.Field, p []api.Kick, kinetic, potential int) {
	t.Helper()
	check := untouched(t, f, p)
	if n, e := path.Kinetic(f, p); n != kinetic || e != api.OK {
		t.Error("Kinetic", f, p, n, e, "want", kinetic)
	}
	if n, e := path.Potential(f); n != potential || e != api.OK {
		t.Error("Potential", f, n, e, "want", potential)
	}
	for beta := range 11 {
		if n, e := path.Energy(f, p, beta); n != kinetic+beta*potential || e != api.OK {
			t.Error("Energy", f, p, beta, n, e, "want", kinetic+beta*potential)
		}
	}
	check()
}

// P6.3: the same with the momenta turned round.
func TestEnergies(t *testing.T) {
	d := dice{91}
	for _, sizes := range validSizes() {
		for range 3 {
			x := d.point(sizes)
			f := x.field()
			checkEnergies(t, f, x.momenta, x.kinetic(), x.potential())
			back, e := path.Reverse(f, x.momenta)
			if e != api.OK {
				t.Fatal("Reverse", e)
			}
			checkEnergies(t, f, back, x.kinetic(), x.potential())
		}
	}
}

// P6.3: each number of a momentum.
func TestKinetic(t *testing.T) {
	f := fieldOf(t, [3]int{1, 1, 1}, 2, 4, 8)
	for n, want := range [8]int{0, 1, 4, 9, 16, 9, 4, 1} {
		for at := range 3 {
			for link := range 3 {
				p := make([]api.Kick, 3)
				p[link][at] = n
				if got, e := path.Kinetic(f, p); got != want || e != api.OK {
					t.Error("Kinetic", p, got, e, "want", want)
				}
			}
		}
	}
}

// P6.3: the least and the greatest energies, and one between them.
func TestEnergyExamples(t *testing.T) {
	unit, large := [3]int{1, 1, 1}, [3]int{4, 2, 2}
	checkEnergies(t, fieldOf(t, unit, 0, 0, 0), make([]api.Kick, 3), 0, 0)
	checkEnergies(t, fieldOf(t, unit, 1, 1, 1), make([]api.Kick, 3), 0, 0)
	checkEnergies(t, fieldOf(t, unit, 2, 4, 6), []api.Kick{{0, 4, 5}, {1, 0, 0}, {7, 7, 7}}, 29, 12)
	checkEnergies(t, fieldOf(t, unit, 2, 8, 0), []api.Kick{{4, 4, 4}, {4, 4, 4}, {4, 4, 4}}, 144, 2)
	numbers, most := make([]int, 48), make([]api.Kick, 48)
	for link := range numbers {
		numbers[link] = 2 + 2*(link%3)
		most[link] = api.Kick{4, 4, 4}
	}
	checkEnergies(t, fieldOf(t, large, numbers...), most, 48*48, 48*4)
}

// P6.3
func TestEnergyOfNoBeta(t *testing.T) {
	d := dice{92}
	for _, sizes := range [][3]int{{1, 1, 1}, {4, 2, 2}} {
		x := d.point(sizes)
		for _, beta := range outside(0, 10) {
			n, e := path.Energy(x.field(), x.momenta, beta)
			refused(t, "Energy", e, api.ErrArg, n)
		}
	}
}
