package path

import (
	"plaquette/api"
	"plaquette/quat"
	"plaquette/torus"
)

// Kinetic: see P6.3.
func Kinetic(f api.Field, p []api.Kick) (int, api.Errno) {
	if e := Validate(f, p); e != api.OK {
		return 0, e
	}
	sum := 0
	for _, k := range p {
		for _, n := range k {
			sum += Center(n) * Center(n)
		}
	}
	return sum, api.OK
}

// Potential: see P6.3. The traces are integers, because all units are small.
func Potential(f api.Field) (int, api.Errno) {
	if e := checkField(f); e != api.OK {
		return 0, e
	}
	units, e := torus.Plaquettes(f)
	if e != api.OK {
		return 0, e
	}
	sum := 0
	for _, u := range units {
		trace, e := quat.Trace(u)
		if e != api.OK {
			return 0, e
		}
		sum += 2 - trace.Num
	}
	return sum, api.OK
}

// Energy: see P6.3.
func Energy(f api.Field, p []api.Kick, beta int) (int, api.Errno) {
	kinetic, e := Kinetic(f, p)
	if e != api.OK {
		return 0, e
	}
	if !isWithin(beta, 0, api.MaxBeta) {
		return 0, api.ErrArg
	}
	potential, e := Potential(f)
	if e != api.OK {
		return 0, e
	}
	return kinetic + beta*potential, api.OK
}
