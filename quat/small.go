package quat

import "plaquette/api"

const (
	smallUnits = 24 // how many small units there are
	wholeUnits = 8  // how many of them have the N 1: they come first
)

// Small: see P1.5.
func Small(number int) (api.Unit, api.Errno) {
	if number < 0 || number >= smallUnits {
		return api.Unit{}, api.ErrArg
	}
	var parts [4]int
	if number < wholeUnits {
		parts[number/2] = signOf(number, 0)
		return unitOf(parts, 1), api.OK
	}
	for i := range parts {
		parts[i] = signOf(number-wholeUnits, i)
	}
	return unitOf(parts, 2), api.OK
}

// signOf returns -1 if n has the bit, and otherwise 1.
func signOf(n, bit int) int {
	return 1 - 2*(n>>bit&1)
}

func unitOf(parts [4]int, n int) api.Unit {
	return api.Unit{A: parts[0], B: parts[1], C: parts[2], D: parts[3], N: n}
}

// Number: see P1.5.
func Number(u api.Unit) (int, bool, api.Errno) {
	if e := Validate(u); e != api.OK {
		return 0, false, e
	}
	for number := range smallUnits {
		if small, _ := Small(number); small == u {
			return number, true, api.OK
		}
	}
	return 0, false, api.OK
}
