package gauge

import "plaquette/api"

// maxElement is the limit of the elements of a certificate that is checked.
const maxElement = 1000

// Check: see P4.3.
func Check(a, b api.Field, q [4]int) api.Errno {
	equations, e := between(a, b)
	if e != api.OK {
		return e
	}
	for _, element := range q {
		if element < -maxElement || element > maxElement {
			return api.ErrArg
		}
	}
	if q == [4]int{} {
		return api.ErrZero
	}
	for _, eq := range equations {
		if eq.at(q) != 0 {
			return api.ErrProof
		}
	}
	return api.OK
}

// Certificate: see P4.3. Its elements need no limit here: two suitable loops narrow the solutions as far as all loops do together, and what two loops may be is so little that the tests go through it.
func Certificate(a, b api.Field) ([4]int, bool, api.Errno) {
	equations, e := between(a, b)
	if e != api.OK {
		return [4]int{}, false, e
	}
	certificates := solutions(equations)
	if len(certificates) == 0 {
		return [4]int{}, false, api.OK
	}
	return certificates[0], true, api.OK
}

// Equivalent: see P4.3.
func Equivalent(a, b api.Field) (bool, api.Errno) {
	_, is, e := Certificate(a, b)
	return is, e
}

// Freedom: see P4.4. What commutes with all loops of a field is what carries them to themselves.
func Freedom(f api.Field) (int, api.Errno) {
	equations, e := between(f, f)
	if e != api.OK {
		return 0, e
	}
	return len(solutions(equations)), api.OK
}

// between returns the equations of the certificates for two fields.
func between(a, b api.Field) ([]equation, api.Errno) {
	if e := checkSmall(a, b); e != api.OK {
		return nil, e
	}
	if a.Sizes != b.Sizes {
		return nil, api.ErrFit
	}
	from, e := Loops(a)
	if e != api.OK {
		return nil, e
	}
	to, e := Loops(b)
	if e != api.OK {
		return nil, e
	}
	var equations []equation
	for i := range from {
		four := carrying(doubled(from[i]), doubled(to[i]))
		equations = append(equations, four[:]...)
	}
	return equations, api.OK
}
