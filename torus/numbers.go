package torus

import (
	"plaquette/api"
	"plaquette/quat"
)

// IsSmall: see P2.6.
func IsSmall(f api.Field) (bool, api.Errno) {
	_, e := Numbers(f)
	if e == api.ErrSmall {
		return false, api.OK
	}
	return e == api.OK, e
}

// Numbers: see P2.6.
func Numbers(f api.Field) ([]int, api.Errno) {
	if e := Validate(f); e != api.OK {
		return nil, e
	}
	numbers := make([]int, 0, len(f.Links))
	for _, link := range f.Links {
		number, is, e := quat.Number(link)
		if e != api.OK {
			return nil, e
		}
		if !is {
			return nil, api.ErrSmall
		}
		numbers = append(numbers, number)
	}
	return numbers, api.OK
}

// FromNumbers: see P2.6.
func FromNumbers(sizes [3]int, numbers []int) (api.Field, api.Errno) {
	if e := ValidateSizes(sizes); e != api.OK {
		return api.Field{}, e
	}
	f := blank(sizes)
	if len(numbers) != len(f.Links) {
		return api.Field{}, api.ErrArg
	}
	for i, number := range numbers {
		u, e := quat.Small(number)
		if e != api.OK {
			return api.Field{}, e
		}
		f.Links[i] = u
	}
	return f, api.OK
}
