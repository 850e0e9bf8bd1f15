package quat

import (
	"strconv"
	"strings"

	"plaquette/api"
)

// Format: see P1.6.
func Format(u api.Unit) (string, api.Errno) {
	if e := Validate(u); e != api.OK {
		return "", e
	}
	words := make([]string, 0, 5)
	for _, n := range [5]int{u.A, u.B, u.C, u.D, u.N} {
		words = append(words, strconv.Itoa(n))
	}
	return strings.Join(words, " "), api.OK
}

// Parse: see P1.6. It formats again what it has read, because strconv also accepts texts that Format never writes, such as `+1` and `01`.
func Parse(text string) (api.Unit, api.Errno) {
	var numbers [5]int
	rest := text
	for i := range numbers {
		word, behind, _ := strings.Cut(rest, " ")
		n, err := strconv.Atoi(word)
		if err != nil {
			return api.Unit{}, api.ErrSyntax
		}
		numbers[i], rest = n, behind
	}
	u := api.Unit{A: numbers[0], B: numbers[1], C: numbers[2], D: numbers[3], N: numbers[4]}
	if again, e := Format(u); e != api.OK || again != text {
		return api.Unit{}, api.ErrSyntax
	}
	return u, api.OK
}
