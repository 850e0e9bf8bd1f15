package path

import (
	"plaquette/api"
	"plaquette/chance"
	"plaquette/torus"
)

// turned returns a number modulo Turns. Go's remainder has the sign of n, which the second one corrects.
func turned(n int) int {
	return (n%api.Turns + api.Turns) % api.Turns
}

// Center: see P6.1.
func Center(n int) int {
	n = turned(n)
	if n > api.Turns/2 {
		return n - api.Turns
	}
	return n
}

// sign returns 1 for plus, -1 for minus and 0 for none.
func sign(n int) int {
	switch n = Center(n); {
	case n < 0:
		return -1
	case n == 0 || n == api.Turns/2: // half a turn is its own opposite, and so has no sign
		return 0
	}
	return 1
}

// Turner: see P6.1.
func Turner(k api.Kick) (api.Unit, api.Errno) {
	if !isKick(k) {
		return api.Unit{}, api.ErrArg
	}
	return turner(k), api.OK
}

func turner(k api.Kick) api.Unit {
	a, b, c := sign(k[0]), sign(k[1]), sign(k[2])
	switch {
	case a != 0 && b != 0 && c != 0:
		return api.Unit{A: 1, B: a, C: b, D: c, N: 2}
	case a != 0:
		return api.Unit{B: a, N: 1}
	case b != 0:
		return api.Unit{C: b, N: 1}
	case c != 0:
		return api.Unit{D: c, N: 1}
	}
	return api.Unit{A: 1, N: 1}
}

// Reverse: see P6.2.
func Reverse(f api.Field, p []api.Kick) ([]api.Kick, api.Errno) {
	if e := Validate(f, p); e != api.OK {
		return nil, e
	}
	back := make([]api.Kick, len(p))
	for link, k := range p {
		for i, n := range k {
			back[link][i] = turned(-n)
		}
	}
	return back, api.OK
}

// Momenta: see P6.4.
func Momenta(sizes [3]int, seed int) ([]api.Kick, int, api.Errno) {
	sites, e := torus.Sites(sizes)
	if e != api.OK {
		return nil, 0, e
	}
	momenta := make([]api.Kick, directions*sites)
	for link := range momenta {
		for i := range momenta[link] {
			n, behind, e := chance.Draw(seed, api.Turns)
			if e != api.OK {
				return nil, 0, e
			}
			momenta[link][i], seed = n, behind
		}
	}
	return momenta, seed, api.OK
}
