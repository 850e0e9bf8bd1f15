package path

import (
	"plaquette/api"
	"plaquette/quat"
)

const (
	values = 24 // how many small units there are
	one    = 0  // the number of the small unit 1
)

// products has the small units by their numbers, and those of their products that have been asked for: a run asks for the same ones again and again.
type products struct {
	units    [values]api.Unit
	inverses [values]int
	isKnown  [values][values]bool
	known    [values][values]int
}

// newProducts returns products none of which is known. Here and below, package quat has no errors to report: small units are valid, and so are their products, which are small again.
func newProducts() *products {
	p := &products{}
	for n := range p.units {
		p.units[n], _ = quat.Small(n)
		inverse, _ := quat.Inverse(p.units[n])
		p.inverses[n] = numberOf(inverse)
	}
	return p
}

// numberOf returns the number of a small unit.
func numberOf(u api.Unit) int {
	number, _, _ := quat.Number(u)
	return number
}

// times returns the number of the product of two small units.
func (p *products) times(a, b int) int {
	if !p.isKnown[a][b] {
		product, _ := quat.Mul(p.units[a], p.units[b])
		p.known[a][b], p.isKnown[a][b] = numberOf(product), true
	}
	return p.known[a][b]
}

// twice returns twice the coordinates B/N, C/N, D/N of a small unit. They are integers, because N is 1 or 2.
func (p *products) twice(number int) [3]int {
	u := p.units[number]
	return [3]int{2 * u.B / u.N, 2 * u.C / u.N, 2 * u.D / u.N}
}
