package path_test

import (
	"math/big"
	"reflect"
	"slices"
	"testing"

	"plaquette/api"
	"plaquette/torus"
)

const (
	least    = -1 << 63
	greatest = 1<<63 - 1
)

func u(a, b, c, d, n int) api.Unit {
	return api.Unit{A: a, B: b, C: c, D: d, N: n}
}

var (
	one      = u(1, 0, 0, 0, 1)
	rough    = u(1, 2, 2, 0, 3) // its N is just above that of a small unit
	atLimit  = u(1, 2, 2, 4, 5) // its N is MaxLink
	beyond   = u(1, 5, 3, 1, 6) // valid, but its N is just above MaxLink
	notValid = u(1, 1, 0, 0, 1)
)

// validSizes returns the sizes of all toruses.
func validSizes() [][3]int {
	var l [][3]int
	for x := 1; x <= 4; x++ {
		for y := 1; y <= 4; y++ {
			for z := 1; z <= 4; z++ {
				if x*y*z <= 16 {
					l = append(l, [3]int{x, y, z})
				}
			}
		}
	}
	return l
}

// badSizes returns sizes for each way in which they may be none, also such whose product overflows to a small number.
func badSizes() [][3]int {
	l := [][3]int{
		{}, {4, 4, 2}, {2, 4, 4}, {4, 2, 4}, {3, 3, 2}, {4, 4, 4}, {-1, -1, 1}, {-2, 1, -2},
		{1 << 32, 1 << 32, 1}, {1 << 62, 4, 1}, {least, least, least}, {greatest, greatest, greatest},
	}
	for at := range 3 {
		for _, size := range []int{0, -1, 5, 16, least, greatest} {
			sizes := [3]int{1, 1, 1}
			sizes[at] = size
			l = append(l, sizes)
		}
	}
	return l
}

// badSeeds returns numbers that are no seeds.
func badSeeds() []int {
	return []int{0, -1, api.Prime, api.Prime + 1, 1 << 32, 1<<32 + 1, least, greatest}
}

// outside returns numbers that are not from one number to another.
func outside(from, to int) []int {
	return []int{from - 1, to + 1, from - 2, to + 2, 1 << 32, least, greatest}
}

// badKicks returns momenta for each place in which a number may be wrong.
func badKicks() []api.Kick {
	var l []api.Kick
	for at := range 3 {
		for _, n := range append(outside(0, 7), 15, 16, -8) {
			k := api.Kick{1, 7, 4}
			k[at] = n
			l = append(l, k)
		}
	}
	return l
}

// allKicks returns the 512 momenta that there are.
func allKicks() []api.Kick {
	var l []api.Kick
	for n := range 512 {
		l = append(l, api.Kick{n % 8, n / 8 % 8, n / 64})
	}
	return l
}

// dice are numbers that look drawn and are the same in each run; they have nothing to do with the draws of the program.
type dice struct{ state uint64 }

func (d *dice) below(n int) int {
	d.state = d.state*6364136223846793005 + 1442695040888963407
	return int(d.state>>33) % n
}

// seed returns any seed.
func (d *dice) seed() int {
	return 1 + d.below(1<<30) + d.below(1<<30-1)
}

// numbers returns the links of a small field.
func (d *dice) numbers(sizes [3]int) []int {
	l := make([]int, 3*sizes[0]*sizes[1]*sizes[2])
	for at := range l {
		l[at] = d.below(24)
	}
	return l
}

// momenta returns a momentum for each link.
func (d *dice) momenta(sizes [3]int) []api.Kick {
	l := make([]api.Kick, 3*sizes[0]*sizes[1]*sizes[2])
	for at := range l {
		l[at] = api.Kick{d.below(8), d.below(8), d.below(8)}
	}
	return l
}

// point returns any field with any momenta.
func (d *dice) point(sizes [3]int) point {
	return pointOf(sizes, d.numbers(sizes), d.momenta(sizes))
}

// double is twice a small unit, so that it has integer coordinates.
type double [4]int

// doubleOf returns the small unit with a number, as the document describes it.
func doubleOf(number int) double {
	var q double
	if number < 8 {
		q[number/2] = 2 - 4*(number%2)
		return q
	}
	for at := range q {
		q[at] = 1
		if (number-8)&(1<<at) != 0 {
			q[at] = -1
		}
	}
	return q
}

func (q double) unit() api.Unit {
	if q[0]%2 == 0 {
		return u(q[0]/2, q[1]/2, q[2]/2, q[3]/2, 1)
	}
	return u(q[0], q[1], q[2], q[3], 2)
}

func (q double) inverse() double {
	return double{q[0], -q[1], -q[2], -q[3]}
}

func (q double) times(p double) double {
	return double{
		(q[0]*p[0] - q[1]*p[1] - q[2]*p[2] - q[3]*p[3]) / 2,
		(q[0]*p[1] + q[1]*p[0] + q[2]*p[3] - q[3]*p[2]) / 2,
		(q[0]*p[2] - q[1]*p[3] + q[2]*p[0] + q[3]*p[1]) / 2,
		(q[0]*p[3] + q[1]*p[2] - q[2]*p[1] + q[3]*p[0]) / 2,
	}
}

// centered returns a number from 0 to 7 centered, by counting up or down to it.
func centered(n int) int {
	return [8]int{0, 1, 2, 3, 4, -3, -2, -1}[n]
}

// turnerOf returns twice the turner of a momentum.
func turnerOf(k api.Kick) double {
	kinds := [8]int{0, 1, 1, 1, 0, -1, -1, -1}
	var some []double
	full := double{1}
	for at, n := range k {
		full[at+1] = kinds[n]
		if kinds[n] != 0 {
			var q double
			q[at+1] = 2 * kinds[n]
			some = append(some, q)
		}
	}
	switch len(some) {
	case 0:
		return double{2}
	case 3:
		return full
	}
	return some[0]
}

// point is a field with momenta.
type point struct {
	sizes   [3]int
	links   []double
	momenta []api.Kick
}

func pointOf(sizes [3]int, numbers []int, momenta []api.Kick) point {
	x := point{sizes, nil, momenta}
	for _, number := range numbers {
		x.links = append(x.links, doubleOf(number))
	}
	return x
}

// field returns the field as an argument of the program.
func (x point) field() api.Field {
	f := api.Field{Sizes: x.sizes}
	for _, q := range x.links {
		f.Links = append(f.Links, q.unit())
	}
	return f
}

// along goes along a path.
func (x point) along(site int, path []int) double {
	place := [3]int{site % x.sizes[0], site / x.sizes[0] % x.sizes[1], site / x.sizes[0] / x.sizes[1]}
	at := func(dir int) double {
		return x.links[3*(place[0]+x.sizes[0]*(place[1]+x.sizes[1]*place[2]))+dir]
	}
	product := doubleOf(0)
	for _, step := range path {
		if step > 0 {
			product = product.times(at(step - 1))
			place[step-1] = (place[step-1] + 1) % x.sizes[step-1]
		} else {
			place[-step-1] = (place[-step-1] + x.sizes[-step-1] - 1) % x.sizes[-step-1]
			product = product.times(at(-step - 1).inverse())
		}
	}
	return product
}

// force returns the force on a link: the paths are written out for each direction.
func (x point) force(link int) [3]int {
	paths := [3][4][]int{
		{{1, 2, -1, -2}, {1, -2, -1, 2}, {1, 3, -1, -3}, {1, -3, -1, 3}},
		{{2, 1, -2, -1}, {2, -1, -2, 1}, {2, 3, -2, -3}, {2, -3, -2, 3}},
		{{3, 1, -3, -1}, {3, -1, -3, 1}, {3, 2, -3, -2}, {3, -2, -3, 2}},
	}
	var sum [3]int
	for _, path := range paths[link%3] {
		q := x.along(link/3, path)
		for at := range sum {
			sum[at] += q[at+1]
		}
	}
	return sum
}

// pushed, drifted and stepped return the point behind a push, a drift and a step.
func (x point) pushed() point {
	y := point{x.sizes, x.links, slices.Clone(x.momenta)}
	for link, k := range x.momenta {
		for at, n := range x.force(link) {
			y.momenta[link][at] = (k[at] + n + 80) % 8
		}
	}
	return y
}

func (x point) drifted() point {
	y := point{x.sizes, slices.Clone(x.links), x.momenta}
	for link, k := range x.momenta {
		y.links[link] = turnerOf(k).times(x.links[link])
	}
	return y
}

func (x point) stepped() point {
	return x.pushed().drifted().pushed()
}

// behind returns the point behind some steps.
func (x point) behind(steps int) point {
	for range steps {
		x = x.stepped()
	}
	return x
}

// period returns the number of steps until the point is reached again, or 0 if there are more than the limit.
func (x point) period(limit int) int {
	y := x
	for n := 1; n <= limit; n++ {
		y = y.stepped()
		if slices.Equal(x.links, y.links) && slices.Equal(x.momenta, y.momenta) {
			return n
		}
	}
	return 0
}

func (x point) kinetic() int {
	sum := 0
	for _, k := range x.momenta {
		for _, n := range k {
			sum += centered(n) * centered(n)
		}
	}
	return sum
}

func (x point) potential() int {
	sum := 0
	for site := range len(x.links) / 3 {
		for _, path := range [][]int{{1, 2, -1, -2}, {1, 3, -1, -3}, {2, 3, -2, -3}} {
			sum += 2 - x.along(site, path)[0]
		}
	}
	return sum
}

// source draws as the document describes it, with numbers that have no limit.
type source struct{ seed *big.Int }

func sourceOf(seed int) *source {
	return &source{big.NewInt(int64(seed))}
}

func (s *source) step() *big.Int {
	s.seed = new(big.Int).Mul(s.seed, big.NewInt(48271))
	s.seed.Mod(s.seed, big.NewInt(2147483647))
	return s.seed
}

func (s *source) draw(n int) int {
	a, b := s.step(), s.step()
	drawn := new(big.Int).Sub(a, big.NewInt(1))
	drawn.Mul(drawn, big.NewInt(2147483646)).Add(drawn, b).Sub(drawn, big.NewInt(1))
	return int(drawn.Mod(drawn, big.NewInt(int64(n))).Int64())
}

func (s *source) momenta(sizes [3]int) []api.Kick {
	var l []api.Kick
	for range 3 * sizes[0] * sizes[1] * sizes[2] {
		a := s.draw(8)
		b := s.draw(8)
		c := s.draw(8)
		l = append(l, api.Kick{a, b, c})
	}
	return l
}

func (s *source) now() int {
	return int(s.seed.Int64())
}

func fieldOf(t *testing.T, sizes [3]int, numbers ...int) api.Field {
	t.Helper()
	f, e := torus.FromNumbers(sizes, numbers)
	if e != api.OK {
		t.Fatal("a field of the test is not right", sizes, numbers, e)
	}
	return f
}

func cloned(f api.Field) api.Field {
	return api.Field{Sizes: f.Sizes, Links: slices.Clone(f.Links)}
}

func equal(f, g api.Field) bool {
	return f.Sizes == g.Sizes && slices.Equal(f.Links, g.Links)
}

// refused checks the error of a call, and that its results are zero values.
func refused(t *testing.T, name string, e, want api.Errno, results ...any) {
	t.Helper()
	if e != want {
		t.Errorf("%s: the error %v, want %v", name, e, want)
	}
	for _, result := range results {
		value := reflect.ValueOf(result)
		empty := value.IsZero() || value.Kind() == reflect.Slice && value.Len() == 0
		if f, is := result.(api.Field); is {
			empty = f.Sizes == [3]int{} && len(f.Links) == 0
		}
		if !empty {
			t.Errorf("%s: %v, want the zero value", name, result)
		}
	}
}

// untouched returns a function that checks that field and momenta are as they were.
func untouched(t *testing.T, f api.Field, p []api.Kick) func() {
	g, q := cloned(f), slices.Clone(p)
	return func() {
		t.Helper()
		if !equal(f, g) || !slices.Equal(p, q) {
			t.Error("an argument was changed", f, g, p, q)
		}
	}
}

// scribble writes into results, for a check that they do not share the memory of an argument.
func scribble(f api.Field, p []api.Kick) {
	for at := range f.Links {
		f.Links[at] = u(9, 9, 9, 9, 9)
	}
	for at := range p {
		p[at] = api.Kick{9, 9, 9}
	}
}
