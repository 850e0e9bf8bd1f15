package chance_test

import (
	"math/big"
	"reflect"
	"slices"
	"testing"

	"plaquette/api"
	"plaquette/torus"
)

const (
	least    = -1 << 63
	greatest = 1<<63 - 1
)

func u(a, b, c, d, n int) api.Unit {
	return api.Unit{A: a, B: b, C: c, D: d, N: n}
}

var (
	one      = u(1, 0, 0, 0, 1)
	rough    = u(1, 2, 2, 0, 3) // its N is just above that of a small unit
	atLimit  = u(1, 2, 2, 4, 5) // its N is MaxLink
	beyond   = u(1, 5, 3, 1, 6) // valid, but its N is just above MaxLink
	notValid = u(1, 1, 0, 0, 1)
)

var (
	ones    = [5]int{1, 1, 1, 1, 1}
	rising  = [5]int{1, 2, 3, 4, 5}
	mixed   = [5]int{7, 1, 12, 5, 3}
	highest = [5]int{100, 100, 100, 100, 100}
)

// validSizes returns the sizes of all toruses.
func validSizes() [][3]int {
	var l [][3]int
	for x := 1; x <= 4; x++ {
		for y := 1; y <= 4; y++ {
			for z := 1; z <= 4; z++ {
				if x*y*z <= 16 {
					l = append(l, [3]int{x, y, z})
				}
			}
		}
	}
	return l
}

// badSizes returns sizes for each way in which they may be none, also such whose product overflows to a small number.
func badSizes() [][3]int {
	l := [][3]int{
		{}, {4, 4, 2}, {2, 4, 4}, {4, 2, 4}, {3, 3, 2}, {4, 4, 4}, {-1, -1, 1}, {-2, 1, -2},
		{1 << 32, 1 << 32, 1}, {1 << 62, 4, 1}, {least, least, least}, {greatest, greatest, greatest},
	}
	for at := range 3 {
		for _, size := range []int{0, -1, 5, 16, least, greatest} {
			sizes := [3]int{1, 1, 1}
			sizes[at] = size
			l = append(l, sizes)
		}
	}
	return l
}

// badSeeds returns numbers that are no seeds.
func badSeeds() []int {
	return []int{0, -1, api.Prime, api.Prime + 1, 1 << 32, 1<<32 + 1, least, greatest}
}

// badWeights returns weights for each place in which they may be wrong.
func badWeights() [][5]int {
	l := [][5]int{{}}
	for at := range 5 {
		for _, weight := range []int{0, -1, 101, least, greatest} {
			w := mixed
			w[at] = weight
			l = append(l, w)
		}
	}
	return l
}

// someWeights returns weights of all kinds that are allowed.
func someWeights() [][5]int {
	return [][5]int{ones, rising, mixed, highest, {100, 1, 100, 1, 100}, {1, 1, 1, 1, 100}, {97, 89, 83, 79, 73}}
}

// noLinks returns numbers that are no links of a field.
func noLinks(f api.Field) []int {
	n := len(f.Links)
	return []int{-1, n, n + 1, -n, least, greatest}
}

// noValues returns numbers that are no small units.
func noValues() []int {
	return []int{-1, 24, 25, 1 << 32, least, greatest}
}

// dice are numbers that look drawn and are the same in each run; they have nothing to do with the draws of the package.
type dice struct{ state uint64 }

func (d *dice) below(n int) int {
	d.state = d.state*6364136223846793005 + 1442695040888963407
	return int(d.state>>33) % n
}

// seed returns any seed.
func (d *dice) seed() int {
	return 1 + d.below(1<<30) + d.below(1<<30-1)
}

// numbers returns the links of a small field.
func (d *dice) numbers(sizes [3]int) []int {
	l := make([]int, 3*sizes[0]*sizes[1]*sizes[2])
	for at := range l {
		l[at] = d.below(24)
	}
	return l
}

// field returns a small field.
func (d *dice) field(t *testing.T, sizes [3]int) api.Field {
	return fieldOf(t, sizes, d.numbers(sizes))
}

func fieldOf(t *testing.T, sizes [3]int, numbers []int) api.Field {
	t.Helper()
	f, e := torus.FromNumbers(sizes, numbers)
	if e != api.OK {
		t.Fatal("a field of the test is not right", sizes, numbers, e)
	}
	return f
}

func numbersOf(t *testing.T, f api.Field) []int {
	t.Helper()
	numbers, e := torus.Numbers(f)
	if e != api.OK {
		t.Fatal("a field is not small", f, e)
	}
	return numbers
}

func cloned(f api.Field) api.Field {
	return api.Field{Sizes: f.Sizes, Links: slices.Clone(f.Links)}
}

func equal(f, g api.Field) bool {
	return f.Sizes == g.Sizes && slices.Equal(f.Links, g.Links)
}

// double is twice a small unit, so that it has integer coordinates.
type double [4]int

// doubleOf returns the small unit with a number, as the document describes it.
func doubleOf(number int) double {
	var q double
	if number < 8 {
		q[number/2] = 2 - 4*(number%2)
		return q
	}
	for at := range q {
		q[at] = 1
		if (number-8)&(1<<at) != 0 {
			q[at] = -1
		}
	}
	return q
}

func (q double) unit() api.Unit {
	if q[0]%2 == 0 {
		return u(q[0]/2, q[1]/2, q[2]/2, q[3]/2, 1)
	}
	return u(q[0], q[1], q[2], q[3], 2)
}

// number returns the number of a small unit, by looking through all of them.
func (q double) number() int {
	for number := range 24 {
		if doubleOf(number) == q {
			return number
		}
	}
	return -1
}

func (q double) inverse() double {
	return double{q[0], -q[1], -q[2], -q[3]}
}

func (q double) times(p double) double {
	return double{
		(q[0]*p[0] - q[1]*p[1] - q[2]*p[2] - q[3]*p[3]) / 2,
		(q[0]*p[1] + q[1]*p[0] + q[2]*p[3] - q[3]*p[2]) / 2,
		(q[0]*p[2] - q[1]*p[3] + q[2]*p[0] + q[3]*p[1]) / 2,
		(q[0]*p[3] + q[1]*p[2] - q[2]*p[1] + q[3]*p[0]) / 2,
	}
}

// passage is a step along a link.
type passage struct {
	link int
	back bool
}

// passagesOf walks along a plaquette.
func passagesOf(sizes [3]int, plaquette int) []passage {
	site := plaquette / 3
	place := [3]int{site % sizes[0], site / sizes[0] % sizes[1], site / sizes[0] / sizes[1]}
	at := func() int { return place[0] + sizes[0]*(place[1]+sizes[1]*place[2]) }
	pair := [][2]int{{0, 1}, {0, 2}, {1, 2}}[plaquette%3]
	var l []passage
	for _, dir := range pair {
		l = append(l, passage{3*at() + dir, false})
		place[dir] = (place[dir] + 1) % sizes[dir]
	}
	for _, dir := range pair {
		place[dir] = (place[dir] + sizes[dir] - 1) % sizes[dir]
		l = append(l, passage{3*at() + dir, true})
	}
	return l
}

// through returns the plaquettes of a link, found among all of them.
func through(sizes [3]int, link int) []int {
	var l []int
	for plaquette := range 3 * sizes[0] * sizes[1] * sizes[2] {
		if slices.ContainsFunc(passagesOf(sizes, plaquette), func(p passage) bool { return p.link == link }) {
			l = append(l, plaquette)
		}
	}
	return l
}

// traceOf returns the trace of a plaquette of a small field.
func traceOf(sizes [3]int, numbers []int, plaquette int) int {
	product := doubleOf(0)
	for _, p := range passagesOf(sizes, plaquette) {
		q := doubleOf(numbers[p.link])
		if p.back {
			q = q.inverse()
		}
		product = product.times(q)
	}
	return product[0]
}

// weightsOf returns the weights of the 24 values of a link.
func weightsOf(sizes [3]int, numbers []int, w [5]int, link int) [24]int {
	var weights [24]int
	plaquettes := through(sizes, link)
	with := slices.Clone(numbers)
	for value := range weights {
		with[link] = value
		weights[value] = 1
		for _, plaquette := range plaquettes {
			weights[value] *= w[traceOf(sizes, with, plaquette)+2]
		}
	}
	return weights
}

func total(weights [24]int) int {
	sum := 0
	for _, weight := range weights {
		sum += weight
	}
	return sum
}

// landing returns the smallest value for which the sum of the weights up to it is above a draw.
func landing(weights [24]int, draw int) int {
	for value := range weights {
		sum := 0
		for _, weight := range weights[:value+1] {
			sum += weight
		}
		if sum > draw {
			return value
		}
	}
	return -1
}

// source draws as the document describes it, with numbers that have no limit.
type source struct{ seed *big.Int }

func sourceOf(seed int) *source {
	return &source{big.NewInt(int64(seed))}
}

func (s *source) step() *big.Int {
	s.seed = new(big.Int).Mul(s.seed, big.NewInt(48271))
	s.seed.Mod(s.seed, big.NewInt(2147483647))
	return s.seed
}

func (s *source) draw(n int) int {
	a, b := s.step(), s.step()
	drawn := new(big.Int).Sub(a, big.NewInt(1))
	drawn.Mul(drawn, big.NewInt(2147483646)).Add(drawn, b).Sub(drawn, big.NewInt(1))
	return int(drawn.Mod(drawn, big.NewInt(int64(n))).Int64())
}

func (s *source) now() int {
	return int(s.seed.Int64())
}

// refused checks the error of a call, and that its results are zero values.
func refused(t *testing.T, name string, e, want api.Errno, results ...any) {
	t.Helper()
	if e != want {
		t.Errorf("%s: the error %v, want %v", name, e, want)
	}
	for _, result := range results {
		value := reflect.ValueOf(result)
		empty := value.IsZero() || value.Kind() == reflect.Slice && value.Len() == 0
		if f, is := result.(api.Field); is {
			empty = f.Sizes == [3]int{} && len(f.Links) == 0
		}
		if !empty {
			t.Errorf("%s: %v, want the zero value", name, result)
		}
	}
}

// untouched returns a function that checks that fields are as they were.
func untouched(t *testing.T, fields ...api.Field) func() {
	before := make([]api.Field, len(fields))
	for at, f := range fields {
		before[at] = cloned(f)
	}
	return func() {
		t.Helper()
		for at, f := range fields {
			if !equal(before[at], f) {
				t.Error("a field was changed", before[at], f)
			}
		}
	}
}

// scribble writes into the links of a result, for a check that it does not share its memory.
func scribble(l []api.Unit) {
	for at := range l {
		l[at] = u(9, 9, 9, 9, 9)
	}
}
