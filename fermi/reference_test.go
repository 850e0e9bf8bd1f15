package fermi_test

import (
	"math/big"
	"reflect"
	"slices"
	"testing"

	"plaquette/api"
	"plaquette/torus"
)

const (
	least    = -1 << 63
	greatest = 1<<63 - 1
)

func u(a, b, c, d, n int) api.Unit {
	return api.Unit{A: a, B: b, C: c, D: d, N: n}
}

var (
	one      = u(1, 0, 0, 0, 1)
	rough    = u(1, 2, 2, 0, 3) // its N is just above that of a small unit
	atLimit  = u(1, 2, 2, 4, 5) // its N is MaxLink
	beyond   = u(1, 5, 3, 1, 6) // valid, but its N is just above MaxLink
	notValid = u(1, 1, 0, 0, 1)
)

// validSizes returns the sizes of all toruses.
func validSizes() [][3]int {
	var l [][3]int
	for x := 1; x <= 4; x++ {
		for y := 1; y <= 4; y++ {
			for z := 1; z <= 4; z++ {
				if x*y*z <= 16 {
					l = append(l, [3]int{x, y, z})
				}
			}
		}
	}
	return l
}

// badSizes returns sizes for each way in which they may be none, also such whose product overflows to a small number.
func badSizes() [][3]int {
	l := [][3]int{
		{}, {4, 4, 2}, {2, 4, 4}, {4, 2, 4}, {3, 3, 2}, {4, 4, 4}, {-1, -1, 1}, {-2, 1, -2},
		{1 << 32, 1 << 32, 1}, {1 << 62, 4, 1}, {least, least, least}, {greatest, greatest, greatest},
	}
	for at := range 3 {
		for _, size := range []int{0, -1, 5, 16, least, greatest} {
			sizes := [3]int{1, 1, 1}
			sizes[at] = size
			l = append(l, sizes)
		}
	}
	return l
}

// outside returns numbers that are not from one number to another.
func outside(from, to int) []int {
	return []int{from - 1, to + 1, from - 2, to + 2, 1<<32 + 1, least, greatest}
}

func sitesOf(sizes [3]int) int {
	return sizes[0] * sizes[1] * sizes[2]
}

// dice are numbers that look drawn and are the same in each run; they have nothing to do with the draws of the program.
type dice struct{ state uint64 }

func (d *dice) below(n int) int {
	d.state = d.state*6364136223846793005 + 1442695040888963407
	return int(d.state>>33) % n
}

// field returns any small field.
func (d *dice) field(t *testing.T, sizes [3]int) api.Field {
	t.Helper()
	numbers := make([]int, 3*sitesOf(sizes))
	for at := range numbers {
		numbers[at] = d.below(24)
	}
	return fieldOf(t, sizes, numbers...)
}

// vector returns a vector with any entries from -most to most.
func (d *dice) vector(sites, most int) []api.Spin {
	v := make([]api.Spin, sites)
	for site := range v {
		for at := range v[site] {
			v[site][at] = d.below(2*most+1) - most
		}
	}
	return v
}

// ends returns a vector all of whose entries are most or its opposite.
func (d *dice) ends(sites, most int) []api.Spin {
	v := make([]api.Spin, sites)
	for site := range v {
		for at := range v[site] {
			v[site][at] = most * (1 - 2*d.below(2))
		}
	}
	return v
}

// filled returns a vector whose entries are all the same.
func filled(sites, n int) []api.Spin {
	return slices.Repeat([]api.Spin{{n, n, n, n}}, sites)
}

// wide is a vector with entries that have no limit: the entry at of a site has the number 4*site + at.
type wide []*big.Int

func wideOf(v []api.Spin) wide {
	var w wide
	for _, q := range v {
		for _, n := range q {
			w = append(w, big.NewInt(int64(n)))
		}
	}
	return w
}

func zero(sites int) wide {
	return wideOf(make([]api.Spin, sites))
}

// plus returns v and n times w.
func (v wide) plus(n int, w wide) wide {
	sum := make(wide, len(v))
	for at := range v {
		sum[at] = new(big.Int).Mul(big.NewInt(int64(n)), w[at])
		sum[at].Add(sum[at], v[at])
	}
	return sum
}

func (v wide) dot(w wide) *big.Int {
	sum := new(big.Int)
	for at := range v {
		sum.Add(sum, new(big.Int).Mul(v[at], w[at]))
	}
	return sum
}

// is reports whether a result is this vector.
func (v wide) is(result []api.Spin) bool {
	w := wideOf(result)
	return slices.EqualFunc(v, w, func(m, n *big.Int) bool { return m.Cmp(n) == 0 })
}

// isWithin reports whether all entries are from -most to most.
func (v wide) isWithin(most int) bool {
	for _, n := range v {
		if n.CmpAbs(big.NewInt(int64(most))) > 0 {
			return false
		}
	}
	return true
}

// addProduct adds a multiple of the product of a quaternion of integers and that of w at a site from to that at a site to. The products of 1, i, j, k are written out.
func (v wide) addProduct(to, n int, q [4]int, w wide, from int) {
	units := [4][4]int{{0, 1, 2, 3}, {1, 0, 3, 2}, {2, 3, 0, 1}, {3, 2, 1, 0}}
	signs := [4][4]int{{1, 1, 1, 1}, {1, -1, 1, -1}, {1, -1, -1, 1}, {1, 1, -1, -1}}
	for left := range 4 {
		for right := range 4 {
			product := new(big.Int).Mul(big.NewInt(int64(n*signs[left][right]*q[left])), w[4*from+right])
			at := 4*to + units[left][right]
			v[at] = new(big.Int).Add(v[at], product)
		}
	}
}

// doubled returns twice a small unit, which has integer coordinates.
func doubled(x api.Unit) [4]int {
	q := [4]int{x.A, x.B, x.C, x.D}
	if x.N == 1 {
		for at := range q {
			q[at] *= 2
		}
	}
	return q
}

// siteAt returns the site with a place, whose coordinates may be beyond the sizes by one.
func siteAt(sizes, place [3]int) int {
	for at, size := range sizes {
		place[at] = (place[at] + size) % size
	}
	return place[0] + sizes[0]*(place[1]+sizes[1]*place[2])
}

// signAt returns the sign of a place in a direction.
func signAt(place [3]int, dir int) int {
	odd := false
	switch dir {
	case 1:
		odd = place[0]%2 == 1
	case 2:
		odd = (place[0]+place[1])%2 == 1
	}
	if odd {
		return -1
	}
	return 1
}

// hopping returns the hopping of a vector, as the document describes it.
func hopping(f api.Field, v wide) wide {
	w := zero(sitesOf(f.Sizes))
	for x := range f.Sizes[0] {
		for y := range f.Sizes[1] {
			for z := range f.Sizes[2] {
				place := [3]int{x, y, z}
				site := siteAt(f.Sizes, place)
				for dir := range 3 {
					sign := signAt(place, dir)
					after, before := place, place
					after[dir]++
					before[dir]--
					next, last := siteAt(f.Sizes, after), siteAt(f.Sizes, before)
					w.addProduct(site, sign, doubled(f.Links[3*site+dir]), v, next)
					q := doubled(f.Links[3*last+dir])
					w.addProduct(site, -sign, [4]int{q[0], -q[1], -q[2], -q[3]}, v, last)
				}
			}
		}
	}
	return w
}

// operator returns the operator applied to a vector, or with the sign -1 the dagger.
func operator(f api.Field, mass, sign int, v wide) wide {
	return zero(sitesOf(f.Sizes)).plus(4*mass, v).plus(sign, hopping(f, v))
}

// remainder returns a source minus the operator applied to a vector.
func remainder(f api.Field, mass int, v, b []api.Spin) wide {
	return wideOf(b).plus(-1, operator(f, mass, 1, wideOf(v)))
}

// allowed returns what the squares of a remainder may add up to.
func allowed(f api.Field, mass int) *big.Int {
	sum := 0
	for range 4 * sitesOf(f.Sizes) {
		sum += (4*mass + 16) * (4*mass + 16)
	}
	return big.NewInt(int64(sum))
}

// exact returns the exact solution, by elimination.
func exact(f api.Field, mass int, b []api.Spin) []*big.Rat {
	n := 4 * len(b)
	rows := make([][]*big.Rat, n)
	for at, entry := range wideOf(b) {
		rows[at] = make([]*big.Rat, n+1)
		rows[at][n] = new(big.Rat).SetInt(entry)
	}
	for column := range n {
		v := make([]api.Spin, len(b))
		v[column/4][column%4] = 1
		for at, entry := range operator(f, mass, 1, wideOf(v)) {
			rows[at][column] = new(big.Rat).SetInt(entry)
		}
	}
	for column := range n {
		pivot := column
		for rows[pivot][column].Sign() == 0 {
			pivot++
		}
		rows[column], rows[pivot] = rows[pivot], rows[column]
		eliminate(rows, column)
	}
	var solution []*big.Rat
	for at := range n {
		solution = append(solution, rows[at][n].Quo(rows[at][n], rows[at][at]))
	}
	return solution
}

// eliminate makes all other rows 0 in a column.
func eliminate(rows [][]*big.Rat, column int) {
	pivot := rows[column]
	for at, row := range rows {
		if at == column || row[column].Sign() == 0 {
			continue
		}
		factor := new(big.Rat).Quo(row[column], pivot[column])
		for k := column; k < len(row); k++ {
			row[k].Sub(row[k], new(big.Rat).Mul(factor, pivot[k]))
		}
	}
}

// distance returns the sum of the squares of the differences of a vector and rational numbers.
func distance(v []api.Spin, solution []*big.Rat) *big.Rat {
	sum := new(big.Rat)
	for at, n := range wideOf(v) {
		d := new(big.Rat).Sub(new(big.Rat).SetInt(n), solution[at])
		sum.Add(sum, d.Mul(d, d))
	}
	return sum
}

// nearest returns the vector with each number rounded to the nearest integer.
func nearest(solution []*big.Rat) []api.Spin {
	v := make([]api.Spin, len(solution)/4)
	for at, x := range solution {
		// floor(x + 1/2): Euclidean division rounds down, because the denominator is above 0.
		half := new(big.Rat).Add(x, big.NewRat(1, 2))
		v[at/4][at%4] = int(new(big.Int).Div(half.Num(), half.Denom()).Int64())
	}
	return v
}

func fieldOf(t *testing.T, sizes [3]int, numbers ...int) api.Field {
	t.Helper()
	f, e := torus.FromNumbers(sizes, numbers)
	if e != api.OK {
		t.Fatal("a field of the test is not right", sizes, numbers, e)
	}
	return f
}

func cold(t *testing.T, sizes [3]int) api.Field {
	t.Helper()
	return fieldOf(t, sizes, make([]int, 3*sitesOf(sizes))...)
}

// steep returns a field of one site whose hopping makes each vector 12 times as long: no hopping makes one longer.
func steep(t *testing.T) api.Field {
	t.Helper()
	return fieldOf(t, [3]int{1, 1, 1}, 2, 2, 2)
}

func cloned(f api.Field) api.Field {
	return api.Field{Sizes: f.Sizes, Links: slices.Clone(f.Links)}
}

// refused checks the error of a call, and that its results are zero values.
func refused(t *testing.T, name string, e, want api.Errno, results ...any) {
	t.Helper()
	if e != want {
		t.Errorf("%s: the error %v, want %v", name, e, want)
	}
	for _, result := range results {
		value := reflect.ValueOf(result)
		if !value.IsZero() && (value.Kind() != reflect.Slice || value.Len() > 0) {
			t.Errorf("%s: %v, want the zero value", name, result)
		}
	}
}

// untouched returns a function that checks that field and vectors are as they were.
func untouched(t *testing.T, f api.Field, vectors ...[]api.Spin) func() {
	g := cloned(f)
	var clones [][]api.Spin
	for _, v := range vectors {
		clones = append(clones, slices.Clone(v))
	}
	return func() {
		t.Helper()
		if f.Sizes != g.Sizes || !slices.Equal(f.Links, g.Links) {
			t.Error("the field was changed", f, g)
		}
		for at, v := range vectors {
			if !slices.Equal(v, clones[at]) {
				t.Error("a vector was changed", v, clones[at])
			}
		}
	}
}

// scribble writes into a result, for a check that it does not share the memory of an argument.
func scribble(v []api.Spin) {
	for site := range v {
		v[site] = api.Spin{9, 9, 9, 9}
	}
}
