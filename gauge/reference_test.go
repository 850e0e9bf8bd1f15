package gauge_test

import (
	"reflect"
	"slices"
	"testing"

	"plaquette/api"
	"plaquette/quat"
	"plaquette/torus"
)

const (
	least    = -1 << 63
	greatest = 1<<63 - 1
)

func u(a, b, c, d, n int) api.Unit {
	return api.Unit{A: a, B: b, C: c, D: d, N: n}
}

var (
	one      = u(1, 0, 0, 0, 1)
	minus    = u(-1, 0, 0, 0, 1)
	i        = u(0, 1, 0, 0, 1)
	j        = u(0, 0, 1, 0, 1)
	k        = u(0, 0, 0, 1, 1)
	half     = u(1, 1, 1, 1, 2)
	atLimit  = u(1, 2, 2, 4, 5) // its N is MaxLink
	beyond   = u(1, 5, 3, 1, 6) // valid, but its N is just above MaxLink
	notValid = u(1, 1, 0, 0, 1)
)

// validSizes returns the sizes of all toruses.
func validSizes() [][3]int {
	var l [][3]int
	for x := 1; x <= 4; x++ {
		for y := 1; y <= 4; y++ {
			for z := 1; z <= 4; z++ {
				if x*y*z <= 16 {
					l = append(l, [3]int{x, y, z})
				}
			}
		}
	}
	return l
}

// badSizes returns sizes for each way in which they may be none, also such whose product overflows to a small number.
func badSizes() [][3]int {
	l := [][3]int{
		{}, {4, 4, 2}, {2, 4, 4}, {4, 2, 4}, {3, 3, 2}, {4, 4, 4}, {-1, -1, 1}, {-2, 1, -2},
		{1 << 32, 1 << 32, 1}, {1 << 62, 4, 1}, {least, least, least}, {greatest, greatest, greatest},
	}
	for at := range 3 {
		for _, size := range []int{0, -1, 5, 16, least, greatest} {
			sizes := [3]int{1, 1, 1}
			sizes[at] = size
			l = append(l, sizes)
		}
	}
	return l
}

// badUnits returns units that are not valid.
func badUnits() []api.Unit {
	return []api.Unit{
		{}, notValid, u(2, 0, 0, 0, 2), u(2, 4, 4, 0, 6), u(-1, 0, 0, 0, -1), u(1, 0, 0, 0, 0), u(1<<20+2, 0, 0, 0, 1<<20+2),
		u(1<<32, 0, 0, 0, 1), u(1, 0, 0, 0, least), u(1, 0, 0, 0, greatest), u(least, least, least, least, least),
	}
}

// units returns all valid units, up to an N.
func units(most int) []api.Unit {
	var l []api.Unit
	for n := 1; n <= most; n++ {
		for a := -n; a <= n; a++ {
			for b := -n; b <= n; b++ {
				for c := -n; c <= n; c++ {
					for d := -n; d <= n; d++ {
						if quat.Validate(u(a, b, c, d, n)) == api.OK {
							l = append(l, u(a, b, c, d, n))
						}
					}
				}
			}
		}
	}
	return l
}

// dice are numbers that look drawn and are the same in each run.
type dice struct{ state uint64 }

func (d *dice) below(n int) int {
	d.state = d.state*6364136223846793005 + 1442695040888963407
	return int(d.state>>33) % n
}

// draw returns a number of units that are drawn among some.
func (d *dice) draw(n int, among []api.Unit) []api.Unit {
	l := make([]api.Unit, n)
	for at := range l {
		l[at] = among[d.below(len(among))]
	}
	return l
}

// field returns a field with links that are drawn among some units.
func (d *dice) field(sizes [3]int, among []api.Unit) api.Field {
	return api.Field{Sizes: sizes, Links: d.draw(3*count(sizes), among)}
}

// path returns a path with a number of steps.
func (d *dice) path(steps int) []int {
	path := make([]int, steps)
	for at := range path {
		path[at] = []int{-3, -2, -1, 1, 2, 3}[d.below(6)]
	}
	return path
}

// closed returns a path that is closed on each torus.
func (d *dice) closed() []int {
	path := d.path(1 + d.below(4))
	steps := slices.Clone(path)
	for at := range steps {
		to := d.below(at + 1)
		steps[at], steps[to] = steps[to], steps[at]
	}
	for _, step := range steps {
		path = append(path, -step)
	}
	return path
}

func count(sizes [3]int) int {
	return sizes[0] * sizes[1] * sizes[2]
}

// next is the site behind a forward step, found without the package torus.
func next(sizes [3]int, site, dir int) int {
	place := [3]int{site % sizes[0], site / sizes[0] % sizes[1], site / sizes[0] / sizes[1]}
	place[dir]++
	if place[dir] == sizes[dir] {
		place[dir] = 0
	}
	return place[0] + sizes[0]*(place[1]+sizes[1]*place[2])
}

func cloned(f api.Field) api.Field {
	return api.Field{Sizes: f.Sizes, Links: slices.Clone(f.Links)}
}

func equal(f, g api.Field) bool {
	return f.Sizes == g.Sizes && slices.Equal(f.Links, g.Links)
}

// product is that of units which are no larger than links, and not more than a few of them.
func product(t *testing.T, l ...api.Unit) api.Unit {
	t.Helper()
	p, e := quat.Product(l)
	if e != api.OK {
		t.Fatal("a product of the test is too large", l)
	}
	return p
}

func inverse(x api.Unit) api.Unit {
	return u(x.A, -x.B, -x.C, -x.D, x.N)
}

func opposite(x api.Unit) api.Unit {
	return u(-x.A, -x.B, -x.C, -x.D, x.N)
}

// inverses returns the inverse transformation.
func inverses(g []api.Unit) []api.Unit {
	l := make([]api.Unit, len(g))
	for at, x := range g {
		l[at] = inverse(x)
	}
	return l
}

// carried is the transformed field, or ErrLarge.
func carried(t *testing.T, f api.Field, g []api.Unit) (api.Field, api.Errno) {
	t.Helper()
	to := cloned(f)
	for number, link := range f.Links {
		site, dir := number/3, number%3
		to.Links[number] = product(t, g[site], link, inverse(g[next(f.Sizes, site, dir)]))
	}
	for _, link := range to.Links {
		if link.N > api.MaxLink {
			return api.Field{}, api.ErrLarge
		}
	}
	return to, api.OK
}

// grown is the tree: for each site in the order in which they are reached, the links on the way to it.
func grown(sizes [3]int) (sites []int, ways map[int][]int) {
	sites, ways = []int{0}, map[int][]int{0: nil}
	for at := 0; at < len(sites); at++ {
		from := sites[at]
		for dir := range 3 {
			to := next(sizes, from, dir)
			if _, is := ways[to]; !is {
				ways[to] = append(slices.Clone(ways[from]), 3*from+dir)
				sites = append(sites, to)
			}
		}
	}
	return sites, ways
}

// treeOf returns the links of the tree.
func treeOf(sizes [3]int) []int {
	sites, ways := grown(sizes)
	var links []int
	for _, site := range sites[1:] {
		way := ways[site]
		links = append(links, way[len(way)-1])
	}
	return links
}

// branchesOf returns the branches, each multiplied anew from the site 0.
func branchesOf(t *testing.T, f api.Field) []api.Unit {
	t.Helper()
	_, ways := grown(f.Sizes)
	l := make([]api.Unit, count(f.Sizes))
	for site := range l {
		branch := one
		for _, link := range ways[site] {
			branch = product(t, branch, f.Links[link])
		}
		l[site] = branch
	}
	return l
}

// loopsOf returns the loops of all links that are not in the tree.
func loopsOf(t *testing.T, f api.Field) []api.Unit {
	t.Helper()
	tree, branches := treeOf(f.Sizes), branchesOf(t, f)
	var l []api.Unit
	for number, link := range f.Links {
		if !slices.Contains(tree, number) {
			site := number / 3
			l = append(l, product(t, branches[site], link, inverse(branches[next(f.Sizes, site, number%3)])))
		}
	}
	return l
}

// products of 1, i, j and k: the sign and the number of each.
var products = [4][4]struct{ sign, part int }{
	{{1, 0}, {1, 1}, {1, 2}, {1, 3}},
	{{1, 1}, {-1, 0}, {1, 3}, {-1, 2}},
	{{1, 2}, {-1, 3}, {-1, 0}, {1, 1}},
	{{1, 3}, {1, 2}, {-1, 1}, {-1, 0}},
}

func times(p, q [4]int) [4]int {
	var r [4]int
	for a := range p {
		for b := range q {
			r[products[a][b].part] += products[a][b].sign * p[a] * q[b]
		}
	}
	return r
}

func parts(x api.Unit) [4]int {
	return [4]int{x.A, x.B, x.C, x.D}
}

func scaled(q [4]int, n int) [4]int {
	return [4]int{n * q[0], n * q[1], n * q[2], n * q[3]}
}

// proves reports whether q carries each of some loops to the other one.
func proves(q [4]int, a, b []api.Unit) bool {
	for at := range a {
		if scaled(times(q, parts(a[at])), b[at].N) != scaled(times(parts(b[at]), q), a[at].N) {
			return false
		}
	}
	return q != [4]int{}
}

// alike reports whether one rotation carries all loops a to the loops b: exactly if the traces of all of them, and of the products of two and of three, are equal.
func alike(t *testing.T, a, b []api.Unit) bool {
	t.Helper()
	for x := range a {
		if !sameTrace(a[x], b[x]) {
			return false
		}
		for y := range x {
			p, q := product(t, a[x], a[y]), product(t, b[x], b[y])
			if !sameTrace(p, q) {
				return false
			}
			for z := range y {
				if !sameTrace(product(t, p, a[z]), product(t, q, b[z])) {
					return false
				}
			}
		}
	}
	return true
}

func sameTrace(x, y api.Unit) bool {
	return x.A*y.N == y.A*x.N
}

// refused checks the error of a call, and that its result is the zero value.
func refused(t *testing.T, name string, result any, e, want api.Errno) {
	t.Helper()
	value := reflect.ValueOf(result)
	empty := value.IsZero() || value.Kind() == reflect.Slice && value.Len() == 0
	if f, is := result.(api.Field); is {
		empty = f.Sizes == [3]int{} && len(f.Links) == 0
	}
	if e != want || !empty {
		t.Errorf("%s: %v %v, want the zero value and %v", name, result, e, want)
	}
}

// untouched returns a function that checks that fields are as they were.
func untouched(t *testing.T, fields ...api.Field) func() {
	before := make([]api.Field, len(fields))
	for at, f := range fields {
		before[at] = cloned(f)
	}
	return func() {
		t.Helper()
		for at, f := range fields {
			if !equal(before[at], f) {
				t.Error("a field was changed", before[at], f)
			}
		}
	}
}

// unchanged is untouched for transformations.
func unchanged(t *testing.T, lists ...[]api.Unit) func() {
	before := make([][]api.Unit, len(lists))
	for at, l := range lists {
		before[at] = slices.Clone(l)
	}
	return func() {
		t.Helper()
		for at, l := range lists {
			if !slices.Equal(before[at], l) {
				t.Error("a transformation was changed", before[at], l)
			}
		}
	}
}

// scribble writes into a result, for a check that it does not share its memory.
func scribble(l []api.Unit) {
	for at := range l {
		l[at] = u(9, 9, 9, 9, 9)
	}
}

// cold returns the field whose links are all 1, except some.
func cold(sizes [3]int, links map[int]api.Unit) api.Field {
	f, _ := torus.Cold(sizes)
	for number, link := range links {
		f.Links[number] = link
	}
	return f
}
