package torus_test

import (
	"reflect"
	"slices"
	"testing"

	"plaquette/api"
	"plaquette/quat"
	"plaquette/torus"
)

const (
	least    = -1 << 63
	greatest = 1<<63 - 1
)

func u(a, b, c, d, n int) api.Unit {
	return api.Unit{A: a, B: b, C: c, D: d, N: n}
}

var (
	one      = u(1, 0, 0, 0, 1)
	atLimit  = u(1, 2, 2, 4, 5) // its N is MaxLink
	beyond   = u(1, 5, 3, 1, 6) // valid, but its N is just above MaxLink
	notValid = u(1, 1, 0, 0, 1)
)

// validSizes returns the sizes of all toruses.
func validSizes() [][3]int {
	var l [][3]int
	for x := 1; x <= 4; x++ {
		for y := 1; y <= 4; y++ {
			for z := 1; z <= 4; z++ {
				if x*y*z <= 16 {
					l = append(l, [3]int{x, y, z})
				}
			}
		}
	}
	return l
}

// badSizes returns sizes for each way in which they may be none, also such whose product overflows to a small number.
func badSizes() [][3]int {
	l := [][3]int{
		{}, {4, 4, 2}, {2, 4, 4}, {4, 2, 4}, {3, 3, 2}, {4, 4, 4}, {-1, -1, 1}, {-2, 1, -2},
		{1 << 32, 1 << 32, 1}, {1 << 62, 4, 1}, {1 << 63 / 3, 3, 1}, {least, least, least}, {greatest, greatest, greatest},
	}
	for i := range 3 {
		for _, size := range []int{0, -1, 5, 16, least, greatest} {
			sizes := [3]int{1, 1, 1}
			sizes[i] = size
			l = append(l, sizes)
		}
	}
	return l
}

// badUnits returns units that are not valid.
func badUnits() []api.Unit {
	return []api.Unit{
		{}, notValid, u(2, 0, 0, 0, 2), u(2, 4, 4, 0, 6), u(-1, 0, 0, 0, -1), u(1, 0, 0, 0, 0), u(1<<20+2, 0, 0, 0, 1<<20+2),
		u(1<<32, 0, 0, 0, 1), u(1, 0, 0, 0, least), u(1, 0, 0, 0, greatest), u(least, least, least, least, least),
	}
}

// dice are numbers that look drawn and are the same in each run. Each test has a state of its own: what it draws must not repeat the links of someFields.
type dice struct{ state uint64 }

func (d *dice) below(n int) int {
	d.state = d.state*6364136223846793005 + 1442695040888963407
	return int(d.state>>33) % n
}

// path returns a path with a number of steps.
func (d *dice) path(steps int) []int {
	path := make([]int, steps)
	for i := range path {
		path[i] = []int{-3, -2, -1, 1, 2, 3}[d.below(6)]
	}
	return path
}

// field returns a field with links of all kinds.
func (d *dice) field(sizes [3]int) api.Field {
	all := linkUnits()
	f := api.Field{Sizes: sizes}
	for range 3 * sizes[0] * sizes[1] * sizes[2] {
		f.Links = append(f.Links, all[d.below(len(all))])
	}
	return f
}

// small returns a small field.
func (d *dice) small(sizes [3]int) api.Field {
	f := api.Field{Sizes: sizes}
	for range 3 * sizes[0] * sizes[1] * sizes[2] {
		unit, _ := quat.Small(d.below(24))
		f.Links = append(f.Links, unit)
	}
	return f
}

// linkUnits returns all units that a link may have.
func linkUnits() []api.Unit {
	var l []api.Unit
	for n := 1; n <= 5; n++ {
		for a := -n; a <= n; a++ {
			for b := -n; b <= n; b++ {
				for c := -n; c <= n; c++ {
					for d := -n; d <= n; d++ {
						if quat.Validate(u(a, b, c, d, n)) == api.OK {
							l = append(l, u(a, b, c, d, n))
						}
					}
				}
			}
		}
	}
	return l
}

// someFields returns a field for the sizes of each torus.
func someFields() []api.Field {
	d := dice{1}
	var l []api.Field
	for _, sizes := range validSizes() {
		l = append(l, d.field(sizes))
	}
	return l
}

func cloned(f api.Field) api.Field {
	return api.Field{Sizes: f.Sizes, Links: slices.Clone(f.Links)}
}

func equal(f, g api.Field) bool {
	return f.Sizes == g.Sizes && slices.Equal(f.Links, g.Links)
}

// lattice is what the package is held against: the links by their places and directions.
type lattice struct {
	sizes [3]int
	links map[[4]int]api.Unit
}

func latticeOf(f api.Field) lattice {
	l := lattice{f.Sizes, map[[4]int]api.Unit{}}
	number := 0
	for z := range f.Sizes[2] {
		for y := range f.Sizes[1] {
			for x := range f.Sizes[0] {
				for d := range 3 {
					l.links[[4]int{x, y, z, d}] = f.Links[number]
					number++
				}
			}
		}
	}
	return l
}

// field is the opposite of latticeOf.
func (l lattice) field() api.Field {
	f := api.Field{Sizes: l.sizes}
	for z := range l.sizes[2] {
		for y := range l.sizes[1] {
			for x := range l.sizes[0] {
				for d := range 3 {
					f.Links = append(f.Links, l.links[[4]int{x, y, z, d}])
				}
			}
		}
	}
	return f
}

// at returns the link of a place that is at most a few steps outside.
func (l lattice) at(place [3]int, d int) api.Unit {
	return l.links[[4]int{wrapped(place[0], l.sizes[0]), wrapped(place[1], l.sizes[1]), wrapped(place[2], l.sizes[2]), d}]
}

func wrapped(n, size int) int {
	for n < 0 {
		n += size
	}
	for n >= size {
		n -= size
	}
	return n
}

// along multiplies the units along a path.
func (l lattice) along(t *testing.T, place [3]int, path []int) api.Unit {
	t.Helper()
	product := one
	for _, step := range path {
		var unit api.Unit
		if step > 0 {
			unit = l.at(place, step-1)
			place[step-1]++
		} else {
			place[-step-1]--
			unit, _ = quat.Inverse(l.at(place, -step-1))
		}
		var e api.Errno
		product, e = quat.Mul(product, unit)
		if e != api.OK {
			t.Fatal("a product along a path is too large", path)
		}
	}
	return product
}

// refused checks the error of a call, and that its result is the zero value.
func refused(t *testing.T, name string, result any, e, want api.Errno) {
	t.Helper()
	value := reflect.ValueOf(result)
	empty := value.IsZero() || value.Kind() == reflect.Slice && value.Len() == 0
	if f, is := result.(api.Field); is {
		empty = f.Sizes == [3]int{} && len(f.Links) == 0
	}
	if e != want || !empty {
		t.Errorf("%s: %v %v, want the zero value and %v", name, result, e, want)
	}
}

// untouched returns a function that checks that a field is as it was.
func untouched(t *testing.T, f api.Field) func() {
	before := cloned(f)
	return func() {
		t.Helper()
		if !equal(before, f) {
			t.Error("a field was changed", before, f)
		}
	}
}

// scribble writes into a result, for a check that an argument does not share its memory.
func scribble(f api.Field) {
	for i := range f.Links {
		f.Links[i] = u(9, 9, 9, 9, 9)
	}
}

// fieldCalls are the functions that take a field, with arguments that are right for any field of one site or more.
var fieldCalls = []struct {
	name string
	call func(f api.Field) (any, api.Errno)
}{
	{"Get", func(f api.Field) (any, api.Errno) { r, e := torus.Get(f, 0, 0); return r, e }},
	{"Put", func(f api.Field) (any, api.Errno) { r, e := torus.Put(f, 0, 0, one); return r, e }},
	{"Along", func(f api.Field) (any, api.Errno) { r, e := torus.Along(f, 0, nil); return r, e }},
	{"Plaquettes", func(f api.Field) (any, api.Errno) { r, e := torus.Plaquettes(f); return r, e }},
	{"Shift", func(f api.Field) (any, api.Errno) { r, e := torus.Shift(f, [3]int{1, 1, 1}); return r, e }},
	{"Turn", func(f api.Field) (any, api.Errno) { r, e := torus.Turn(f); return r, e }},
	{"IsSmall", func(f api.Field) (any, api.Errno) { r, e := torus.IsSmall(f); return r, e }},
	{"Numbers", func(f api.Field) (any, api.Errno) { r, e := torus.Numbers(f); return r, e }},
	{"Format", func(f api.Field) (any, api.Errno) { r, e := torus.Format(f); return r, e }},
	{"Get of what is not there", func(f api.Field) (any, api.Errno) { r, e := torus.Get(f, least, least); return r, e }},
	{"Put of what is not there", func(f api.Field) (any, api.Errno) { r, e := torus.Put(f, greatest, 3, notValid); return r, e }},
	{"Along what is not there", func(f api.Field) (any, api.Errno) { r, e := torus.Along(f, -1, make([]int, 9)); return r, e }},
}

// sizesCalls are the functions that take sizes.
var sizesCalls = []struct {
	name string
	call func(sizes [3]int) (any, api.Errno)
}{
	{"Sites", func(sizes [3]int) (any, api.Errno) { r, e := torus.Sites(sizes); return r, e }},
	{"Site", func(sizes [3]int) (any, api.Errno) { r, e := torus.Site(sizes, 3, 3, 3); return r, e }},
	{"Place", func(sizes [3]int) (any, api.Errno) { r, e := torus.Place(sizes, -1); return r, e }},
	{"Next", func(sizes [3]int) (any, api.Errno) { r, e := torus.Next(sizes, -1, 0); return r, e }},
	{"Walk", func(sizes [3]int) (any, api.Errno) { r, e := torus.Walk(sizes, -1, make([]int, 9)); return r, e }},
	{"IsClosed", func(sizes [3]int) (any, api.Errno) { r, e := torus.IsClosed(sizes, -1, make([]int, 9)); return r, e }},
	{"Cold", func(sizes [3]int) (any, api.Errno) { r, e := torus.Cold(sizes); return r, e }},
	{"FromNumbers", func(sizes [3]int) (any, api.Errno) { r, e := torus.FromNumbers(sizes, nil); return r, e }},
	{"FromNumbers of numbers", func(sizes [3]int) (any, api.Errno) {
		r, e := torus.FromNumbers(sizes, make([]int, 12))
		return r, e
	}},
	{"Place, site 0", func(sizes [3]int) (any, api.Errno) { r, e := torus.Place(sizes, 0); return r, e }},
	{"Next, site 0", func(sizes [3]int) (any, api.Errno) { r, e := torus.Next(sizes, 0, 1); return r, e }},
	{"Walk, site 0", func(sizes [3]int) (any, api.Errno) { r, e := torus.Walk(sizes, 0, nil); return r, e }},
	{"IsClosed, site 0", func(sizes [3]int) (any, api.Errno) { r, e := torus.IsClosed(sizes, 0, nil); return r, e }},
}
