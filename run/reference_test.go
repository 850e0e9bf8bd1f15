package run_test

import (
	"math/big"
	"reflect"
	"regexp"
	"slices"
	"strconv"
	"strings"
	"testing"

	"plaquette/api"
	"plaquette/chance"
	"plaquette/gauge"
	"plaquette/loop"
	"plaquette/path"
	"plaquette/run"
	"plaquette/store"
	"plaquette/torus"
)

const (
	least    = -1 << 63
	greatest = 1<<63 - 1
)

var (
	ones   = [5]int{1, 1, 1, 1, 1}
	point  = [3]int{1, 1, 1}
	square = [3]int{2, 2, 1}
)

// someSizes returns the sizes of some toruses, the smallest and the greatest among them.
func someSizes() [][3]int {
	return [][3]int{point, {1, 2, 1}, square, {1, 1, 3}, {3, 2, 1}, {2, 2, 2}, {4, 4, 1}}
}

// badSizes returns sizes for each way in which they may be none, also such whose product overflows to a small number.
func badSizes() [][3]int {
	l := [][3]int{
		{}, {4, 4, 2}, {2, 4, 4}, {4, 2, 4}, {3, 3, 2}, {4, 4, 4}, {-1, -1, 1}, {-2, 1, -2},
		{1 << 32, 1 << 32, 1}, {1 << 62, 4, 1}, {least, least, least}, {greatest, greatest, greatest},
	}
	for at := range 3 {
		for _, size := range []int{0, -1, 5, 16, least, greatest} {
			sizes := point
			sizes[at] = size
			l = append(l, sizes)
		}
	}
	return l
}

// badSeeds returns numbers that are no seeds.
func badSeeds() []int {
	return []int{0, -1, api.Prime, api.Prime + 1, 1<<32 + 1, least, greatest}
}

// badWeights returns weights of which one is out of range.
func badWeights() [][5]int {
	l := [][5]int{{}, {least, least, least, least, least}}
	for at := range 5 {
		for _, weight := range []int{0, -1, 101, 1<<32 + 1, least, greatest} {
			w := ones
			w[at] = weight
			l = append(l, w)
		}
	}
	return l
}

// dice are numbers that look drawn and are the same in each run; they have nothing to do with the draws of the program.
type dice struct{ state uint64 }

func (d *dice) below(n int) int {
	d.state = d.state*6364136223846793005 + 1442695040888963407
	return int(d.state>>33) % n
}

// from returns a number from one to another.
func (d *dice) from(least, greatest int) int {
	return least + d.below(greatest-least+1)
}

// order returns any order. Most are accepted; some have numbers that are out of range, or are none at all.
func (d *dice) order() string {
	n := func(least, greatest int) string { return " " + strconv.Itoa(d.from(least, greatest)) }
	switch d.below(16) {
	case 0:
		return "cold"
	case 1, 2:
		return "hot"
	case 3:
		return "seed" + []string{" 0", " 1", n(1, api.Prime-1), " 2147483646", " 2147483647"}[d.below(5)]
	case 4, 5:
		return "weights" + n(1, 100) + n(1, 100) + n(1, 100) + n(1, 100) + n(0, 101)
	case 6:
		return "leap" + []string{" 0", n(0, 5), n(0, api.Prime), " 2147483647"}[d.below(4)]
	case 7, 8:
		return "sweep" + n(0, 3)
	case 9, 10:
		return "touch" + n(0, 3)
	case 11, 12:
		return "path" + n(0, 5) + n(0, 3)
	case 13:
		return "noise"
	case 14:
		return "center" + n(0, 3)
	}
	return []string{"save", "save", "save", "save", "rest", "", "sweep", "save 1", "path 1"}[d.below(9)]
}

// model is an engine as the chapter describes it, kept with its entries instead of an archive.
type model struct {
	field          api.Field
	seed, step     int
	weights        [5]int
	accepted       int
	orders         []string
	entries        []api.Entry
	weightsOfSaves [][5]int // which the engine had when it saved each entry
	ordersOfSaves  []int    // how many orders it had then, with that of the save
}

func modelOf(t *testing.T, sizes [3]int, seed int) *model {
	t.Helper()
	field, e := torus.Cold(sizes)
	if e != api.OK {
		t.Fatal("Cold", sizes, e)
	}
	return &model{field: field, seed: seed, weights: ones}
}

var numberForm = regexp.MustCompile(`^(0|[1-9][0-9]*)$`)

// isNumber reports whether a word is a number from 0 to Prime.
func isNumber(word string) bool {
	n, _ := new(big.Int).SetString(word, 10)
	return numberForm.MatchString(word) && n.Cmp(big.NewInt(api.Prime)) <= 0
}

var orderForm = regexp.MustCompile(`^(cold|hot|noise|save|(seed|leap|sweep|touch|center) [^ ]+|path [^ ]+ [^ ]+|weights [^ ]+ [^ ]+ [^ ]+ [^ ]+ [^ ]+)$`)

// isOrder reports whether a text is an order.
func isOrder(text string) bool {
	if len(text) < 1 || len(text) > 60 || !orderForm.MatchString(text) {
		return false
	}
	return !slices.ContainsFunc(strings.Split(text, " ")[1:], func(word string) bool { return !isNumber(word) })
}

// do executes an order; with an error it leaves what there was.
func (m *model) do(t *testing.T, text string) api.Errno {
	t.Helper()
	if !isOrder(text) {
		return api.ErrSyntax
	}
	if len(m.orders) == 60 {
		return api.ErrLarge
	}
	words := strings.Split(text, " ")
	n := make([]int, 5)
	for i, word := range words[1:] {
		n[i], _ = strconv.Atoi(word)
	}
	if e := m.error(words[0], n); e != api.OK {
		return e
	}
	m.orders = append(m.orders, text)
	m.execute(t, words[0], n)
	return api.OK
}

// error returns the error of an order that has the right form.
func (m *model) error(word string, n []int) api.Errno {
	bad, steps := false, 0
	switch word {
	case "seed":
		bad = n[0] < 1 || n[0] >= 2147483647
	case "weights":
		for _, weight := range n {
			bad = bad || weight < 1 || weight > 100
		}
	case "center":
		bad = n[0] > 2
	case "sweep", "touch":
		bad, steps = n[0] < 1 || n[0] > 20, n[0]
	case "path":
		bad, steps = n[0] < 1 || n[0] > 100 || n[1] > 10, 1
	case "save":
		if slices.ContainsFunc(m.entries, func(x api.Entry) bool { return x.Step == m.step }) {
			return api.ErrState
		}
		if len(m.entries) == 60 {
			return api.ErrLarge
		}
	}
	if bad {
		return api.ErrArg
	}
	if m.step+steps > 1000000 {
		return api.ErrLarge
	}
	return api.OK
}

// execute executes an order that has no error.
func (m *model) execute(t *testing.T, word string, n []int) {
	t.Helper()
	e := api.OK
	switch word {
	case "cold":
		m.field, e = torus.Cold(m.field.Sizes)
	case "hot":
		m.field, m.seed, e = chance.Hot(m.field.Sizes, m.seed)
	case "seed":
		m.seed = n[0]
	case "weights":
		m.weights = [5]int(n)
	case "leap":
		m.seed, e = chance.Leap(m.seed, n[0])
	case "sweep", "touch":
		for range n[0] {
			m.move(t, word)
		}
	case "path":
		var is bool
		m.field, m.seed, is, e = path.Trajectory(m.field, m.seed, n[0], n[1])
		m.step++
		if is {
			m.accepted++
		}
	case "noise":
		var g []api.Unit
		g, m.seed, e = chance.Noise(m.field.Sizes, m.seed)
		if e == api.OK {
			m.field, e = gauge.Transform(m.field, g)
		}
	case "center":
		m.field, e = gauge.Center(m.field, n[0])
	case "save":
		var x api.Entry
		x, e = store.Of(m.field, m.step, m.seed)
		m.entries = append(m.entries, x)
		m.weightsOfSaves = append(m.weightsOfSaves, m.weights)
		m.ordersOfSaves = append(m.ordersOfSaves, len(m.orders))
	}
	if e != api.OK {
		t.Fatal("the model refuses", word, n, e)
	}
}

// move is one sweep of either kind. Which links a Sweep changed is seen by the fields.
func (m *model) move(t *testing.T, word string) {
	t.Helper()
	before, n, e := m.field.Links, 0, api.OK
	m.step++
	if word == "touch" {
		m.field, m.seed, n, e = chance.Touch(m.field, m.weights, m.seed)
		m.accepted += n
	} else {
		m.field, m.seed, _, e = chance.Sweep(m.field, m.weights, m.seed)
		for link := range before {
			if before[link] != m.field.Links[link] {
				m.accepted++
			}
		}
	}
	if e != api.OK {
		t.Fatal("the model refuses", word, e)
	}
}

// archive returns the archive of the entries.
func (m *model) archive(t *testing.T) string {
	t.Helper()
	text, e := store.Write(m.field.Sizes, m.entries)
	if e != api.OK {
		t.Fatal("Write", e)
	}
	return text
}

// is checks that an engine has what the model has.
func (m *model) is(t *testing.T, e *run.Engine) {
	t.Helper()
	mean, _ := loop.Mean(m.field)
	if f := e.Field(); !reflect.DeepEqual(f, m.field) {
		t.Error("Field", f, "want", m.field)
	}
	if e.Seed() != m.seed || e.Step() != m.step || e.Accepted() != m.accepted {
		t.Error("Seed, Step, Accepted", e.Seed(), e.Step(), e.Accepted(), "want", m.seed, m.step, m.accepted)
	}
	if e.Weights() != m.weights || e.Mean() != mean {
		t.Error("Weights, Mean", e.Weights(), e.Mean(), "want", m.weights, mean)
	}
	if !slices.Equal(e.Orders(), m.orders) {
		t.Errorf("Orders %q, want %q", e.Orders(), m.orders)
	}
	if text := m.archive(t); e.Archive() != text {
		t.Errorf("Archive %q, want %q", e.Archive(), text)
	}
}

// follows has both an engine and the model execute an order, and checks that they agree.
func (m *model) follows(t *testing.T, e *run.Engine, orders ...string) {
	t.Helper()
	for _, order := range orders {
		if got, want := e.Do(order), m.do(t, order); got != want {
			t.Errorf("Do %q behind %q: %v, want %v", order, m.orders, got, want)
		}
		m.is(t, e)
	}
}

// begun returns an engine that has executed orders.
func begun(t *testing.T, sizes [3]int, seed int, orders ...string) *run.Engine {
	t.Helper()
	e, err := run.New(sizes, seed)
	if e == nil || err != api.OK {
		t.Fatal("New", sizes, seed, err)
	}
	for _, order := range orders {
		do(t, e, order, api.OK)
	}
	return e
}

// do checks the result of an order.
func do(t *testing.T, e *run.Engine, order string, want api.Errno) {
	t.Helper()
	if got := e.Do(order); got != want {
		t.Errorf("Do %q: %v, want %v", order, got, want)
	}
}

// resumed returns an engine that was resumed.
func resumed(t *testing.T, archive string, n int, w [5]int) *run.Engine {
	t.Helper()
	e, err := run.Resume(archive, n, w)
	if e == nil || err != api.OK {
		t.Fatalf("Resume of %q from %d: %v", archive, n, err)
	}
	return e
}

// archiveOf returns an archive of cold fields with these steps.
func archiveOf(t *testing.T, sizes [3]int, steps ...int) string {
	t.Helper()
	cold, _ := torus.Cold(sizes)
	var l []api.Entry
	for _, step := range steps {
		x, e := store.Of(cold, step, 7)
		if e != api.OK {
			t.Fatal("Of", step, e)
		}
		l = append(l, x)
	}
	text, e := store.Write(sizes, l)
	if e != api.OK {
		t.Fatal("Write", steps, e)
	}
	return text
}

// upTo returns the numbers from 0 to n - 1.
func upTo(n int) []int {
	var l []int
	for i := range n {
		l = append(l, i)
	}
	return l
}
