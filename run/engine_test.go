package run_test

import (
	"slices"
	"strconv"
	"sync"
	"testing"

	"plaquette/api"
	"plaquette/run"
	"plaquette/store"
)

func itoa(n int) string { return strconv.Itoa(n) }

// P9.4: what an engine returns is new memory, and so is what it was given.
func TestNewMemory(t *testing.T) {
	orders := []string{"hot", "sweep 1", "save"}
	e, _, err := run.Replay(square, 5, orders)
	if err != api.OK {
		t.Fatal("Replay", err)
	}
	before, mean := formatted(t, e), e.Mean()
	orders[0] = "cold"
	l := e.Orders()
	l[1] = "rest"
	_ = append(l[:1], "rest")
	f := e.Field()
	f.Links[0] = api.Unit{N: 7}
	if formatted(t, e) != before || e.Mean() != mean || !slices.Equal(e.Orders(), []string{"hot", "sweep 1", "save"}) || !e.Audit() {
		t.Error("the engine has changed")
	}
	// What was returned stays as it was when the engine goes on.
	f, l = e.Field(), e.Orders()
	kept := slices.Clone(f.Links)
	for _, order := range []string{"cold", "hot", "noise", "center 1", "path 2 1"} {
		do(t, e, order, api.OK)
	}
	if !slices.Equal(f.Links, kept) || !slices.Equal(l, []string{"hot", "sweep 1", "save"}) {
		t.Error("a result has changed")
	}
}

// P9.4: a nil engine, and one that no function made.
func TestNoEngine(t *testing.T) {
	for _, e := range []*run.Engine{nil, {}} {
		for _, order := range append(examples(), texts()...) {
			do(t, e, order, api.ErrArg)
		}
		if f := e.Field(); f.Sizes != [3]int{} || len(f.Links) != 0 {
			t.Error("Field", f)
		}
		if e.Seed() != 0 || e.Step() != 0 || e.Weights() != [5]int{} || e.Accepted() != 0 || e.Mean() != (api.Rat{}) {
			t.Error(e.Seed(), e.Step(), e.Weights(), e.Accepted(), e.Mean())
		}
		if len(e.Orders()) != 0 || e.Archive() != "" || e.Audit() {
			t.Error(e.Orders(), e.Archive(), e.Audit())
		}
	}
}

// An order that is refused changes nothing, also if it is refused on the way.
func TestRefusedOrders(t *testing.T) {
	d := dice{92}
	for _, sizes := range someSizes() {
		m, e := modelOf(t, sizes, 5), begun(t, sizes, 5)
		m.follows(t, e, "hot", "weights 1 2 3 4 5", "touch 1", "save")
		for _, order := range []string{
			"seed 0", "seed 2147483647", "weights 9 9 9 9 0", "weights 9 9 9 9 101", "weights 0 9 9 9 9", "sweep 0", "sweep 21", "touch 0",
			"touch 21", "path 0 0", "path 101 0", "path 1 11", "center 3", "save", "rest",
		} {
			if e.Do(order) == api.OK {
				t.Error("accepted:", order)
			}
			m.is(t, e)
		}
		for range 5 {
			m.follows(t, e, d.order())
		}
	}
}

// R11: equal orders make equal engines.
func TestEqualCalls(t *testing.T) {
	d := dice{93}
	for _, sizes := range someSizes() {
		var orders []string
		for range 30 {
			orders = append(orders, d.order())
		}
		e, archive, err := run.Run(sizes, 12, orders)
		again, text, _ := run.Run(sizes, 12, orders)
		if !slices.Equal(e, again) || archive != text || err != api.OK {
			t.Error("Run", orders)
		}
	}
}

// Several goroutines use an engine: no order is lost, none comes in between another one, and all that is seen was there at a moment.
func TestGoroutines(t *testing.T) {
	for range 20 {
		e := begun(t, point, 5, "hot")
		results := make([][]api.Errno, 8)
		seen := make([][][]string, len(results))
		steps := make([][]int, len(results))
		audits := make([]bool, len(results))
		var all sync.WaitGroup
		for n := range results {
			all.Go(func() {
				for range 10 {
					results[n] = append(results[n], e.Do("sweep 3"), e.Do("save"))
					seen[n] = append(seen[n], e.Orders())
					steps[n] = append(steps[n], e.Step())
				}
				audits[n] = e.Audit()
			})
		}
		all.Wait()
		accepted := 1
		for n := range results {
			for _, result := range results[n] {
				switch result {
				case api.OK:
					accepted++
				case api.ErrState, api.ErrLarge:
				default:
					t.Error("Do", result)
				}
			}
			for _, orders := range seen[n] {
				if len(orders) > len(e.Orders()) || !slices.Equal(orders, e.Orders()[:len(orders)]) {
					t.Error("orders that were seen are no beginning:", orders)
				}
			}
			for _, step := range steps[n] {
				if step%3 != 0 {
					t.Error("a step in between:", step)
				}
			}
			if !audits[n] {
				t.Error("Audit of", n)
			}
		}
		if accepted != len(e.Orders()) || accepted != api.MaxOrders || !e.Audit() {
			t.Error(accepted, "were accepted, but there are", len(e.Orders()), e.Audit())
		}
	}
}

// Goroutines that only add orders: as many are accepted as there is room for.
func TestNoOrderIsLost(t *testing.T) {
	for range 200 {
		e := begun(t, point, 5)
		var all sync.WaitGroup
		results := make([]int, 8)
		for n := range results {
			all.Go(func() {
				for range 7 {
					if e.Do("leap 1") == api.OK {
						results[n]++
					}
				}
			})
		}
		all.Wait()
		sum := 0
		for _, n := range results {
			sum += n
		}
		if sum != 56 || len(e.Orders()) != 56 || !e.Audit() {
			t.Fatal(sum, len(e.Orders()))
		}
	}
}

// refusedReplay checks an error of Replay.
func refusedReplay(t *testing.T, sizes [3]int, seed int, orders []string, number int, want api.Errno) {
	t.Helper()
	if e, n, err := run.Replay(sizes, seed, orders); e != nil || n != number || err != want {
		t.Errorf("Replay of %v %d %q: %d %v, want %d %v", sizes, seed, orders, n, err, number, want)
	}
}

// P9.5
func TestReplay(t *testing.T) {
	d := dice{94}
	for _, sizes := range someSizes() {
		for _, count := range []int{0, 1, 5, 40} {
			m, e := modelOf(t, sizes, 8), begun(t, sizes, 8)
			for range count {
				m.follows(t, e, d.order())
			}
			again, n, err := run.Replay(sizes, 8, e.Orders())
			if again == nil || n != len(m.orders) || err != api.OK {
				t.Fatal("Replay", n, err)
			}
			m.is(t, again)
			m.follows(t, again, "hot", "sweep 2", "save")
			if !again.Audit() {
				t.Error("Audit", again.Orders())
			}
		}
	}
	refusedReplay(t, point, 1, []string{"rest"}, 0, api.ErrSyntax)
	refusedReplay(t, point, 1, []string{"hot", "seed 0", "rest"}, 1, api.ErrArg)
	refusedReplay(t, point, 1, []string{"save", "hot", "save", "sweep 0"}, 2, api.ErrState)
	many := slices.Repeat([]string{"cold"}, 60)
	if _, n, err := run.Replay(point, 1, many); n != 60 || err != api.OK {
		t.Error("Replay", n, err)
	}
	refusedReplay(t, point, 1, append(many, "cold"), 60, api.ErrLarge)
	refusedReplay(t, point, 1, append(many, "seed 0", "rest"), 60, api.ErrLarge)
	refusedReplay(t, point, 1, append(many, "rest", "cold"), 60, api.ErrSyntax)
	for _, sizes := range badSizes() {
		refusedReplay(t, sizes, 1, []string{"hot", "rest"}, 0, api.ErrArg)
	}
	for _, seed := range badSeeds() {
		refusedReplay(t, point, seed, []string{"hot", "rest"}, 0, api.ErrArg)
	}
}

// P9.5: Run goes on behind orders that are refused.
func TestRun(t *testing.T) {
	d := dice{95}
	for _, sizes := range someSizes() {
		for _, count := range []int{0, 1, 20, 60} {
			m := modelOf(t, sizes, 8)
			var orders []string
			var want []api.Errno
			for range count {
				orders = append(orders, d.order())
				want = append(want, m.do(t, orders[len(orders)-1]))
			}
			results, text, err := run.Run(sizes, 8, orders)
			if !slices.Equal(results, want) || text != m.archive(t) || err != api.OK {
				t.Errorf("Run of %q: %v %q %v, want %v %q", orders, results, text, err, want, m.archive(t))
			}
		}
	}
	many := slices.Repeat([]string{"sweep 1"}, 61)
	refusedRun := func(sizes [3]int, seed int, orders []string, want api.Errno) {
		t.Helper()
		if results, text, err := run.Run(sizes, seed, orders); len(results) != 0 || text != "" || err != want {
			t.Error("Run", sizes, seed, results, text, err, want)
		}
	}
	refusedRun(point, 1, many, api.ErrLarge)
	refusedRun(point, 1, slices.Repeat([]string{"rest"}, 61), api.ErrLarge)
	for _, sizes := range badSizes() {
		refusedRun(sizes, 1, many, api.ErrArg)
	}
	for _, seed := range badSeeds() {
		refusedRun(point, seed, many, api.ErrArg)
	}
	if results, text, err := run.Run(point, 1, many[1:]); len(results) != 60 || slices.Max(results) != api.OK || text != archiveOf(t, point) || err != api.OK {
		t.Error("Run", results, text, err)
	}
}

// The examples of the chapter.
func TestExamples(t *testing.T) {
	e := begun(t, square, 5, "hot", "sweep 2", "save")
	if n, err := store.Verify(e.Archive()); e.Step() != 2 || n != 1 || err != api.OK {
		t.Error("example 1", e.Step(), n, err)
	}
	do(t, e, "save", api.ErrState)
	mean := e.Mean()
	do(t, e, "noise", api.OK)
	if e.Mean() != mean {
		t.Error("example 3", e.Mean(), mean)
	}
}
