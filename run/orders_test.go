package run_test

import (
	"strings"
	"testing"

	"plaquette/api"
	"plaquette/chance"
	"plaquette/gauge"
	"plaquette/loop"
	"plaquette/path"
	"plaquette/run"
	"plaquette/store"
	"plaquette/torus"
)

// New: what an engine begins with, and its errors.
func TestNew(t *testing.T) {
	for _, sizes := range someSizes() {
		for _, seed := range []int{1, 2, 5, api.Prime - 1} {
			e := begun(t, sizes, seed)
			modelOf(t, sizes, seed).is(t, e)
			if !e.Audit() {
				t.Error("Audit", sizes, seed)
			}
		}
		for _, seed := range badSeeds() {
			if e, err := run.New(sizes, seed); e != nil || err != api.ErrArg {
				t.Error("New", sizes, seed, err)
			}
		}
	}
	for _, sizes := range badSizes() {
		for _, seed := range append(badSeeds(), 1) {
			if e, err := run.New(sizes, seed); e != nil || err != api.ErrArg {
				t.Error("New", sizes, seed, err)
			}
		}
	}
}

// examples returns orders of all kinds that are accepted by an engine with at least one step to go.
func examples() []string {
	return []string{
		"cold", "hot", "seed 12", "weights 1 20 3 100 5", "leap 30", "leap 0", "leap 2147483647",
		"sweep 1", "touch 2", "path 10 0", "noise", "center 0", "save",
	}
}

// texts returns texts that are nearly orders, or far from it.
func texts() []string {
	l := []string{
		"", " ", "\n", "\x00", "rest", "Cold", "COLD", "col", "colds", "hot hot", "cold 1", "hot 0", "noise 1", "save 1",
		"seed", "leap", "sweep", "touch", "center", "path", "path 1", "weights", "weights 1 1 1 1", "weights 1 1 1 1 1 1",
		"seed 1 1", "leap 1 1", "sweep 1 1", "touch 1 1", "center 1 1", "path 1 1 1", "seed x", "sweep N", "sweep one",
		"sweep 1.0", "sweep 1e0", "sweep 0x1", "sweep 1_0", "sweep +1", "sweep -1", "sweep -0", "sweep 01", "sweep 00",
		"sweep ٣", "sweep １", "sweep\t1", "sweep\u00a01", "sweep 1\r", "sweep 1\n", "\ufeffcold", "é",
		"seed 2147483648", "leap 2147483648", "seed 4294967297", "seed 9223372036854775807", "seed 9223372036854775808",
		"seed 18446744073709551617", "leap 340282366920938463463374607431768211457", "center 2147483648", "path 1 2147483648",
		strings.Repeat("cold", 15), strings.Repeat("c", 61), "cold" + strings.Repeat(" ", 56), strings.Repeat("x", 1<<20),
		"weights 1000000000 1000000000 1000000000 1000000000 100000000", "weights 1000000000 1000000000 1000000000 1000000000 10000000",
	}
	for _, order := range examples() {
		l = append(l, " "+order, order+" ", order+"\n", strings.Replace(order, " ", "  ", 1), strings.Replace(order, " ", " 0", 1), strings.ToUpper(order), order+" 1", order+"\x00")
	}
	return l
}

// An order is read just if it has the form that the chapter describes.
func TestSyntax(t *testing.T) {
	changes := texts()
	for _, order := range examples() {
		for at := range len(order) {
			changes = append(changes, order[:at]+order[at+1:])
			for _, b := range []byte(" 0129a+-_.\x00\t\n\xff") {
				changes = append(changes, order[:at]+string([]byte{b})+order[at+1:], order[:at]+string([]byte{b})+order[at:])
			}
		}
	}
	for _, text := range changes {
		m, e := modelOf(t, point, 5), begun(t, point, 5)
		m.follows(t, e, text)
	}
	for _, text := range texts()[:10] {
		do(t, begun(t, point, 5), text, api.ErrSyntax)
	}
}

// MaxLine bytes are an order, and one more are none, whatever it asks for.
func TestLength(t *testing.T) {
	longest := "weights 1000000000 1000000000 1000000000 1000000000 10000000"
	if len(longest) != api.MaxLine {
		t.Fatal(len(longest))
	}
	do(t, begun(t, point, 5), longest, api.ErrArg)
	do(t, begun(t, point, 5), longest+"0", api.ErrSyntax)
}

// MaxOrders orders are accepted. Then the syntax is still examined first, and what an order asks for no more.
func TestTooManyOrders(t *testing.T) {
	m, e := modelOf(t, point, 5), begun(t, point, 5)
	for range 59 {
		m.follows(t, e, "sweep 1")
	}
	m.follows(t, e, "rest", "seed 0", "hot", "hot", "seed 0", "sweep 21", "rest", "", "weights 0 0 0 0 0", "save", "path 0 11")
	if len(e.Orders()) != 60 {
		t.Error(len(e.Orders()))
	}
	for _, order := range examples() {
		do(t, e, order, api.ErrLarge)
	}
	for _, text := range texts()[:10] {
		do(t, e, text, api.ErrSyntax)
	}
	if !e.Audit() {
		t.Error("Audit")
	}
}

// P9.1: each order by itself.
func TestOrdersWithoutSteps(t *testing.T) {
	for _, sizes := range someSizes() {
		cold, _ := torus.Cold(sizes)
		hot, behind, _ := chance.Hot(sizes, 9)
		e := begun(t, sizes, 9, "hot")
		if f, _ := torus.Format(hot); f != formatted(t, e) || e.Seed() != behind {
			t.Error("hot", sizes)
		}
		leapt, _ := chance.Leap(behind, 1234567)
		do(t, e, "leap 1234567", api.OK)
		if e.Seed() != leapt {
			t.Error("leap", e.Seed(), leapt)
		}
		do(t, e, "leap 0", api.OK)
		do(t, e, "weights 5 4 3 2 100", api.OK)
		if e.Seed() != leapt || e.Weights() != [5]int{5, 4, 3, 2, 100} {
			t.Error("leap 0, weights", e.Seed(), e.Weights())
		}
		do(t, e, "seed 2147483646", api.OK)
		do(t, e, "cold", api.OK)
		if f, _ := torus.Format(cold); f != formatted(t, e) || e.Seed() != api.Prime-1 {
			t.Error("cold", sizes, e.Seed())
		}
		if e.Step() != 0 || e.Accepted() != 0 || len(e.Orders()) != 6 {
			t.Error("Step", e.Step(), e.Accepted(), e.Orders())
		}
	}
}

func formatted(t *testing.T, e *run.Engine) string {
	t.Helper()
	text, err := torus.Format(e.Field())
	if err != api.OK {
		t.Fatal("Format", err)
	}
	return text
}

// P9.1 to P9.3: the numbers that each order takes, at the ends of their ranges and beyond.
func TestNumbers(t *testing.T) {
	ranges := []struct {
		before, behind string
		from, to       int
	}{
		{"seed ", "", 1, api.Prime - 1}, {"leap ", "", 0, api.Prime}, {"sweep ", "", 1, 20}, {"touch ", "", 1, 20},
		{"path ", " 0", 1, 100}, {"path ", " 10", 1, 100}, {"path 1 ", "", 0, 10}, {"path 100 ", "", 0, 10}, {"center ", "", 0, 2},
		{"weights ", " 1 1 1 1", 1, 100}, {"weights 1 ", " 1 1 1", 1, 100}, {"weights 1 1 ", " 1 1", 1, 100},
		{"weights 1 1 1 ", " 1", 1, 100}, {"weights 100 100 100 100 ", "", 1, 100},
	}
	for _, r := range ranges {
		for _, n := range []int{r.from, r.to, (r.from + r.to) / 2} {
			m, e := modelOf(t, point, 5), begun(t, point, 5)
			m.follows(t, e, r.before+itoa(n)+r.behind)
			if len(e.Orders()) != 1 {
				t.Error("refused:", r, n)
			}
		}
		for _, n := range []int{r.from - 1, r.to + 1, r.to + 2, api.Prime} {
			if r.from <= n && n <= r.to {
				continue
			}
			want := api.ErrArg
			if n < 0 || n > api.Prime {
				want = api.ErrSyntax
			}
			m, e := modelOf(t, point, 5), begun(t, point, 5)
			do(t, e, r.before+itoa(n)+r.behind, want)
			m.is(t, e)
		}
	}
}

// P9.2: a sweep accepts the links that it changed, a touch those that it says, a path itself.
func TestSteps(t *testing.T) {
	w := [5]int{1, 3, 9, 27, 81}
	for _, sizes := range someSizes() {
		f, seed, _ := chance.Hot(sizes, 77)
		accepted, step := 0, 0
		e := begun(t, sizes, 77, "hot", "weights 1 3 9 27 81", "sweep 2", "touch 3")
		for range 2 {
			before, _ := torus.Numbers(f)
			f, seed, _, _ = chance.Sweep(f, w, seed)
			after, _ := torus.Numbers(f)
			for link := range before {
				if before[link] != after[link] {
					accepted++
				}
			}
			step++
		}
		for range 3 {
			n := 0
			f, seed, n, _ = chance.Touch(f, w, seed)
			accepted += n
			step++
		}
		for beta := range 11 {
			is := false
			f, seed, is, _ = path.Trajectory(f, seed, 4, beta)
			if is {
				accepted++
			}
			step++
			do(t, e, "path 4 "+itoa(beta), api.OK)
		}
		text, _ := torus.Format(f)
		if formatted(t, e) != text || e.Seed() != seed || e.Step() != step || e.Accepted() != accepted {
			t.Error(sizes, e.Seed(), seed, e.Step(), step, e.Accepted(), accepted)
		}
	}
}

// P9.2: both a path that is accepted and one that is not come up.
func TestPathAcceptedAndNot(t *testing.T) {
	seen := map[int]bool{}
	for seed := 1; seed <= 40; seed++ {
		e := begun(t, square, seed, "hot", "path 1 1")
		seen[e.Accepted()] = true
		if e.Step() != 1 {
			t.Error("Step", e.Step())
		}
	}
	if len(seen) != 2 || !seen[0] || !seen[1] {
		t.Error("accepted", seen)
	}
}

// P9.2: the step does not go above MaxCount, and an argument that is out of range comes first.
func TestLastSteps(t *testing.T) {
	last := api.MaxCount
	for _, x := range []struct {
		step  int
		order string
		want  api.Errno
	}{
		{last - 20, "sweep 20", api.OK}, {last - 19, "sweep 20", api.ErrLarge}, {last - 19, "sweep 19", api.OK}, {last, "sweep 1", api.ErrLarge},
		{last - 20, "touch 20", api.OK}, {last - 19, "touch 20", api.ErrLarge}, {last - 1, "touch 1", api.OK}, {last, "touch 1", api.ErrLarge},
		{last - 1, "path 100 1", api.OK}, {last, "path 1 1", api.ErrLarge}, {last - 1, "sweep 2", api.ErrLarge}, {last - 1, "sweep 1", api.OK},
		{last, "sweep 0", api.ErrArg}, {last, "sweep 21", api.ErrArg}, {last, "touch 0", api.ErrArg}, {last, "touch 2147483647", api.ErrArg},
		{last, "path 0 0", api.ErrArg}, {last, "path 101 0", api.ErrArg}, {last, "path 1 11", api.ErrArg}, {last, "hot", api.OK},
	} {
		e := resumed(t, archiveOf(t, point, x.step), 0, ones)
		before := formatted(t, e)
		do(t, e, x.order, x.want)
		if x.want != api.OK && (formatted(t, e) != before || e.Seed() != 7 || e.Step() != x.step || e.Accepted() != 0 || len(e.Orders()) != 0) {
			t.Error(x, "has changed something")
		}
		if !e.Audit() {
			t.Error("Audit", x)
		}
	}
}

// P9.3, S2: noise and center change neither the traces of the plaquettes nor the step.
func TestNoiseAndCenter(t *testing.T) {
	for _, sizes := range someSizes() {
		e := begun(t, sizes, 31, "hot")
		f := e.Field()
		traces, _ := loop.Traces(f)
		g, behind, _ := chance.Noise(sizes, e.Seed())
		want, _ := gauge.Transform(f, g)
		mean := e.Mean()
		do(t, e, "noise", api.OK)
		text, _ := torus.Format(want)
		if formatted(t, e) != text || e.Seed() != behind || e.Mean() != mean || e.Step() != 0 || e.Accepted() != 0 {
			t.Error("noise", sizes, e.Seed(), behind, e.Mean(), mean)
		}
		if is, _ := gauge.Equivalent(f, e.Field()); !is {
			t.Error("noise: not equivalent", sizes)
		}
		for dir := range 3 {
			want, _ = gauge.Center(want, dir)
			text, _ = torus.Format(want)
			do(t, e, "center "+itoa(dir), api.OK)
			if formatted(t, e) != text || e.Seed() != behind || e.Mean() != mean || e.Step() != 0 {
				t.Error("center", sizes, dir)
			}
		}
		after, _ := loop.Traces(e.Field())
		for n := range traces {
			if traces[n] != after[n] {
				t.Error("the plaquette", n, "of", sizes, traces[n], after[n])
			}
		}
	}
}

// P9.3: the entry that is saved, and an archive that has the step already or is full.
func TestSave(t *testing.T) {
	m, e := modelOf(t, square, 5), begun(t, square, 5)
	m.follows(t, e, "save", "save", "hot", "save", "sweep 1", "seed 3", "save", "cold", "save", "touch 2", "save", "path 1 1", "save")
	entry, _ := store.Of(e.Field(), e.Step(), e.Seed())
	_, l, rest, err := store.Read(e.Archive())
	if len(l) != 4 || l[3] != entry || rest != "" || err != api.OK {
		t.Error("Archive", e.Archive())
	}
	full := resumed(t, archiveOf(t, point, upTo(60)...), 59, ones)
	do(t, full, "save", api.ErrState)
	do(t, full, "sweep 1", api.OK)
	do(t, full, "save", api.ErrLarge)
	if full.Archive() != archiveOf(t, point, upTo(60)...) || len(full.Orders()) != 1 {
		t.Error("a full archive has changed")
	}
	last := resumed(t, archiveOf(t, point, upTo(60)...), 58, ones)
	for _, order := range []string{"sweep 1", "save"} {
		do(t, last, order, api.OK)
	}
	do(t, last, "sweep 1", api.OK)
	do(t, last, "save", api.ErrLarge)
	if n, err := store.Verify(last.Archive()); n != 60 || err != api.OK {
		t.Error("Verify", n, err)
	}
}

// P9.1 to P9.4: any orders, held against the model; the field stays small (S1).
func TestAnyOrders(t *testing.T) {
	d := dice{91}
	refused := map[api.Errno]int{}
	for range 12 {
		for _, sizes := range someSizes() {
			seed := d.from(1, api.Prime-1)
			m, e := modelOf(t, sizes, seed), begun(t, sizes, seed)
			for range d.below(40) {
				order := d.order()
				got, want := e.Do(order), m.do(t, order)
				if got != want {
					t.Fatalf("Do %q behind %q: %v, want %v", order, m.orders, got, want)
				}
				m.is(t, e)
				refused[got]++
			}
			if is, err := torus.IsSmall(e.Field()); !is || err != api.OK {
				t.Error("the field is not small", m.orders)
			}
			if !e.Audit() {
				t.Error("Audit", m.orders)
			}
		}
	}
	if refused[api.OK] < 100 || refused[api.ErrSyntax] == 0 || refused[api.ErrArg] == 0 || refused[api.ErrState] == 0 {
		t.Error("too few of a kind:", refused)
	}
}
