package run_test

import (
	"reflect"
	"strings"
	"testing"

	"plaquette/api"
	"plaquette/chance"
	"plaquette/run"
	"plaquette/store"
	"plaquette/torus"
)

// refusedResume checks an error of Resume.
func refusedResume(t *testing.T, archive string, n int, w [5]int, want api.Errno) {
	t.Helper()
	if e, err := run.Resume(archive, n, w); e != nil || err != want {
		t.Errorf("Resume of %q from %d with %v: %v, want %v", archive, n, w, err, want)
	}
}

// P9.6: what an engine that was resumed begins with.
func TestResume(t *testing.T) {
	w := [5]int{100, 1, 7, 8, 9}
	for _, sizes := range someSizes() {
		text := begun(t, sizes, 6, "save", "hot", "sweep 1", "save", "touch 2", "noise", "save").Archive()
		_, l, _, _ := store.Read(text)
		lines := strings.SplitAfter(text, "\n")
		for n, x := range l {
			e := resumed(t, text, n, w)
			f, _ := store.FieldOf(sizes, x)
			if !reflect.DeepEqual(e.Field(), f) || e.Seed() != x.Seed || e.Step() != x.Step || e.Weights() != w {
				t.Error("Resume", n, e.Field(), e.Seed(), e.Step(), e.Weights())
			}
			if e.Accepted() != 0 || len(e.Orders()) != 0 || e.Archive() != strings.Join(lines[:n+2], "") || !e.Audit() {
				t.Error("Resume", n, e.Accepted(), e.Orders(), e.Archive(), e.Audit())
			}
		}
		if len(l) != 3 {
			t.Error(len(l), "entries")
		}
	}
}

// miscounted returns an archive whose entry with the number 1 is chained as it should be, but has wrong Counts.
func miscounted(t *testing.T) string {
	t.Helper()
	text := archiveOf(t, point, 0, 1)
	lines := strings.SplitAfter(text, "\n")
	words := strings.SplitN(lines[1], " ", 2)
	before := 0
	for _, digit := range words[0] {
		before = 10*before + int(digit-'0')
	}
	rest := "1 7 0 0 0 1 2 aaa"
	return lines[0] + lines[1] + itoa(store.Sum(before, rest)) + " " + rest + "\n"
}

// P9.6: the errors, in their order.
func TestResumeErrors(t *testing.T) {
	text := archiveOf(t, point, 0, 3, 5)
	torn, altered, wrong := text[:len(text)-1], strings.Replace(text, "aaa", "aab", 1), miscounted(t)
	for _, w := range append(badWeights(), ones) {
		for _, n := range []int{0, 1, 2, 3, -1, least, greatest} {
			refusedResume(t, "", n, w, api.ErrSyntax)
			refusedResume(t, "rest", n, w, api.ErrSyntax)
			refusedResume(t, "torus 4 4 2\n", n, w, api.ErrSyntax)
			refusedResume(t, torn, n, w, api.ErrBroken)
			refusedResume(t, altered, n, w, api.ErrBroken)
			refusedResume(t, text+"\n", n, w, api.ErrBroken)
			refusedResume(t, wrong, n, w, api.ErrProof)
			refusedResume(t, wrong+"rest", n, w, api.ErrProof)
		}
		for _, n := range []int{3, 4, 60, -1, least, greatest} {
			refusedResume(t, text, n, w, api.ErrNone)
		}
		refusedResume(t, archiveOf(t, point), 0, w, api.ErrNone)
	}
	for _, w := range badWeights() {
		refusedResume(t, text, 0, w, api.ErrArg)
		refusedResume(t, text, 2, w, api.ErrArg)
	}
}

// goesOn checks that an engine, resumed from an entry of an archive, becomes what the run was that was not interrupted.
func (m *model) goesOn(t *testing.T, archive string, n int) {
	t.Helper()
	e := resumed(t, archive, n, m.weightsOfSaves[n])
	for _, order := range m.orders[m.ordersOfSaves[n]:] {
		do(t, e, order, api.OK)
	}
	if !reflect.DeepEqual(e.Field(), m.field) || e.Seed() != m.seed || e.Step() != m.step || e.Weights() != m.weights || e.Archive() != m.archive(t) {
		t.Errorf("resumed otherwise from %d: %q", n, m.orders)
	}
	if len(e.Orders()) != len(m.orders)-m.ordersOfSaves[n] || !e.Audit() {
		t.Error("Orders, Audit", e.Orders(), e.Audit())
	}
}

// S8: a run that is resumed is the run that was not interrupted; also from what is left behind a crash, wherever that was.
func TestResumedRuns(t *testing.T) {
	d := dice{96}
	saves := 0
	for range 6 {
		for _, sizes := range someSizes() {
			m, e := modelOf(t, sizes, 21), begun(t, sizes, 21)
			m.follows(t, e, "save")
			for range 25 {
				m.follows(t, e, d.order())
			}
			text := e.Archive()
			for n := range m.entries {
				m.goesOn(t, text, n)
				saves++
			}
			first := strings.Index(text, "\n") + 1
			for end := first; end <= len(text); end += 1 + d.below(40) {
				left, err := store.Repair(text[:end])
				if err != api.OK || !strings.HasPrefix(text, left) {
					t.Fatal("Repair", end, err)
				}
				if n := strings.Count(left, "\n") - 2; n >= 0 {
					m.goesOn(t, left, n)
				}
			}
		}
	}
	if saves < 50 {
		t.Error("too few entries:", saves)
	}
}

// S1, S8: an engine can be resumed from each entry that it saved, also from the last one with the last step.
func TestResumeAtTheEnd(t *testing.T) {
	e := resumed(t, archiveOf(t, square, 4, api.MaxCount-1), 1, ones)
	for _, order := range []string{"hot", "sweep 1", "noise", "save"} {
		do(t, e, order, api.OK)
	}
	again := resumed(t, e.Archive(), 2, [5]int{5, 5, 5, 5, 5})
	if again.Step() != api.MaxCount || again.Archive() != e.Archive() || !reflect.DeepEqual(again.Field(), e.Field()) {
		t.Error("Resume", again.Step(), again.Archive())
	}
	do(t, again, "sweep 1", api.ErrLarge)
	do(t, again, "hot", api.OK)
	want, seed, _ := chance.Hot(square, e.Seed())
	if text, _ := torus.Format(want); formatted(t, again) != text || again.Seed() != seed {
		t.Error("hot", again.Seed(), seed)
	}
}
