package run

import (
	"slices"
	"strings"
	"testing"

	"plaquette/api"
)

// engineOf returns an engine with an archive of two entries.
func engineOf(t *testing.T) *Engine {
	t.Helper()
	e, n, err := Replay([3]int{2, 1, 1}, 5, []string{"hot", "weights 1 2 3 4 5", "sweep 1", "save", "touch 2", "save", "path 3 1"})
	if n != 7 || err != api.OK || !e.Audit() {
		t.Fatal("Replay", n, err)
	}
	return e
}

// alterations returns changes of a state: of each thing that an audit examines.
func alterations() map[string]func(s *state) {
	return map[string]func(s *state){
		"link": func(s *state) {
			s.field.Links = slices.Clone(s.field.Links)
			s.field.Links[5] = api.Unit{A: -s.field.Links[5].A, B: -s.field.Links[5].B, C: -s.field.Links[5].C, D: -s.field.Links[5].D, N: s.field.Links[5].N}
		},
		"sizes":         func(s *state) { s.field.Sizes = [3]int{1, 2, 1} },
		"seed":          func(s *state) { s.seed++ },
		"step":          func(s *state) { s.step++ },
		"weights":       func(s *state) { s.weights[4]++ },
		"accepted":      func(s *state) { s.accepted++ },
		"fewer orders":  func(s *state) { s.orders = s.orders[:6] },
		"other order":   func(s *state) { s.orders = append([]string{"cold"}, s.orders[1:]...) },
		"refused order": func(s *state) { s.orders = append(slices.Clone(s.orders), "rest") },
		"first":         func(s *state) { s.first++ },
		"letter":        func(s *state) { s.archive = s.archive[:len(s.archive)-2] + "y\n" },
		"torn":          func(s *state) { s.archive = s.archive[:len(s.archive)-1] },
		"no archive":    func(s *state) { s.archive = "" },
		"fewer entries": func(s *state) { s.archive = s.archive[:strings.LastIndex(s.archive[:len(s.archive)-1], "\n")+1] },
	}
}

// P9.4: an audit finds whatever is not what the orders made.
func TestAuditFinds(t *testing.T) {
	for name, alter := range alterations() {
		e := engineOf(t)
		alter(&e.now)
		if e.Audit() {
			t.Error("not found:", name)
		}
	}
}

// P9.4: of an engine that Resume made the archive alone is verified.
func TestAuditOfResumed(t *testing.T) {
	archive := engineOf(t).Archive()
	onlyArchive := map[string]bool{"letter": true, "torn": true, "no archive": true}
	for name, alter := range alterations() {
		if name == "first" {
			continue // it says that the engine was resumed
		}
		e, err := Resume(archive, 1, [5]int{1, 2, 3, 4, 5})
		if err != api.OK {
			t.Fatal("Resume", err)
		}
		for _, order := range []string{"hot", "sweep 1", "touch 1", "noise", "center 0", "path 1 1", "cold"} {
			if err := e.Do(order); err != api.OK {
				t.Fatal("Do", order, err)
			}
		}
		alter(&e.now)
		if e.Audit() == onlyArchive[name] {
			t.Error("Audit behind a change of", name, e.Audit())
		}
	}
}

// The error of a refused order says which one it is, and why.
func TestRefusal(t *testing.T) {
	_, err := engineOf(t).now.after("sweep 0")
	if r, is := err.(refusal); !is || r.reason != api.ErrArg || err.Error() != `"sweep 0" is refused with the error 1` {
		t.Error(err)
	}
	if _, err := engineOf(t).now.after("sweep 1"); err != nil {
		t.Error(err)
	}
}
