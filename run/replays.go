package run

import (
	"slices"

	"plaquette/api"
	"plaquette/store"
)

// Audit: see P9.4.
func (e *Engine) Audit() bool {
	s := e.snapshot()
	if _, errno := store.Verify(s.archive); errno != api.OK {
		return false
	}
	if s.isResumed() {
		return true
	}
	again, _, errno := Replay(s.field.Sizes, s.first, s.orders)
	return errno == api.OK && s.isLike(again.snapshot())
}

// isResumed reports whether Resume made the engine: New makes none with the seed 0.
func (s state) isResumed() bool {
	return s.first == 0
}

// isLike reports whether two states are equal, except for the orders that led to them.
func (s state) isLike(t state) bool {
	return s.field.Sizes == t.field.Sizes && slices.Equal(s.field.Links, t.field.Links) &&
		s.seed == t.seed && s.step == t.step && s.weights == t.weights &&
		s.accepted == t.accepted && s.archive == t.archive
}

// Replay: see P9.5.
func Replay(sizes [3]int, seed int, orders []string) (*Engine, int, api.Errno) {
	engine, e := New(sizes, seed)
	if e != api.OK {
		return nil, 0, e
	}
	for number, order := range orders {
		if e := engine.Do(order); e != api.OK {
			return nil, number, e
		}
	}
	return engine, len(orders), api.OK
}

// Run: see P9.5.
func Run(sizes [3]int, seed int, orders []string) ([]api.Errno, string, api.Errno) {
	engine, e := New(sizes, seed)
	if e != api.OK {
		return nil, "", e
	}
	if len(orders) > api.MaxOrders {
		return nil, "", api.ErrLarge
	}
	results := make([]api.Errno, 0, len(orders))
	for _, order := range orders {
		results = append(results, engine.Do(order))
	}
	return results, engine.Archive(), api.OK
}
