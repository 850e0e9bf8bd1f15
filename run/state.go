package run

import (
	"slices"

	"plaquette/api"
	"plaquette/chance"
	"plaquette/gauge"
	"plaquette/path"
	"plaquette/store"
	"plaquette/torus"
)

// state is what an engine has. The state of an engine is only replaced by another one, and the lists in it are never changed.
type state struct {
	field    api.Field
	seed     int
	step     int
	weights  [5]int
	accepted int
	orders   []string
	archive  string
	first    int // the seed with which New made the engine; 0 if Resume made it
}

// isMade reports whether an engine with this state was made by New or Resume: then its archive has a first line.
func (s state) isMade() bool {
	return s.archive != ""
}

// after returns the state behind an order. It works on a copy, of which nothing is left if the order is refused on the way.
func (s state) after(text string) (state, error) {
	if e := s.do(text); e != api.OK {
		return state{}, refusal{text, e}
	}
	return s, nil
}

// do executes an order and adds it to the orders.
func (s *state) do(text string) api.Errno {
	if !s.isMade() {
		return api.ErrArg
	}
	o, is := orderIn(text)
	if !is {
		return api.ErrSyntax
	}
	if len(s.orders) >= api.MaxOrders {
		return api.ErrLarge
	}
	if e := s.execute(o); e != api.OK {
		return e
	}
	// The list is clipped, so that it is copied, and not shared with the state before.
	s.orders = append(slices.Clip(s.orders), text)
	return api.OK
}

// execute does what an order asks for.
func (s *state) execute(o order) api.Errno {
	n := o.numbers
	switch o.kind {
	case coldOrder:
		return s.cold()
	case hotOrder:
		return s.hot()
	case seedOrder:
		return s.setSeed(n[0])
	case weightsOrder:
		return s.setWeights([5]int(n))
	case leapOrder:
		return s.leap(n[0])
	case sweepOrder:
		return s.repeat(n[0], s.sweep)
	case touchOrder:
		return s.repeat(n[0], s.touch)
	case pathOrder:
		return s.trajectory(n[0], n[1])
	case noiseOrder:
		return s.noise()
	case centerOrder:
		return s.center(n[0])
	case saveOrder:
		return s.save()
	}
	return api.ErrSyntax
}

func (s *state) cold() (e api.Errno) {
	s.field, e = torus.Cold(s.field.Sizes)
	return e
}

func (s *state) hot() (e api.Errno) {
	s.field, s.seed, e = chance.Hot(s.field.Sizes, s.seed)
	return e
}

func isSeed(n int) bool {
	// It is for chance to say what a seed is.
	_, e := chance.Step(n)
	return e == api.OK
}

// setSeed replaces the seed.
func (s *state) setSeed(seed int) api.Errno {
	if !isSeed(seed) {
		return api.ErrArg
	}
	s.seed = seed
	return api.OK
}

func (s *state) setWeights(w [5]int) api.Errno {
	if e := chance.ValidateWeights(w); e != api.OK {
		return e
	}
	s.weights = w
	return api.OK
}

func (s *state) leap(n int) (e api.Errno) {
	s.seed, e = chance.Leap(s.seed, n)
	return e
}

// repeat goes so many steps by sweeps of one kind.
func (s *state) repeat(n int, move func() api.Errno) api.Errno {
	if n < 1 || n > api.MaxMoves {
		return api.ErrArg
	}
	return s.advance(n, move)
}

// advance goes so many steps, each by a move.
func (s *state) advance(n int, move func() api.Errno) api.Errno {
	if s.step+n > api.MaxCount {
		return api.ErrLarge
	}
	for range n {
		if e := move(); e != api.OK {
			return e
		}
		s.step++
	}
	return api.OK
}

func (s *state) sweep() (e api.Errno) {
	var moves []api.Move
	s.field, s.seed, moves, e = chance.Sweep(s.field, s.weights, s.seed)
	for _, move := range moves {
		if move.From != move.To {
			s.accepted++
		}
	}
	return e
}

func (s *state) touch() (e api.Errno) {
	var accepted int
	s.field, s.seed, accepted, e = chance.Touch(s.field, s.weights, s.seed)
	s.accepted += accepted
	return e
}

// trajectory goes one step by a trajectory.
func (s *state) trajectory(n, beta int) api.Errno {
	if n < 1 || n > api.MaxSteps || beta > api.MaxBeta {
		return api.ErrArg
	}
	return s.advance(1, func() (e api.Errno) {
		var is bool
		s.field, s.seed, is, e = path.Trajectory(s.field, s.seed, n, beta)
		if is {
			s.accepted++
		}
		return e
	})
}

// noise transforms the field by noise.
func (s *state) noise() api.Errno {
	units, behind, e := chance.Noise(s.field.Sizes, s.seed)
	if e != api.OK {
		return e
	}
	s.seed = behind
	s.field, e = gauge.Transform(s.field, units)
	return e
}

func (s *state) center(dir int) (e api.Errno) {
	s.field, e = gauge.Center(s.field, dir)
	return e
}

func (s *state) save() api.Errno {
	x, e := store.Of(s.field, s.step, s.seed)
	if e != api.OK {
		return e
	}
	s.archive, e = store.Append(s.archive, x)
	return e
}
