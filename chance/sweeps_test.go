package chance_test

import (
	"slices"
	"testing"

	"plaquette/api"
	"plaquette/chance"
)

// swept returns what a sweep makes of a small field, with the seed behind each move.
func swept(sizes [3]int, numbers []int, w [5]int, seed int) (moves []api.Move, seeds []int) {
	s := sourceOf(seed)
	now := slices.Clone(numbers)
	for link, from := range numbers {
		weights := weightsOf(sizes, now, w, link)
		draw := s.draw(total(weights))
		now[link] = landing(weights, draw)
		moves = append(moves, api.Move{Link: link, From: from, To: now[link], Draw: draw})
		seeds = append(seeds, s.now())
	}
	return moves, seeds
}

// moved returns a field behind some moves.
func moved(f api.Field, moves []api.Move) api.Field {
	g := cloned(f)
	for _, move := range moves {
		g.Links[move.Link] = doubleOf(move.To).unit()
	}
	return g
}

// P5.5, S1: three sweeps, one behind the other.
func TestSweep(t *testing.T) {
	d := dice{41}
	for _, sizes := range validSizes() {
		for round, w := range [][5]int{rising, someWeights()[d.below(7)]} {
			numbers, seed := d.numbers(sizes), d.seed()
			if round == 0 {
				seed = api.Prime - 1
			}
			f := fieldOf(t, sizes, numbers)
			for range 3 {
				check := untouched(t, f)
				moves, seeds := swept(sizes, numbersOf(t, f), w, seed)
				g, behind, l, e := chance.Sweep(f, w, seed)
				if !equal(g, moved(f, moves)) || behind != seeds[len(seeds)-1] || !slices.Equal(l, moves) || e != api.OK {
					t.Error("Sweep", f, w, seed, g, behind, l, e, "want", moves, seeds)
				}
				numbersOf(t, g)
				next := cloned(g)
				scribble(g.Links)
				check()
				f, seed = next, behind
			}
		}
	}
}

// P5.5: a sweep is a heat bath of one link after the other, in the field that the ones before have made.
func TestSweepIsHeatBaths(t *testing.T) {
	d := dice{42}
	for _, sizes := range [][3]int{{1, 1, 1}, {2, 2, 1}, {4, 2, 2}, {1, 3, 4}} {
		f, seed := d.field(t, sizes), d.seed()
		at, s := f, seed
		for link := range f.Links {
			weights, _ := chance.Weights(at, mixed, link)
			draw, behind, e := chance.Draw(s, total(weights))
			if e != api.OK {
				t.Fatal("Draw", s, weights, e)
			}
			at, _, e = chance.HeatBath(at, mixed, link, draw)
			if e != api.OK {
				t.Fatal("HeatBath", at, link, draw, e)
			}
			s = behind
		}
		g, behind, _, e := chance.Sweep(f, mixed, seed)
		if !equal(g, at) || behind != s || e != api.OK {
			t.Error("Sweep", f, seed, g, behind, e)
		}
	}
}

// P5.5, S1
func TestTouch(t *testing.T) {
	d := dice{43}
	accepted, refusals, still := 0, 0, 0
	for _, sizes := range validSizes() {
		for _, w := range someWeights() {
			numbers, seed := d.numbers(sizes), d.seed()
			f := fieldOf(t, sizes, numbers)
			check := untouched(t, f)
			s, count := sourceOf(seed), 0
			for link, old := range numbers {
				weights := weightsOf(sizes, numbers, w, link)
				turn := s.draw(24)
				value := doubleOf(turn).times(doubleOf(old)).number()
				if s.draw(weights[old]) >= weights[value] {
					refusals++
					continue
				}
				numbers[link] = value
				count++
				if turn == 0 {
					still++
				}
			}
			g, behind, n, e := chance.Touch(f, w, seed)
			if !equal(g, fieldOf(t, sizes, numbers)) || behind != s.now() || n != count || e != api.OK {
				t.Error("Touch", f, w, seed, g, behind, n, e, "want", numbers, s.now(), count)
			}
			accepted += count
			scribble(g.Links)
			check()
		}
	}
	if accepted < 1000 || refusals < 1000 || still < 20 {
		t.Error("hardly any:", accepted, refusals, still)
	}
}

// P5.5: with equal weights all is accepted, also what leaves a value as it is.
func TestTouchOfEqualWeights(t *testing.T) {
	d := dice{44}
	for _, sizes := range validSizes() {
		f, seed := d.field(t, sizes), d.seed()
		_, behind, n, e := chance.Touch(f, highest, seed)
		if want, _ := chance.Leap(seed, 4*len(f.Links)); n != len(f.Links) || behind != want || e != api.OK {
			t.Error("Touch", f, seed, n, behind, e)
		}
	}
}

// P5.6, S7: the moves of a sweep, and each beginning of them.
func TestAudit(t *testing.T) {
	d := dice{45}
	for _, sizes := range [][3]int{{1, 1, 1}, {2, 1, 1}, {1, 2, 2}, {3, 2, 1}, {4, 2, 2}} {
		f, seed := d.field(t, sizes), d.seed()
		g, behind, moves, e := chance.Sweep(f, mixed, seed)
		if e != api.OK {
			t.Fatal("Sweep", f, seed, e)
		}
		_, seeds := swept(sizes, numbersOf(t, f), mixed, seed)
		for n := range len(moves) + 1 {
			check, claimed := untouched(t, f), slices.Clone(moves[:n])
			want := seed
			if n > 0 {
				want = seeds[n-1]
			}
			to, s, at, e := chance.Audit(f, mixed, seed, claimed)
			if !equal(to, moved(f, moves[:n])) || s != want || at != 0 || e != api.OK {
				t.Error("Audit of", n, "moves", to, s, at, e)
			}
			if !slices.Equal(claimed, moves[:n]) {
				t.Error("the moves were changed", claimed)
			}
			scribble(to.Links)
			check()
		}
		if to, s, at, e := chance.Audit(f, mixed, seed, moves); !equal(to, g) || s != behind || at != 0 || e != api.OK {
			t.Error("Audit", to, s, at, e)
		}
		if to, s, at, e := chance.Audit(f, mixed, seed, []api.Move{}); !equal(to, f) || s != seed || at != 0 || e != api.OK {
			t.Error("Audit of no moves", to, s, at, e)
		}
	}
}

// altered returns a move with each of its fields altered, also beyond what it may be.
func altered(move api.Move) []api.Move {
	var l []api.Move
	for _, by := range []int{1, -1, 24, 1 << 32, least, greatest} {
		for at := range 4 {
			other := move
			*[]*int{&other.Link, &other.From, &other.To, &other.Draw}[at] += by
			l = append(l, other)
		}
	}
	return append(l, api.Move{Link: -1, From: -1, To: -1, Draw: -1})
}

// P5.6, S7: what was altered is found, wherever it is, and the first of it decides.
func TestAuditOfAlteredMoves(t *testing.T) {
	d := dice{46}
	for _, sizes := range [][3]int{{1, 1, 1}, {2, 1, 2}} {
		f, seed := d.field(t, sizes), d.seed()
		_, _, moves, _ := chance.Sweep(f, rising, seed)
		for number, move := range moves {
			for _, other := range altered(move) {
				claimed := slices.Clone(moves)
				claimed[number] = other
				for _, l := range [][]api.Move{claimed, claimed[:number+1]} {
					to, s, at, e := chance.Audit(f, rising, seed, l)
					refused(t, "Audit", e, api.ErrProof, to, s)
					if at != number {
						t.Error("Audit", l, at, "want", number)
					}
				}
				claimed[len(claimed)-1] = api.Move{}
				if _, _, at, e := chance.Audit(f, rising, seed, claimed); at != number || e != api.ErrProof {
					t.Error("Audit of two altered moves", claimed, at, e)
				}
				// The moves before the altered one are right by themselves.
				if _, _, at, e := chance.Audit(f, rising, seed, claimed[:number]); at != 0 || e != api.OK {
					t.Error("Audit", claimed[:number], at, e)
				}
			}
		}
	}
}

// P5.6: with draws that lead to the same value the move is not that of Sweep.
func TestAuditOfAnotherDraw(t *testing.T) {
	f := fieldOf(t, [3]int{1, 1, 1}, []int{8, 2, 4})
	for seed := 1; seed < 50; seed++ {
		_, _, moves, _ := chance.Sweep(f, highest, seed)
		for number := range moves {
			claimed := slices.Clone(moves)
			claimed[number].Draw ^= 1
			if _, _, at, e := chance.Audit(f, highest, seed, claimed); at != number || e != api.ErrProof {
				t.Error("Audit", claimed, at, e)
			}
		}
	}
}

// P5.6: moves of another field, of another seed, with other weights, or in another order.
func TestAuditOfOtherMoves(t *testing.T) {
	d := dice{47}
	f, seed := d.field(t, [3]int{2, 2, 2}), d.seed()
	_, _, moves, _ := chance.Sweep(f, rising, seed)
	other := cloned(f)
	other.Links[5] = doubleOf((numbersOf(t, f)[5] + 1) % 24).unit()
	if _, _, at, e := chance.Audit(other, rising, seed, moves); at > 5 || e != api.ErrProof {
		t.Error("Audit of another field", at, e)
	}
	if _, _, at, e := chance.Audit(f, rising, seed%(api.Prime-1)+1, moves); at != 0 || e != api.ErrProof {
		t.Error("Audit of another seed", at, e)
	}
	if _, _, _, e := chance.Audit(f, highest, seed, moves); e != api.ErrProof {
		t.Error("Audit with other weights", e)
	}
	moves[3], moves[4] = moves[4], moves[3]
	if _, _, at, e := chance.Audit(f, rising, seed, moves); at != 3 || e != api.ErrProof {
		t.Error("Audit in another order", at, e)
	}
	moves[3], moves[4] = moves[4], moves[3]
	if _, _, at, e := chance.Audit(f, rising, seed, moves[1:]); at != 0 || e != api.ErrProof {
		t.Error("Audit without the first move", at, e)
	}
}

// P5.6: more moves than links, right or not.
func TestAuditOfTooManyMoves(t *testing.T) {
	d := dice{48}
	for _, sizes := range [][3]int{{1, 1, 1}, {3, 1, 2}} {
		f, seed := d.field(t, sizes), d.seed()
		_, _, moves, _ := chance.Sweep(f, rising, seed)
		for _, l := range [][]api.Move{append(slices.Clone(moves), moves[0]), append(slices.Clone(moves), api.Move{Link: len(moves)}), make([]api.Move, len(moves)+1), make([]api.Move, 1000)} {
			to, s, at, e := chance.Audit(f, rising, seed, l)
			refused(t, "Audit", e, api.ErrLarge, to, s, at)
		}
	}
}
