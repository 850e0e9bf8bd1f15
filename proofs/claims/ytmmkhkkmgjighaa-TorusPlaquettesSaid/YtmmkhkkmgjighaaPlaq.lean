/- The plaquettes of a field, as the program makes them.
Conditions: those written at each theorem. -/
import Derived.Test.YtmmkhkkmgjighaaPlaces
import Derived.Test.YtmmkhkkmgjighaaAlongC
import Derived.Test.YtmmkhkkmgjighaaRegB
import Derived.Test.YtmmkhkkmgjighaaCopyC
import Derived.Test.YtmmkhkkmgjighaaPlaqS
namespace Go.Proofs.Ytmmkhkkmgjighaa
set_option linter.unusedVariables false
set_option linter.unusedSimpArgs false
set_option maxRecDepth 1000000
open Go.RowKit Go.Shelf
open Um Tm
attribute [local go_sem] Oper.semAt_some

theorem Boxed.below {W W' : World} {m B : Nat} {t : TypeId} {v : Value} (h : Boxed W B t v) (hb : Below m W W') (hB : B < m) : Boxed W' B t v := (hb.block B hB).trans h

theorem ownsRow_below {W W' : World} {m base e size k : Nat} {v : Value} {xs : List Value} (h : W.ownsRow base e size v k xs) (hb : Below m W W') (hv : ∀ a n c, v = .slice (some a) n c → a.block < m) : W'.ownsRow base e size v k xs := by
  refine ⟨h.1, ?_⟩
  rcases h.2 with hn | ⟨g, cap, cur, rfl, hb', hgg, rest⟩
  · exact .inl hn
  · exact .inr ⟨g, cap, cur, rfl, hb', (hb.block g (hv _ _ _ rfl)).trans hgg, rest⟩

theorem lies4 {W : World} {g : Nat} {p q r s : Int} (h0 : W.cell? ⟨g, 0, none⟩ = some (.int .i64 p)) (h1 : W.cell? ⟨g, 1, none⟩ = some (.int .i64 q)) (h2 : W.cell? ⟨g, 2, none⟩ = some (.int .i64 r)) (h3 : W.cell? ⟨g, 3, none⟩ = some (.int .i64 s)) : LiesI W g 0 [p, q, r, s] := by
  intro i x hx
  match i, hx with
  | 0, hx => simp at hx; subst hx; simpa using h0
  | 1, hx => simp at hx; subst hx; simpa using h1
  | 2, hx => simp at hx; subst hx; simpa using h2
  | 3, hx => simp at hx; subst hx; simpa using h3
  | n + 4, hx => simp at hx

/-- the units of all plaquettes, in their order: each site's three -/
def plq (a b c : Int) (L : List Q) (s : Int) : List Q := [al a b c L s [1, 2, -1, -2], al a b c L s [1, 3, -1, -3], al a b c L s [2, 3, -2, -3]]
def plqs (a b c : Int) (L : List Q) (l : List Nat) : List Q := l.flatMap fun (s : Nat) => plq a b c L (s : Int)

set_option maxHeartbeats 3200000 in
theorem plaquettes_ok (a b c : Int) (bl off cap N : Nat) (L : List Q) (w : World) (hl : Lies w bl off L) (hF : Fl a b c L) (hr : fldR a b c L 0) (hz : Sz a b c) (hN : (N : Int) = a * b * c) (hlen : L.length ≤ 1000) :
    CallsIn Fence.wide 100 Try.prog 16 #[.agg #[.int .i64 a, .int .i64 b, .int .i64 c, .slice (some ⟨bl, off, none⟩) L.length cap]] w fun e w' => ∃ v, e = .returned (.tuple #[v, .int .i64 0]) ∧ w'.ownsRow w.heap.size 32 5 v (3 * N) ((plqs a b c L (List.range N)).flatMap uc) ∧ Below w.heap.size w w' := by
  have cV := fun (W : World) (h : LiesO W (some ⟨bl, off, none⟩) L) => validateF_any a b c 0 (some ⟨bl, off, none⟩) cap L W h hr (by omega)
  have cP := fun W : World => places_any a b c W
  obtain ⟨i0, hi, hz0, hz1, hz2⟩ := info_parts infoU
  have hlen2 : L.length ≤ maxLen := by unfold maxLen; omega
  have hlen3 : i0.bytes * L.length ≤ 281474976710656 := by rw [hz2]; omega
  refine callsIn_of_wp_marks Try.func16 rfl trivial ?_ rfl
  simp only [Try.ntmps16, List.size_toArray, List.length_cons, List.length_nil, Nat.reduceAdd, Nat.reduceSub, Array.replicate_succ, Array.replicate_zero, List.push_toArray, List.append_toArray, List.nil_append, List.cons_append]
  gi_wp2_with (first
    | (refine ⟨trivial, ?_⟩; gi_at_call 53; refine (callsIn_wide.2 (cV _ (.inr ⟨bl, off, rfl, hl.later (by repeat (first | (with_reducible exact Below.refl _ _) | (with_reducible refine Below.setCell ?_ ?_ _) | (with_reducible refine Below.drew ?_) | (with_reducible refine Below.alloc ?_ ?_ _) | omega | (simp <;> omega)))⟩))).mono ?_; rintro e w1 ⟨rfl, hw1⟩; have hc1 := Tail.cells hw1; have s1 := hw1.size; simp at s1; have z10 : w.heap.size < w1.heap.size := (by omega))
    | (gi_at_make; refine wpListIn_make_own _ rfl _ _ 23 rfl w.heap.size 32 i0 _ 5 Try.underlying23 hi hz0 hz1 _ _ _ L.length rfl rfl rfl hlen3 hlen2 (by omega) ?_; intro w2 hown hgrow; have s2 := hgrow.size; have z20 : w.heap.size < w2.heap.size := (by omega); have kg : ∀ o : Nat, w2.cell? ⟨w.heap.size, o, none⟩ = w1.cell? ⟨w.heap.size, o, none⟩ := fun o => World.cell?_of_block (w := w1) (a := ⟨w.heap.size, o, none⟩) (hgrow.block _ z10 (by simp)))
    | (refine ⟨trivial, ?_⟩; gi_at_call 54; refine (callsIn_wide.2 (cP _)).mono ?_; rintro e w3 ⟨rfl, ⟨q0, q1, q2⟩, hlt3, hw3, hbx⟩; have hc3 := Tail.cells hw3))
  have hB1 : Below w.heap.size w w1 := by repeat (first | (with_reducible exact Below.refl _ _) | (with_reducible refine Below.setCell ?_ ?_ _) | (with_reducible refine Below.drew ?_) | (with_reducible refine Below.alloc ?_ ?_ _) | (with_reducible refine Below.trans ?_ (Below.mono hw1 ?_)) | (with_reducible exact hw1.size) | omega | (simp <;> omega) | (simp <;> (have s := hw1.size; omega)) | (have s0 := hw1.size; (try simp at s0); (try simp); omega))
  have hB2 : Below w.heap.size w w2 := hB1.grown hgrow (by omega) (by simp)
  have hlt3' := hlt3
  rw [World.size_alloc] at hlt3'
  have hB3 : Below w.heap.size w w3 := by repeat (first | (with_reducible exact Below.refl _ _) | (with_reducible refine Below.setCell ?_ ?_ _) | (with_reducible refine Below.drew ?_) | (with_reducible refine Below.alloc ?_ ?_ _) | (with_reducible refine Below.trans ?_ (Below.mono hw3 ?_)) | (with_reducible refine Below.trans ?_ (Below.mono hB2 ?_)) | (with_reducible exact hw3.size) | (with_reducible exact hB2.size) | omega | (simp <;> omega) | (simp <;> (have s := hw3.size; omega)) | (simp <;> (have s := hB2.size; omega)) | (have s0 := hw3.size; (try simp at s0); have s1 := hB2.size; (try simp at s1); (try simp); omega))
  have hB23 : Below w2.heap.size w2 w3 := ((Below.refl _ w2).alloc (Nat.le_refl _) _).trans (hw3.mono (by simp))
  have bF : ∀ (o : Nat) (v : Value), w1.cell? ⟨w.heap.size, o, none⟩ = some v → w3.cell? ⟨w.heap.size, o, none⟩ = some v := fun o v h => (hB23.cell (p := ⟨w.heap.size, o, none⟩) z20).trans ((kg o).trans h)
  have gB1 : Boxed w3 (w.heap.size + 1) 23 (.slice none 0 0) := by
    have g := Boxed.new (w.alloc (.cells #[.int .i64 a, .int .i64 b, .int .i64 c, .slice (some ⟨bl, off, none⟩) L.length cap] 25)) 23 (.slice none 0 0)
    rw [World.size_alloc] at g
    exact Boxed.below (Boxed.kept (Boxed.below (g.alloc (.cells #[.int .i64 0] 28)) hw1 (by simp)) hgrow (by simp)) hB23 (by omega)
  have gB2 : Boxed w3 (w.heap.size + 1 + 1) 28 (.int .i64 0) := by
    have g := Boxed.new ((w.alloc (.cells #[.int .i64 a, .int .i64 b, .int .i64 c, .slice (some ⟨bl, off, none⟩) L.length cap] 25)).alloc (.cells #[.slice none 0 0] 23)) 28 (.int .i64 0)
    rw [World.size_alloc, World.size_alloc] at g
    exact Boxed.below (Boxed.kept (Boxed.below g hw1 (by simp)) hgrow (by simp)) hB23 (by omega)
  have gF : w3.heap[w.heap.size]? = some (.cells #[.int .i64 a, .int .i64 b, .int .i64 c, .slice (some ⟨bl, off, none⟩) L.length cap] 25 (0, 0)) := by
    have g : (((w.alloc (.cells #[.int .i64 a, .int .i64 b, .int .i64 c, .slice (some ⟨bl, off, none⟩) L.length cap] 25)).alloc (.cells #[.slice none 0 0] 23)).alloc (.cells #[.int .i64 0] 28)).heap[w.heap.size]? = some (.cells #[.int .i64 a, .int .i64 b, .int .i64 c, .slice (some ⟨bl, off, none⟩) L.length cap] 25 (0, 0)) :=
      (Below.heap_alloc _ _ _ (by simp; omega)).trans ((Below.heap_alloc _ _ _ (by simp)).trans (World.alloc_heap_new w _))
    exact (hB23.block _ z20).trans ((hgrow.block _ z10 (by simp)).trans ((hw1.block _ (by simp; omega)).trans g))
  have P0 : PS w w2.heap.size #[.int .i64 a, .int .i64 b, .int .i64 c, .slice (some ⟨bl, off, none⟩) L.length cap] #[.int .i64 a, .int .i64 b, .int .i64 c] w3 (.slice (some ⟨w1.heap.size, 0, none⟩) 0 L.length) (3 * ([] : List (Fin N)).length) ((plqs a b c L (([] : List (Fin N)).map Fin.val)).flatMap uc) :=
    ⟨Boxed.below (Boxed.new w2 _ _) hw3 (by simp), ownsRow_below (hown.kept (World.grownBy_alloc w2 _ none) (.inr (by simp [Value.ownBlock]))) hw3 (fun p' n' c' e' => by cases e'; simp; omega), gB1, gB2, gF, by rw [← World.size_alloc w2]; exact hbx⟩
  refine wpIn_rangeFunc_ownG (n := 100) (F := Fence.wide) rfl (by decide) (gf := 100) (lb := #[.pointer (some ⟨w2.heap.size + 1, 0, none⟩)]) rfl trivial (enters_of Try.func100 (by kernel_rfl) rfl)
    (places_stops 99 (by decide) (w2.heap.size + 1) N a b c hz hN w3 (by omega) (by simpa using q0) (by simpa using q1) (by simpa using q2)) KB.trans (KB.put w3 (by omega)) (Below.refl _ _) (fun _ => rfl)
    (fun (pre : List (Fin N)) W => (∃ v, PS w w2.heap.size #[.int .i64 a, .int .i64 b, .int .i64 c, .slice (some ⟨bl, off, none⟩) L.length cap] #[.int .i64 a, .int .i64 b, .int .i64 c] W v (3 * pre.length) ((plqs a b c L (pre.map Fin.val)).flatMap uc)) ∧ Below w.heap.size w W)
    (fun _ _ _ => False)
    (OwnFrom.and (Own.from (PS.own w w2.heap.size #[.int .i64 a, .int .i64 b, .int .i64 c, .slice (some ⟨bl, off, none⟩) L.length cap] #[.int .i64 a, .int .i64 b, .int .i64 c] (fun (pre : List (Fin N)) => 3 * pre.length) (fun pre => (plqs a b c L (pre.map Fin.val)).flatMap uc)) _) (ownFrom_below (Nat.le_refl _) (by omega)))
    (fun _ _ _ _ _ hs _ _ => hs)
    ⟨⟨_, P0⟩, hB3⟩
    (fun x => { tmps := #[.agg #[.int .i64 a, .int .i64 b, .int .i64 c, .slice (some ⟨bl, off, none⟩) L.length cap], .pointer (some ⟨w.heap.size, 0, none⟩), .pointer (some ⟨w.heap.size + 1, 0, none⟩), .pointer (some ⟨w.heap.size + 1 + 1, 0, none⟩), .int .i64 0, .pointer (some ⟨w2.heap.size, 0, none⟩), .int .i64 (x.val : Int), undef, undef, undef, undef, undef, undef, .agg #[.int .i64 a, .int .i64 b, .int .i64 c, .slice (some ⟨bl, off, none⟩) L.length cap], .int .i64 0, .int .i64 0, .bool false, undef, .pointer (some ⟨w.heap.size, 3, none⟩), .slice (some ⟨bl, off, none⟩) L.length cap, .int .i64 L.length, .slice (some ⟨w1.heap.size, 0, none⟩) 0 L.length, .pointer (some ⟨w.heap.size, 0, none⟩), .agg #[.int .i64 a, .int .i64 b, .int .i64 c], .func (.func 100) #[] #[.pointer (some ⟨w2.heap.size + 1, 0, none⟩)], .int .i64 (x.val : Int), .agg #[.int .i64 ((x.val : Int) % a), .int .i64 ((x.val : Int) / a % b), .int .i64 ((x.val : Int) / a / b)], undef, undef, undef, undef, undef, undef, undef, undef, undef, undef, undef, undef, undef, undef, undef, undef, undef, undef, undef, undef, undef, undef, undef, undef, undef, undef, undef, undef, undef, undef, undef, undef, undef], defers := [] }) ?assign ?body ?done ?stop
  case assign =>
    intro l x W K hK
    gi_wp2
    exact hK
  case body =>
    rintro l pre x W ⟨⟨v, hP0⟩, hB0⟩ hpl
    have kc := @Tail.cell_re; have kc1 : ∀ (W : World) (o : Obj) (d : Nat) (os : Array Obj) (a : Addr), a.block ≤ W.heap.size → (Sort.grow (redrawn (W.alloc o) d) os).cell? a = (W.alloc o).cell? a := fun W o d os a h => Tail.cell_re (W.alloc o) d os a (Nat.lt_of_le_of_lt h (by simp))
    have xlt : (0 : Int) ≤ (x.val : Int) ∧ (x.val : Int) < a * b * c := by have := x.isLt; omega
    have hN64 : N ≤ 64 := by
      obtain ⟨a1, a4, b1, b4, c1, c4, -⟩ := hz
      have := (mul_rng a1 a4 b1 b4 c1 c4)
      omega
    have cA : ∀ (W : World) (g pc : Nat) (p q : Int), Lies W bl off L → LiesI W g 0 [p, q, -p, -q] → (∀ t ∈ [p, q, -p, -q], IsStep t) → Calls Try.prog 55 #[.agg #[.int .i64 a, .int .i64 b, .int .i64 c, .slice (some ⟨bl, off, none⟩) L.length cap], .int .i64 (x.val : Int), .slice (some ⟨g, 0, none⟩) 4 pc] W fun e w' => e = .returned (.tuple #[.agg #[.int .i64 (al a b c L x.val [p, q, -p, -q]).a, .int .i64 (al a b c L x.val [p, q, -p, -q]).b, .int .i64 (al a b c L x.val [p, q, -p, -q]).c, .int .i64 (al a b c L x.val [p, q, -p, -q]).d, .int .i64 (al a b c L x.val [p, q, -p, -q]).n], .int .i64 0]) ∧ Below W.heap.size W w' :=
      fun W g pc p q h1 h2 h3 => along_some a b c x.val bl off cap g 0 pc L [p, q, -p, -q] W hF xlt.1 xlt.2 h1 h2 h3 (by simp) (by simp)
    obtain ⟨U0, hU0⟩ : ∃ U, U = al a b c L x.val [1, 2, -1, -2] := ⟨_, rfl⟩
    have cA0 : ∀ (W : World) (g pc : Nat), Lies W bl off L → LiesI W g 0 [1, 2, -1, -2] → Calls Try.prog 55 #[.agg #[.int .i64 a, .int .i64 b, .int .i64 c, .slice (some ⟨bl, off, none⟩) L.length cap], .int .i64 (x.val : Int), .slice (some ⟨g, 0, none⟩) 4 pc] W fun e w' => e = .returned (.tuple #[.agg #[.int .i64 U0.a, .int .i64 U0.b, .int .i64 U0.c, .int .i64 U0.d, .int .i64 U0.n], .int .i64 0]) ∧ Below W.heap.size W w' := by
      rw [hU0]
      exact fun W g pc h1 h2 => cA W g pc 1 2 h1 h2 (by simp [IsStep])
    replace hU0 := Lib.hid hU0
    obtain ⟨U1, hU1⟩ : ∃ U, U = al a b c L x.val [1, 3, -1, -3] := ⟨_, rfl⟩
    have cA1 : ∀ (W : World) (g pc : Nat), Lies W bl off L → LiesI W g 0 [1, 3, -1, -3] → Calls Try.prog 55 #[.agg #[.int .i64 a, .int .i64 b, .int .i64 c, .slice (some ⟨bl, off, none⟩) L.length cap], .int .i64 (x.val : Int), .slice (some ⟨g, 0, none⟩) 4 pc] W fun e w' => e = .returned (.tuple #[.agg #[.int .i64 U1.a, .int .i64 U1.b, .int .i64 U1.c, .int .i64 U1.d, .int .i64 U1.n], .int .i64 0]) ∧ Below W.heap.size W w' := by
      rw [hU1]
      exact fun W g pc h1 h2 => cA W g pc 1 3 h1 h2 (by simp [IsStep])
    replace hU1 := Lib.hid hU1
    obtain ⟨U2, hU2⟩ : ∃ U, U = al a b c L x.val [2, 3, -2, -3] := ⟨_, rfl⟩
    have cA2 : ∀ (W : World) (g pc : Nat), Lies W bl off L → LiesI W g 0 [2, 3, -2, -3] → Calls Try.prog 55 #[.agg #[.int .i64 a, .int .i64 b, .int .i64 c, .slice (some ⟨bl, off, none⟩) L.length cap], .int .i64 (x.val : Int), .slice (some ⟨g, 0, none⟩) 4 pc] W fun e w' => e = .returned (.tuple #[.agg #[.int .i64 U2.a, .int .i64 U2.b, .int .i64 U2.c, .int .i64 U2.d, .int .i64 U2.n], .int .i64 0]) ∧ Below W.heap.size W w' := by
      rw [hU2]
      exact fun W g pc h1 h2 => cA W g pc 2 3 h1 h2 (by simp [IsStep])
    replace hU2 := Lib.hid hU2
    have j0 : ∀ w, (Instr.index 83 (.agg #[.int .i64 1, .int .i64 2, .int .i64 1, .int .i64 3, .int .i64 2, .int .i64 3]) (.int .i64 0)).run Try.prog w = .ok (.agg #[.int .i64 1, .int .i64 2]) w := fun _ => by kernel_rfl
    have j1 : ∀ w, (Instr.index 83 (.agg #[.int .i64 1, .int .i64 2, .int .i64 1, .int .i64 3, .int .i64 2, .int .i64 3]) (.int .i64 1)).run Try.prog w = .ok (.agg #[.int .i64 1, .int .i64 3]) w := fun _ => by kernel_rfl
    have j2 : ∀ w, (Instr.index 83 (.agg #[.int .i64 1, .int .i64 2, .int .i64 1, .int .i64 3, .int .i64 2, .int .i64 3]) (.int .i64 2)).run Try.prog w = .ok (.agg #[.int .i64 2, .int .i64 3]) w := fun _ => by kernel_rfl
    obtain ⟨ao, m, cp, rfl⟩ := hP0.shape
    obtain ⟨CS, hCS⟩ : ∃ CS, CS = (plqs a b c L (pre.map Fin.val)).flatMap uc := ⟨_, rfl⟩
    rw [← hCS] at hP0
    replace hCS := Lib.hid hCS
    have hlt5 : w.heap.size + 1 + 1 < w2.heap.size := by omega
    clear cA xlt hF hz hr hN
    gi_wp2_with fail
    refine wpIn_loop_rounds 4 ?_
    have hv0 := hP0.hv
    have row0 := hP0.row
    have hvl0 := hP0.mark
    have f0 := hP0.cell 0 rfl
    have f1 := hP0.cell 1 rfl
    have f2 := hP0.cell 2 rfl
    have f3 := hP0.cell 3 rfl
    have zW : w.heap.size < W.heap.size := World.block_lt_of_cell? W _ f0
    rw [roundsIn_succ]
    gi_wp2_with fail
    refine TailIn.round_tail_below 5 (by kernel_rfl) (by kernel_rfl) (by kernel_rfl) ?_
    simp only [List.take_succ_cons, List.take_zero]
    repeat (go_big_quiet_step (fail))
    refine wpQuiet_nil ?_
    intro w4 hw4
    simp only [List.drop_succ_cons, List.drop_zero]
    have hc4 := Tail.cells hw4
    have s4 := hw4.size
    simp at s4
    have z40 : w.heap.size < w4.heap.size := by omega
    gi_wp2_with (first
      | (refine ⟨trivial, ?_⟩; gi_at_call 55; refine (CallsIn.inRound l (callsIn_wide.2 (cA0 _ _ 4 (hl.later (by repeat (first | (with_reducible exact Below.refl _ _) | (with_reducible refine Below.setCell ?_ ?_ _) | (with_reducible refine Below.drew ?_) | (with_reducible refine Below.alloc ?_ ?_ _) | (with_reducible refine Below.trans ?_ (Below.mono hw4 ?_)) | (with_reducible refine Below.trans ?_ (Below.mono hB0 ?_)) | (with_reducible exact hw4.size) | (with_reducible exact hB0.size) | omega | (simp <;> omega) | (simp <;> (have s := hw4.size; omega)) | (simp <;> (have s := hB0.size; omega)) | (have s0 := hw4.size; (try simp at s0); have s1 := hB0.size; (try simp at s1); (try simp); omega)))) (lies4 (by simp [go_sem]) (by simp [go_sem]) (by simp [go_sem]) (by simp [go_sem]))))).mono ?_; rintro e w5 ⟨rfl, hw5⟩; have hb5 : Below W.heap.size W w5 := (by repeat (first | (with_reducible exact Below.refl _ _) | (with_reducible refine Below.setCell ?_ ?_ _) | (with_reducible refine Below.drew ?_) | (with_reducible refine Below.alloc ?_ ?_ _) | (with_reducible refine Below.trans ?_ (Below.mono hw5 ?_)) | (with_reducible refine Below.trans ?_ (Below.mono hw4 ?_)) | (with_reducible exact hw5.size) | (with_reducible exact hw4.size) | omega | (simp <;> omega) | (simp <;> (have s := hw5.size; omega)) | (simp <;> (have s := hw4.size; omega)) | (have s0 := hw5.size; (try simp at s0); have s1 := hw4.size; (try simp at s1); (try simp); omega))); have hv5 := Boxed.below hv0 hb5 hv0.lt; have c5 := hv5.cell; have d5 := hv5.frozen; have row5 := ownsRow_below row0 hb5 hvl0; have ap5 := row_apart row5 hv5 (show (23 : TypeId) ≠ 32 by decide); have l5 := hv5.lt; have s5 := hb5.size)
      | (gi_at_builtin; refine wpListIn_append_own _ rfl (.tmp 54) (.tmp 56) 23 rfl w.heap.size 32 i0 _ 5 40 Try.underlying23 hi hz0 hz1 hz2 rfl (by decide) (.slice ao m cp) (3 * pre.length) CS rfl ((row5.alloc _).alloc _) ⟨w5.heap.size + 1, 0, none⟩ 1 1 (uc U0) rfl rfl (five_cells rfl (by simp [go_sem]) (by simp [go_sem]) (by simp [go_sem]) (by simp [go_sem]) (by simp [go_sem])) (five_one rfl) (by unfold maxLen; omega) (by omega) (by simp; omega) ?_; intro v6 w6 hown6 hgrow6 _; obtain ⟨g60, cap60, rfl⟩ := ownsRow_succ hown6; have hv6 : Boxed w6 w2.heap.size 23 (.slice ao m cp) := (by refine Boxed.kept ?_ hgrow6 ap5; exact (hv5.alloc _).alloc _); have c6 := hv6.cell; have d6 := hv6.frozen))
    obtain ⟨hP1, kf1, kb1, bl1⟩ := hP0.step (by omega) hb5 hgrow6 hown6
    replace bl1 := bl1 hB0
    generalize w6.setCell ⟨w2.heap.size, 0, none⟩ (.slice (some ⟨g60, 0, none⟩) ((3 * pre.length) + 1) cap60) = X1 at *
    clear c6 d6 hv6 hgrow6 hown6 s5 l5 ap5 row5 d5 c5 hv5 hb5 hw5 z40 s4 hc4 hw4 zW f0 f1 f2 f3 hv0 row0 hvl0
    have hB1 := bl1
    have hv1 := hP1.hv
    have row1 := hP1.row
    have hvl1 := hP1.mark
    have f0 := hP1.cell 0 rfl
    have f1 := hP1.cell 1 rfl
    have f2 := hP1.cell 2 rfl
    have f3 := hP1.cell 3 rfl
    have zW : w.heap.size < X1.heap.size := World.block_lt_of_cell? X1 _ f0
    rw [roundsIn_succ]
    gi_wp2_with fail
    refine TailIn.round_tail_below 5 (by kernel_rfl) (by kernel_rfl) (by kernel_rfl) ?_
    simp only [List.take_succ_cons, List.take_zero]
    repeat (go_big_quiet_step (fail))
    refine wpQuiet_nil ?_
    intro w4 hw4
    simp only [List.drop_succ_cons, List.drop_zero]
    have hc4 := Tail.cells hw4
    have s4 := hw4.size
    simp at s4
    have z40 : w.heap.size < w4.heap.size := by omega
    gi_wp2_with (first
      | (refine ⟨trivial, ?_⟩; gi_at_call 55; refine (CallsIn.inRound l (callsIn_wide.2 (cA1 _ _ 4 (hl.later (by repeat (first | (with_reducible exact Below.refl _ _) | (with_reducible refine Below.setCell ?_ ?_ _) | (with_reducible refine Below.drew ?_) | (with_reducible refine Below.alloc ?_ ?_ _) | (with_reducible refine Below.trans ?_ (Below.mono hw4 ?_)) | (with_reducible refine Below.trans ?_ (Below.mono hB1 ?_)) | (with_reducible exact hw4.size) | (with_reducible exact hB1.size) | omega | (simp <;> omega) | (simp <;> (have s := hw4.size; omega)) | (simp <;> (have s := hB1.size; omega)) | (have s0 := hw4.size; (try simp at s0); have s1 := hB1.size; (try simp at s1); (try simp); omega)))) (lies4 (by simp [go_sem]) (by simp [go_sem]) (by simp [go_sem]) (by simp [go_sem]))))).mono ?_; rintro e w5 ⟨rfl, hw5⟩; have hb5 : Below X1.heap.size X1 w5 := (by repeat (first | (with_reducible exact Below.refl _ _) | (with_reducible refine Below.setCell ?_ ?_ _) | (with_reducible refine Below.drew ?_) | (with_reducible refine Below.alloc ?_ ?_ _) | (with_reducible refine Below.trans ?_ (Below.mono hw5 ?_)) | (with_reducible refine Below.trans ?_ (Below.mono hw4 ?_)) | (with_reducible exact hw5.size) | (with_reducible exact hw4.size) | omega | (simp <;> omega) | (simp <;> (have s := hw5.size; omega)) | (simp <;> (have s := hw4.size; omega)) | (have s0 := hw5.size; (try simp at s0); have s1 := hw4.size; (try simp at s1); (try simp); omega))); have hv5 := Boxed.below hv1 hb5 hv1.lt; have c5 := hv5.cell; have d5 := hv5.frozen; have row5 := ownsRow_below row1 hb5 hvl1; have ap5 := row_apart row5 hv5 (show (23 : TypeId) ≠ 32 by decide); have l5 := hv5.lt; have s5 := hb5.size)
      | (gi_at_builtin; refine wpListIn_append_own _ rfl (.tmp 54) (.tmp 56) 23 rfl w.heap.size 32 i0 _ 5 40 Try.underlying23 hi hz0 hz1 hz2 rfl (by decide) (.slice (some ⟨g60, 0, none⟩) (3 * pre.length + 1) cap60) (3 * pre.length + 1) (CS ++ uc U0) rfl ((row5.alloc _).alloc _) ⟨w5.heap.size + 1, 0, none⟩ 1 1 (uc U1) rfl rfl (five_cells rfl (by simp [go_sem]) (by simp [go_sem]) (by simp [go_sem]) (by simp [go_sem]) (by simp [go_sem])) (five_one rfl) (by unfold maxLen; omega) (by omega) (by simp; omega) ?_; intro v6 w6 hown6 hgrow6 _; obtain ⟨g61, cap61, rfl⟩ := ownsRow_succ hown6; have hv6 : Boxed w6 w2.heap.size 23 (.slice (some ⟨g60, 0, none⟩) (3 * pre.length + 1) cap60) := (by refine Boxed.kept ?_ hgrow6 ap5; exact (hv5.alloc _).alloc _); have c6 := hv6.cell; have d6 := hv6.frozen))
    obtain ⟨hP2, kf2, kb2, bl2⟩ := hP1.step (by omega) hb5 hgrow6 hown6
    replace bl2 := bl2 hB1
    generalize w6.setCell ⟨w2.heap.size, 0, none⟩ (.slice (some ⟨g61, 0, none⟩) ((3 * pre.length + 1) + 1) cap61) = X2 at *
    clear c6 d6 hv6 hgrow6 hown6 s5 l5 ap5 row5 d5 c5 hv5 hb5 hw5 z40 s4 hc4 hw4 zW f0 f1 f2 f3 hv1 row1 hvl1
    have hB2 := bl2
    have hv2 := hP2.hv
    have row2 := hP2.row
    have hvl2 := hP2.mark
    have f0 := hP2.cell 0 rfl
    have f1 := hP2.cell 1 rfl
    have f2 := hP2.cell 2 rfl
    have f3 := hP2.cell 3 rfl
    have zW : w.heap.size < X2.heap.size := World.block_lt_of_cell? X2 _ f0
    rw [roundsIn_succ]
    gi_wp2_with fail
    refine TailIn.round_tail_below 5 (by kernel_rfl) (by kernel_rfl) (by kernel_rfl) ?_
    simp only [List.take_succ_cons, List.take_zero]
    repeat (go_big_quiet_step (fail))
    refine wpQuiet_nil ?_
    intro w4 hw4
    simp only [List.drop_succ_cons, List.drop_zero]
    have hc4 := Tail.cells hw4
    have s4 := hw4.size
    simp at s4
    have z40 : w.heap.size < w4.heap.size := by omega
    gi_wp2_with (first
      | (refine ⟨trivial, ?_⟩; gi_at_call 55; refine (CallsIn.inRound l (callsIn_wide.2 (cA2 _ _ 4 (hl.later (by repeat (first | (with_reducible exact Below.refl _ _) | (with_reducible refine Below.setCell ?_ ?_ _) | (with_reducible refine Below.drew ?_) | (with_reducible refine Below.alloc ?_ ?_ _) | (with_reducible refine Below.trans ?_ (Below.mono hw4 ?_)) | (with_reducible refine Below.trans ?_ (Below.mono hB2 ?_)) | (with_reducible exact hw4.size) | (with_reducible exact hB2.size) | omega | (simp <;> omega) | (simp <;> (have s := hw4.size; omega)) | (simp <;> (have s := hB2.size; omega)) | (have s0 := hw4.size; (try simp at s0); have s1 := hB2.size; (try simp at s1); (try simp); omega)))) (lies4 (by simp [go_sem]) (by simp [go_sem]) (by simp [go_sem]) (by simp [go_sem]))))).mono ?_; rintro e w5 ⟨rfl, hw5⟩; have hb5 : Below X2.heap.size X2 w5 := (by repeat (first | (with_reducible exact Below.refl _ _) | (with_reducible refine Below.setCell ?_ ?_ _) | (with_reducible refine Below.drew ?_) | (with_reducible refine Below.alloc ?_ ?_ _) | (with_reducible refine Below.trans ?_ (Below.mono hw5 ?_)) | (with_reducible refine Below.trans ?_ (Below.mono hw4 ?_)) | (with_reducible exact hw5.size) | (with_reducible exact hw4.size) | omega | (simp <;> omega) | (simp <;> (have s := hw5.size; omega)) | (simp <;> (have s := hw4.size; omega)) | (have s0 := hw5.size; (try simp at s0); have s1 := hw4.size; (try simp at s1); (try simp); omega))); have hv5 := Boxed.below hv2 hb5 hv2.lt; have c5 := hv5.cell; have d5 := hv5.frozen; have row5 := ownsRow_below row2 hb5 hvl2; have ap5 := row_apart row5 hv5 (show (23 : TypeId) ≠ 32 by decide); have l5 := hv5.lt; have s5 := hb5.size)
      | (gi_at_builtin; refine wpListIn_append_own _ rfl (.tmp 54) (.tmp 56) 23 rfl w.heap.size 32 i0 _ 5 40 Try.underlying23 hi hz0 hz1 hz2 rfl (by decide) (.slice (some ⟨g61, 0, none⟩) (3 * pre.length + 1 + 1) cap61) (3 * pre.length + 1 + 1) (CS ++ uc U0 ++ uc U1) rfl ((row5.alloc _).alloc _) ⟨w5.heap.size + 1, 0, none⟩ 1 1 (uc U2) rfl rfl (five_cells rfl (by simp [go_sem]) (by simp [go_sem]) (by simp [go_sem]) (by simp [go_sem]) (by simp [go_sem])) (five_one rfl) (by unfold maxLen; omega) (by omega) (by simp; omega) ?_; intro v6 w6 hown6 hgrow6 _; obtain ⟨g62, cap62, rfl⟩ := ownsRow_succ hown6; have hv6 : Boxed w6 w2.heap.size 23 (.slice (some ⟨g61, 0, none⟩) (3 * pre.length + 1 + 1) cap61) := (by refine Boxed.kept ?_ hgrow6 ap5; exact (hv5.alloc _).alloc _); have c6 := hv6.cell; have d6 := hv6.frozen))
    obtain ⟨hP3, kf3, kb3, bl3⟩ := hP2.step (by omega) hb5 hgrow6 hown6
    replace bl3 := bl3 hB2
    generalize w6.setCell ⟨w2.heap.size, 0, none⟩ (.slice (some ⟨g62, 0, none⟩) ((3 * pre.length + 1 + 1) + 1) cap62) = X3 at *
    clear c6 d6 hv6 hgrow6 hown6 s5 l5 ap5 row5 d5 c5 hv5 hb5 hw5 z40 s4 hc4 hw4 zW f0 f1 f2 f3 hv2 row2 hvl2
    have hB3 := bl3
    rw [roundsIn_succ]
    gi_wp2_with fail
    have e1 : 3 * (pre ++ [x]).length = 3 * pre.length + 1 + 1 + 1 := by simp; omega
    have e2 : (plqs a b c L ((pre ++ [x]).map Fin.val)).flatMap uc = CS ++ uc U0 ++ uc U1 ++ uc U2 := by
      rw [hCS.out, hU0.out, hU1.out, hU2.out]
      simp [plqs, plq]
    refine ⟨((kf1 _).trans (kf2 _)).trans (kf3 _), (kb1.trans kb2).trans kb3, ⟨.slice (some ⟨g62, 0, none⟩) (3 * pre.length + 1 + 1 + 1) cap62, ?_⟩, hB3⟩
    rw [e1, e2]
    exact hP3
  case done =>
    rintro D ys W hD hys ⟨⟨v, hP⟩, hB⟩ hK
    obtain ⟨hv, hrow, b1, b2, b3, -⟩ := hP
    obtain ⟨ao, m, cp, rfl⟩ : ∃ ao m cp, v = .slice ao m cp := by
      rcases hrow.2 with ⟨rfl, _⟩ | ⟨g, cap, cur, rfl, _⟩
      · exact ⟨_, _, _, rfl⟩
      · exact ⟨_, _, _, rfl⟩
    have hc := hv.cell
    have e1 := b1.cell
    have e2 := b1.frozen
    have e3 := b2.cell
    have e4 := b2.frozen
    gi_wp2
    have hK2 := ((KeepsOthers.setCell W ⟨w.heap.size + 1, 0, none⟩ (.slice ao m cp)).trans (KeepsOthers.setCell _ ⟨w.heap.size + 1 + 1, 0, none⟩ (.int .i64 0))).same D _ hK rfl
    refine ⟨by simp, .inl ⟨_, _, rfl, run_takeDeferred hK2, ?_⟩⟩
    have apart : ∀ B v', (W.heap[B]? = some (.cells #[v'] 23 (0, 0)) ∨ W.heap[B]? = some (.cells #[v'] 28 (0, 0)) ∨ W.heap[B]? = some (.deferred (some []))) → (Value.slice ao m cp).ownBlock = none ∨ (Value.slice ao m cp).ownBlock ≠ some B := by
      intro B v' hb'
      rcases hrow.2 with ⟨e, _⟩ | ⟨g, cap', cur, e, _, hgg, _⟩
      · left; cases e; rfl
      · right
        cases e
        intro e'
        simp [Value.ownBlock] at e'
        subst e'
        rcases hb' with hb' | hb' | hb' <;> (rw [hb'] at hgg; simp at hgg)
    have r1 := hrow.kept (grownBy_setCell' W (w.heap.size + 1) (.slice ao m cp)) (apart _ _ (.inl b1))
    have r2 := r1.kept (grownBy_setCell' _ (w.heap.size + 1 + 1) (.int .i64 0)) (apart _ _ (.inr (.inl b2)))
    have r3 := ownsRow_putObj r2 (.deferred none) hK2 rfl
    have hlen' : ys.length = N := by have := congrArg List.length hys; simpa using this
    rw [hys, hlen'] at r3
    have hD1 : w.heap.size + 1 + 1 < D := by omega
    refine ⟨.tuple #[.slice ao m cp, .int .i64 0], ?_, ⟨_, rfl, r3, ?_⟩⟩
    · have pc : ∀ (X : World) (k o : Nat), k < D → (X.putObj D (.deferred none)).cell? ⟨k, o, none⟩ = X.cell? ⟨k, o, none⟩ := fun X k o h => World.cell?_of_block (w := X) (a := ⟨k, o, none⟩) (World.putObj_heap_other (by dsimp only; omega))
      have x1 : ((W.setCell ⟨w.heap.size + 1, 0, none⟩ (.slice ao m cp)).setCell ⟨w.heap.size + 1 + 1, 0, none⟩ (.int .i64 0)).cell? ⟨w.heap.size + 1, 0, none⟩ = some (.slice ao m cp) := by simp [go_sem, e1, e3]
      have x2 : ((W.setCell ⟨w.heap.size + 1, 0, none⟩ (.slice ao m cp)).setCell ⟨w.heap.size + 1 + 1, 0, none⟩ (.int .i64 0)).cell? ⟨w.heap.size + 1 + 1, 0, none⟩ = some (.int .i64 0) := by simp [go_sem, e1, e3]
      rw [← pc _ _ _ (by omega)] at x1 x2
      simp [results, Try.results16, go_sem, x1, x2]
    · exact ((hB.setCell (p := ⟨w.heap.size + 1, 0, none⟩) (by simp) _).setCell (p := ⟨w.heap.size + 1 + 1, 0, none⟩) (by simp; omega) _).trans (belowK_b (w := w) (Nat.le_refl _) _ D _ _ (by omega) hK2 rfl rfl)
  case stop =>
    rintro D c pre W _ _ h _
    exact h.elim
end Go.Proofs.Ytmmkhkkmgjighaa
