/- Quaternions of integers: their memory, products, doubles of units and sums, as the program and the document's answers make them.
Conditions: those written at each theorem. -/
import Derived.Test.YtojmagooapjohaaFermM
import Derived.Test.YtojmagooapjohaaIBox
import Derived.Test.YtojmagooapjohaaCold
import Derived.Test.YtojmagooapjohaaNumC
import Derived.Test.YtojmagooapjohaaLinksC
import Derived.OpenShut
import Derived.Maps.AppendAt
import Derived.Laws.CopyRow
import Derived.Laws.CopyOwn
import Derived.Deep.RegionHeld3
import Derived.Deep.AppendLies
import Derived.Deep.RegionLawGrows
namespace Go.Proofs.Ytojmagooapjohaa
set_option linter.unusedVariables false
set_option linter.unusedSimpArgs false
set_option maxRecDepth 1000000
open Go.RowKit
open Um Tm Fm

/-! ### memory -/
/-- what a make lays for a quaternion -/
def sz : List Value := [vi 0, vi 0, vi 0, vi 0]
theorem made_sz (n : Nat) : ∀ (i : Nat), i < n * 4 → (madeCells sz.toArray (n * 4))[i]? = some (vi 0) := fun i hi => by
  have h3 : i % 4 < 4 := Nat.mod_lt _ (by decide)
  have h3' : i % sz.toArray.size < sz.toArray.size := h3
  unfold madeCells
  rw [Array.getElem?_map, Array.getElem?_range, if_pos hi]
  show some (sz.toArray[i % sz.toArray.size]!) = _
  have e : sz.toArray[i % sz.toArray.size]! = sz[i % 4]'h3 := by
    rw [getElem!_pos sz.toArray (i % sz.toArray.size) h3']; rfl
  rw [e]
  have : i % 4 = 0 ∨ i % 4 = 1 ∨ i % 4 = 2 ∨ i % 4 = 3 := by omega
  congr 1
  rcases this with h | h | h | h <;> simp only [h] <;> rfl
theorem IBox.madeS {w : World} {g n : Nat} {T : TypeId} (h : w.heap[g]? = some (.cells (madeCells sz.toArray (n * 4)) T)) (hg : g < w.heap.size) : IBox w g (fl (List.replicate n zs)) := by
  rw [fl_repl]
  refine ⟨fun i x hx => ?_, fun j => by simp [World.frozen?, h], hg⟩
  have hi : i < n * 4 := by have := (List.getElem?_eq_some_iff.1 hx).1; simpa using this
  have hxz : x = 0 := by
    rw [List.getElem?_replicate, if_pos hi] at hx
    simpa using hx.symm
  subst hxz
  have := made_sz n i hi
  rw [Nat.zero_add]
  simp only [World.cell?, h]
  simpa [vi] using this
theorem infoS : (Try.prog.info? 95).map (fun i => (i.zero, i.size, i.bytes)) = some (some (.agg #[.int .i64 0, .int .i64 0, .int .i64 0, .int .i64 0]), 4, 32) := by kernel_rfl
theorem makeS (W : World) (n : Nat) (x : Int) (hx : x = n) (hn : n ≤ 1000000) : (Instr.makeSlice 51 (.int .i64 x) (.int .i64 x)).run Try.prog W = .ok (.slice (some ⟨W.heap.size, 0, none⟩) n n) (W.alloc (.cells (madeCells sz.toArray (n * 4)) 95)) := by
  obtain ⟨i0, hi, hz0, hz1, hz2⟩ := info_parts infoS
  have := run_make (P := Try.prog) W 51 95 i0 _ Try.underlying51 hi hz0 .i64 .i64 x x (by omega) (Int.le_refl _) (by rw [hz2]; omega) (by omega)
  rw [this, hz1, hx, Int.toNat_natCast]
  rfl
theorem ixS0 (x y z t : Int) : ∀ w, (Instr.index 95 (.agg #[.int .i64 x, .int .i64 y, .int .i64 z, .int .i64 t]) (.int .i64 0)).run Try.prog w = .ok (.int .i64 x) w := fun _ => by kernel_rfl
theorem ixS1 (x y z t : Int) : ∀ w, (Instr.index 95 (.agg #[.int .i64 x, .int .i64 y, .int .i64 z, .int .i64 t]) (.int .i64 1)).run Try.prog w = .ok (.int .i64 y) w := fun _ => by kernel_rfl
theorem ixS2 (x y z t : Int) : ∀ w, (Instr.index 95 (.agg #[.int .i64 x, .int .i64 y, .int .i64 z, .int .i64 t]) (.int .i64 2)).run Try.prog w = .ok (.int .i64 z) w := fun _ => by kernel_rfl
theorem ixS3 (x y z t : Int) : ∀ w, (Instr.index 95 (.agg #[.int .i64 x, .int .i64 y, .int .i64 z, .int .i64 t]) (.int .i64 3)).run Try.prog w = .ok (.int .i64 t) w := fun _ => by kernel_rfl
/-- the four cells of a quaternion in a list -/
theorem four_at {w : World} {b off s : Nat} {M : List Sp} {x : Sp} (h : LiesI w b off (fl M)) (hx : M[s]? = some x) : w.cell? ⟨b, off + s * 4, none⟩ = some (.int .i64 x.a) ∧ w.cell? ⟨b, off + s * 4 + 1, none⟩ = some (.int .i64 x.b) ∧ w.cell? ⟨b, off + s * 4 + 2, none⟩ = some (.int .i64 x.c) ∧ w.cell? ⟨b, off + s * 4 + 3, none⟩ = some (.int .i64 x.d) := by
  obtain ⟨h0, h1, h2, h3⟩ := fl_four hx
  exact ⟨h _ _ h0, h _ _ h1, h _ _ h2, h _ _ h3⟩
theorem IBox.four {w : World} {g s : Nat} {M : List Sp} {x : Sp} (k : IBox w g (fl M)) (hx : M[s]? = some x) : w.cell? ⟨g, s * 4, none⟩ = some (.int .i64 x.a) ∧ w.cell? ⟨g, s * 4 + 1, none⟩ = some (.int .i64 x.b) ∧ w.cell? ⟨g, s * 4 + 2, none⟩ = some (.int .i64 x.c) ∧ w.cell? ⟨g, s * 4 + 3, none⟩ = some (.int .i64 x.d) := by
  obtain ⟨h0, h1, h2, h3⟩ := fl_four hx
  exact ⟨k.at h0, k.at h1, k.at h2, k.at h3⟩
theorem IBox.put4 {w : World} {g s : Nat} {M : List Sp} (k : IBox w g (fl M)) (hs : s < M.length) (y : Sp) : IBox ((((w.setCell ⟨g, s * 4, none⟩ (.int .i64 y.a)).setCell ⟨g, s * 4 + 1, none⟩ (.int .i64 y.b)).setCell ⟨g, s * 4 + 2, none⟩ (.int .i64 y.c)).setCell ⟨g, s * 4 + 3, none⟩ (.int .i64 y.d)) g (fl (M.set s y)) := by
  have hl := fl_len M
  rw [← fl_set]
  refine (((k.put (s * 4) (by omega) y.a).put (s * 4 + 1) ?_ y.b).put (s * 4 + 2) ?_ y.c).put (s * 4 + 3) ?_ y.d
  · simp only [List.length_set]; omega
  · simp only [List.length_set]; omega
  · simp only [List.length_set]; omega
/-- the cells of a quaternion -/
def s4 (x : Sp) : List Value := [vi x.a, vi x.b, vi x.c, vi x.d]
theorem four_news {w : World} {b : Nat} {x : Sp} (h0 : w.cell? ⟨b, 0, none⟩ = some (vi x.a)) (h1 : w.cell? ⟨b, 1, none⟩ = some (vi x.b)) (h2 : w.cell? ⟨b, 2, none⟩ = some (vi x.c)) (h3 : w.cell? ⟨b, 3, none⟩ = some (vi x.d)) : ∀ j u, (s4 x)[j]? = some u → w.cell? (Addr.add ⟨b, 0, none⟩ j) = some u := by
  intro j u hj
  match j, hj with
  | 0, hj => simp [s4] at hj; subst hj; exact h0
  | 1, hj => simp [s4] at hj; subst hj; exact h1
  | 2, hj => simp [s4] at hj; subst hj; exact h2
  | 3, hj => simp [s4] at hj; subst hj; exact h3
  | n + 4, hj => simp [s4] at hj
theorem four_ones (x : Sp) : ∀ u ∈ s4 x, u.oneCell' = true := fun u hu => by
  simp [s4] at hu
  rcases hu with rfl | rfl | rfl | rfl <;> rfl
theorem fl_snoc (M : List Sp) (x : Sp) : (fl (M ++ [x])).map vi = (fl M).map vi ++ s4 x := by
  rw [fl_append, List.map_append]; rfl
/-- a list of quaternions that a call has made row by row -/
theorem owned_liesS {w : World} {base : Nat} {T : TypeId} {v : Value} {n : Nat} {M : List Sp} (h : w.ownsRow base T 4 v n ((fl M).map vi)) (hn : 0 < n) (hl : M.length = n) : ∃ g cap, v = .slice (some ⟨g, 0, none⟩) n cap ∧ base ≤ g ∧ LiesI w g 0 (fl M) := by
  have hc := h.2
  have hfl := fl_len M
  rcases hc with ⟨_, h0⟩ | ⟨g, cap, cur, rfl, hg, _⟩
  · omega
  · refine ⟨g, cap, rfl, hg, fun i x hx => ?_⟩
    have hi : i < (fl M).length := (List.getElem?_eq_some_iff.1 hx).1
    rw [Nat.zero_add, h.cellAt i (by omega), List.getElem?_map, hx]
    rfl

/-! ### products -/
set_option maxHeartbeats 3200000 in
theorem times7_any (p q : Sp) (w : World) : Calls Try.prog 52 #[.agg #[.int .i64 p.a, .int .i64 p.b, .int .i64 p.c, .int .i64 p.d], .agg #[.int .i64 q.a, .int .i64 q.b, .int .i64 q.c, .int .i64 q.d]] w fun e w' => e = .returned (.agg #[.int .i64 (mulS p q).w.a, .int .i64 (mulS p q).w.b, .int .i64 (mulS p q).w.c, .int .i64 (mulS p q).w.d]) ∧ Below w.heap.size w w' := by
  go_enter Try.func52, Try.ntmps52
  go_wp2
  refine bodyPost_ret (v := .agg #[.int .i64 (mulS p q).w.a, .int .i64 (mulS p q).w.b, .int .i64 (mulS p q).w.c, .int .i64 (mulS p q).w.d]) ?_ rfl ⟨rfl, ?_⟩
  · simp [results, Try.results52, go_sem, mulS, Sp.w, w_add_l, w_add_r, w_sub_l, w_sub_r]
  · repeat (first | (with_reducible exact Below.refl _ _) | (with_reducible refine Below.setCell ?_ ?_ _) | (with_reducible refine Below.drew ?_) | (with_reducible refine Below.alloc ?_ ?_ _) | omega | (simp <;> omega))
set_option maxHeartbeats 3200000 in
theorem refTimes7_any (p q : Sp) (w : World) : Calls Try.prog 151 #[.agg #[.int .i64 p.a, .int .i64 p.b, .int .i64 p.c, .int .i64 p.d], .agg #[.int .i64 q.a, .int .i64 q.b, .int .i64 q.c, .int .i64 q.d]] w fun e w' => e = .returned (.agg #[.int .i64 (mulS p q).w.a, .int .i64 (mulS p q).w.b, .int .i64 (mulS p q).w.c, .int .i64 (mulS p q).w.d]) ∧ Below w.heap.size w w' := by
  go_enter Try.func151, Try.ntmps151
  go_wp2
  refine bodyPost_ret (v := .agg #[.int .i64 (mulS p q).w.a, .int .i64 (mulS p q).w.b, .int .i64 (mulS p q).w.c, .int .i64 (mulS p q).w.d]) ?_ rfl ⟨rfl, ?_⟩
  · simp [results, Try.results151, go_sem, mulS, Sp.w, w_add_l, w_add_r, w_sub_l, w_sub_r]
  · repeat (first | (with_reducible exact Below.refl _ _) | (with_reducible refine Below.setCell ?_ ?_ _) | (with_reducible refine Below.drew ?_) | (with_reducible refine Below.alloc ?_ ?_ _) | omega | (simp <;> omega))
/-- a unit whose number of parts is 1 or 2 -/
def N12 (u : Q) : Prop := u.n = 1 ∨ u.n = 2
set_option maxHeartbeats 1600000 in
theorem twice7_any (u : Q) (w : World) (h : N12 u) : Calls Try.prog 53 #[.agg #[.int .i64 u.a, .int .i64 u.b, .int .i64 u.c, .int .i64 u.d, .int .i64 u.n]] w fun e w' => e = .returned (.agg #[.int .i64 (tw u).w.a, .int .i64 (tw u).w.b, .int .i64 (tw u).w.c, .int .i64 (tw u).w.d]) ∧ Below w.heap.size w w' := by
  obtain ⟨a, b, c, d, n⟩ := u
  rcases h with h | h <;> (simp only at h; subst h)
  all_goals
    go_enter Try.func53, Try.ntmps53
    go_wp2
    refine bodyPost_ret (v := .agg #[.int .i64 (tw ⟨a, b, c, d, _⟩).w.a, .int .i64 (tw ⟨a, b, c, d, _⟩).w.b, .int .i64 (tw ⟨a, b, c, d, _⟩).w.c, .int .i64 (tw ⟨a, b, c, d, _⟩).w.d]) ?_ rfl ⟨rfl, ?_⟩
    · simp [results, Try.results53, go_sem, tw, Sp.w]
    · repeat (first | (with_reducible exact Below.refl _ _) | (with_reducible refine Below.setCell ?_ ?_ _) | (with_reducible refine Below.drew ?_) | (with_reducible refine Below.alloc ?_ ?_ _) | omega | (simp <;> omega))
set_option maxHeartbeats 1600000 in
theorem refTwice7_any (u : Q) (w : World) (h : N12 u) : Calls Try.prog 152 #[.agg #[.int .i64 u.a, .int .i64 u.b, .int .i64 u.c, .int .i64 u.d, .int .i64 u.n]] w fun e w' => e = .returned (.agg #[.int .i64 (tw u).w.a, .int .i64 (tw u).w.b, .int .i64 (tw u).w.c, .int .i64 (tw u).w.d]) ∧ Below w.heap.size w w' := by
  obtain ⟨a, b, c, d, n⟩ := u
  rcases h with h | h <;> (simp only at h; subst h)
  all_goals
    go_enter Try.func152, Try.ntmps152
    go_wp2
    refine bodyPost_ret (v := .agg #[.int .i64 (tw ⟨a, b, c, d, _⟩).w.a, .int .i64 (tw ⟨a, b, c, d, _⟩).w.b, .int .i64 (tw ⟨a, b, c, d, _⟩).w.c, .int .i64 (tw ⟨a, b, c, d, _⟩).w.d]) ?_ rfl ⟨rfl, ?_⟩
    · simp [results, Try.results152, go_sem, tw, Sp.w]
    · repeat (first | (with_reducible exact Below.refl _ _) | (with_reducible refine Below.setCell ?_ ?_ _) | (with_reducible refine Below.drew ?_) | (with_reducible refine Below.alloc ?_ ?_ _) | omega | (simp <;> omega))
end Go.Proofs.Ytojmagooapjohaa

/- Signs of sites, sums of quaternions, and which fields are small, as the program and the document's answers find it.
Conditions: those written at each theorem. -/
namespace Go.Proofs.Ytojmagooapjohaa
set_option linter.unusedVariables false
set_option linter.unusedSimpArgs false
set_option maxRecDepth 1000000
open Go.RowKit
open Um Tm Fm

set_option maxHeartbeats 1600000 in
theorem place7_any (a b c s : Int) (w : World) (h : Sz a b c) (h0 : 0 ≤ s) (h1 : s < a * b * c) : Calls Try.prog 158 #[.agg #[.int .i64 a, .int .i64 b, .int .i64 c], .int .i64 s] w fun e w' => e = .returned (.agg #[.int .i64 (s%a), .int .i64 (s/a%b), .int .i64 (s/a/b)]) ∧ Below w.heap.size w w' := by
  obtain ⟨d0, d1, d2, d3, d4, d5, -, -, -, -⟩ := div_rng h h0 h1
  obtain ⟨a1, a4, b1, b4, c1, c4, -⟩ := h
  have a0 : (a == 0) = false := by simp; omega
  have b0 : (b == 0) = false := by simp; omega
  have e1 : s.tmod a = s % a := Int.tmod_eq_emod_of_nonneg h0
  have e2 : IntKind.i64.wrap (s.tdiv a) = s / a := IntWalk.i64_quo _ _ ⟨h0, by omega, a1⟩
  have e3 : (s / a).tmod b = s / a % b := Int.tmod_eq_emod_of_nonneg d2
  have e4 : IntKind.i64.wrap ((s / a).tdiv b) = s / a / b := IntWalk.i64_quo _ _ ⟨d2, by omega, b1⟩
  have e5 : IntKind.i64.wrap (s % a) = s % a := IntWalk.i64_in _ (by have := Int.emod_nonneg s (show a ≠ 0 by omega); have := Int.emod_lt_of_pos s (show 0 < a by omega); omega)
  have e6 : IntKind.i64.wrap (s / a % b) = s / a % b := IntWalk.i64_in _ (by have := Int.emod_nonneg (s / a) (show b ≠ 0 by omega); have := Int.emod_lt_of_pos (s / a) (show 0 < b by omega); omega)
  clear h1 d0 d1 d2 d3 d4 d5
  have kc := @Tail.cell_re
  have kc1 : ∀ (W : World) (o : Obj) (d : Nat) (os : Array Obj) (a : Addr), a.block ≤ W.heap.size → (Sort.grow (redrawn (W.alloc o) d) os).cell? a = (W.alloc o).cell? a := fun W o d os a h => Tail.cell_re (W.alloc o) d os a (Nat.lt_of_le_of_lt h (by simp))
  go_enter Try.func158, Try.ntmps158
  go_wp2
  refine Tail.region_tail_below 19 (by kernel_rfl) (by kernel_rfl) ?_
  simp only [List.take_succ_cons, List.take_zero, List.drop_succ_cons, List.drop_zero]
  repeat (go_big_quiet_step (fail))
  refine wpQuiet_nil ?_
  intro w1 hw1
  have hc1 := Tail.cells hw1
  have z1 := Nat.lt_of_lt_of_le (n := w.heap.size + 1) (by simp <;> omega) hw1.size
  go_wp2
  refine bodyPost_ret (v := .agg #[.int .i64 (s%a), .int .i64 (s/a%b), .int .i64 (s/a/b)]) ?_ rfl ⟨rfl, ?_⟩
  · simp [results, Try.results158, go_sem, hc1, z1]
  · repeat (first | (with_reducible exact Below.refl _ _) | (with_reducible refine Below.setCell ?_ ?_ _) | (with_reducible refine Below.drew ?_) | (with_reducible refine Below.alloc ?_ ?_ _) | (with_reducible refine Below.trans ?_ (Below.mono hw1 ?_)) | (with_reducible exact hw1.size) | omega | (simp <;> omega) | (simp <;> (have s := hw1.size; omega)) | (have s0 := hw1.size; (try simp at s0); (try simp); omega))
set_option maxHeartbeats 1600000 in
theorem sign7_any (a b c s d : Int) (w : World) (h : Sz a b c) (h0 : 0 ≤ s) (h1 : s < a * b * c) (d0 : 0 ≤ d) (d2 : d ≤ 2) : Calls Try.prog 153 #[.agg #[.int .i64 a, .int .i64 b, .int .i64 c], .int .i64 s, .int .i64 d] w fun e w' => e = .returned (.int .i64 (sg3 a b d s)) ∧ Below w.heap.size w w' := by
  have c1 := fun W : World => place7_any a b c s W h h0 h1
  obtain ⟨-, -, -, -, -, -, x0, x1, y0, y1⟩ := div_rng h h0 h1
  clear h h0 h1
  have HS0 := Lib.hid (show sg3 a b 0 s = 1 from rfl)
  have HS1 := Lib.hid (show sg3 a b 1 s = 1 - 2 * (s % a % 2) from rfl)
  have HS2 := Lib.hid (show sg3 a b 2 s = 1 - 2 * ((s % a + s / a % b) % 2) from rfl)
  generalize s % a = x at *
  generalize s / a % b = y at *
  generalize s / a / b = z at *
  obtain rfl | rfl | rfl : d = 0 ∨ d = 1 ∨ d = 2 := by omega
  · generalize sg3 a b 0 s = r at *
    go_enter Try.func153, Try.ntmps153
    go_wp2_with ((with_reducible refine (c1 _).mono ?_); rintro e w1 ⟨rfl, hw1⟩; have zw10 := Nat.lt_of_lt_of_le (n := w.heap.size) (by simp <;> omega) hw1.size)
    refine wp_loop_rounds 1 ?_
    rw [rounds_succ]
    go_wp2
    go_ret
    exact ⟨by rw [HS0.out]; rfl, by repeat (first | (with_reducible exact Below.refl _ _) | (with_reducible refine Below.setCell ?_ ?_ _) | (with_reducible refine Below.drew ?_) | (with_reducible refine Below.alloc ?_ ?_ _) | (with_reducible refine Below.trans ?_ (Below.mono hw1 ?_)) | (with_reducible exact hw1.size) | omega | (simp <;> omega) | (simp <;> (have s := hw1.size; omega)) | (have s0 := hw1.size; (try simp at s0); (try simp); omega))⟩
  · generalize sg3 a b 1 s = r at *
    go_enter Try.func153, Try.ntmps153
    go_wp2_with ((with_reducible refine (c1 _).mono ?_); rintro e w1 ⟨rfl, hw1⟩; have zw10 := Nat.lt_of_lt_of_le (n := w.heap.size) (by simp <;> omega) hw1.size)
    refine wp_loop_rounds 2 ?_
    rw [rounds_succ]
    go_wp2
    rw [rounds_succ]
    go_wp2
    go_ret
    exact ⟨by rw [HS1.out]; rfl, by repeat (first | (with_reducible exact Below.refl _ _) | (with_reducible refine Below.setCell ?_ ?_ _) | (with_reducible refine Below.drew ?_) | (with_reducible refine Below.alloc ?_ ?_ _) | (with_reducible refine Below.trans ?_ (Below.mono hw1 ?_)) | (with_reducible exact hw1.size) | omega | (simp <;> omega) | (simp <;> (have s := hw1.size; omega)) | (have s0 := hw1.size; (try simp at s0); (try simp); omega))⟩
  · generalize sg3 a b 2 s = r at *
    go_enter Try.func153, Try.ntmps153
    go_wp2_with ((with_reducible refine (c1 _).mono ?_); rintro e w1 ⟨rfl, hw1⟩; have zw10 := Nat.lt_of_lt_of_le (n := w.heap.size) (by simp <;> omega) hw1.size)
    refine wp_loop_rounds 3 ?_
    rw [rounds_succ]
    go_wp2
    rw [rounds_succ]
    go_wp2
    rw [rounds_succ]
    go_wp2
    go_ret
    exact ⟨by rw [HS2.out]; rfl, by repeat (first | (with_reducible exact Below.refl _ _) | (with_reducible refine Below.setCell ?_ ?_ _) | (with_reducible refine Below.drew ?_) | (with_reducible refine Below.alloc ?_ ?_ _) | (with_reducible refine Below.trans ?_ (Below.mono hw1 ?_)) | (with_reducible exact hw1.size) | omega | (simp <;> omega) | (simp <;> (have s := hw1.size; omega)) | (have s0 := hw1.size; (try simp at s0); (try simp); omega))⟩
/-- the sign of a site in a direction, and the error -/
def signR (a b c s d r er : Int) : Prop := (¬ Sz a b c ∧ r = 0 ∧ er = 1) ∨ (Sz a b c ∧ ¬ (0 ≤ s ∧ s < a * b * c) ∧ r = 0 ∧ er = 4) ∨ (Sz a b c ∧ 0 ≤ s ∧ s < a * b * c ∧ ¬ (0 ≤ d ∧ d ≤ 2) ∧ r = 0 ∧ er = 1) ∨ (Sz a b c ∧ 0 ≤ s ∧ s < a * b * c ∧ 0 ≤ d ∧ d ≤ 2 ∧ r = sg3 a b d s ∧ er = 0)
theorem signR_ex (a b c s d : Int) : ∃ r er, signR a b c s d r er := by
  by_cases h : Sz a b c
  · by_cases h1 : 0 ≤ s ∧ s < a * b * c
    · by_cases h2 : 0 ≤ d ∧ d ≤ 2
      · exact ⟨_, _, .inr (.inr (.inr ⟨h, h1.1, h1.2, h2.1, h2.2, rfl, rfl⟩))⟩
      · exact ⟨_, _, .inr (.inr (.inl ⟨h, h1.1, h1.2, h2, rfl, rfl⟩))⟩
    · exact ⟨_, _, .inr (.inl ⟨h, h1, rfl, rfl⟩)⟩
  · exact ⟨_, _, .inl ⟨h, rfl, rfl⟩⟩
set_option maxHeartbeats 1600000 in
theorem signO_in (a b c s d : Int) (w : World) (h : Sz a b c) (h0 : 0 ≤ s) (h1 : s < a * b * c) (d0 : 0 ≤ d) (d2 : d ≤ 2) : Calls Try.prog 131 #[.agg #[.int .i64 a, .int .i64 b, .int .i64 c], .int .i64 s, .int .i64 d] w fun e w' => e = .returned (.tuple #[.int .i64 (sg3 a b d s), .int .i64 0]) ∧ Below w.heap.size w w' := by
  have c1 := fun W : World => place_any a b c s _ _ _ 0 W (.inr (.inr ⟨h, h0, h1, rfl, rfl, rfl, rfl⟩))
  obtain ⟨-, -, -, -, -, -, x0, x1, y0, y1⟩ := div_rng h h0 h1
  clear h h0 h1
  have HS0 := Lib.hid (show sg3 a b 0 s = 1 from rfl)
  have HS1 := Lib.hid (show sg3 a b 1 s = 1 - 2 * (s % a % 2) from rfl)
  have HS2 := Lib.hid (show sg3 a b 2 s = 1 - 2 * ((s % a + s / a % b) % 2) from rfl)
  generalize s % a = x at *
  generalize s / a % b = y at *
  generalize s / a / b = z at *
  obtain rfl | rfl | rfl : d = 0 ∨ d = 1 ∨ d = 2 := by omega
  · generalize sg3 a b 0 s = r at *
    go_enter Try.func131, Try.ntmps131
    go_wp2_with ((with_reducible refine (c1 _).mono ?_); rintro e w1 ⟨rfl, hw1⟩; have zw10 := Nat.lt_of_lt_of_le (n := w.heap.size) (by simp <;> omega) hw1.size)
    refine wp_loop_rounds 1 ?_
    rw [rounds_succ]
    go_wp2
    go_ret2
    exact ⟨by rw [HS0.out]; rfl, by repeat (first | (with_reducible exact Below.refl _ _) | (with_reducible refine Below.setCell ?_ ?_ _) | (with_reducible refine Below.drew ?_) | (with_reducible refine Below.alloc ?_ ?_ _) | (with_reducible refine Below.trans ?_ (Below.mono hw1 ?_)) | (with_reducible exact hw1.size) | omega | (simp <;> omega) | (simp <;> (have s := hw1.size; omega)) | (have s0 := hw1.size; (try simp at s0); (try simp); omega))⟩
  · generalize sg3 a b 1 s = r at *
    by_cases hp : x % 2 = 0
    · have p1 : (x % 2 != 0) = false := by simp [hp]
      have HP := Lib.hid hp
      clear hp
      go_enter Try.func131, Try.ntmps131
      go_wp2_with ((with_reducible refine (c1 _).mono ?_); rintro e w1 ⟨rfl, hw1⟩; have zw10 := Nat.lt_of_lt_of_le (n := w.heap.size) (by simp <;> omega) hw1.size)
      refine wp_loop_rounds 2 ?_
      rw [rounds_succ]
      go_wp2
      rw [rounds_succ]
      go_wp2
      go_ret2
      exact ⟨by rw [HS1.out, HP.out]; rfl, by repeat (first | (with_reducible exact Below.refl _ _) | (with_reducible refine Below.setCell ?_ ?_ _) | (with_reducible refine Below.drew ?_) | (with_reducible refine Below.alloc ?_ ?_ _) | (with_reducible refine Below.trans ?_ (Below.mono hw1 ?_)) | (with_reducible exact hw1.size) | omega | (simp <;> omega) | (simp <;> (have s := hw1.size; omega)) | (have s0 := hw1.size; (try simp at s0); (try simp); omega))⟩
    · have p1 : (x % 2 != 0) = true := by simp; omega
      have HP := Lib.hid (show x % 2 = 1 by omega)
      clear hp
      go_enter Try.func131, Try.ntmps131
      go_wp2_with ((with_reducible refine (c1 _).mono ?_); rintro e w1 ⟨rfl, hw1⟩; have zw10 := Nat.lt_of_lt_of_le (n := w.heap.size) (by simp <;> omega) hw1.size)
      refine wp_loop_rounds 2 ?_
      rw [rounds_succ]
      go_wp2
      rw [rounds_succ]
      go_wp2
      go_ret2
      exact ⟨by rw [HS1.out, HP.out]; rfl, by repeat (first | (with_reducible exact Below.refl _ _) | (with_reducible refine Below.setCell ?_ ?_ _) | (with_reducible refine Below.drew ?_) | (with_reducible refine Below.alloc ?_ ?_ _) | (with_reducible refine Below.trans ?_ (Below.mono hw1 ?_)) | (with_reducible exact hw1.size) | omega | (simp <;> omega) | (simp <;> (have s := hw1.size; omega)) | (have s0 := hw1.size; (try simp at s0); (try simp); omega))⟩
  · generalize sg3 a b 2 s = r at *
    by_cases hp : (x + y) % 2 = 0
    · have p1 : ((x + y) % 2 != 0) = false := by simp [hp]
      have HP := Lib.hid hp
      clear hp
      go_enter Try.func131, Try.ntmps131
      go_wp2_with ((with_reducible refine (c1 _).mono ?_); rintro e w1 ⟨rfl, hw1⟩; have zw10 := Nat.lt_of_lt_of_le (n := w.heap.size) (by simp <;> omega) hw1.size)
      refine wp_loop_rounds 3 ?_
      rw [rounds_succ]
      go_wp2
      rw [rounds_succ]
      go_wp2
      rw [rounds_succ]
      go_wp2
      go_ret2
      exact ⟨by rw [HS2.out, HP.out]; rfl, by repeat (first | (with_reducible exact Below.refl _ _) | (with_reducible refine Below.setCell ?_ ?_ _) | (with_reducible refine Below.drew ?_) | (with_reducible refine Below.alloc ?_ ?_ _) | (with_reducible refine Below.trans ?_ (Below.mono hw1 ?_)) | (with_reducible exact hw1.size) | omega | (simp <;> omega) | (simp <;> (have s := hw1.size; omega)) | (have s0 := hw1.size; (try simp at s0); (try simp); omega))⟩
    · have p1 : ((x + y) % 2 != 0) = true := by simp; omega
      have HP := Lib.hid (show (x + y) % 2 = 1 by omega)
      clear hp
      go_enter Try.func131, Try.ntmps131
      go_wp2_with ((with_reducible refine (c1 _).mono ?_); rintro e w1 ⟨rfl, hw1⟩; have zw10 := Nat.lt_of_lt_of_le (n := w.heap.size) (by simp <;> omega) hw1.size)
      refine wp_loop_rounds 3 ?_
      rw [rounds_succ]
      go_wp2
      rw [rounds_succ]
      go_wp2
      rw [rounds_succ]
      go_wp2
      go_ret2
      exact ⟨by rw [HS2.out, HP.out]; rfl, by repeat (first | (with_reducible exact Below.refl _ _) | (with_reducible refine Below.setCell ?_ ?_ _) | (with_reducible refine Below.drew ?_) | (with_reducible refine Below.alloc ?_ ?_ _) | (with_reducible refine Below.trans ?_ (Below.mono hw1 ?_)) | (with_reducible exact hw1.size) | omega | (simp <;> omega) | (simp <;> (have s := hw1.size; omega)) | (have s0 := hw1.size; (try simp at s0); (try simp); omega))⟩
set_option maxHeartbeats 1600000 in
theorem signO_any (a b c s d r er : Int) (w : World) (h : signR a b c s d r er) : Calls Try.prog 131 #[.agg #[.int .i64 a, .int .i64 b, .int .i64 c], .int .i64 s, .int .i64 d] w fun e w' => e = .returned (.tuple #[.int .i64 r, .int .i64 er]) ∧ Below w.heap.size w w' := by
  rcases h with ⟨h, rfl, rfl⟩ | ⟨h, hs, rfl, rfl⟩ | ⟨h, h0, h1, hd, rfl, rfl⟩ | ⟨h, h0, h1, d0, d2, rfl, rfl⟩
  · have c1 := fun W : World => place_any a b c s _ _ _ 1 W (.inl ⟨h, rfl, rfl, rfl, rfl⟩)
    clear h
    go_enter Try.func131, Try.ntmps131
    go_wp2_with ((with_reducible refine (c1 _).mono ?_); rintro e w1 ⟨rfl, hw1⟩)
    go_ret2
    exact ⟨rfl, by repeat (first | (with_reducible exact Below.refl _ _) | (with_reducible refine Below.setCell ?_ ?_ _) | (with_reducible refine Below.drew ?_) | (with_reducible refine Below.alloc ?_ ?_ _) | (with_reducible refine Below.trans ?_ (Below.mono hw1 ?_)) | (with_reducible exact hw1.size) | omega | (simp <;> omega) | (simp <;> (have s := hw1.size; omega)) | (have s0 := hw1.size; (try simp at s0); (try simp); omega))⟩
  · have c1 := fun W : World => place_any a b c s _ _ _ 4 W (.inr (.inl ⟨h, hs, rfl, rfl, rfl, rfl⟩))
    clear h hs
    go_enter Try.func131, Try.ntmps131
    go_wp2_with ((with_reducible refine (c1 _).mono ?_); rintro e w1 ⟨rfl, hw1⟩)
    go_ret2
    exact ⟨rfl, by repeat (first | (with_reducible exact Below.refl _ _) | (with_reducible refine Below.setCell ?_ ?_ _) | (with_reducible refine Below.drew ?_) | (with_reducible refine Below.alloc ?_ ?_ _) | (with_reducible refine Below.trans ?_ (Below.mono hw1 ?_)) | (with_reducible exact hw1.size) | omega | (simp <;> omega) | (simp <;> (have s := hw1.size; omega)) | (have s0 := hw1.size; (try simp at s0); (try simp); omega))⟩
  · have c1 := fun W : World => place_any a b c s _ _ _ 0 W (.inr (.inr ⟨h, h0, h1, rfl, rfl, rfl, rfl⟩))
    clear h h0 h1
    generalize s % a = x at *
    generalize s / a % b = y at *
    generalize s / a / b = z at *
    by_cases hd0 : d < 0
    · clear hd
      go_enter Try.func131, Try.ntmps131
      go_wp2_with ((with_reducible refine (c1 _).mono ?_); rintro e w1 ⟨rfl, hw1⟩)
      go_ret2
      exact ⟨rfl, by repeat (first | (with_reducible exact Below.refl _ _) | (with_reducible refine Below.setCell ?_ ?_ _) | (with_reducible refine Below.drew ?_) | (with_reducible refine Below.alloc ?_ ?_ _) | (with_reducible refine Below.trans ?_ (Below.mono hw1 ?_)) | (with_reducible exact hw1.size) | omega | (simp <;> omega) | (simp <;> (have s := hw1.size; omega)) | (have s0 := hw1.size; (try simp at s0); (try simp); omega))⟩
    · have hd3 : d ≥ 3 := by omega
      clear hd
      go_enter Try.func131, Try.ntmps131
      go_wp2_with ((with_reducible refine (c1 _).mono ?_); rintro e w1 ⟨rfl, hw1⟩)
      go_ret2
      exact ⟨rfl, by repeat (first | (with_reducible exact Below.refl _ _) | (with_reducible refine Below.setCell ?_ ?_ _) | (with_reducible refine Below.drew ?_) | (with_reducible refine Below.alloc ?_ ?_ _) | (with_reducible refine Below.trans ?_ (Below.mono hw1 ?_)) | (with_reducible exact hw1.size) | omega | (simp <;> omega) | (simp <;> (have s := hw1.size; omega)) | (have s0 := hw1.size; (try simp at s0); (try simp); omega))⟩
  · exact signO_in a b c s d w h h0 h1 d0 d2
set_option maxHeartbeats 800000 in
theorem bar4_any (u : Q) (w : World) (hn : u.b = 0 ∨ True) (rb : -100 ≤ u.b ∧ u.b ≤ 100) (rc : -100 ≤ u.c ∧ u.c ≤ 100) (rd : -100 ≤ u.d ∧ u.d ≤ 100) : Calls Try.prog 154 #[.agg #[.int .i64 u.a, .int .i64 u.b, .int .i64 u.c, .int .i64 u.d, .int .i64 u.n]] w fun e w' => e = .returned (.agg #[.int .i64 (bar u).a, .int .i64 (bar u).b, .int .i64 (bar u).c, .int .i64 (bar u).d, .int .i64 (bar u).n]) ∧ Below w.heap.size w w' := by
  obtain ⟨rb1, rb2⟩ := rb
  obtain ⟨rc1, rc2⟩ := rc
  obtain ⟨rd1, rd2⟩ := rd
  clear hn
  go_enter Try.func154, Try.ntmps154
  go_wp2
  refine bodyPost_ret (v := .agg #[.int .i64 (bar u).a, .int .i64 (bar u).b, .int .i64 (bar u).c, .int .i64 (bar u).d, .int .i64 (bar u).n]) ?_ rfl ⟨rfl, ?_⟩
  · simp [results, Try.results154, go_sem, bar]
  · repeat (first | (with_reducible exact Below.refl _ _) | (with_reducible refine Below.setCell ?_ ?_ _) | (with_reducible refine Below.drew ?_) | (with_reducible refine Below.alloc ?_ ?_ _) | omega | (simp <;> omega))
set_option maxHeartbeats 800000 in
theorem within7_any (n lo hi : Int) (w : World) (r : Bool) (h : (lo ≤ n ∧ n ≤ hi ∧ r = true) ∨ (¬ (lo ≤ n ∧ n ≤ hi) ∧ r = false)) :
    Calls Try.prog 106 #[.int .i64 n, .int .i64 lo, .int .i64 hi] w fun e w' => e = .returned (.bool r) ∧ w = w' := by
  rcases h with ⟨a, b, rfl⟩ | ⟨h, rfl⟩
  · go_enter Try.func106, Try.ntmps106
    go_wp2
    go_ret
    exact ⟨rfl, rfl⟩
  · by_cases a : lo ≤ n
    · have b : ¬ n ≤ hi := fun b => h ⟨a, b⟩
      clear h
      go_enter Try.func106, Try.ntmps106
      go_wp2
      go_ret
      exact ⟨rfl, rfl⟩
    · clear h
      go_enter Try.func106, Try.ntmps106
      go_wp2
      go_ret
      exact ⟨rfl, rfl⟩
/-- a mass -/
def IsM (m : Int) : Prop := 1 ≤ m ∧ m ≤ 10
set_option maxHeartbeats 800000 in
theorem isMass_any (m : Int) (w : World) (r : Bool) (h : (IsM m ∧ r = true) ∨ (¬ IsM m ∧ r = false)) :
    Calls Try.prog 66 #[.int .i64 m] w fun e w' => e = .returned (.bool r) ∧ w = w' := by
  rcases h with ⟨⟨a, b⟩, rfl⟩ | ⟨h, rfl⟩
  · go_enter Try.func66, Try.ntmps66
    go_wp2
    go_ret
    exact ⟨rfl, rfl⟩
  · by_cases a : 1 ≤ m
    · have b : ¬ m ≤ 10 := fun b => h ⟨a, b⟩
      clear h
      go_enter Try.func66, Try.ntmps66
      go_wp2
      go_ret
      exact ⟨rfl, rfl⟩
    · clear h
      go_enter Try.func66, Try.ntmps66
      go_wp2
      go_ret
      exact ⟨rfl, rfl⟩
set_option maxHeartbeats 800000 in
theorem refIsSmall_bad (a b c r : Int) (ao : Option Addr) (cap : Nat) (L : List Q) (w : World) (h : LiesO w ao L) (hr : fldR a b c L r) (h0 : r ≠ 0) (hlen : L.length ≤ 1000000) : Calls Try.prog 149 #[.agg #[.int .i64 a, .int .i64 b, .int .i64 c, .slice ao L.length cap]] w fun e w' => e = .returned (.tuple #[.bool false, .int .i64 r]) ∧ Below w.heap.size w w' := by
  have c1 : ∀ W : World, LiesO W ao L → Calls Try.prog 156 #[.agg #[.int .i64 a, .int .i64 b, .int .i64 c, .slice ao L.length cap]] W fun e w' => e = .returned (.int .i64 r) ∧ Below W.heap.size W w' := fun W h => refValidateF_any a b c r ao cap L W h hr hlen
  have H := Lib.hid h
  have h0' : (r != 0) = true := by simpa using h0
  clear h hr h0
  go_enter Try.func149, Try.ntmps149
  go_wp2_with ((with_reducible refine (c1 _ (H.out.later (by repeat (first | (with_reducible exact Below.refl _ _) | (with_reducible refine Below.setCell ?_ ?_ _) | (with_reducible refine Below.drew ?_) | (with_reducible refine Below.alloc ?_ ?_ _) | omega | (simp <;> omega))))).mono ?_); rintro e w1 ⟨rfl, hw1⟩)
  go_ret2
  exact ⟨rfl, by repeat (first | (with_reducible exact Below.refl _ _) | (with_reducible refine Below.setCell ?_ ?_ _) | (with_reducible refine Below.drew ?_) | (with_reducible refine Below.alloc ?_ ?_ _) | (with_reducible refine Below.trans ?_ (Below.mono hw1 ?_)) | (with_reducible exact hw1.size) | omega | (simp <;> omega) | (simp <;> (have s := hw1.size; omega)) | (have s0 := hw1.size; (try simp at s0); (try simp); omega))⟩
set_option maxHeartbeats 800000 in
theorem refIsSmall_ok (a b c : Int) (ao : Option Addr) (cap : Nat) (L : List Q) (ns : List Int) (q : Bool) (w : World) (h : LiesO w ao L) (hr : fldR a b c L 0) (hq : smR L ns q) : Calls Try.prog 149 #[.agg #[.int .i64 a, .int .i64 b, .int .i64 c, .slice ao L.length cap]] w fun e w' => e = .returned (.tuple #[.bool q, .int .i64 0]) ∧ Below w.heap.size w w' := by
  have H := Lib.hid h
  have hlen := fld_len hr
  have c1 : ∀ W : World, LiesO W ao L → Calls Try.prog 156 #[.agg #[.int .i64 a, .int .i64 b, .int .i64 c, .slice ao L.length cap]] W fun e w' => e = .returned (.int .i64 0) ∧ Below W.heap.size W w' := fun W h => refValidateF_any a b c 0 ao cap L W h hr (by omega)
  have c2 : ∀ W : World, LiesO W ao L → Calls Try.prog 157 #[.agg #[.int .i64 a, .int .i64 b, .int .i64 c, .slice ao L.length cap]] W fun e w' => ∃ v, e = .returned (.tuple #[v, .bool q]) ∧ Below W.heap.size W w' := fun W h => (letters_ok a b c ao cap L ns q W h hr hq).mono fun e w' ⟨hh, hb⟩ => by
    rcases hh with ⟨rfl, a2, k, he, hl⟩ | ⟨rfl, he⟩
    · exact ⟨_, he, hb⟩
    · exact ⟨_, he, hb⟩
  clear h hr hq
  go_enter Try.func149, Try.ntmps149
  go_wp2_with (first | ((with_reducible refine (c1 _ (H.out.later (by repeat (first | (with_reducible exact Below.refl _ _) | (with_reducible refine Below.setCell ?_ ?_ _) | (with_reducible refine Below.drew ?_) | (with_reducible refine Below.alloc ?_ ?_ _) | omega | (simp <;> omega))))).mono ?_); clear c1; rintro e w1 ⟨rfl, hw1⟩; have hc1 := Tail.cells hw1; have z0 := Nat.lt_of_lt_of_le (n := w.heap.size) (by simp) hw1.size) | ((with_reducible refine (c2 _ (H.out.later (by repeat (first | (with_reducible exact Below.refl _ _) | (with_reducible refine Below.setCell ?_ ?_ _) | (with_reducible refine Below.drew ?_) | (with_reducible refine Below.alloc ?_ ?_ _) | (with_reducible refine Below.trans ?_ (Below.mono hw1 ?_)) | (with_reducible exact hw1.size) | omega | (simp <;> omega) | (simp <;> (have s := hw1.size; omega)) | (have s0 := hw1.size; (try simp at s0); (try simp); omega))))).mono ?_); clear c2; rintro e w2 ⟨v2, rfl, hw2⟩))
  go_ret2
  exact ⟨rfl, by repeat (first | (with_reducible exact Below.refl _ _) | (with_reducible refine Below.setCell ?_ ?_ _) | (with_reducible refine Below.drew ?_) | (with_reducible refine Below.alloc ?_ ?_ _) | (with_reducible refine Below.trans ?_ (Below.mono hw2 ?_)) | (with_reducible refine Below.trans ?_ (Below.mono hw1 ?_)) | (with_reducible exact hw2.size) | (with_reducible exact hw1.size) | omega | (simp <;> omega) | (simp <;> (have s := hw2.size; omega)) | (simp <;> (have s := hw1.size; omega)) | (have s0 := hw2.size; (try simp at s0); have s1 := hw1.size; (try simp at s1); (try simp); omega))⟩
set_option maxHeartbeats 800000 in
theorem little_any (a b c r : Int) (ao : Option Addr) (cap : Nat) (L : List Q) (ns : List Int) (w : World) (h : LiesO w ao L) (hr : numsR a b c L ns r) (hlen : L.length ≤ 1000000) : Calls Try.prog 146 #[.agg #[.int .i64 a, .int .i64 b, .int .i64 c, .slice ao L.length cap]] w fun e w' => e = .returned (.int .i64 r) ∧ Below w.heap.size w w' := by
  have H := Lib.hid h
  rcases hr with ⟨hr, h0, rfl⟩ | ⟨hr, ⟨hq, rfl⟩ | ⟨hq, rfl⟩⟩
  · have c1 : ∀ W : World, LiesO W ao L → Calls Try.prog 149 #[.agg #[.int .i64 a, .int .i64 b, .int .i64 c, .slice ao L.length cap]] W fun e w' => e = .returned (.tuple #[.bool false, .int .i64 r]) ∧ Below W.heap.size W w' := fun W h => refIsSmall_bad a b c r ao cap L W h hr h0 hlen
    have h0' : (r != 0) = true := by simpa using h0
    clear h hr h0
    go_enter Try.func146, Try.ntmps146
    go_wp2_with ((with_reducible refine (c1 _ (H.out.later (by repeat (first | (with_reducible exact Below.refl _ _) | (with_reducible refine Below.setCell ?_ ?_ _) | (with_reducible refine Below.drew ?_) | (with_reducible refine Below.alloc ?_ ?_ _) | omega | (simp <;> omega))))).mono ?_); rintro e w1 ⟨rfl, hw1⟩)
    go_ret
    exact ⟨rfl, by repeat (first | (with_reducible exact Below.refl _ _) | (with_reducible refine Below.setCell ?_ ?_ _) | (with_reducible refine Below.drew ?_) | (with_reducible refine Below.alloc ?_ ?_ _) | (with_reducible refine Below.trans ?_ (Below.mono hw1 ?_)) | (with_reducible exact hw1.size) | omega | (simp <;> omega) | (simp <;> (have s := hw1.size; omega)) | (have s0 := hw1.size; (try simp at s0); (try simp); omega))⟩
  · have c1 : ∀ W : World, LiesO W ao L → Calls Try.prog 149 #[.agg #[.int .i64 a, .int .i64 b, .int .i64 c, .slice ao L.length cap]] W fun e w' => e = .returned (.tuple #[.bool true, .int .i64 0]) ∧ Below W.heap.size W w' := fun W h => refIsSmall_ok a b c ao cap L ns true W h hr hq
    clear h hr hq
    go_enter Try.func146, Try.ntmps146
    go_wp2_with ((with_reducible refine (c1 _ (H.out.later (by repeat (first | (with_reducible exact Below.refl _ _) | (with_reducible refine Below.setCell ?_ ?_ _) | (with_reducible refine Below.drew ?_) | (with_reducible refine Below.alloc ?_ ?_ _) | omega | (simp <;> omega))))).mono ?_); rintro e w1 ⟨rfl, hw1⟩)
    go_ret
    exact ⟨rfl, by repeat (first | (with_reducible exact Below.refl _ _) | (with_reducible refine Below.setCell ?_ ?_ _) | (with_reducible refine Below.drew ?_) | (with_reducible refine Below.alloc ?_ ?_ _) | (with_reducible refine Below.trans ?_ (Below.mono hw1 ?_)) | (with_reducible exact hw1.size) | omega | (simp <;> omega) | (simp <;> (have s := hw1.size; omega)) | (have s0 := hw1.size; (try simp at s0); (try simp); omega))⟩
  · have c1 : ∀ W : World, LiesO W ao L → Calls Try.prog 149 #[.agg #[.int .i64 a, .int .i64 b, .int .i64 c, .slice ao L.length cap]] W fun e w' => e = .returned (.tuple #[.bool false, .int .i64 0]) ∧ Below W.heap.size W w' := fun W h => refIsSmall_ok a b c ao cap L ns false W h hr hq
    clear h hr hq
    go_enter Try.func146, Try.ntmps146
    go_wp2_with ((with_reducible refine (c1 _ (H.out.later (by repeat (first | (with_reducible exact Below.refl _ _) | (with_reducible refine Below.setCell ?_ ?_ _) | (with_reducible refine Below.drew ?_) | (with_reducible refine Below.alloc ?_ ?_ _) | omega | (simp <;> omega))))).mono ?_); rintro e w1 ⟨rfl, hw1⟩)
    go_ret
    exact ⟨rfl, by repeat (first | (with_reducible exact Below.refl _ _) | (with_reducible refine Below.setCell ?_ ?_ _) | (with_reducible refine Below.drew ?_) | (with_reducible refine Below.alloc ?_ ?_ _) | (with_reducible refine Below.trans ?_ (Below.mono hw1 ?_)) | (with_reducible exact hw1.size) | omega | (simp <;> omega) | (simp <;> (have s := hw1.size; omega)) | (have s0 := hw1.size; (try simp at s0); (try simp); omega))⟩
end Go.Proofs.Ytojmagooapjohaa

/- Which vectors of quaternions are right, as the program and the document's answers find it, and how a vector is read off an argument.
Conditions: the lists lie in memory as it is written at each theorem. -/
namespace Go.Proofs.Ytojmagooapjohaa
set_option linter.unusedVariables false
set_option linter.unusedSimpArgs false
set_option maxRecDepth 1000000
open Go.RowKit
open Um Tm Fm

/-- all entries are in range -/
def InS (m : Int) (x : Sp) : Prop := (-m ≤ x.a ∧ x.a ≤ m) ∧ (-m ≤ x.b ∧ x.b ≤ m) ∧ (-m ≤ x.c ∧ x.c ≤ m) ∧ (-m ≤ x.d ∧ x.d ≤ m)
instance (m : Int) (x : Sp) : Decidable (InS m x) := by unfold InS; infer_instance
def AllE (m : Int) (M : List Sp) : Prop := ∀ (i : Nat) (x : Sp), M[i]? = some x → InS m x
theorem alle_next {m : Int} {M : List Sp} {k : Nat} {x : Sp} (h : ∀ (i : Nat) (y : Sp), i < k → M[i]? = some y → InS m y) (hx : M[k]? = some x) (hi : InS m x) : ∀ (i : Nat) (y : Sp), i < k + 1 → M[i]? = some y → InS m y := fun i y hl hy => by
  by_cases h1 : i < k
  · exact h i y h1 hy
  · obtain rfl : i = k := by omega
    rw [hx] at hy
    cases hy
    exact hi
theorem ins_bad {m : Int} {x : Sp} (h : ¬ InS m x) : (x.a < -m) ∨ (¬ x.a < -m ∧ x.a > m) ∨ (¬ x.a < -m ∧ ¬ x.a > m ∧ x.b < -m) ∨ (¬ x.a < -m ∧ ¬ x.a > m ∧ ¬ x.b < -m ∧ x.b > m) ∨ (¬ x.a < -m ∧ ¬ x.a > m ∧ ¬ x.b < -m ∧ ¬ x.b > m ∧ x.c < -m) ∨ (¬ x.a < -m ∧ ¬ x.a > m ∧ ¬ x.b < -m ∧ ¬ x.b > m ∧ ¬ x.c < -m ∧ x.c > m) ∨ (¬ x.a < -m ∧ ¬ x.a > m ∧ ¬ x.b < -m ∧ ¬ x.b > m ∧ ¬ x.c < -m ∧ ¬ x.c > m ∧ x.d < -m) ∨ (¬ x.a < -m ∧ ¬ x.a > m ∧ ¬ x.b < -m ∧ ¬ x.b > m ∧ ¬ x.c < -m ∧ ¬ x.c > m ∧ ¬ x.d < -m ∧ x.d > m) := by
  unfold InS at h; omega
theorem ins_good {m : Int} {x : Sp} (h : InS m x) : ¬ x.a < -m ∧ ¬ x.a > m ∧ ¬ x.b < -m ∧ ¬ x.b > m ∧ ¬ x.c < -m ∧ ¬ x.c > m ∧ ¬ x.d < -m ∧ ¬ x.d > m := by
  unfold InS at h; omega
theorem lies_some {w : World} {po : Option Addr} {M : List Sp} {x : Sp} {k : Nat} (h : LiesOI w po (fl M)) (hx : M[k]? = some x) : ∃ b off, po = some ⟨b, off, none⟩ ∧ LiesI w b off (fl M) := by
  rcases h with h | h
  · have := (fl_four hx).1
    rw [h] at this
    simp at this
  · exact h
/-- whether all entries are in range -/
def inR (m : Int) (M : List Sp) (r : Bool) : Prop := (AllE m M ∧ r = true) ∨ (¬ AllE m M ∧ r = false)
theorem inR_ex (m : Int) (M : List Sp) : ∃ r, inR m M r := by
  by_cases h : AllE m M
  · exact ⟨true, .inl ⟨h, rfl⟩⟩
  · exact ⟨false, .inr ⟨h, rfl⟩⟩
set_option maxHeartbeats 3200000 in
theorem isWithin7_any (most : Int) (po : Option Addr) (M : List Sp) (cap : Nat) (w : World) (r : Bool) (h : LiesOI w po (fl M)) (m0 : 0 ≤ most) (m1 : most ≤ 268435456) (hlen : M.length ≤ 1000000) (hr : inR most M r) : Calls Try.prog 56 #[.slice po M.length cap, .int .i64 most] w fun e w' => e = .returned (.bool r) ∧ Below w.heap.size w w' := by
  have HP := Lib.hid h
  have HR := Lib.hid hr
  clear h hr
  go_enter Try.func56, Try.ntmps56
  go_wp2
  go_loopw [6, 8, 11] (fun _ _ q wr => ∃ k : Nat, k ≤ M.length ∧ q = .int .i64 k ∧ Hid (∀ (i : Nat) (x : Sp), i < k → M[i]? = some x → InS most x) ∧ Below w.heap.size w wr) (fun _ _ q _ => M.length - (intOf q).toNat)
  case atStart => exact ⟨0, by omega, rfl, Lib.hid (by omega), by repeat (first | (with_reducible exact Below.refl _ _) | (with_reducible refine Below.setCell ?_ ?_ _) | (with_reducible refine Below.drew ?_) | (with_reducible refine Below.alloc ?_ ?_ _) | omega | (simp <;> omega))⟩
  case round =>
    obtain ⟨k, hk, rfl, hall, hb⟩ := hrel
    by_cases hlt : k < M.length
    · obtain ⟨pb, off, rfl, hpl⟩ := lies_some HP.out (List.getElem?_eq_getElem hlt)
      have i1 : (k : Int) < (M.length : Int) := by omega
      obtain ⟨x0, x1, x2, x3⟩ := four_at (hpl.later hb) (List.getElem?_eq_getElem hlt)
      have hn := fun h => alle_next hall.out (List.getElem?_eq_getElem hlt) h
      have hno : ¬ InS most M[k] → r = false := fun h => by
        rcases HR.out with ⟨g, -⟩ | ⟨-, g⟩
        · exact absurd (g k _ (List.getElem?_eq_getElem hlt)) h
        · exact g
      generalize M[k] = x at *
      have j0 := ixS0 x.a x.b x.c x.d
      have j1 := ixS1 x.a x.b x.c x.d
      have j2 := ixS2 x.a x.b x.c x.d
      have j3 := ixS3 x.a x.b x.c x.d
      by_cases hin : InS most x
      · have HN := Lib.hid (hn hin)
        obtain ⟨g0, g1, g2, g3, g4, g5, g6, g7⟩ := ins_good hin
        clear hn hno hin hall hpl
        go_wp2
        refine wp_loop_rounds 5 ?_
        rw [rounds_succ]
        go_wp2
        rw [rounds_succ]
        go_wp2
        rw [rounds_succ]
        go_wp2
        rw [rounds_succ]
        go_wp2
        rw [rounds_succ]
        go_wp2
        exact ⟨⟨k + 1, by omega, by go_num, Lib.hid HN.out, by repeat (first | (with_reducible exact Below.refl _ _) | (with_reducible refine Below.setCell ?_ ?_ _) | (with_reducible refine Below.drew ?_) | (with_reducible refine Below.alloc ?_ ?_ _) | (with_reducible refine Below.trans ?_ (Below.mono hb ?_)) | (with_reducible exact hb.size) | omega | (simp <;> omega) | (simp <;> (have s := hb.size; omega)) | (have s0 := hb.size; (try simp at s0); (try simp); omega))⟩, by simp [intOf]; omega⟩
      · obtain rfl := hno hin
        have hbad := ins_bad hin
        clear hn hno hin hall hpl
        rcases hbad with ⟨g0⟩ | ⟨g0, g1⟩ | ⟨g0, g1, g2⟩ | ⟨g0, g1, g2, g3⟩ | ⟨g0, g1, g2, g3, g4⟩ | ⟨g0, g1, g2, g3, g4, g5⟩ | ⟨g0, g1, g2, g3, g4, g5, g6⟩ | ⟨g0, g1, g2, g3, g4, g5, g6, g7⟩
        · go_wp2
          refine wp_loop_rounds 1 ?_
          rw [rounds_succ]
          go_wp2
          go_ret
          exact ⟨rfl, by repeat (first | (with_reducible exact Below.refl _ _) | (with_reducible refine Below.setCell ?_ ?_ _) | (with_reducible refine Below.drew ?_) | (with_reducible refine Below.alloc ?_ ?_ _) | (with_reducible refine Below.trans ?_ (Below.mono hb ?_)) | (with_reducible exact hb.size) | omega | (simp <;> omega) | (simp <;> (have s := hb.size; omega)) | (have s0 := hb.size; (try simp at s0); (try simp); omega))⟩
        · go_wp2
          refine wp_loop_rounds 1 ?_
          rw [rounds_succ]
          go_wp2
          go_ret
          exact ⟨rfl, by repeat (first | (with_reducible exact Below.refl _ _) | (with_reducible refine Below.setCell ?_ ?_ _) | (with_reducible refine Below.drew ?_) | (with_reducible refine Below.alloc ?_ ?_ _) | (with_reducible refine Below.trans ?_ (Below.mono hb ?_)) | (with_reducible exact hb.size) | omega | (simp <;> omega) | (simp <;> (have s := hb.size; omega)) | (have s0 := hb.size; (try simp at s0); (try simp); omega))⟩
        · go_wp2
          refine wp_loop_rounds 2 ?_
          rw [rounds_succ]
          go_wp2
          rw [rounds_succ]
          go_wp2
          go_ret
          exact ⟨rfl, by repeat (first | (with_reducible exact Below.refl _ _) | (with_reducible refine Below.setCell ?_ ?_ _) | (with_reducible refine Below.drew ?_) | (with_reducible refine Below.alloc ?_ ?_ _) | (with_reducible refine Below.trans ?_ (Below.mono hb ?_)) | (with_reducible exact hb.size) | omega | (simp <;> omega) | (simp <;> (have s := hb.size; omega)) | (have s0 := hb.size; (try simp at s0); (try simp); omega))⟩
        · go_wp2
          refine wp_loop_rounds 2 ?_
          rw [rounds_succ]
          go_wp2
          rw [rounds_succ]
          go_wp2
          go_ret
          exact ⟨rfl, by repeat (first | (with_reducible exact Below.refl _ _) | (with_reducible refine Below.setCell ?_ ?_ _) | (with_reducible refine Below.drew ?_) | (with_reducible refine Below.alloc ?_ ?_ _) | (with_reducible refine Below.trans ?_ (Below.mono hb ?_)) | (with_reducible exact hb.size) | omega | (simp <;> omega) | (simp <;> (have s := hb.size; omega)) | (have s0 := hb.size; (try simp at s0); (try simp); omega))⟩
        · go_wp2
          refine wp_loop_rounds 3 ?_
          rw [rounds_succ]
          go_wp2
          rw [rounds_succ]
          go_wp2
          rw [rounds_succ]
          go_wp2
          go_ret
          exact ⟨rfl, by repeat (first | (with_reducible exact Below.refl _ _) | (with_reducible refine Below.setCell ?_ ?_ _) | (with_reducible refine Below.drew ?_) | (with_reducible refine Below.alloc ?_ ?_ _) | (with_reducible refine Below.trans ?_ (Below.mono hb ?_)) | (with_reducible exact hb.size) | omega | (simp <;> omega) | (simp <;> (have s := hb.size; omega)) | (have s0 := hb.size; (try simp at s0); (try simp); omega))⟩
        · go_wp2
          refine wp_loop_rounds 3 ?_
          rw [rounds_succ]
          go_wp2
          rw [rounds_succ]
          go_wp2
          rw [rounds_succ]
          go_wp2
          go_ret
          exact ⟨rfl, by repeat (first | (with_reducible exact Below.refl _ _) | (with_reducible refine Below.setCell ?_ ?_ _) | (with_reducible refine Below.drew ?_) | (with_reducible refine Below.alloc ?_ ?_ _) | (with_reducible refine Below.trans ?_ (Below.mono hb ?_)) | (with_reducible exact hb.size) | omega | (simp <;> omega) | (simp <;> (have s := hb.size; omega)) | (have s0 := hb.size; (try simp at s0); (try simp); omega))⟩
        · go_wp2
          refine wp_loop_rounds 4 ?_
          rw [rounds_succ]
          go_wp2
          rw [rounds_succ]
          go_wp2
          rw [rounds_succ]
          go_wp2
          rw [rounds_succ]
          go_wp2
          go_ret
          exact ⟨rfl, by repeat (first | (with_reducible exact Below.refl _ _) | (with_reducible refine Below.setCell ?_ ?_ _) | (with_reducible refine Below.drew ?_) | (with_reducible refine Below.alloc ?_ ?_ _) | (with_reducible refine Below.trans ?_ (Below.mono hb ?_)) | (with_reducible exact hb.size) | omega | (simp <;> omega) | (simp <;> (have s := hb.size; omega)) | (have s0 := hb.size; (try simp at s0); (try simp); omega))⟩
        · go_wp2
          refine wp_loop_rounds 4 ?_
          rw [rounds_succ]
          go_wp2
          rw [rounds_succ]
          go_wp2
          rw [rounds_succ]
          go_wp2
          rw [rounds_succ]
          go_wp2
          go_ret
          exact ⟨rfl, by repeat (first | (with_reducible exact Below.refl _ _) | (with_reducible refine Below.setCell ?_ ?_ _) | (with_reducible refine Below.drew ?_) | (with_reducible refine Below.alloc ?_ ?_ _) | (with_reducible refine Below.trans ?_ (Below.mono hb ?_)) | (with_reducible exact hb.size) | omega | (simp <;> omega) | (simp <;> (have s := hb.size; omega)) | (have s0 := hb.size; (try simp at s0); (try simp); omega))⟩
    · obtain rfl : k = M.length := by omega
      obtain rfl : r = true := by
        rcases HR.out with ⟨-, g⟩ | ⟨g, -⟩
        · exact g
        · exact absurd (fun i x hx => hall.out i x (List.getElem?_eq_some_iff.1 hx).1 hx) g
      clear hall
      go_wp2
      go_ret
      exact ⟨rfl, hb⟩
/-- the error of a list as a vector of a field with m links -/
def vecR (m : Nat) (M : List Sp) (most r : Int) : Prop := (M.length * 3 ≠ m ∧ r = 1) ∨ (M.length * 3 = m ∧ AllE most M ∧ r = 0) ∨ (M.length * 3 = m ∧ ¬ AllE most M ∧ r = 1)
theorem vecR_ex (m : Nat) (M : List Sp) (most : Int) : ∃ r, vecR m M most r := by
  by_cases h1 : M.length * 3 = m
  · by_cases h2 : AllE most M
    · exact ⟨0, .inr (.inl ⟨h1, h2, rfl⟩)⟩
    · exact ⟨1, .inr (.inr ⟨h1, h2, rfl⟩)⟩
  · exact ⟨1, .inl ⟨h1, rfl⟩⟩
def wnB (m n : Int) : Bool := decide (-m ≤ n ∧ n ≤ m)
theorem wn_true {m n : Int} (h : wnB m n = true) : -m ≤ n ∧ n ≤ m := of_decide_eq_true h
theorem wn_false {m n : Int} (h : wnB m n = false) : ¬ (-m ≤ n ∧ n ≤ m) := of_decide_eq_false h
theorem wn_any (m n : Int) (w : World) (q : Bool) (h : wnB m n = q) : Calls Try.prog 106 #[.int .i64 n, .int .i64 (-m), .int .i64 m] w fun e w' => e = .returned (.bool q) ∧ w = w' := by
  refine within7_any n (-m) m w q ?_
  cases q with
  | true => have := wn_true h; exact .inl ⟨this.1, this.2, rfl⟩
  | false => exact .inr ⟨wn_false h, rfl⟩
theorem ins_wn {m : Int} {x : Sp} : InS m x ↔ wnB m x.a = true ∧ wnB m x.b = true ∧ wnB m x.c = true ∧ wnB m x.d = true := by
  unfold InS wnB; simp only [decide_eq_true_eq]
theorem ins_four {m : Int} {x : Sp} (h : ¬ InS m x) : wnB m x.a = false ∨ (wnB m x.a = true ∧ wnB m x.b = false) ∨ (wnB m x.a = true ∧ wnB m x.b = true ∧ wnB m x.c = false) ∨ (wnB m x.a = true ∧ wnB m x.b = true ∧ wnB m x.c = true ∧ wnB m x.d = false) := by
  rw [ins_wn] at h
  cases h1 : wnB m x.a <;> cases h2 : wnB m x.b <;> cases h3 : wnB m x.c <;> cases h4 : wnB m x.d <;> simp_all
set_option maxHeartbeats 3200000 in
theorem vector_any (a b c most r : Int) (ao po : Option Addr) (cap pc : Nat) (L : List Q) (M : List Sp) (w : World) (h : LiesOI w po (fl M)) (m0 : 0 ≤ most) (m1 : most ≤ 268435456) (hlen : M.length ≤ 1000000) (hlL : L.length ≤ 1000000) (hr : vecR L.length M most r) : Calls Try.prog 102 #[.agg #[.int .i64 a, .int .i64 b, .int .i64 c, .slice ao L.length cap], .slice po M.length pc, .int .i64 most] w fun e w' => e = .returned (.int .i64 r) ∧ Below w.heap.size w w' := by
  have HP := Lib.hid h
  rcases hr with ⟨h1, rfl⟩ | hr
  · have t1 : (3 * (M.length : Int) != (L.length : Int)) = true := by simp; omega
    clear h h1
    go_enter Try.func102, Try.ntmps102
    go_wp2
    go_ret
    exact ⟨rfl, by repeat (first | (with_reducible exact Below.refl _ _) | (with_reducible refine Below.setCell ?_ ?_ _) | (with_reducible refine Below.drew ?_) | (with_reducible refine Below.alloc ?_ ?_ _) | omega | (simp <;> omega))⟩
  · have t1 : (3 * (M.length : Int) != (L.length : Int)) = false := by simp; omega
    have hr' : (AllE most M ∧ r = 0) ∨ (¬ AllE most M ∧ r = 1) := by
      rcases hr with ⟨-, h2, h3⟩ | ⟨-, h2, h3⟩
      · exact .inl ⟨h2, h3⟩
      · exact .inr ⟨h2, h3⟩
    have HR := Lib.hid hr'
    clear h hr hr'
    go_enter Try.func102, Try.ntmps102
    go_wp2
    go_loopw [7, 8] (fun q _ wr => ∃ k : Nat, k ≤ M.length ∧ q = .int .i64 k ∧ Hid (∀ (i : Nat) (x : Sp), i < k → M[i]? = some x → InS most x) ∧ Below w.heap.size w wr) (fun q _ _ => M.length - (intOf q).toNat)
    case atStart => exact ⟨0, by omega, rfl, Lib.hid (by omega), by repeat (first | (with_reducible exact Below.refl _ _) | (with_reducible refine Below.setCell ?_ ?_ _) | (with_reducible refine Below.drew ?_) | (with_reducible refine Below.alloc ?_ ?_ _) | omega | (simp <;> omega))⟩
    case round =>
      obtain ⟨k, hk, rfl, hall, hb⟩ := hrel
      by_cases hlt : k < M.length
      · obtain ⟨pb, off, rfl, hpl⟩ := lies_some HP.out (List.getElem?_eq_getElem hlt)
        have i1 : (k : Int) < (M.length : Int) := by omega
        obtain ⟨x0, x1, x2, x3⟩ := four_at (hpl.later hb) (List.getElem?_eq_getElem hlt)
        have hn := fun h => alle_next hall.out (List.getElem?_eq_getElem hlt) h
        have hno : ¬ InS most M[k] → r = 1 := fun h => by
          rcases HR.out with ⟨g, -⟩ | ⟨-, g⟩
          · exact absurd (g k _ (List.getElem?_eq_getElem hlt)) h
          · exact g
        generalize M[k] = x at *
        have d0 := fun (q : Bool) (W : World) => wn_any most x.a W q
        have d1 := fun (q : Bool) (W : World) => wn_any most x.b W q
        have d2 := fun (q : Bool) (W : World) => wn_any most x.c W q
        have d3 := fun (q : Bool) (W : World) => wn_any most x.d W q
        by_cases hin : InS most x
        · have HN := Lib.hid (hn hin)
          obtain ⟨g0, g1, g2, g3⟩ := ins_wn.1 hin
          have c0 := fun W => d0 true W g0
          have c1 := fun W => d1 true W g1
          have c2 := fun W => d2 true W g2
          have c3 := fun W => d3 true W g3
          clear hn hno hin hall hpl g0 g1 g2 g3 d0 d1 d2 d3
          go_wp2
          refine wp_loop_rounds 5 ?_
          rw [rounds_succ]
          go_wp2_with ((with_reducible refine (c0 _).mono ?_); clear c0; rintro e w2 ⟨rfl, rfl⟩)
          rw [rounds_succ]
          go_wp2_with ((with_reducible refine (c1 _).mono ?_); clear c1; rintro e w2 ⟨rfl, rfl⟩)
          rw [rounds_succ]
          go_wp2_with ((with_reducible refine (c2 _).mono ?_); clear c2; rintro e w2 ⟨rfl, rfl⟩)
          rw [rounds_succ]
          go_wp2_with ((with_reducible refine (c3 _).mono ?_); clear c3; rintro e w2 ⟨rfl, rfl⟩)
          rw [rounds_succ]
          go_wp2
          exact ⟨⟨k + 1, by omega, by go_num, Lib.hid HN.out, by repeat (first | (with_reducible exact Below.refl _ _) | (with_reducible refine Below.setCell ?_ ?_ _) | (with_reducible refine Below.drew ?_) | (with_reducible refine Below.alloc ?_ ?_ _) | (with_reducible refine Below.trans ?_ (Below.mono hb ?_)) | (with_reducible exact hb.size) | omega | (simp <;> omega) | (simp <;> (have s := hb.size; omega)) | (have s0 := hb.size; (try simp at s0); (try simp); omega))⟩, by simp [intOf]; omega⟩
        · obtain rfl := hno hin
          have hbad := ins_four hin
          clear hn hno hin hall hpl
          rcases hbad with g0 | ⟨g0, g1⟩ | ⟨g0, g1, g2⟩ | ⟨g0, g1, g2, g3⟩
          · have c0 := fun W => d0 false W g0
            clear d0 d1 d2 d3 g0
            go_wp2
            refine wp_loop_rounds 1 ?_
            rw [rounds_succ]
            go_wp2_with ((with_reducible refine (c0 _).mono ?_); clear c0; rintro e w2 ⟨rfl, rfl⟩)
            go_ret
            exact ⟨rfl, by repeat (first | (with_reducible exact Below.refl _ _) | (with_reducible refine Below.setCell ?_ ?_ _) | (with_reducible refine Below.drew ?_) | (with_reducible refine Below.alloc ?_ ?_ _) | (with_reducible refine Below.trans ?_ (Below.mono hb ?_)) | (with_reducible exact hb.size) | omega | (simp <;> omega) | (simp <;> (have s := hb.size; omega)) | (have s0 := hb.size; (try simp at s0); (try simp); omega))⟩
          · have c0 := fun W => d0 true W g0
            have c1 := fun W => d1 false W g1
            clear d0 d1 d2 d3 g0 g1
            go_wp2
            refine wp_loop_rounds 2 ?_
            rw [rounds_succ]
            go_wp2_with ((with_reducible refine (c0 _).mono ?_); clear c0; rintro e w2 ⟨rfl, rfl⟩)
            rw [rounds_succ]
            go_wp2_with ((with_reducible refine (c1 _).mono ?_); clear c1; rintro e w2 ⟨rfl, rfl⟩)
            go_ret
            exact ⟨rfl, by repeat (first | (with_reducible exact Below.refl _ _) | (with_reducible refine Below.setCell ?_ ?_ _) | (with_reducible refine Below.drew ?_) | (with_reducible refine Below.alloc ?_ ?_ _) | (with_reducible refine Below.trans ?_ (Below.mono hb ?_)) | (with_reducible exact hb.size) | omega | (simp <;> omega) | (simp <;> (have s := hb.size; omega)) | (have s0 := hb.size; (try simp at s0); (try simp); omega))⟩
          · have c0 := fun W => d0 true W g0
            have c1 := fun W => d1 true W g1
            have c2 := fun W => d2 false W g2
            clear d0 d1 d2 d3 g0 g1 g2
            go_wp2
            refine wp_loop_rounds 3 ?_
            rw [rounds_succ]
            go_wp2_with ((with_reducible refine (c0 _).mono ?_); clear c0; rintro e w2 ⟨rfl, rfl⟩)
            rw [rounds_succ]
            go_wp2_with ((with_reducible refine (c1 _).mono ?_); clear c1; rintro e w2 ⟨rfl, rfl⟩)
            rw [rounds_succ]
            go_wp2_with ((with_reducible refine (c2 _).mono ?_); clear c2; rintro e w2 ⟨rfl, rfl⟩)
            go_ret
            exact ⟨rfl, by repeat (first | (with_reducible exact Below.refl _ _) | (with_reducible refine Below.setCell ?_ ?_ _) | (with_reducible refine Below.drew ?_) | (with_reducible refine Below.alloc ?_ ?_ _) | (with_reducible refine Below.trans ?_ (Below.mono hb ?_)) | (with_reducible exact hb.size) | omega | (simp <;> omega) | (simp <;> (have s := hb.size; omega)) | (have s0 := hb.size; (try simp at s0); (try simp); omega))⟩
          · have c0 := fun W => d0 true W g0
            have c1 := fun W => d1 true W g1
            have c2 := fun W => d2 true W g2
            have c3 := fun W => d3 false W g3
            clear d0 d1 d2 d3 g0 g1 g2 g3
            go_wp2
            refine wp_loop_rounds 4 ?_
            rw [rounds_succ]
            go_wp2_with ((with_reducible refine (c0 _).mono ?_); clear c0; rintro e w2 ⟨rfl, rfl⟩)
            rw [rounds_succ]
            go_wp2_with ((with_reducible refine (c1 _).mono ?_); clear c1; rintro e w2 ⟨rfl, rfl⟩)
            rw [rounds_succ]
            go_wp2_with ((with_reducible refine (c2 _).mono ?_); clear c2; rintro e w2 ⟨rfl, rfl⟩)
            rw [rounds_succ]
            go_wp2_with ((with_reducible refine (c3 _).mono ?_); clear c3; rintro e w2 ⟨rfl, rfl⟩)
            go_ret
            exact ⟨rfl, by repeat (first | (with_reducible exact Below.refl _ _) | (with_reducible refine Below.setCell ?_ ?_ _) | (with_reducible refine Below.drew ?_) | (with_reducible refine Below.alloc ?_ ?_ _) | (with_reducible refine Below.trans ?_ (Below.mono hb ?_)) | (with_reducible exact hb.size) | omega | (simp <;> omega) | (simp <;> (have s := hb.size; omega)) | (have s0 := hb.size; (try simp at s0); (try simp); omega))⟩
      · obtain rfl : k = M.length := by omega
        obtain rfl : r = 0 := by
          rcases HR.out with ⟨-, g⟩ | ⟨g, -⟩
          · exact g
          · exact absurd (fun i x hx => hall.out i x (List.getElem?_eq_some_iff.1 hx).1 hx) g
        clear hall
        go_wp2
        go_ret
        exact ⟨rfl, hb⟩
end Go.Proofs.Ytojmagooapjohaa

/- Sums of quaternions and of vectors in place, as the program and the document's answers make them.
Conditions: the lists lie in memory as it is written at each theorem. -/
namespace Go.Proofs.Ytojmagooapjohaa
set_option linter.unusedVariables false
set_option linter.unusedSimpArgs false
set_option maxRecDepth 1000000
open Go.RowKit
open Um Tm Fm

theorem wr_add (x k y : Int) : IntKind.i64.wrap (x + IntKind.i64.wrap (k * y)) = wrap64 (x + k * y) := by
  rw [IntWalk.i64_left, IntWalk.i64_left, w_add_r]
theorem wr_add' (x k y : Int) : wrap64 (x + wrap64 (k * y)) = wrap64 (x + k * y) := w_add_r _ _
theorem set_get_ne {l : List Int} {i j : Nat} {v u : Int} (h : l[j]? = some u) (hne : i ≠ j) : (l.set i v)[j]? = some u := by
  rw [List.getElem?_set_ne hne]; exact h
theorem IBox.of4 {w : World} {g : Nat} {x y z t : Int} (h0 : w.cell? ⟨g, 0, none⟩ = some (.int .i64 x)) (h1 : w.cell? ⟨g, 1, none⟩ = some (.int .i64 y)) (h2 : w.cell? ⟨g, 2, none⟩ = some (.int .i64 z)) (h3 : w.cell? ⟨g, 3, none⟩ = some (.int .i64 t)) (hf : ∀ j, w.frozen? ⟨g, j, none⟩ = false) (hlt : g < w.heap.size) : IBox w g [x, y, z, t] := by
  refine ⟨fun i u hu => ?_, hf, hlt⟩
  rw [Nat.zero_add]
  match i, hu with
  | 0, hu => simp at hu; subst hu; exact h0
  | 1, hu => simp at hu; subst hu; exact h1
  | 2, hu => simp at hu; subst hu; exact h2
  | 3, hu => simp at hu; subst hu; exact h3
  | i + 4, hu => simp at hu
theorem IBox.fresh4 {w : World} {g : Nat} {x y z t : Int} {T : TypeId} (h : w.heap[g]? = some (.cells #[.int .i64 x, .int .i64 y, .int .i64 z, .int .i64 t] T)) : IBox w g [x, y, z, t] :=
  IBox.of4 (by simp [World.cell?, h]) (by simp [World.cell?, h]) (by simp [World.cell?, h]) (by simp [World.cell?, h]) (fun j => by simp [World.frozen?, h]) (Array.getElem?_eq_some_iff.1 h).1
set_option maxHeartbeats 3200000 in
theorem refAdd7_any (p q : Sp) (k : Int) (w : World) : Calls Try.prog 134 #[.agg #[.int .i64 p.a, .int .i64 p.b, .int .i64 p.c, .int .i64 p.d], .agg #[.int .i64 q.a, .int .i64 q.b, .int .i64 q.c, .int .i64 q.d], .int .i64 k] w fun e w' => e = .returned (.agg #[.int .i64 (addS p (smS k q)).w.a, .int .i64 (addS p (smS k q)).w.b, .int .i64 (addS p (smS k q)).w.c, .int .i64 (addS p (smS k q)).w.d]) ∧ Below w.heap.size w w' := by
  have e0 := wr_add p.a k q.a
  have f0 := wr_add' p.a k q.a
  have e1 := wr_add p.b k q.b
  have f1 := wr_add' p.b k q.b
  have e2 := wr_add p.c k q.c
  have f2 := wr_add' p.c k q.c
  have e3 := wr_add p.d k q.d
  have f3 := wr_add' p.d k q.d
  have HV := Lib.hid (show (addS p (smS k q)).w = ⟨wrap64 (p.a + k * q.a), wrap64 (p.b + k * q.b), wrap64 (p.c + k * q.c), wrap64 (p.d + k * q.d)⟩ from rfl)
  generalize (addS p (smS k q)).w = v at *
  generalize wrap64 (p.a + k * q.a) = v0 at *
  generalize wrap64 (p.b + k * q.b) = v1 at *
  generalize wrap64 (p.c + k * q.c) = v2 at *
  generalize wrap64 (p.d + k * q.d) = v3 at *
  have W0P : IBox (((w.alloc (.cells #[.int .i64 p.a, .int .i64 p.b, .int .i64 p.c, .int .i64 p.d] 95)).alloc (.cells #[.int .i64 q.a, .int .i64 q.b, .int .i64 q.c, .int .i64 q.d] 95)).alloc (.cells #[.int .i64 0, .int .i64 0, .int .i64 0, .int .i64 0] 95)) w.heap.size [p.a, p.b, p.c, p.d] := ((IBox.fresh4 (heap_alloc_new _ _)).later ((Below.refl _ _).alloc (Nat.le_refl _) _)).later ((Below.refl _ _).alloc (Nat.le_refl _) _)
  have W0Q : IBox (((w.alloc (.cells #[.int .i64 p.a, .int .i64 p.b, .int .i64 p.c, .int .i64 p.d] 95)).alloc (.cells #[.int .i64 q.a, .int .i64 q.b, .int .i64 q.c, .int .i64 q.d] 95)).alloc (.cells #[.int .i64 0, .int .i64 0, .int .i64 0, .int .i64 0] 95)) (w.heap.size + 1) [q.a, q.b, q.c, q.d] := by
    have h := (IBox.fresh4 (heap_alloc_new (w.alloc (.cells #[.int .i64 p.a, .int .i64 p.b, .int .i64 p.c, .int .i64 p.d] 95)) (.cells #[.int .i64 q.a, .int .i64 q.b, .int .i64 q.c, .int .i64 q.d] 95))).later ((Below.refl _ _).alloc (Nat.le_refl _) (.cells #[.int .i64 0, .int .i64 0, .int .i64 0, .int .i64 0] 95))
    simpa using h
  have W0Z : IBox (((w.alloc (.cells #[.int .i64 p.a, .int .i64 p.b, .int .i64 p.c, .int .i64 p.d] 95)).alloc (.cells #[.int .i64 q.a, .int .i64 q.b, .int .i64 q.c, .int .i64 q.d] 95)).alloc (.cells #[.int .i64 0, .int .i64 0, .int .i64 0, .int .i64 0] 95)) (w.heap.size + 1 + 1) [0, 0, 0, 0] := by
    have h := IBox.fresh4 (heap_alloc_new ((w.alloc (.cells #[.int .i64 p.a, .int .i64 p.b, .int .i64 p.c, .int .i64 p.d] 95)).alloc (.cells #[.int .i64 q.a, .int .i64 q.b, .int .i64 q.c, .int .i64 q.d] 95)) (.cells #[.int .i64 0, .int .i64 0, .int .i64 0, .int .i64 0] 95))
    simpa using h
  have hb : Below w.heap.size w (((w.alloc (.cells #[.int .i64 p.a, .int .i64 p.b, .int .i64 p.c, .int .i64 p.d] 95)).alloc (.cells #[.int .i64 q.a, .int .i64 q.b, .int .i64 q.c, .int .i64 q.d] 95)).alloc (.cells #[.int .i64 0, .int .i64 0, .int .i64 0, .int .i64 0] 95)) := by repeat (first | (with_reducible exact Below.refl _ _) | (with_reducible refine Below.setCell ?_ ?_ _) | (with_reducible refine Below.drew ?_) | (with_reducible refine Below.alloc ?_ ?_ _) | omega | (simp <;> omega))
  have HP0 := Lib.hid W0P
  have HQ0 := Lib.hid W0Q
  have HZ0 := Lib.hid W0Z
  have HB0 := Lib.hid hb
  clear W0P W0Q W0Z hb
  have kc := @Tail.cell_re
  have kc1 : ∀ (W : World) (o : Obj) (d : Nat) (os : Array Obj) (a : Addr), a.block ≤ W.heap.size → (Sort.grow (redrawn (W.alloc o) d) os).cell? a = (W.alloc o).cell? a := fun W o d os a h => Tail.cell_re (W.alloc o) d os a (Nat.lt_of_le_of_lt h (by simp))
  go_enter Try.func134, Try.ntmps134
  go_wp2
  generalize ((w.alloc (.cells #[.int .i64 p.a, .int .i64 p.b, .int .i64 p.c, .int .i64 p.d] 95)).alloc (.cells #[.int .i64 q.a, .int .i64 q.b, .int .i64 q.c, .int .i64 q.d] 95)).alloc (.cells #[.int .i64 0, .int .i64 0, .int .i64 0, .int .i64 0] 95) = W0 at *
  refine wp_loop_rounds 5 ?_
  have lp := HP0.out.lt
  have lq := HQ0.out.lt
  have fp := HP0.out.free
  have c0 := HP0.out.at (i := 0) (x := p.a) rfl
  have c1 := HQ0.out.at (i := 0) (x := q.a) rfl
  rw [rounds_succ]
  go_wp2
  refine Tail.region_tail_below 9 (by kernel_rfl) (by kernel_rfl) ?_
  simp only [List.take_succ_cons, List.take_zero, List.drop_succ_cons, List.drop_zero]
  repeat (go_big_quiet_step (fail))
  refine wpQuiet_nil ?_
  intro w1 hw1
  have HP := Lib.hid (HP0.out.later hw1)
  have HQ := Lib.hid (HQ0.out.later hw1)
  have HZ := Lib.hid (HZ0.out.later hw1)
  have hb1 : Below w.heap.size w w1 := HB0.out.trans (hw1.mono (HB0.out.size))
  clear c0 c1 fp
  have c0 := HP.out.at (i := 0) (x := p.a) rfl
  have fp := HP.out.free
  go_wp2
  have HP1 := Lib.hid (show IBox (w1.setCell ⟨w.heap.size, 0, none⟩ (.int .i64 v0)) w.heap.size [v0, p.b, p.c, p.d] from HP.out.put 0 (by simp) v0)
  have HQ1 := Lib.hid (HQ.out.other (b := w.heap.size) (o := 0) (v := .int .i64 v0) (by omega))
  have HZ1 := Lib.hid (HZ.out.other (b := w.heap.size) (o := 0) (v := .int .i64 v0) (by omega))
  have HB1 := Lib.hid (show Below w.heap.size w (w1.setCell ⟨w.heap.size, 0, none⟩ (.int .i64 v0)) by repeat (first | (with_reducible exact Below.refl _ _) | (with_reducible refine Below.setCell ?_ ?_ _) | (with_reducible refine Below.drew ?_) | (with_reducible refine Below.alloc ?_ ?_ _) | (with_reducible refine Below.trans ?_ (Below.mono hb1 ?_)) | (with_reducible exact hb1.size) | omega | (simp <;> omega) | (simp <;> (have s := hb1.size; omega)) | (have s0 := hb1.size; (try simp at s0); (try simp); omega)))
  clear c0 fp lp lq HP HQ HZ hb1 hw1 e0 f0
  generalize w1.setCell ⟨w.heap.size, 0, none⟩ (.int .i64 v0) = W1 at *
  have lp := HP1.out.lt
  have lq := HQ1.out.lt
  have fp := HP1.out.free
  have c0 := HP1.out.at (i := 1) (x := p.b) rfl
  have c1 := HQ1.out.at (i := 1) (x := q.b) rfl
  rw [rounds_succ]
  go_wp2
  refine Tail.region_tail_below 9 (by kernel_rfl) (by kernel_rfl) ?_
  simp only [List.take_succ_cons, List.take_zero, List.drop_succ_cons, List.drop_zero]
  repeat (go_big_quiet_step (fail))
  refine wpQuiet_nil ?_
  intro w2 hw2
  have HP := Lib.hid (HP1.out.later hw2)
  have HQ := Lib.hid (HQ1.out.later hw2)
  have HZ := Lib.hid (HZ1.out.later hw2)
  have hb2 : Below w.heap.size w w2 := HB1.out.trans (hw2.mono (HB1.out.size))
  clear c0 c1 fp
  have c0 := HP.out.at (i := 1) (x := p.b) rfl
  have fp := HP.out.free
  go_wp2
  have HP2 := Lib.hid (show IBox (w2.setCell ⟨w.heap.size, 1, none⟩ (.int .i64 v1)) w.heap.size [v0, v1, p.c, p.d] from HP.out.put 1 (by simp) v1)
  have HQ2 := Lib.hid (HQ.out.other (b := w.heap.size) (o := 1) (v := .int .i64 v1) (by omega))
  have HZ2 := Lib.hid (HZ.out.other (b := w.heap.size) (o := 1) (v := .int .i64 v1) (by omega))
  have HB2 := Lib.hid (show Below w.heap.size w (w2.setCell ⟨w.heap.size, 1, none⟩ (.int .i64 v1)) by repeat (first | (with_reducible exact Below.refl _ _) | (with_reducible refine Below.setCell ?_ ?_ _) | (with_reducible refine Below.drew ?_) | (with_reducible refine Below.alloc ?_ ?_ _) | (with_reducible refine Below.trans ?_ (Below.mono hb2 ?_)) | (with_reducible exact hb2.size) | omega | (simp <;> omega) | (simp <;> (have s := hb2.size; omega)) | (have s0 := hb2.size; (try simp at s0); (try simp); omega)))
  clear c0 fp lp lq HP HQ HZ hb2 hw2 e1 f1
  generalize w2.setCell ⟨w.heap.size, 1, none⟩ (.int .i64 v1) = W2 at *
  have lp := HP2.out.lt
  have lq := HQ2.out.lt
  have fp := HP2.out.free
  have c0 := HP2.out.at (i := 2) (x := p.c) rfl
  have c1 := HQ2.out.at (i := 2) (x := q.c) rfl
  rw [rounds_succ]
  go_wp2
  refine Tail.region_tail_below 9 (by kernel_rfl) (by kernel_rfl) ?_
  simp only [List.take_succ_cons, List.take_zero, List.drop_succ_cons, List.drop_zero]
  repeat (go_big_quiet_step (fail))
  refine wpQuiet_nil ?_
  intro w3 hw3
  have HP := Lib.hid (HP2.out.later hw3)
  have HQ := Lib.hid (HQ2.out.later hw3)
  have HZ := Lib.hid (HZ2.out.later hw3)
  have hb3 : Below w.heap.size w w3 := HB2.out.trans (hw3.mono (HB2.out.size))
  clear c0 c1 fp
  have c0 := HP.out.at (i := 2) (x := p.c) rfl
  have fp := HP.out.free
  go_wp2
  have HP3 := Lib.hid (show IBox (w3.setCell ⟨w.heap.size, 2, none⟩ (.int .i64 v2)) w.heap.size [v0, v1, v2, p.d] from HP.out.put 2 (by simp) v2)
  have HQ3 := Lib.hid (HQ.out.other (b := w.heap.size) (o := 2) (v := .int .i64 v2) (by omega))
  have HZ3 := Lib.hid (HZ.out.other (b := w.heap.size) (o := 2) (v := .int .i64 v2) (by omega))
  have HB3 := Lib.hid (show Below w.heap.size w (w3.setCell ⟨w.heap.size, 2, none⟩ (.int .i64 v2)) by repeat (first | (with_reducible exact Below.refl _ _) | (with_reducible refine Below.setCell ?_ ?_ _) | (with_reducible refine Below.drew ?_) | (with_reducible refine Below.alloc ?_ ?_ _) | (with_reducible refine Below.trans ?_ (Below.mono hb3 ?_)) | (with_reducible exact hb3.size) | omega | (simp <;> omega) | (simp <;> (have s := hb3.size; omega)) | (have s0 := hb3.size; (try simp at s0); (try simp); omega)))
  clear c0 fp lp lq HP HQ HZ hb3 hw3 e2 f2
  generalize w3.setCell ⟨w.heap.size, 2, none⟩ (.int .i64 v2) = W3 at *
  have lp := HP3.out.lt
  have lq := HQ3.out.lt
  have fp := HP3.out.free
  have c0 := HP3.out.at (i := 3) (x := p.d) rfl
  have c1 := HQ3.out.at (i := 3) (x := q.d) rfl
  rw [rounds_succ]
  go_wp2
  refine Tail.region_tail_below 9 (by kernel_rfl) (by kernel_rfl) ?_
  simp only [List.take_succ_cons, List.take_zero, List.drop_succ_cons, List.drop_zero]
  repeat (go_big_quiet_step (fail))
  refine wpQuiet_nil ?_
  intro w4 hw4
  have HP := Lib.hid (HP3.out.later hw4)
  have HQ := Lib.hid (HQ3.out.later hw4)
  have HZ := Lib.hid (HZ3.out.later hw4)
  have hb4 : Below w.heap.size w w4 := HB3.out.trans (hw4.mono (HB3.out.size))
  clear c0 c1 fp
  have c0 := HP.out.at (i := 3) (x := p.d) rfl
  have fp := HP.out.free
  go_wp2
  have HP4 := Lib.hid (show IBox (w4.setCell ⟨w.heap.size, 3, none⟩ (.int .i64 v3)) w.heap.size [v0, v1, v2, v3] from HP.out.put 3 (by simp) v3)
  have HQ4 := Lib.hid (HQ.out.other (b := w.heap.size) (o := 3) (v := .int .i64 v3) (by omega))
  have HZ4 := Lib.hid (HZ.out.other (b := w.heap.size) (o := 3) (v := .int .i64 v3) (by omega))
  have HB4 := Lib.hid (show Below w.heap.size w (w4.setCell ⟨w.heap.size, 3, none⟩ (.int .i64 v3)) by repeat (first | (with_reducible exact Below.refl _ _) | (with_reducible refine Below.setCell ?_ ?_ _) | (with_reducible refine Below.drew ?_) | (with_reducible refine Below.alloc ?_ ?_ _) | (with_reducible refine Below.trans ?_ (Below.mono hb4 ?_)) | (with_reducible exact hb4.size) | omega | (simp <;> omega) | (simp <;> (have s := hb4.size; omega)) | (have s0 := hb4.size; (try simp at s0); (try simp); omega)))
  clear c0 fp lp lq HP HQ HZ hb4 hw4 e3 f3
  generalize w4.setCell ⟨w.heap.size, 3, none⟩ (.int .i64 v3) = W4 at *
  have c0 := HP4.out.at (i := 0) (x := v0) rfl
  have c1 := HP4.out.at (i := 1) (x := v1) rfl
  have c2 := HP4.out.at (i := 2) (x := v2) rfl
  have c3 := HP4.out.at (i := 3) (x := v3) rfl
  have z0 := HZ4.out.at (i := 0) (x := 0) rfl
  have z1 := HZ4.out.at (i := 1) (x := 0) rfl
  have z2 := HZ4.out.at (i := 2) (x := 0) rfl
  have z3 := HZ4.out.at (i := 3) (x := 0) rfl
  have fz := HZ4.out.free
  rw [rounds_succ]
  go_wp2
  refine bodyPost_ret (v := .agg #[.int .i64 v.a, .int .i64 v.b, .int .i64 v.c, .int .i64 v.d]) ?_ rfl ⟨rfl, ?_⟩
  · have r := (((HZ4.out.put 0 (by simp) v0).put 1 (by simp) v1).put 2 (by simp) v2).put 3 (by simp) v3
    have r0 := r.at (i := 0) (x := v0) rfl
    have r1 := r.at (i := 1) (x := v1) rfl
    have r2 := r.at (i := 2) (x := v2) rfl
    have r3 := r.at (i := 3) (x := v3) rfl
    clear c0 c1 c2 c3 z0 z1 z2 z3
    generalize hW : (((W4.setCell ⟨w.heap.size + 1 + 1, 0, none⟩ (.int .i64 v0)).setCell ⟨w.heap.size + 1 + 1, 1, none⟩ (.int .i64 v1)).setCell ⟨w.heap.size + 1 + 1, 2, none⟩ (.int .i64 v2)).setCell ⟨w.heap.size + 1 + 1, 3, none⟩ (.int .i64 v3) = W5 at *
    simp [results, Try.results134, go_sem, hW, r0, r1, r2, r3, HV.out]
  · have hb4 := HB4.out
    repeat (first | (with_reducible exact Below.refl _ _) | (with_reducible refine Below.setCell ?_ ?_ _) | (with_reducible refine Below.drew ?_) | (with_reducible refine Below.alloc ?_ ?_ _) | (with_reducible refine Below.trans ?_ (Below.mono hb4 ?_)) | (with_reducible exact hb4.size) | omega | (simp <;> omega) | (simp <;> (have s := hb4.size; omega)) | (have s0 := hb4.size; (try simp at s0); (try simp); omega))
end Go.Proofs.Ytojmagooapjohaa

/- Sums of vectors in place, multiples, differences and products of vectors, as the program and the document's answers make them.
Conditions: the lists lie in memory as it is written at each theorem. -/
namespace Go.Proofs.Ytojmagooapjohaa
set_option linter.unusedVariables false
set_option linter.unusedSimpArgs false
set_option maxRecDepth 1000000
open Go.RowKit
open Um Tm Fm

theorem grown_below {w w1 : World} {row : Option Nat} (h : Below w.heap.size w w1) : w.grownBy w1 row := ⟨h.os, h.tape, h.output, h.size, fun k hk _ => h.block k hk⟩
theorem liesI_grown {w w1 : World} {b off : Nat} {l : List Int} {row : Option Nat} (h : LiesI w b off l) (hg : w.grownBy w1 row) (hne : some b ≠ row) : LiesI w1 b off l := fun i x hx => hg.cell (h i x hx) hne
set_option maxHeartbeats 6400000 in
theorem addV_any (k : Int) (g gc : Nat) (po : Option Addr) (pc : Nat) (A M : List Sp) (w : World) (hA : IBox w g (fl A)) (hM : LiesOI w po (fl M)) (hne : ∀ b off, po = some ⟨b, off, none⟩ → b ≠ g) (hl : A.length = M.length) (hlen : M.length ≤ 1000000) : Calls Try.prog 96 #[.slice (some ⟨g, 0, none⟩) M.length gc, .int .i64 k, .slice po M.length pc] w fun e w' => e = .returned (.tuple #[]) ∧ IBox w' g (fl (axp k A M)) ∧ w.grownBy w' (some g) := by
  have HA := Lib.hid (show IBox w g (fl (axK k A M 0)) by rw [axK_zero]; exact hA)
  have HM := Lib.hid hM
  have HN := Lib.hid hne
  have HL := Lib.hid hl
  clear hA hM hne hl
  have kc := @Tail.cell_re
  have kc1 : ∀ (W : World) (o : Obj) (d : Nat) (os : Array Obj) (a : Addr), a.block ≤ W.heap.size → (Sort.grow (redrawn (W.alloc o) d) os).cell? a = (W.alloc o).cell? a := fun W o d os a h => Tail.cell_re (W.alloc o) d os a (Nat.lt_of_le_of_lt h (by simp))
  go_enter Try.func96, Try.ntmps96
  go_wp2
  go_loopw [6, 7, 8, 9, 12] (fun _ _ _ _ q wr => ∃ m : Nat, m ≤ M.length ∧ q = .int .i64 m ∧ Hid (IBox wr g (fl (axK k A M m))) ∧ Hid (w.grownBy wr (some g))) (fun _ _ _ _ q _ => M.length - (intOf q).toNat)
  case atStart => exact ⟨0, by omega, rfl, HA, Lib.hid (grown_below (Below.refl _ _))⟩
  case round =>
    obtain ⟨m, hm, rfl, hbox, hgr⟩ := hrel
    by_cases hlt : m < M.length
    · obtain ⟨pb, off, rfl, hpl⟩ := lies_some HM.out (List.getElem?_eq_getElem hlt)
      have i1 : (m : Int) < (M.length : Int) := by omega
      have hpg := HN.out _ _ rfl
      have hml : m < A.length := by have := HL.out; omega
      obtain ⟨x0, x1, x2, x3⟩ := four_at (liesI_grown hpl hgr.out (by simp; exact hpg)) (List.getElem?_eq_getElem hlt)
      have hlw := World.block_lt_of_cell? _ _ x0
      have hgw := hbox.out.lt
      obtain ⟨q0, q1, q2, q3⟩ := fl_four (axK_at k A M hml)
      have hs := axK_set k A M (m := m)
      have e0 : at0 M m = M[m] := at0_of (List.getElem?_eq_getElem hlt)
      rw [e0] at hs
      have hll : m * 4 + 3 < (fl (axK k A M m)).length := fl_get_len (by rw [axK_len]; exact hml)
      generalize M[m] = x at *
      generalize at0 A m = a at *
      have hfs := fl_set (axK k A M m) m (axS k a x)
      rw [hs] at hfs
      have HF := Lib.hid hfs
      have s0 := Lib.hid q0
      have s1 := Lib.hid (set_get_ne (v := (axS k a x).a) q1 (by omega : m * 4 ≠ m * 4 + 1))
      have s2 := Lib.hid (set_get_ne (v := (axS k a x).b) (set_get_ne (v := (axS k a x).a) q2 (by omega : m * 4 ≠ m * 4 + 2)) (by omega : m * 4 + 1 ≠ m * 4 + 2))
      have s3 := Lib.hid (set_get_ne (v := (axS k a x).c) (set_get_ne (v := (axS k a x).b) (set_get_ne (v := (axS k a x).a) q3 (by omega : m * 4 ≠ m * 4 + 3)) (by omega : m * 4 + 1 ≠ m * 4 + 3)) (by omega : m * 4 + 2 ≠ m * 4 + 3))
      have l0 := Lib.hid (show m * 4 < (fl (axK k A M m)).length by omega)
      have l1 := Lib.hid (show m * 4 + 1 < ((fl (axK k A M m)).set (m * 4) (axS k a x).a).length by simp only [List.length_set]; omega)
      have l2 := Lib.hid (show m * 4 + 2 < (((fl (axK k A M m)).set (m * 4) (axS k a x).a).set (m * 4 + 1) (axS k a x).b).length by simp only [List.length_set]; omega)
      have l3 := Lib.hid (show m * 4 + 3 < ((((fl (axK k A M m)).set (m * 4) (axS k a x).a).set (m * 4 + 1) (axS k a x).b).set (m * 4 + 2) (axS k a x).c).length by simp only [List.length_set]; omega)
      have e0 := wr_add a.a k x.a
      have f0 := wr_add' a.a k x.a
      rw [show wrap64 (a.a + k * x.a) = (axS k a x).a from rfl] at e0 f0
      have e1 := wr_add a.b k x.b
      have f1 := wr_add' a.b k x.b
      rw [show wrap64 (a.b + k * x.b) = (axS k a x).b from rfl] at e1 f1
      have e2 := wr_add a.c k x.c
      have f2 := wr_add' a.c k x.c
      rw [show wrap64 (a.c + k * x.c) = (axS k a x).c from rfl] at e2 f2
      have e3 := wr_add a.d k x.d
      have f3 := wr_add' a.d k x.d
      rw [show wrap64 (a.d + k * x.d) = (axS k a x).d from rfl] at e3 f3
      generalize (axS k a x).a = v0 at *
      generalize (axS k a x).b = v1 at *
      generalize (axS k a x).c = v2 at *
      generalize (axS k a x).d = v3 at *
      have j0 := ixS0 x.a x.b x.c x.d
      have j1 := ixS1 x.a x.b x.c x.d
      have j2 := ixS2 x.a x.b x.c x.d
      have j3 := ixS3 x.a x.b x.c x.d
      clear hs hfs q0 q1 q2 q3 hll hml hpl
      go_wp2
      have B0 := Lib.hid (hbox.out.later (show Below wr.heap.size wr (wr.alloc (.cells #[.int .i64 x.a, .int .i64 x.b, .int .i64 x.c, .int .i64 x.d] 95)) by repeat (first | (with_reducible exact Below.refl _ _) | (with_reducible refine Below.setCell ?_ ?_ _) | (with_reducible refine Below.drew ?_) | (with_reducible refine Below.alloc ?_ ?_ _) | omega | (simp <;> omega))))
      have G0 := Lib.hid (hgr.out.trans (World.grownBy_alloc wr (.cells #[.int .i64 x.a, .int .i64 x.b, .int .i64 x.c, .int .i64 x.d] 95) (some g)))
      clear hbox hgr hgw hlw x0 x1 x2 x3
      generalize wr.alloc (.cells #[.int .i64 x.a, .int .i64 x.b, .int .i64 x.c, .int .i64 x.d] 95) = W0 at *
      refine wp_loop_rounds 5 ?_
      have hg0 := B0.out.lt
      have c0 := B0.out.at s0.out
      rw [rounds_succ]
      go_wp2
      refine Tail.region_tail_below 11 (by kernel_rfl) (by kernel_rfl) ?_
      simp only [List.take_succ_cons, List.take_zero, List.drop_succ_cons, List.drop_zero]
      repeat (go_big_quiet_step (fail))
      refine wpQuiet_nil ?_
      intro w1 hw1
      have BB := Lib.hid (B0.out.later hw1)
      have GG := Lib.hid (G0.out.trans (grown_below hw1))
      clear c0 hg0 hw1
      have c0 := BB.out.at s0.out
      have fp := BB.out.free
      have hg0 := BB.out.lt
      go_wp2
      have B1 := Lib.hid (BB.out.put (m * 4) l0.out v0)
      have G1 := Lib.hid (GG.out.trans (grown_setCell w1 ⟨g, m * 4, none⟩ (.int .i64 v0)))
      clear c0 fp hg0 BB GG B0 G0 e0 f0
      generalize w1.setCell ⟨g, m * 4, none⟩ (.int .i64 v0) = W1 at *
      have hg1 := B1.out.lt
      have c1 := B1.out.at s1.out
      rw [rounds_succ]
      go_wp2
      refine Tail.region_tail_below 11 (by kernel_rfl) (by kernel_rfl) ?_
      simp only [List.take_succ_cons, List.take_zero, List.drop_succ_cons, List.drop_zero]
      repeat (go_big_quiet_step (fail))
      refine wpQuiet_nil ?_
      intro w2 hw2
      have BB := Lib.hid (B1.out.later hw2)
      have GG := Lib.hid (G1.out.trans (grown_below hw2))
      clear c1 hg1 hw2
      have c1 := BB.out.at s1.out
      have fp := BB.out.free
      have hg1 := BB.out.lt
      go_wp2
      have B2 := Lib.hid (BB.out.put (m * 4 + 1) l1.out v1)
      have G2 := Lib.hid (GG.out.trans (grown_setCell w2 ⟨g, m * 4 + 1, none⟩ (.int .i64 v1)))
      clear c1 fp hg1 BB GG B1 G1 e1 f1
      generalize w2.setCell ⟨g, m * 4 + 1, none⟩ (.int .i64 v1) = W2 at *
      have hg2 := B2.out.lt
      have c2 := B2.out.at s2.out
      rw [rounds_succ]
      go_wp2
      refine Tail.region_tail_below 11 (by kernel_rfl) (by kernel_rfl) ?_
      simp only [List.take_succ_cons, List.take_zero, List.drop_succ_cons, List.drop_zero]
      repeat (go_big_quiet_step (fail))
      refine wpQuiet_nil ?_
      intro w3 hw3
      have BB := Lib.hid (B2.out.later hw3)
      have GG := Lib.hid (G2.out.trans (grown_below hw3))
      clear c2 hg2 hw3
      have c2 := BB.out.at s2.out
      have fp := BB.out.free
      have hg2 := BB.out.lt
      go_wp2
      have B3 := Lib.hid (BB.out.put (m * 4 + 2) l2.out v2)
      have G3 := Lib.hid (GG.out.trans (grown_setCell w3 ⟨g, m * 4 + 2, none⟩ (.int .i64 v2)))
      clear c2 fp hg2 BB GG B2 G2 e2 f2
      generalize w3.setCell ⟨g, m * 4 + 2, none⟩ (.int .i64 v2) = W3 at *
      have hg3 := B3.out.lt
      have c3 := B3.out.at s3.out
      rw [rounds_succ]
      go_wp2
      refine Tail.region_tail_below 11 (by kernel_rfl) (by kernel_rfl) ?_
      simp only [List.take_succ_cons, List.take_zero, List.drop_succ_cons, List.drop_zero]
      repeat (go_big_quiet_step (fail))
      refine wpQuiet_nil ?_
      intro w4 hw4
      have BB := Lib.hid (B3.out.later hw4)
      have GG := Lib.hid (G3.out.trans (grown_below hw4))
      clear c3 hg3 hw4
      have c3 := BB.out.at s3.out
      have fp := BB.out.free
      have hg3 := BB.out.lt
      go_wp2
      have B4 := Lib.hid (BB.out.put (m * 4 + 3) l3.out v3)
      have G4 := Lib.hid (GG.out.trans (grown_setCell w4 ⟨g, m * 4 + 3, none⟩ (.int .i64 v3)))
      clear c3 fp hg3 BB GG B3 G3 e3 f3
      generalize w4.setCell ⟨g, m * 4 + 3, none⟩ (.int .i64 v3) = W4 at *
      rw [rounds_succ]
      go_wp2
      exact ⟨⟨m + 1, by omega, by go_num, by rw [HF.out] at B4; exact B4, G4⟩, by simp [intOf]; omega⟩
    · obtain rfl : m = M.length := by omega
      go_wp2
      go_end0
      exact ⟨rfl, by have := hbox.out; rwa [← HL.out, axK_end] at this, hgr.out⟩
end Go.Proofs.Ytojmagooapjohaa

/- Products of vectors, as the program and the document's answers make them.
Conditions: the lists lie in memory as it is written at each theorem. -/
namespace Go.Proofs.Ytojmagooapjohaa
set_option linter.unusedVariables false
set_option linter.unusedSimpArgs false
set_option maxRecDepth 1000000
open Go.RowKit
open Um Tm Fm

theorem dot_step (s : Int) (x y : Sp) : wrap64 (wrap64 (wrap64 (wrap64 (wrap64 s + wrap64 (x.a * y.a)) + wrap64 (x.b * y.b)) + wrap64 (x.c * y.c)) + wrap64 (x.d * y.d)) = wrap64 (s + dot4 x y) := by
  simp only [w_add_l, w_add_r]
  congr 1
  unfold dot4
  omega
theorem wr_mulA (s x y : Int) : IntKind.i64.wrap (s + IntKind.i64.wrap (x * y)) = wrap64 (s + wrap64 (x * y)) := by
  rw [IntWalk.i64_left, IntWalk.i64_left]
set_option maxHeartbeats 3200000 in
theorem dot7_any (pa po : Option Addr) (ca pc : Nat) (A M : List Sp) (w : World) (hA : LiesOI w pa (fl A)) (hM : LiesOI w po (fl M)) (hl : A.length = M.length) (hlen : M.length ≤ 1000000) : Calls Try.prog 68 #[.slice pa M.length ca, .slice po M.length pc] w fun e w' => e = .returned (.int .i64 (wrap64 (dotL A M))) ∧ Below w.heap.size w w' := by
  have HA := Lib.hid hA
  have HM := Lib.hid hM
  have HL := Lib.hid hl
  have H0 := Lib.hid (show wrap64 (dotK A M 0) = 0 from w_in (x := 0) (by decide) (by decide))
  have HS := Lib.hid (fun m => show dotK A M (m + 1) = dotK A M m + dot4 (at0 A m) (at0 M m) from rfl)
  have HE := Lib.hid (show dotL A M = dotK A M M.length by unfold dotL; rw [hl])
  clear hA hM hl
  have kc := @Tail.cell_re
  have kc1 : ∀ (W : World) (o : Obj) (d : Nat) (os : Array Obj) (a : Addr), a.block ≤ W.heap.size → (Sort.grow (redrawn (W.alloc o) d) os).cell? a = (W.alloc o).cell? a := fun W o d os a h => Tail.cell_re (W.alloc o) d os a (Nat.lt_of_le_of_lt h (by simp))
  go_enter Try.func68, Try.ntmps68
  go_wp2
  go_loopw [5, 6, 7, 8, 9, 12] (fun s _ _ _ _ q wr => ∃ m : Nat, m ≤ M.length ∧ q = .int .i64 m ∧ s = .int .i64 (wrap64 (dotK A M m)) ∧ Below w.heap.size w wr) (fun _ _ _ _ _ q _ => M.length - (intOf q).toNat)
  case atStart => exact ⟨0, by omega, rfl, by rw [H0.out], Below.refl _ _⟩
  case round =>
    obtain ⟨m, hm, rfl, rfl, hb⟩ := hrel
    by_cases hlt : m < M.length
    · have hla : m < A.length := by have := HL.out; omega
      obtain ⟨pb, off, rfl, hpl⟩ := lies_some HM.out (List.getElem?_eq_getElem hlt)
      obtain ⟨qb, qo, rfl, hql⟩ := lies_some HA.out (List.getElem?_eq_getElem hla)
      have i1 : (m : Int) < (M.length : Int) := by omega
      obtain ⟨y0, y1, y2, y3⟩ := four_at (hpl.later hb) (List.getElem?_eq_getElem hlt)
      obtain ⟨x0, x1, x2, x3⟩ := four_at (hql.later hb) (List.getElem?_eq_getElem hla)
      have eA : at0 A m = A[m] := at0_of (List.getElem?_eq_getElem hla)
      have eM : at0 M m = M[m] := at0_of (List.getElem?_eq_getElem hlt)
      have hst := HS.out m
      rw [eA, eM] at hst
      have lp := World.block_lt_of_cell? _ _ y0
      have lq := World.block_lt_of_cell? _ _ x0
      clear hpl hql eA eM
      generalize M[m] = y at *
      generalize A[m] = x at *
      have hds := dot_step (dotK A M m) x y
      rw [← hst] at hds
      have HD := Lib.hid hds
      clear hst hds
      have j0 := ixS0 x.a x.b x.c x.d
      have j1 := ixS1 x.a x.b x.c x.d
      have j2 := ixS2 x.a x.b x.c x.d
      have j3 := ixS3 x.a x.b x.c x.d
      generalize dotK A M m = s at *
      go_wp2
      refine wp_loop_rounds 5 ?_
      rw [rounds_succ]
      go_wp2
      rw [rounds_succ]
      go_wp2
      rw [rounds_succ]
      go_wp2
      rw [rounds_succ]
      go_wp2
      rw [rounds_succ]
      go_wp2
      exact ⟨⟨m + 1, by omega, by go_num, by rw [HD.out], by repeat (first | (with_reducible exact Below.refl _ _) | (with_reducible refine Below.setCell ?_ ?_ _) | (with_reducible refine Below.drew ?_) | (with_reducible refine Below.alloc ?_ ?_ _) | (with_reducible refine Below.trans ?_ (Below.mono hb ?_)) | (with_reducible exact hb.size) | omega | (simp <;> omega) | (simp <;> (have s := hb.size; omega)) | (have s0 := hb.size; (try simp at s0); (try simp); omega))⟩, by simp [intOf]; omega⟩
    · obtain rfl : m = M.length := by omega
      rw [← HE.out]
      go_wp2
      go_ret
      exact ⟨rfl, hb⟩
set_option maxHeartbeats 3200000 in
theorem refDot7_any (pa po : Option Addr) (ca pc : Nat) (A M : List Sp) (w : World) (hA : LiesOI w pa (fl A)) (hM : LiesOI w po (fl M)) (hl : A.length = M.length) (hlen : M.length ≤ 1000000) : Calls Try.prog 104 #[.slice pa M.length ca, .slice po M.length pc] w fun e w' => e = .returned (.int .i64 (wrap64 (dotL A M))) ∧ Below w.heap.size w w' := by
  have HA := Lib.hid hA
  have HM := Lib.hid hM
  have HL := Lib.hid hl
  have H0 := Lib.hid (show wrap64 (dotK A M 0) = 0 from w_in (x := 0) (by decide) (by decide))
  have HS := Lib.hid (fun m => show dotK A M (m + 1) = dotK A M m + dot4 (at0 A m) (at0 M m) from rfl)
  have HE := Lib.hid (show dotL A M = dotK A M M.length by unfold dotL; rw [hl])
  clear hA hM hl
  have kc := @Tail.cell_re
  have kc1 : ∀ (W : World) (o : Obj) (d : Nat) (os : Array Obj) (a : Addr), a.block ≤ W.heap.size → (Sort.grow (redrawn (W.alloc o) d) os).cell? a = (W.alloc o).cell? a := fun W o d os a h => Tail.cell_re (W.alloc o) d os a (Nat.lt_of_le_of_lt h (by simp))
  go_enter Try.func104, Try.ntmps104
  go_wp2
  go_loopw [5, 6, 7] (fun s q _ wr => ∃ m : Nat, m ≤ M.length ∧ q = .int .i64 m ∧ s = .int .i64 (wrap64 (dotK A M m)) ∧ Below w.heap.size w wr) (fun _ q _ _ => M.length - (intOf q).toNat)
  case atStart => exact ⟨0, by omega, rfl, by rw [H0.out], Below.refl _ _⟩
  case round =>
    obtain ⟨m, hm, rfl, rfl, hb⟩ := hrel
    by_cases hlt : m < M.length
    · have hla : m < A.length := by have := HL.out; omega
      obtain ⟨pb, off, rfl, hpl⟩ := lies_some HM.out (List.getElem?_eq_getElem hlt)
      obtain ⟨qb, qo, rfl, hql⟩ := lies_some HA.out (List.getElem?_eq_getElem hla)
      have i1 : (m : Int) < (M.length : Int) := by omega
      have hy := Lib.hid (fun (W : World) (h : LiesI W pb off (fl M)) => four_at h (List.getElem?_eq_getElem hlt))
      have hx := Lib.hid (fun (W : World) (h : LiesI W qb qo (fl A)) => four_at h (List.getElem?_eq_getElem hla))
      have eA : at0 A m = A[m] := at0_of (List.getElem?_eq_getElem hla)
      have eM : at0 M m = M[m] := at0_of (List.getElem?_eq_getElem hlt)
      have hst := HS.out m
      rw [eA, eM] at hst
      clear eA eM
      generalize M[m] = y at *
      generalize A[m] = x at *
      have hds := dot_step (dotK A M m) x y
      rw [← hst] at hds
      have HD := Lib.hid hds
      have HP0 := Lib.hid (hpl.later hb)
      have HQ0 := Lib.hid (hql.later hb)
      have W0 := Lib.hid hb
      clear hst hds hpl hql hb
      generalize dotK A M m = s at *
      go_wp2
      refine wp_loop_rounds 5 ?_
      obtain ⟨y0, y1, y2, y3⟩ := hy.out _ HP0.out
      obtain ⟨x0, x1, x2, x3⟩ := hx.out _ HQ0.out
      have lp := World.block_lt_of_cell? _ _ y0
      have lq := World.block_lt_of_cell? _ _ x0
      rw [rounds_succ]
      go_wp2
      refine Tail.region_below (by kernel_rfl) (by kernel_rfl) ?_
      repeat (go_big_quiet_step (fail))
      refine wpQuiet_nil ?_
      intro w1 hw1
      have HP1 := Lib.hid (HP0.out.later hw1)
      have HQ1 := Lib.hid (HQ0.out.later hw1)
      have W1 := Lib.hid (W0.out.trans (hw1.mono W0.out.size))
      clear x0 x1 x2 x3 y0 y1 y2 y3 lp lq hw1
      go_wp2
      obtain ⟨y0, y1, y2, y3⟩ := hy.out _ HP1.out
      obtain ⟨x0, x1, x2, x3⟩ := hx.out _ HQ1.out
      have lp := World.block_lt_of_cell? _ _ y0
      have lq := World.block_lt_of_cell? _ _ x0
      rw [rounds_succ]
      go_wp2
      refine Tail.region_below (by kernel_rfl) (by kernel_rfl) ?_
      repeat (go_big_quiet_step (fail))
      refine wpQuiet_nil ?_
      intro w2 hw2
      have HP2 := Lib.hid (HP1.out.later hw2)
      have HQ2 := Lib.hid (HQ1.out.later hw2)
      have W2 := Lib.hid (W1.out.trans (hw2.mono W1.out.size))
      clear x0 x1 x2 x3 y0 y1 y2 y3 lp lq hw2
      go_wp2
      obtain ⟨y0, y1, y2, y3⟩ := hy.out _ HP2.out
      obtain ⟨x0, x1, x2, x3⟩ := hx.out _ HQ2.out
      have lp := World.block_lt_of_cell? _ _ y0
      have lq := World.block_lt_of_cell? _ _ x0
      rw [rounds_succ]
      go_wp2
      refine Tail.region_below (by kernel_rfl) (by kernel_rfl) ?_
      repeat (go_big_quiet_step (fail))
      refine wpQuiet_nil ?_
      intro w3 hw3
      have HP3 := Lib.hid (HP2.out.later hw3)
      have HQ3 := Lib.hid (HQ2.out.later hw3)
      have W3 := Lib.hid (W2.out.trans (hw3.mono W2.out.size))
      clear x0 x1 x2 x3 y0 y1 y2 y3 lp lq hw3
      go_wp2
      obtain ⟨y0, y1, y2, y3⟩ := hy.out _ HP3.out
      obtain ⟨x0, x1, x2, x3⟩ := hx.out _ HQ3.out
      have lp := World.block_lt_of_cell? _ _ y0
      have lq := World.block_lt_of_cell? _ _ x0
      rw [rounds_succ]
      go_wp2
      refine Tail.region_below (by kernel_rfl) (by kernel_rfl) ?_
      repeat (go_big_quiet_step (fail))
      refine wpQuiet_nil ?_
      intro w4 hw4
      have HP4 := Lib.hid (HP3.out.later hw4)
      have HQ4 := Lib.hid (HQ3.out.later hw4)
      have W4 := Lib.hid (W3.out.trans (hw4.mono W3.out.size))
      clear x0 x1 x2 x3 y0 y1 y2 y3 lp lq hw4
      go_wp2
      rw [rounds_succ]
      go_wp2
      have hb4 := W4.out
      exact ⟨⟨m + 1, by omega, by go_num, by first | rw [HD.out] | (simp only [IntWalk.i64_left]; rw [HD.out]), hb4⟩, by simp [intOf]; omega⟩
    · obtain rfl : m = M.length := by omega
      rw [← HE.out]
      go_wp2
      go_ret
      exact ⟨rfl, hb⟩
end Go.Proofs.Ytojmagooapjohaa

/- Multiples and differences of vectors, as the program makes them.
Conditions: the lists lie in memory as it is written at each theorem. -/
namespace Go.Proofs.Ytojmagooapjohaa
set_option linter.unusedVariables false
set_option linter.unusedSimpArgs false
set_option maxRecDepth 1000000
open Go.RowKit
open Um Tm Fm

theorem IBox.whole {w : World} {g : Nat} {l : List Int} {T : TypeId} (h : w.heap[g]? = some (.cells (l.map vi).toArray T)) : IBox w g l := by
  refine ⟨fun i x hx => ?_, fun j => by simp [World.frozen?, h], (Array.getElem?_eq_some_iff.1 h).1⟩
  rw [Nat.zero_add]
  simp only [World.cell?, h]
  simp [hx, vi]
theorem ones_vi (l : List Int) : ∀ u ∈ l.map vi, u.oneCell' = true := fun u hu => by
  obtain ⟨x, -, rfl⟩ := List.mem_map.1 hu
  rfl
theorem lies_cells {w : World} {b off : Nat} {l : List Int} (h : LiesI w b off l) : ∀ j u, (l.map vi)[j]? = some u → w.cell? (Addr.add ⟨b, off, none⟩ j) = some u := fun j u hj => by
  rw [List.getElem?_map] at hj
  cases hl : l[j]? with
  | none => rw [hl] at hj; cases hj
  | some x =>
    rw [hl] at hj
    simp at hj
    subst hj
    have hadd : (⟨b, off, none⟩ : Addr).add j = ⟨b, off + j, none⟩ := by
      unfold Addr.add
      split
      · rename_i h0; subst h0; rfl
      · rfl
    rw [hadd]
    exact h j x hl
theorem run_copyS (w : World) (ty : TypeId) (g n c1 c2 b off : Nat) (T : TypeId) (cur : Array Value) (M : List Sp) (hn : M.length = n) (hg : w.heap[g]? = some (.cells cur T)) (hs : cur.size = n * 4) (hM : LiesI w b off (fl M)) :
    (Builtin.copy_ #[51, 51] ty #[.slice (some ⟨g, 0, none⟩) n c1, .slice (some ⟨b, off, none⟩) n c2]).run Try.prog w = .ok (goInt n) (w.setRow g ((fl M).map vi).toArray) := by
  obtain ⟨i0, hi, hz0, hz1, hz2⟩ := info_parts infoS
  have hl : ((fl M).map vi).length = n * i0.size := by rw [List.length_map, fl_len, hn, hz1]
  have h1 := run_firstCells_some (P := Try.prog) w i0.size n ⟨b, off, none⟩ n c2 ((fl M).map vi) hl (lies_cells hM)
  have h2 := run_storeCells_at Try.prog g 0 T ((fl M).map vi) 0 cur w hg (by rw [hl, hz1]; omega) (ones_vi _)
  have h3 : (List.take (0 + 0) cur.toList ++ (fl M).map vi ++ List.drop (0 + 0 + ((fl M).map vi).length) cur.toList) = (fl M).map vi := by
    rw [List.drop_of_length_le (by rw [hl, hz1, Array.length_toList]; omega)]
    simp
  rw [h3] at h2
  simp [Builtin.copy_, run_underlying Try.underlying51, Builtin.lenOf, sizeOf, typeInfo, hi, h1, h2, Nat.min_self]
theorem wpList_copyS {w : World} {ops : Array Oper} {rest : List Oper} {o : Oper} {a : Act} {Q : Exit → Act → World → Prop} (hgd : o.guard = none) (d s : Operand) (dT sT : TypeId)
    (ho : o.op = .call { callee := .builtin .copy, args := #[d, s], argTypes := #[dT, sT] }) (x y v : Value) (w' : World) (hd : a.eval d = x) (hs : a.eval s = y) (hrun : (Builtin.copy_ #[dT, sT] o.type #[x, y]).run Try.prog w = .ok v w')
    (h : wpList Try.prog ops Q rest (a.put o.dst v) w') : wpList Try.prog ops Q (o :: rest) a w := by
  refine wpList_plain hgd fun K hK => ?_
  unfold Oper.wp execOp
  simp only [ho, resolve, invoke, builtin, Sem.run_bind, Sem.run_pure, Result.andThen_ok, List.map_toArray, List.map_cons, List.map_nil, hd, hs, hrun]
  exact hK _ _ h
/-- what a call answers that makes a vector -/
def RetS (m : Nat) (M : List Sp) (e : Ending) (w' : World) : Prop := ∃ g k : Nat, e = .returned (.slice (some ⟨g, 0, none⟩) M.length k) ∧ IBox w' g (fl M) ∧ m ≤ g
theorem fl_lt {w : World} {b off : Nat} {M : List Sp} (h : LiesI w b off (fl M)) (hp : 0 < M.length) : b < w.heap.size :=
  World.block_lt_of_cell? _ _ (h _ _ (fl_four (List.getElem?_eq_getElem hp)).1)
set_option maxHeartbeats 3200000 in
theorem multiple_any (k : Int) (b off pc : Nat) (M : List Sp) (w : World) (hM : LiesI w b off (fl M)) (hp : 0 < M.length) (hlen : M.length ≤ 1000000) : Calls Try.prog 59 #[.int .i64 k, .slice (some ⟨b, off, none⟩) M.length pc] w fun e w' => RetS w.heap.size (mulL k M) e w' ∧ Below w.heap.size w w' := by
  have HM := Lib.hid hM
  have HX := Lib.hid (axp_repl k M)
  have HL := Lib.hid (mulL_len k M)
  have mk := fun (W : World) => makeS W M.length M.length rfl hlen
  have hlt := fl_lt hM hp
  have hb0 : Below w.heap.size w (w.alloc (.cells (madeCells sz.toArray (M.length * 4)) 95)) := by repeat (first | (with_reducible exact Below.refl _ _) | (with_reducible refine Below.setCell ?_ ?_ _) | (with_reducible refine Below.drew ?_) | (with_reducible refine Below.alloc ?_ ?_ _) | omega | (simp <;> omega))
  have c1 : Calls Try.prog 96 #[.slice (some ⟨w.heap.size, 0, none⟩) M.length M.length, .int .i64 k, .slice (some ⟨b, off, none⟩) M.length pc] (w.alloc (.cells (madeCells sz.toArray (M.length * 4)) 95)) fun e w' => e = .returned (.tuple #[]) ∧ Hid (IBox w' w.heap.size (fl (mulL k M))) ∧ Below w.heap.size w w' :=
    (addV_any k w.heap.size M.length (some ⟨b, off, none⟩) pc (List.replicate M.length zs) M _ (IBox.madeS (T := 95) (heap_alloc_new _ _) (by simp)) (.inr ⟨b, off, rfl, hM.later hb0⟩) (fun b' o' h => by cases h; omega) (by simp) hlen).mono fun e w' ⟨h1, h2, h3⟩ => ⟨h1, by rw [HX.out] at h2; exact Lib.hid h2, hb0.grown h3 (by simp) (fun j hj => by cases hj; exact Nat.le_refl _)⟩
  clear hM hb0
  go_enter Try.func59, Try.ntmps59
  go_wp2_with ((with_reducible refine c1.mono ?_); rintro e w1 ⟨rfl, hw1, hb1⟩)
  go_ret
  exact ⟨⟨w.heap.size, M.length, by rw [HL.out]; rfl, hw1.out, Nat.le_refl _⟩, hb1⟩
set_option maxHeartbeats 3200000 in
theorem minus_any (qb qo qc b off pc : Nat) (A M : List Sp) (w : World) (hA : LiesI w qb qo (fl A)) (hM : LiesI w b off (fl M)) (hp : 0 < M.length) (hl : A.length = M.length) (hlen : M.length ≤ 1000000) : Calls Try.prog 97 #[.slice (some ⟨qb, qo, none⟩) M.length qc, .slice (some ⟨b, off, none⟩) M.length pc] w fun e w' => RetS w.heap.size (axp (-1) A M) e w' ∧ Below w.heap.size w w' := by
  have HL := Lib.hid ((axp_len (-1) A M).trans hl)
  have mk := fun (W : World) => makeS W M.length M.length rfl hlen
  have hlt := fl_lt hM hp
  have hcs : (madeCells sz.toArray (M.length * 4)).size = M.length * 4 := by simp [madeCells]
  have hgn := heap_alloc_new w (.cells (madeCells sz.toArray (M.length * 4)) 95)
  have hb0 : Below w.heap.size w (w.alloc (.cells (madeCells sz.toArray (M.length * 4)) 95)) := by repeat (first | (with_reducible exact Below.refl _ _) | (with_reducible refine Below.setCell ?_ ?_ _) | (with_reducible refine Below.drew ?_) | (with_reducible refine Below.alloc ?_ ?_ _) | omega | (simp <;> omega))
  have hcp := fun ty => run_copyS (w.alloc (.cells (madeCells sz.toArray (M.length * 4)) 95)) ty w.heap.size M.length M.length qc qb qo 95 _ A hl hgn hcs (hA.later hb0)
  have hbx : IBox ((w.alloc (.cells (madeCells sz.toArray (M.length * 4)) 95)).setRow w.heap.size ((fl A).map vi).toArray) w.heap.size (fl A) := IBox.whole (setRow_heap _ _ _ _ _ _ hgn)
  have hb1 : Below w.heap.size w ((w.alloc (.cells (madeCells sz.toArray (M.length * 4)) 95)).setRow w.heap.size ((fl A).map vi).toArray) := below_setRow hb0 (Nat.le_refl _) _
  generalize (w.alloc (.cells (madeCells sz.toArray (M.length * 4)) 95)).setRow w.heap.size ((fl A).map vi).toArray = W1 at *
  have c1 : Calls Try.prog 96 #[.slice (some ⟨w.heap.size, 0, none⟩) M.length M.length, .int .i64 (-1), .slice (some ⟨b, off, none⟩) M.length pc] W1 fun e w' => e = .returned (.tuple #[]) ∧ Hid (IBox w' w.heap.size (fl (axp (-1) A M))) ∧ Below w.heap.size w w' :=
    (addV_any (-1) w.heap.size M.length (some ⟨b, off, none⟩) pc A M _ hbx (.inr ⟨b, off, rfl, hM.later hb1⟩) (fun b' o' h => by cases h; omega) hl hlen).mono fun e w' ⟨h1, h2, h3⟩ => ⟨h1, Lib.hid h2, hb1.grown h3 hb1.size (fun j hj => by cases hj; exact Nat.le_refl _)⟩
  have HC := Lib.hid hcp
  clear hA hM hb0 hl hgn hcs hbx hb1 hcp
  go_enter Try.func97, Try.ntmps97
  go_wp2_with (first | ((with_reducible refine c1.mono ?_); rintro e w1 ⟨rfl, hw1, hb1⟩) | (refine wpList_copyS rfl (.tmp 9) (.tmp 10) 51 51 rfl _ _ _ _ (by rfl) (by rfl) (HC.out _) ?_))
  go_ret
  exact ⟨⟨w.heap.size, M.length, by rw [HL.out]; rfl, hw1.out, Nat.le_refl _⟩, hb1⟩
end Go.Proofs.Ytojmagooapjohaa

/- The arms of a hopping in memory: a row of arms for each site, in a table.
Conditions: those written at each theorem. -/
namespace Go.Proofs.Ytojmagooapjohaa
set_option linter.unusedVariables false
set_option linter.unusedSimpArgs false
set_option maxRecDepth 1000000
open Go.RowKit
open Um Tm Fm

/-- the cells of an arm -/
def a5 (x : Arm) : List Value := [vi x.frm, vi x.q.w.a, vi x.q.w.b, vi x.q.w.c, vi x.q.w.d]
def av (A : List Arm) : List Value := A.flatMap a5
theorem av_nil : av [] = [] := rfl
theorem av_snoc (A : List Arm) (x : Arm) : av (A ++ [x]) = av A ++ a5 x := by simp [av]
theorem av_at : ∀ {A : List Arm} {j : Nat} {x : Arm}, A[j]? = some x → (av A)[j * 5]? = some (vi x.frm) ∧ (av A)[j * 5 + 1]? = some (vi x.q.w.a) ∧ (av A)[j * 5 + 2]? = some (vi x.q.w.b) ∧ (av A)[j * 5 + 3]? = some (vi x.q.w.c) ∧ (av A)[j * 5 + 4]? = some (vi x.q.w.d)
  | [], j, x, h => by simp at h
  | y :: A, 0, x, h => by simp at h; subst h; simp [av, a5]
  | y :: A, j + 1, x, h => by
    have k := av_at (A := A) (j := j) (x := x) (by simpa using h)
    have e : ∀ m, (av (y :: A))[(j + 1) * 5 + m]? = (av A)[j * 5 + m]? := fun m => by
      rw [show (j + 1) * 5 + m = (j * 5 + m) + 1 + 1 + 1 + 1 + 1 by omega]
      simp [av, a5]
    refine ⟨(e 0).trans k.1, (e 1).trans k.2.1, (e 2).trans k.2.2.1, (e 3).trans k.2.2.2.1, (e 4).trans k.2.2.2.2⟩
theorem infoA : (Try.prog.info? 189).map (fun i => (i.zero, i.size, i.bytes)) = some (some (.agg #[.int .i64 0, .int .i64 0, .int .i64 0, .int .i64 0, .int .i64 0]), 5, 40) := by kernel_rfl
theorem a5_ones (x : Arm) : ∀ u ∈ a5 x, u.oneCell' = true := fun u hu => by
  simp [a5] at hu
  rcases hu with rfl | rfl | rfl | rfl | rfl <;> rfl
/-- a table of rows of arms that a call has made from the block base on -/
structure Hp (w : World) (base g n : Nat) (vs : Nat → Value) (R : Nat → List Arm) : Prop where
  cell : ∀ s, s < n → w.cell? ⟨g, s, none⟩ = some (vs s)
  own : ∀ s, s < n → w.ownsRow base 189 5 (vs s) (R s).length (av (R s))
  far : ∀ s, s < n → (vs s).ownBlock ≠ some g
  apart : ∀ s t, s < n → t < n → s ≠ t → (vs s).ownBlock = none ∨ (vs s).ownBlock ≠ (vs t).ownBlock
  free : ∀ j, w.frozen? ⟨g, j, none⟩ = false
  lt : g < w.heap.size
theorem Hp.later {w w1 : World} {base g n : Nat} {vs : Nat → Value} {R : Nat → List Arm} (h : Hp w base g n vs R) (hb : Below w.heap.size w w1) : Hp w1 base g n vs R where
  cell s hs := (hb.cell (p := ⟨g, s, none⟩) h.lt).trans (h.cell s hs)
  own s hs := (h.own s hs).kept (row := none) (grown_below hb) (by cases (vs s).ownBlock <;> simp)
  far := h.far
  apart := h.apart
  free j := (hb.frozen (p := ⟨g, j, none⟩) h.lt).trans (h.free j)
  lt := Nat.lt_of_lt_of_le h.lt hb.size
/-- a write to another block than the table and its rows -/
theorem Hp.other {w w1 : World} {base g n b : Nat} {vs : Nat → Value} {R : Nat → List Arm} (h : Hp w base g n vs R) (hg : w.grownBy w1 (some b)) (hne : g ≠ b) (hr : ∀ s, s < n → (vs s).ownBlock ≠ some b) : Hp w1 base g n vs R where
  cell s hs := hg.cell (h.cell s hs) (by simp; exact hne)
  own s hs := (h.own s hs).kept hg (.inr (hr s hs))
  far := h.far
  apart := h.apart
  free j := (World.frozen?_of_block (a := ⟨g, j, none⟩) (hg.block g h.lt (by simp; exact hne))).trans (h.free j)
  lt := Nat.lt_of_lt_of_le h.lt hg.size
def upd {α : Type} (f : Nat → α) (s : Nat) (v : α) : Nat → α := fun i => if i = s then v else f i
theorem upd_same {α : Type} (f : Nat → α) (s : Nat) (v : α) : upd f s v s = v := if_pos rfl
theorem upd_other {α : Type} (f : Nat → α) {s t : Nat} (v : α) (h : t ≠ s) : upd f s v t = f t := if_neg h
/-- an arm is appended to a row, and the row is put into the table -/
theorem Hp.push {w w2 : World} {base g n s k cap : Nat} {vs : Nat → Value} {R : Nat → List Arm} {x : Arm} (h : Hp w base g n vs R) (hs : s < n)
    (hown : w2.ownsRow base 189 5 (.slice (some ⟨k, 0, none⟩) ((R s).length + 1) cap) ((R s).length + 1) (av (R s) ++ a5 x)) (hgr : w.grownBy w2 (vs s).ownBlock) (H : Nat) (hH : w.heap.size = H) (hat : (vs s).ownBlock = some k ∨ k = H) :
    Hp (w2.setCell ⟨g, s, none⟩ (.slice (some ⟨k, 0, none⟩) ((R s).length + 1) cap)) base g n (upd vs s (.slice (some ⟨k, 0, none⟩) ((R s).length + 1) cap)) (upd R s (R s ++ [x])) := by
  subst hH
  have hkg : k ≠ g := by
    rcases hat with h1 | h1
    · exact fun e => h.far s hs (by rw [h1, e])
    · have := h.lt; omega
  have hg2 : w2.heap[g]? = w.heap[g]? := hgr.block g h.lt (fun e => h.far s hs e.symm)
  have hset := grown_setCell w2 ⟨g, s, none⟩ (.slice (some ⟨k, 0, none⟩) ((R s).length + 1) cap)
  have hblk : (Value.slice (some ⟨k, 0, none⟩) ((R s).length + 1) cap).ownBlock = some k := rfl
  have hkt : ∀ t, t < n → t ≠ s → (vs t).ownBlock ≠ some k := fun t ht hne e => by
    rcases hat with h1 | h1
    · rcases h.apart t s ht hs hne with h2 | h2
      · rw [h2] at e; cases e
      · exact h2 (by rw [e, h1])
    · have := (h.own t ht).lt k e
      omega
  constructor
  · intro t ht
    by_cases he : t = s
    · subst he
      rw [upd_same]
      exact World.cell?_setCell_same _ _ _ ((World.cell?_of_block (a := ⟨g, t, none⟩) hg2).trans (h.cell t ht))
    · rw [upd_other _ _ he, World.cell?_setCell_other _ _ _ _ (by simp <;> omega)]
      exact (World.cell?_of_block (a := ⟨g, t, none⟩) hg2).trans (h.cell t ht)
  · intro t ht
    by_cases he : t = s
    · subst he
      rw [upd_same, upd_same, av_snoc, List.length_append]
      exact hown.kept hset (.inr (by rw [hblk]; simp; exact hkg))
    · rw [upd_other _ _ he, upd_other _ _ he]
      refine ((h.own t ht).kept hgr ?_).kept hset (.inr (h.far t ht))
      rcases h.apart t s ht hs he with h2 | h2
      · exact .inl h2
      · exact .inr h2
  · intro t ht
    by_cases he : t = s
    · subst he; rw [upd_same, hblk]; simp; exact hkg
    · rw [upd_other _ _ he]; exact h.far t ht
  · intro t u ht hu hne
    by_cases h1 : t = s
    · subst h1
      have : u ≠ t := fun e => hne e.symm
      rw [upd_same, upd_other _ _ this, hblk]
      exact .inr (fun e => hkt u hu this e.symm)
    · rw [upd_other _ _ h1]
      by_cases h2 : u = s
      · subst h2
        rw [upd_same, hblk]
        exact .inr (hkt t ht h1)
      · rw [upd_other _ _ h2]; exact h.apart t u ht hu hne
  · intro j
    rw [World.frozen?_setCell]
    exact (World.frozen?_of_block (a := ⟨g, j, none⟩) hg2).trans (h.free j)
  · simp [World.setCell]
    exact Nat.lt_of_lt_of_le h.lt hgr.size
/-- what a row looks like -/
theorem Hp.form {w : World} {base g n s : Nat} {vs : Nat → Value} {R : Nat → List Arm} (h : Hp w base g n vs R) (hs : s < n) : ∃ ao cap, vs s = .slice ao (R s).length cap ∧ ∀ j x, (R s)[j]? = some x → ∃ b, ao = some ⟨b, 0, none⟩ ∧ w.cell? ⟨b, j * 5, none⟩ = some (.int .i64 x.frm) ∧ w.cell? ⟨b, j * 5 + 1, none⟩ = some (.int .i64 x.q.w.a) ∧ w.cell? ⟨b, j * 5 + 2, none⟩ = some (.int .i64 x.q.w.b) ∧ w.cell? ⟨b, j * 5 + 3, none⟩ = some (.int .i64 x.q.w.c) ∧ w.cell? ⟨b, j * 5 + 4, none⟩ = some (.int .i64 x.q.w.d) := by
  have ho := h.own s hs
  rcases ho.2 with ⟨h1, h2⟩ | ⟨b, cap, cur, h1, -⟩
  · refine ⟨none, 0, by rw [h1, h2], fun j x hx => ?_⟩
    have : j < (R s).length := (List.getElem?_eq_some_iff.1 hx).1
    omega
  · refine ⟨some ⟨b, 0, none⟩, cap, h1, fun j x hx => ⟨b, rfl, ?_⟩⟩
    rw [h1] at ho
    have hj : j < (R s).length := (List.getElem?_eq_some_iff.1 hx).1
    obtain ⟨k0, k1, k2, k3, k4⟩ := av_at hx
    exact ⟨(ho.cellAt _ (by omega)).trans k0, (ho.cellAt _ (by omega)).trans k1, (ho.cellAt _ (by omega)).trans k2, (ho.cellAt _ (by omega)).trans k3, (ho.cellAt _ (by omega)).trans k4⟩
end Go.Proofs.Ytojmagooapjohaa

/- The hopping of a vector, as the program makes it out of the arms.
Conditions: the arms and the vector lie in memory as it is written. -/
namespace Go.Proofs.Ytojmagooapjohaa
set_option linter.unusedVariables false
set_option linter.unusedSimpArgs false
set_option maxRecDepth 1000000
open Go.RowKit
open Um Tm Fm

theorem wr_two (x y : Int) : IntKind.i64.wrap (wrap64 x + wrap64 y) = wrap64 (x + y) := by
  rw [IntWalk.i64_left, w_add_l, w_add_r]
theorem wr_two' (x y : Int) : wrap64 (wrap64 x + wrap64 y) = wrap64 (x + y) := by rw [w_add_l, w_add_r]
set_option maxHeartbeats 6400000 in
theorem of_any (base g n gc b off pc : Nat) (vs : Nat → Value) (R : Nat → List Arm) (M : List Sp) (w : World) (hH : Hp w base g n vs R) (hM : LiesI w b off (fl M)) (hn : M.length = n) (hp : 0 < n) (hfr : ∀ (s j : Nat) (x : Arm), s < n → (R s)[j]? = some x → x.frm < n) (hrl : ∀ s, s < n → (R s).length ≤ 1000000) (hlen : n ≤ 1000000) : Calls Try.prog 95 #[.slice (some ⟨g, 0, none⟩) n gc, .slice (some ⟨b, off, none⟩) n pc] w fun e w' => RetS w.heap.size (hopR n R M) e w' ∧ Below w.heap.size w w' := by
  have HH := Lib.hid hH
  have HM := Lib.hid hM
  have HN := Lib.hid hn
  have HF := Lib.hid hfr
  have HRL := Lib.hid hrl
  have hlm := fl_lt hM (by omega)
  have hlg := hH.lt
  have mk := fun (W : World) => makeS W n n rfl hlen
  have K0 := Lib.hid (show IBox (w.alloc (.cells (madeCells sz.toArray (n * 4)) 95)) w.heap.size (fl (prt n R M 0 0)) by rw [prt_start]; exact IBox.madeS (T := 95) (heap_alloc_new _ _) (by simp))
  have HB0 := Lib.hid (show Below w.heap.size w (w.alloc (.cells (madeCells sz.toArray (n * 4)) 95)) by repeat (first | (with_reducible exact Below.refl _ _) | (with_reducible refine Below.setCell ?_ ?_ _) | (with_reducible refine Below.drew ?_) | (with_reducible refine Below.alloc ?_ ?_ _) | omega | (simp <;> omega)))
  clear hH hM hn hfr hrl
  have kc := @Tail.cell_re
  have kc1 : ∀ (W : World) (o : Obj) (d : Nat) (os : Array Obj) (a : Addr), a.block ≤ W.heap.size → (Sort.grow (redrawn (W.alloc o) d) os).cell? a = (W.alloc o).cell? a := fun W o d os a h => Tail.cell_re (W.alloc o) d os a (Nat.lt_of_le_of_lt h (by simp))
  go_enter Try.func95, Try.ntmps95
  go_wp2
  generalize w.alloc (.cells (madeCells sz.toArray (n * 4)) 95) = W0 at *
  go_loopw [6, 7, 9, 10, 11, 17] (fun _ _ _ _ _ q wr => ∃ s : Nat, s ≤ n ∧ q = .int .i64 s ∧ Hid (IBox wr w.heap.size (fl (prt n R M s 0))) ∧ Hid (Below w.heap.size w wr)) (fun _ _ _ _ _ q _ => n - (intOf q).toNat)
  case atStart => exact ⟨0, by omega, rfl, K0, HB0⟩
  case round =>
    obtain ⟨s, hs, rfl, hbox, hb⟩ := hrel
    clear K0 HB0
    by_cases hlt : s < n
    · have i1 : (s : Int) < (n : Int) := by omega
      obtain ⟨ao, cap, hv, hrow⟩ := HH.out.form hlt
      have hcell := (HH.out.later hb.out).cell s hlt
      rw [hv] at hcell
      have hrn := HRL.out s hlt
      have HROW := Lib.hid hrow
      clear hv hrow
      go_wp2
      go_loopw [9, 10, 11, 24] (fun _ _ _ q wr => ∃ j : Nat, j ≤ (R s).length ∧ q = .int .i64 j ∧ Hid (IBox wr w.heap.size (fl (prt n R M s j))) ∧ Hid (Below w.heap.size w wr)) (fun _ _ _ q _ => (R s).length - (intOf q).toNat)
      case atStart => exact ⟨0, by omega, rfl, hbox, hb⟩
      case round =>
        obtain ⟨j, hj, rfl, hbi, hbb⟩ := hrel
        clear hbox hb hcell
        by_cases hjl : j < (R s).length
        · have i2 : (j : Int) < ((R s).length : Int) := by omega
          have hx : (R s)[j]? = some (R s)[j] := List.getElem?_eq_getElem hjl
          have hset := prt_set (n := n) R M hx
          have hfx := HF.out s j _ hlt hx
          obtain ⟨rb, rfl, k0, k1, k2, k3, k4⟩ := HROW.out j _ hx
          generalize (R s)[j] = x at *
          have hrb := World.block_lt_of_cell? _ _ k0
          have tr : ∀ (o : Nat) (v : Value), w.cell? ⟨rb, o, none⟩ = some v → wr.cell? ⟨rb, o, none⟩ = some v := fun o v h => (hbb.out.cell (p := ⟨rb, o, none⟩) hrb).trans h
          have m0 := tr _ _ k0
          have m1 := tr _ _ k1
          have m2 := tr _ _ k2
          have m3 := tr _ _ k3
          have m4 := tr _ _ k4
          have hfm : x.frm < M.length := by have := HN.out; omega
          have hy := HM.out.later hbb.out
          obtain ⟨y0, y1, y2, y3⟩ := four_at hy (List.getElem?_eq_getElem hfm)
          have eY : at0 M x.frm = M[x.frm] := at0_of (List.getElem?_eq_getElem hfm)
          rw [eY] at hset
          have hsb := hbb.out.size
          have i3 : (x.frm : Int) < (n : Int) := by omega
          generalize M[x.frm] = y at *
          have q := fl_four (prt_at R M j hlt)
          have hfs := fl_set (prt n R M s j) s (addS (accS M ((R s).take j)) (mulS x.q y)).w
          rw [hset] at hfs
          have c1 := fun W : World => times7_any x.q.w y W
          rw [mulS_w_l] at c1
          have hll : s * 4 + 3 < (fl (prt n R M s j)).length := fl_get_len (by rw [prt_len]; exact hlt)
          generalize accS M ((R s).take j) = t at *
          obtain ⟨q0, q1, q2, q3⟩ := q
          have e0 := wr_two t.a (mulS x.q y).a
          have f0 := wr_two' t.a (mulS x.q y).a
          rw [show wrap64 (t.a + (mulS x.q y).a) = (addS t (mulS x.q y)).w.a from rfl, show wrap64 t.a = t.w.a from rfl, show wrap64 (mulS x.q y).a = (mulS x.q y).w.a from rfl] at e0 f0
          have e1 := wr_two t.b (mulS x.q y).b
          have f1 := wr_two' t.b (mulS x.q y).b
          rw [show wrap64 (t.b + (mulS x.q y).b) = (addS t (mulS x.q y)).w.b from rfl, show wrap64 t.b = t.w.b from rfl, show wrap64 (mulS x.q y).b = (mulS x.q y).w.b from rfl] at e1 f1
          have e2 := wr_two t.c (mulS x.q y).c
          have f2 := wr_two' t.c (mulS x.q y).c
          rw [show wrap64 (t.c + (mulS x.q y).c) = (addS t (mulS x.q y)).w.c from rfl, show wrap64 t.c = t.w.c from rfl, show wrap64 (mulS x.q y).c = (mulS x.q y).w.c from rfl] at e2 f2
          have e3 := wr_two t.d (mulS x.q y).d
          have f3 := wr_two' t.d (mulS x.q y).d
          rw [show wrap64 (t.d + (mulS x.q y).d) = (addS t (mulS x.q y)).w.d from rfl, show wrap64 t.d = t.w.d from rfl, show wrap64 (mulS x.q y).d = (mulS x.q y).w.d from rfl] at e3 f3
          generalize t.w = t at *
          generalize (addS _ (mulS x.q y)).w = v at *
          generalize (mulS x.q y).w = r at *
          generalize x.q.w = xq at *
          generalize x.frm = xf at *
          have HFS := Lib.hid hfs
          have s0 := Lib.hid q0
          have s1 := Lib.hid (set_get_ne (v := v.a) q1 (by omega : s * 4 ≠ s * 4 + 1))
          have s2 := Lib.hid (set_get_ne (v := v.b) (set_get_ne (v := v.a) q2 (by omega : s * 4 ≠ s * 4 + 2)) (by omega : s * 4 + 1 ≠ s * 4 + 2))
          have s3 := Lib.hid (set_get_ne (v := v.c) (set_get_ne (v := v.b) (set_get_ne (v := v.a) q3 (by omega : s * 4 ≠ s * 4 + 3)) (by omega : s * 4 + 1 ≠ s * 4 + 3)) (by omega : s * 4 + 2 ≠ s * 4 + 3))
          have l0 := Lib.hid (show s * 4 < (fl (prt n R M s j)).length by omega)
          have l1 := Lib.hid (show s * 4 + 1 < ((fl (prt n R M s j)).set (s * 4) v.a).length by simp only [List.length_set]; omega)
          have l2 := Lib.hid (show s * 4 + 2 < (((fl (prt n R M s j)).set (s * 4) v.a).set (s * 4 + 1) v.b).length by simp only [List.length_set]; omega)
          have l3 := Lib.hid (show s * 4 + 3 < ((((fl (prt n R M s j)).set (s * 4) v.a).set (s * 4 + 1) v.b).set (s * 4 + 2) v.c).length by simp only [List.length_set]; omega)
          have j0 := ixS0 r.a r.b r.c r.d
          have j1 := ixS1 r.a r.b r.c r.d
          have j2 := ixS2 r.a r.b r.c r.d
          have j3 := ixS3 r.a r.b r.c r.d
          have hib := hbi.out.lt
          have hmw : b < wr.heap.size := by omega
          clear hset hfs q0 q1 q2 q3 hll hx hfx k0 k1 k2 k3 k4 tr hy eY hfm
          go_wp2
          have BX := hbi.out.later (show Below wr.heap.size wr (wr.alloc (.cells #[.int .i64 xf, .int .i64 xq.a, .int .i64 xq.b, .int .i64 xq.c, .int .i64 xq.d] 189)) by repeat (first | (with_reducible exact Below.refl _ _) | (with_reducible refine Below.setCell ?_ ?_ _) | (with_reducible refine Below.drew ?_) | (with_reducible refine Below.alloc ?_ ?_ _) | omega | (simp <;> omega)))
          have HBX := Lib.hid BX
          have HBB := Lib.hid (hbb.out.alloc (by omega) (.cells #[.int .i64 xf, .int .i64 xq.a, .int .i64 xq.b, .int .i64 xq.c, .int .i64 xq.d] 189))
          clear BX hbi hbb m0 m1 m2 m3 m4
          refine Tail.region_below (by kernel_rfl) (by kernel_rfl) ?_
          repeat (go_big_quiet_step (first | (with_reducible exact Calls.regrown_of (c1 _))))
          refine wpQuiet_nil ?_
          intro wb hwb
          have B0 := Lib.hid (HBX.out.later hwb)
          have G0 := Lib.hid (HBB.out.trans (hwb.mono HBB.out.size))
          clear HBX HBB hwb y0 y1 y2 y3 c1 hmw hib
          go_wp2
          refine wp_loop_rounds 5 ?_
          have hg0 := B0.out.lt
          have c0 := B0.out.at s0.out
          rw [rounds_succ]
          go_wp2
          refine Tail.region_tail_below 9 (by kernel_rfl) (by kernel_rfl) ?_
          simp only [List.take_succ_cons, List.take_zero, List.drop_succ_cons, List.drop_zero]
          repeat (go_big_quiet_step (fail))
          refine wpQuiet_nil ?_
          intro w1 hw1
          have BB := Lib.hid (B0.out.later hw1)
          have GG := Lib.hid (G0.out.trans (hw1.mono G0.out.size))
          clear c0 hg0 hw1
          have c0 := BB.out.at s0.out
          have fp := BB.out.free
          have hg0 := BB.out.lt
          go_wp2
          have B1 := Lib.hid (BB.out.put (s * 4) l0.out v.a)
          have G1 := Lib.hid (show Below w.heap.size w (w1.setCell ⟨w.heap.size, s * 4, none⟩ (.int .i64 v.a)) by have hgg := GG.out; repeat (first | (with_reducible exact Below.refl _ _) | (with_reducible refine Below.setCell ?_ ?_ _) | (with_reducible refine Below.drew ?_) | (with_reducible refine Below.alloc ?_ ?_ _) | (with_reducible refine Below.trans ?_ (Below.mono hgg ?_)) | (with_reducible exact hgg.size) | omega | (simp <;> omega) | (simp <;> (have s := hgg.size; omega)) | (have s0 := hgg.size; (try simp at s0); (try simp); omega)))
          clear c0 fp hg0 BB GG B0 G0 e0 f0
          generalize w1.setCell ⟨w.heap.size, s * 4, none⟩ (.int .i64 v.a) = W1 at *
          have hg1 := B1.out.lt
          have c1 := B1.out.at s1.out
          rw [rounds_succ]
          go_wp2
          refine Tail.region_tail_below 9 (by kernel_rfl) (by kernel_rfl) ?_
          simp only [List.take_succ_cons, List.take_zero, List.drop_succ_cons, List.drop_zero]
          repeat (go_big_quiet_step (fail))
          refine wpQuiet_nil ?_
          intro w2 hw2
          have BB := Lib.hid (B1.out.later hw2)
          have GG := Lib.hid (G1.out.trans (hw2.mono G1.out.size))
          clear c1 hg1 hw2
          have c1 := BB.out.at s1.out
          have fp := BB.out.free
          have hg1 := BB.out.lt
          go_wp2
          have B2 := Lib.hid (BB.out.put (s * 4 + 1) l1.out v.b)
          have G2 := Lib.hid (show Below w.heap.size w (w2.setCell ⟨w.heap.size, s * 4 + 1, none⟩ (.int .i64 v.b)) by have hgg := GG.out; repeat (first | (with_reducible exact Below.refl _ _) | (with_reducible refine Below.setCell ?_ ?_ _) | (with_reducible refine Below.drew ?_) | (with_reducible refine Below.alloc ?_ ?_ _) | (with_reducible refine Below.trans ?_ (Below.mono hgg ?_)) | (with_reducible exact hgg.size) | omega | (simp <;> omega) | (simp <;> (have s := hgg.size; omega)) | (have s0 := hgg.size; (try simp at s0); (try simp); omega)))
          clear c1 fp hg1 BB GG B1 G1 e1 f1
          generalize w2.setCell ⟨w.heap.size, s * 4 + 1, none⟩ (.int .i64 v.b) = W2 at *
          have hg2 := B2.out.lt
          have c2 := B2.out.at s2.out
          rw [rounds_succ]
          go_wp2
          refine Tail.region_tail_below 9 (by kernel_rfl) (by kernel_rfl) ?_
          simp only [List.take_succ_cons, List.take_zero, List.drop_succ_cons, List.drop_zero]
          repeat (go_big_quiet_step (fail))
          refine wpQuiet_nil ?_
          intro w3 hw3
          have BB := Lib.hid (B2.out.later hw3)
          have GG := Lib.hid (G2.out.trans (hw3.mono G2.out.size))
          clear c2 hg2 hw3
          have c2 := BB.out.at s2.out
          have fp := BB.out.free
          have hg2 := BB.out.lt
          go_wp2
          have B3 := Lib.hid (BB.out.put (s * 4 + 2) l2.out v.c)
          have G3 := Lib.hid (show Below w.heap.size w (w3.setCell ⟨w.heap.size, s * 4 + 2, none⟩ (.int .i64 v.c)) by have hgg := GG.out; repeat (first | (with_reducible exact Below.refl _ _) | (with_reducible refine Below.setCell ?_ ?_ _) | (with_reducible refine Below.drew ?_) | (with_reducible refine Below.alloc ?_ ?_ _) | (with_reducible refine Below.trans ?_ (Below.mono hgg ?_)) | (with_reducible exact hgg.size) | omega | (simp <;> omega) | (simp <;> (have s := hgg.size; omega)) | (have s0 := hgg.size; (try simp at s0); (try simp); omega)))
          clear c2 fp hg2 BB GG B2 G2 e2 f2
          generalize w3.setCell ⟨w.heap.size, s * 4 + 2, none⟩ (.int .i64 v.c) = W3 at *
          have hg3 := B3.out.lt
          have c3 := B3.out.at s3.out
          rw [rounds_succ]
          go_wp2
          refine Tail.region_tail_below 9 (by kernel_rfl) (by kernel_rfl) ?_
          simp only [List.take_succ_cons, List.take_zero, List.drop_succ_cons, List.drop_zero]
          repeat (go_big_quiet_step (fail))
          refine wpQuiet_nil ?_
          intro w4 hw4
          have BB := Lib.hid (B3.out.later hw4)
          have GG := Lib.hid (G3.out.trans (hw4.mono G3.out.size))
          clear c3 hg3 hw4
          have c3 := BB.out.at s3.out
          have fp := BB.out.free
          have hg3 := BB.out.lt
          go_wp2
          have B4 := Lib.hid (BB.out.put (s * 4 + 3) l3.out v.d)
          have G4 := Lib.hid (show Below w.heap.size w (w4.setCell ⟨w.heap.size, s * 4 + 3, none⟩ (.int .i64 v.d)) by have hgg := GG.out; repeat (first | (with_reducible exact Below.refl _ _) | (with_reducible refine Below.setCell ?_ ?_ _) | (with_reducible refine Below.drew ?_) | (with_reducible refine Below.alloc ?_ ?_ _) | (with_reducible refine Below.trans ?_ (Below.mono hgg ?_)) | (with_reducible exact hgg.size) | omega | (simp <;> omega) | (simp <;> (have s := hgg.size; omega)) | (have s0 := hgg.size; (try simp at s0); (try simp); omega)))
          clear c3 fp hg3 BB GG B3 G3 e3 f3
          generalize w4.setCell ⟨w.heap.size, s * 4 + 3, none⟩ (.int .i64 v.d) = W4 at *
          rw [rounds_succ]
          go_wp2
          exact ⟨⟨j + 1, by omega, by go_num, by rw [HFS.out] at B4; exact B4, G4⟩, by simp [intOf]; omega⟩
        · obtain rfl : j = (R s).length := by omega
          have hbn := Lib.hid (show IBox wr w.heap.size (fl (prt n R M (s + 1) 0)) by rw [← prt_next]; exact hbi.out)
          clear hbi
          go_wp2
          exact ⟨⟨s + 1, by omega, by go_num, hbn, hbb⟩, by simp [intOf]; omega⟩
    · obtain rfl : s = n := by omega
      have hbn := Lib.hid (show IBox wr w.heap.size (fl (hopR s R M)) by rw [← prt_end]; exact hbox.out)
      have HLN := Lib.hid (show (hopR s R M).length = s from tab_len _ _)
      clear hbox
      go_wp2
      go_ret
      exact ⟨⟨w.heap.size, s, by rw [HLN.out]; rfl, hbn.out, Nat.le_refl _⟩, hb.out⟩
end Go.Proofs.Ytojmagooapjohaa

/- The arms of a small field, as the program makes them.
Conditions: the field is valid and small, its links lie in memory. -/
namespace Go.Proofs.Ytojmagooapjohaa
set_option linter.unusedVariables false
set_option linter.unusedSimpArgs false
set_option maxRecDepth 1000000
open Go.RowKit
open Um Tm Fm

theorem row_upd (A : List Arm) (x : Arm) : row (A ++ [x]) = upd (row A) x.to (row A x.to ++ [x]) := by
  funext t
  rw [row_snoc]
  by_cases h : x.to = t
  · subst h; rw [if_pos rfl, upd_same]
  · rw [if_neg h, upd_other _ _ (fun e => h e.symm)]
theorem row_len (A : List Arm) (s : Nat) : (row A s).length ≤ A.length := List.length_filter_le _ _
theorem arms_len (a b c : Int) (L : List Q) : ∀ k, (arms a b c L k).length = 2 * k
  | 0 => rfl
  | k + 1 => by simp only [arms, List.length_append, arms_len a b c L k, List.length_cons, List.length_nil]; omega
theorem infoAs : (Try.prog.info? 187).map (fun i => (i.zero, i.size, i.bytes)) = some (some (.slice none 0 0), 1, 24) := by kernel_rfl
theorem makeH (W : World) (n : Nat) (x : Int) (hx : x = n) (hn : n ≤ 1000000) : (Instr.makeSlice 102 (.int .i64 x) (.int .i64 x)).run Try.prog W = .ok (.slice (some ⟨W.heap.size, 0, none⟩) n n) (W.alloc (.cells (madeCells #[.slice none 0 0] n) 187)) := by
  obtain ⟨i0, hi, hz0, hz1, hz2⟩ := info_parts infoAs
  have := run_make (P := Try.prog) W 102 187 i0 _ Try.underlying102 hi hz0 .i64 .i64 x x (by omega) (Int.le_refl _) (by rw [hz2]; omega) (by omega)
  rw [this, hz1, hx, Int.toNat_natCast, Nat.mul_one]
  rfl
theorem free_of {w : World} {g : Nat} {cs : Array Value} {T : TypeId} (h : w.heap[g]? = some (.cells cs T)) : ∀ j, w.frozen? ⟨g, j, none⟩ = false := fun j => by simp [World.frozen?, h]
theorem Hp.made (w : World) (n : Nat) (base : Nat) : Hp (w.alloc (.cells (madeCells #[.slice none 0 0] n) 187)) base w.heap.size n (fun _ => .slice none 0 0) (row []) := by
  have h := heap_alloc_new w (.cells (madeCells #[.slice none 0 0] n) 187)
  refine ⟨fun s hs => ?_, fun s _ => World.ownsRow_nil _ _ _ _, fun s _ => by simp [Value.ownBlock], fun _ _ _ _ _ => .inl rfl, free_of h, by simp⟩
  simp only [World.cell?, h]
  have e : (madeCells #[(.slice none 0 0 : Value)] n)[s]? = some (.slice none 0 0) := by
    unfold madeCells
    rw [Array.getElem?_map, Array.getElem?_range, if_pos (by omega)]
    show some (#[(.slice none 0 0 : Value)][s % 1]!) = _
    rw [Nat.mod_one]
    rfl
  simpa using e
theorem fac_eq (a b : Int) {L : List Q} {k : Nat} {u : Q} (h : L[k]? = some u) : fac a b L k = smS (sg3 a b ((k : Int) % 3) ((k : Int) / 3)) (tw u) := by
  unfold fac ln
  rw [List.getD_eq_getElem?_getD, h]
  simp
theorem frozen_ad {W : World} {b : Nat} (o : Obj) (j : Nat) (h : b < W.heap.size) : (W.alloc o).drew.frozen? ⟨b, j, none⟩ = W.frozen? ⟨b, j, none⟩ :=
  (show Below W.heap.size W (W.alloc o).drew by repeat (first | (with_reducible exact Below.refl _ _) | (with_reducible refine Below.setCell ?_ ?_ _) | (with_reducible refine Below.drew ?_) | (with_reducible refine Below.alloc ?_ ?_ _) | omega | (simp <;> omega))).frozen (p := ⟨b, j, none⟩) h
theorem owned_base {w : World} {base base' : Nat} {e : TypeId} {size : Nat} {v : Value} {n : Nat} {xs : List Value} (h : w.ownsRow base e size v n xs) (hb : base' ≤ base) : w.ownsRow base' e size v n xs :=
  ⟨h.1, h.2.elim .inl (fun ⟨g, cap, cur, h1, h2, h3⟩ => .inr ⟨g, cap, cur, h1, Nat.le_trans hb h2, h3⟩)⟩
theorem five_news {w : World} {b : Nat} {x0 x1 x2 x3 x4 : Value} {vs : List Value} (hv : vs = [x0, x1, x2, x3, x4]) (h0 : w.cell? ⟨b, 0, none⟩ = some x0) (h1 : w.cell? ⟨b, 1, none⟩ = some x1) (h2 : w.cell? ⟨b, 2, none⟩ = some x2) (h3 : w.cell? ⟨b, 3, none⟩ = some x3) (h4 : w.cell? ⟨b, 4, none⟩ = some x4) : ∀ j u, vs[j]? = some u → w.cell? (Addr.add ⟨b, 0, none⟩ j) = some u := by
  subst hv
  intro j u hj
  match j, hj with
  | 0, hj => simp at hj; subst hj; exact h0
  | 1, hj => simp at hj; subst hj; exact h1
  | 2, hj => simp at hj; subst hj; exact h2
  | 3, hj => simp at hj; subst hj; exact h3
  | 4, hj => simp at hj; subst hj; exact h4
  | n + 5, hj => simp at hj
theorem wr_mul (x k : Int) : IntKind.i64.wrap (wrap64 x * k) = wrap64 (k * x) := by
  rw [IntWalk.i64_left, w_mul_l, Int.mul_comm]
theorem wr_mul' (x k : Int) : wrap64 (wrap64 x * k) = wrap64 (k * x) := by rw [w_mul_l, Int.mul_comm]
theorem wr_neg (x : Int) : IntKind.i64.wrap (-wrap64 x) = wrap64 (-x) := by rw [IntWalk.i64_left, w_neg]
theorem wr_neg' (x : Int) : wrap64 (-wrap64 x) = wrap64 (-x) := w_neg x
/-- what is answered of a field: its arms -/
def RetH (m n : Nat) (R : Nat → List Arm) (e : Ending) (w' : World) : Prop := ∃ (g : Nat) (vs : Nat → Value), e = .returned (.tuple #[.slice (some ⟨g, 0, none⟩) n n, .int .i64 0]) ∧ Hp w' m g n vs R ∧ m ≤ g
set_option maxHeartbeats 6400000 in
theorem hoppingOf_any (a b c : Int) (bl off cap n : Nat) (L : List Q) (w : World) (hz : Sz a b c) (hn : (n : Int) = a * b * c) (hlen : L.length = n * 3) (hL : Lies w bl off L) (hsm : ∀ (i : Nat) (x : Q), L[i]? = some x → N12 x) : Calls Try.prog 94 #[.agg #[.int .i64 a, .int .i64 b, .int .i64 c, .slice (some ⟨bl, off, none⟩) L.length cap]] w fun e w' => RetH w.heap.size n (row (arms a b c L L.length)) e w' ∧ Below w.heap.size w w' := by
  obtain ⟨i0, hi, hz0, hz1, hz2⟩ := info_parts infoA
  have hn16 : n ≤ 16 := by have := hz.p; omega
  have HL := Lib.hid hL
  have HS := Lib.hid hsm
  have HZ := Lib.hid hz
  have HN := Lib.hid hn
  have HE := Lib.hid hlen
  have hL48 : L.length ≤ 48 := by omega
  have mk := fun (W : World) => makeH W n ((L.length : Int) / 3) (by omega) (by omega)
  have HR := Lib.hid (fun k => show arms a b c L (k + 1) = arms a b c L k ++ [arm1 a b c L k] ++ [arm2 a b c L k] from rfl)
  have HF0 := Lib.hid (show FBox ((w.alloc (.cells #[.int .i64 a, .int .i64 b, .int .i64 c, .slice (some ⟨bl, off, none⟩) L.length cap] 25)).alloc (.cells (madeCells #[.slice none 0 0] n) 187)) w.heap.size a b c (.slice (some ⟨bl, off, none⟩) L.length cap) by
    refine FBox.later ?_ ((Below.refl _ _).alloc (Nat.le_refl _) _)
    exact ⟨by simp [go_sem], by simp [go_sem], by simp [go_sem], by simp [go_sem], by simp⟩)
  have K0 := Lib.hid (Hp.made (w.alloc (.cells #[.int .i64 a, .int .i64 b, .int .i64 c, .slice (some ⟨bl, off, none⟩) L.length cap] 25)) n (w.heap.size + 2))
  have HB0 := Lib.hid (show Below w.heap.size w ((w.alloc (.cells #[.int .i64 a, .int .i64 b, .int .i64 c, .slice (some ⟨bl, off, none⟩) L.length cap] 25)).alloc (.cells (madeCells #[.slice none 0 0] n) 187)) by repeat (first | (with_reducible exact Below.refl _ _) | (with_reducible refine Below.setCell ?_ ?_ _) | (with_reducible refine Below.drew ?_) | (with_reducible refine Below.alloc ?_ ?_ _) | omega | (simp <;> omega)))
  have hg0 : (w.alloc (.cells #[.int .i64 a, .int .i64 b, .int .i64 c, .slice (some ⟨bl, off, none⟩) L.length cap] 25)).heap.size = w.heap.size + 1 := by simp
  rw [hg0] at K0
  clear hL hsm hz hn hg0 hlen
  have kc := @Tail.cell_re
  have kc1 : ∀ (W : World) (o : Obj) (d : Nat) (os : Array Obj) (a : Addr), a.block ≤ W.heap.size → (Sort.grow (redrawn (W.alloc o) d) os).cell? a = (W.alloc o).cell? a := fun W o d os a h => Tail.cell_re (W.alloc o) d os a (Nat.lt_of_le_of_lt h (by simp))
  go_enter Try.func94, Try.ntmps94
  go_wp2
  generalize (w.alloc (.cells #[.int .i64 a, .int .i64 b, .int .i64 c, .slice (some ⟨bl, off, none⟩) L.length cap] 25)).alloc (.cells (madeCells #[.slice none 0 0] n) 187) = W0 at *
  go_loopw [5, 6, 7, 8, 9, 10, 11, 12, 13, 22] (fun _ _ _ _ _ _ _ _ _ q wr => ∃ (k : Nat) (vs : Nat → Value), k ≤ L.length ∧ q = .int .i64 k ∧ Hid (FBox wr w.heap.size a b c (.slice (some ⟨bl, off, none⟩) L.length cap)) ∧ Hid (Hp wr (w.heap.size + 2) (w.heap.size + 1) n vs (row (arms a b c L k))) ∧ Hid (Below w.heap.size w wr)) (fun _ _ _ _ _ _ _ _ _ q _ => L.length - (intOf q).toNat)
  case atStart => exact ⟨0, _, by omega, rfl, HF0, K0, HB0⟩
  case round =>
    obtain ⟨k, vs, hk, rfl, hf, hH, hb⟩ := hrel
    clear HF0 K0 HB0
    by_cases hlt : k < L.length
    · have i1 : (k : Int) < (L.length : Int) := by omega
      have hx : L[k]? = some L[k] := List.getElem?_eq_getElem hlt
      have hsm := HS.out k _ hx
      obtain ⟨l0, l1, l2, l3, l4⟩ := HL.out.later hb.out k _ hx
      have hs0 : k / 3 < n := by have := HE.out; omega
      have hsI : (k : Int) / 3 < a * b * c := by rw [← HN.out]; omega
      have hfac := fac_eq a b hx
      have hy := nxl_rng HZ.out k
      have hyn : nxl a b c k < n := by have := HN.out; omega
      have c1 := fun W : World => nextO_any a b c ((k : Int) / 3) ((k : Int) % 3 + 1) _ _ W (.inr (.inr (.inr ⟨HZ.out, by omega, hsI, ⟨by omega, by omega, by omega⟩, rfl, rfl⟩)))
      have c2 := fun W : World => signO_in a b c ((k : Int) / 3) ((k : Int) % 3) W HZ.out (by omega) hsI (by omega) (by omega)
      have c3 := fun W : World => twice7_any L[k] W hsm
      rw [show nx a b c ((k : Int) / 3) ((k : Int) % 3 + 1) = ((nxl a b c k : Nat) : Int) by rw [hy.1]; simp] at c1
      have hrw := HR.out k
      unfold arm1 arm2 at hrw
      rw [hfac] at hrw
      have hA1 : a5 ⟨k / 3, nxl a b c k, smS (sg3 a b ((k : Int) % 3) ((k : Int) / 3)) (tw L[k])⟩ = [vi (nxl a b c k : Nat), vi (smS (sg3 a b ((k : Int) % 3) ((k : Int) / 3)) (tw L[k])).w.a, vi (smS (sg3 a b ((k : Int) % 3) ((k : Int) / 3)) (tw L[k])).w.b, vi (smS (sg3 a b ((k : Int) % 3) ((k : Int) / 3)) (tw L[k])).w.c, vi (smS (sg3 a b ((k : Int) % 3) ((k : Int) / 3)) (tw L[k])).w.d] := rfl
      have hA2 : a5 ⟨nxl a b c k, k / 3, flipS (smS (sg3 a b ((k : Int) % 3) ((k : Int) / 3)) (tw L[k]))⟩ = [vi (k / 3 : Nat), vi (flipS (smS (sg3 a b ((k : Int) % 3) ((k : Int) / 3)) (tw L[k]))).w.a, vi (smS (sg3 a b ((k : Int) % 3) ((k : Int) / 3)) (tw L[k])).w.b, vi (smS (sg3 a b ((k : Int) % 3) ((k : Int) / 3)) (tw L[k])).w.c, vi (smS (sg3 a b ((k : Int) % 3) ((k : Int) / 3)) (tw L[k])).w.d] := rfl
      generalize L[k] = u at *
      generalize nxl a b c k = y at *
      generalize sg3 a b ((k : Int) % 3) ((k : Int) / 3) = σ at *
      have e0 := wr_mul (tw u).a σ
      have f0 := wr_mul' (tw u).a σ
      rw [show wrap64 (σ * (tw u).a) = (smS σ (tw u)).w.a from rfl, show wrap64 (tw u).a = (tw u).w.a from rfl] at e0 f0
      have e1 := wr_mul (tw u).b σ
      have f1 := wr_mul' (tw u).b σ
      rw [show wrap64 (σ * (tw u).b) = (smS σ (tw u)).w.b from rfl, show wrap64 (tw u).b = (tw u).w.b from rfl] at e1 f1
      have e2 := wr_mul (tw u).c σ
      have f2 := wr_mul' (tw u).c σ
      rw [show wrap64 (σ * (tw u).c) = (smS σ (tw u)).w.c from rfl, show wrap64 (tw u).c = (tw u).w.c from rfl] at e2 f2
      have e3 := wr_mul (tw u).d σ
      have f3 := wr_mul' (tw u).d σ
      rw [show wrap64 (σ * (tw u).d) = (smS σ (tw u)).w.d from rfl, show wrap64 (tw u).d = (tw u).w.d from rfl] at e3 f3
      have e9 := wr_neg (smS σ (tw u)).a
      have f9 := wr_neg' (smS σ (tw u)).a
      rw [show wrap64 (smS σ (tw u)).a = (smS σ (tw u)).w.a from rfl, show wrap64 (-(smS σ (tw u)).a) = (flipS (smS σ (tw u))).w.a from rfl] at e9 f9
      have HRW := Lib.hid hrw
      have HA1 := Lib.hid hA1
      have HA2 := Lib.hid hA2
      clear hrw hA1 hA2
      generalize (flipS (smS σ (tw u))).w.a = fa at *
      generalize (smS σ (tw u)).w = v at *
      obtain ⟨f0', f1', f2', f3', fl⟩ := hf.out
      have HTW := Lib.hid (show (tw u).w = (tw u).w from rfl)
      clear HTW
      generalize (tw u).w = t at *
      have i4 : (k : Int) / 3 < (n : Int) := by omega
      have i5 : (0 : Int) ≤ (k : Int) / 3 := by omega
      have i6 : (y : Int) < (n : Int) := by omega
      have hrl1 := row_len (arms a b c L k) (k / 3)
      rw [arms_len] at hrl1
      clear hx hy hsm hfac
      go_wp2_with (first | ((with_reducible refine (c1 _).mono ?_); clear c1; rintro e w1 ⟨rfl, hw1⟩; have hc1 := Tail.cells hw1; have z1 : wr.heap.size < w1.heap.size := (by have s1 := hw1.size; simp at s1; omega)) | ((with_reducible refine (c2 _).mono ?_); clear c2; rintro e w2 ⟨rfl, hw2⟩; have hc2 := Tail.cells hw2; have z2 : wr.heap.size < w2.heap.size := Nat.lt_of_lt_of_le z1 hw2.size) | ((with_reducible refine (c3 _).mono ?_); clear c3; rintro e w3 ⟨rfl, hw3⟩; have hc3 := Tail.cells hw3))
      have b3 : Below wr.heap.size wr w3 := by repeat (first | (with_reducible exact Below.refl _ _) | (with_reducible refine Below.setCell ?_ ?_ _) | (with_reducible refine Below.drew ?_) | (with_reducible refine Below.alloc ?_ ?_ _) | (with_reducible refine Below.trans ?_ (Below.mono hw3 ?_)) | (with_reducible refine Below.trans ?_ (Below.mono hw2 ?_)) | (with_reducible refine Below.trans ?_ (Below.mono hw1 ?_)) | (with_reducible exact hw3.size) | (with_reducible exact hw2.size) | (with_reducible exact hw1.size) | omega | (simp <;> omega) | (simp <;> (have s := hw3.size; omega)) | (simp <;> (have s := hw2.size; omega)) | (simp <;> (have s := hw1.size; omega)) | (have s0 := hw3.size; (try simp at s0); have s1 := hw2.size; (try simp at s1); have s2 := hw1.size; (try simp at s2); (try simp); omega))
      have z3 := b3.size
      have bW := b3.alloc z3 (.cells #[.int .i64 t.a, .int .i64 t.b, .int .i64 t.c, .int .i64 t.d] 95)
      have X0 := Lib.hid (IBox.fresh4 (heap_alloc_new w3 (.cells #[.int .i64 t.a, .int .i64 t.b, .int .i64 t.c, .int .i64 t.d] 95)))
      have F0 := Lib.hid (hf.out.later bW)
      have P0 := Lib.hid (hH.out.later bW)
      have B0 := Lib.hid (hb.out.trans (bW.mono hb.out.size))
      have hfar : ∀ t, t < n → (vs t).ownBlock ≠ some w3.heap.size := fun t ht e => by
        have := (hH.out.own t ht).lt _ e
        omega
      have OF := Lib.hid hfar
      have hq1 : w.heap.size + 1 < w3.heap.size := by have := hH.out.lt; omega
      clear b3 bW hfar hc1 hc2 hc3 z1 z2 z3 hw1 hw2 hw3 fl f0' f1' f2' f3' l0 l1 l2 l3 l4 hf hH hb
      generalize w3.alloc (.cells #[.int .i64 t.a, .int .i64 t.b, .int .i64 t.c, .int .i64 t.d] 95) = W0 at *
      generalize w3.heap.size = qb at *
      have G0 := Lib.hid (show W0.grownBy W0 (some qb) from grown_below (Below.refl _ _))
      refine wp_loop_rounds 5 ?_
      have c0 := X0.out.at (i := 0) (x := t.a) rfl
      have fq := X0.out.free
      have lq := X0.out.lt
      rw [rounds_succ]
      go_wp2
      have X1 := Lib.hid (show IBox (W0.setCell ⟨qb, 0, none⟩ (.int .i64 v.a)) qb [v.a, t.b, t.c, t.d] from X0.out.put 0 (by simp) v.a)
      have G1 := Lib.hid (G0.out.trans (grown_setCell W0 ⟨qb, 0, none⟩ (.int .i64 v.a)))
      clear c0 fq lq X0 G0 e0 f0
      generalize W0.setCell ⟨qb, 0, none⟩ (.int .i64 v.a) = W1 at *
      have c0 := X1.out.at (i := 1) (x := t.b) rfl
      have fq := X1.out.free
      have lq := X1.out.lt
      rw [rounds_succ]
      go_wp2
      have X2 := Lib.hid (show IBox (W1.setCell ⟨qb, 1, none⟩ (.int .i64 v.b)) qb [v.a, v.b, t.c, t.d] from X1.out.put 1 (by simp) v.b)
      have G2 := Lib.hid (G1.out.trans (grown_setCell W1 ⟨qb, 1, none⟩ (.int .i64 v.b)))
      clear c0 fq lq X1 G1 e1 f1
      generalize W1.setCell ⟨qb, 1, none⟩ (.int .i64 v.b) = W2 at *
      have c0 := X2.out.at (i := 2) (x := t.c) rfl
      have fq := X2.out.free
      have lq := X2.out.lt
      rw [rounds_succ]
      go_wp2
      have X3 := Lib.hid (show IBox (W2.setCell ⟨qb, 2, none⟩ (.int .i64 v.c)) qb [v.a, v.b, v.c, t.d] from X2.out.put 2 (by simp) v.c)
      have G3 := Lib.hid (G2.out.trans (grown_setCell W2 ⟨qb, 2, none⟩ (.int .i64 v.c)))
      clear c0 fq lq X2 G2 e2 f2
      generalize W2.setCell ⟨qb, 2, none⟩ (.int .i64 v.c) = W3 at *
      have c0 := X3.out.at (i := 3) (x := t.d) rfl
      have fq := X3.out.free
      have lq := X3.out.lt
      rw [rounds_succ]
      go_wp2
      have X4 := Lib.hid (show IBox (W3.setCell ⟨qb, 3, none⟩ (.int .i64 v.d)) qb [v.a, v.b, v.c, v.d] from X3.out.put 3 (by simp) v.d)
      have G4 := Lib.hid (G3.out.trans (grown_setCell W3 ⟨qb, 3, none⟩ (.int .i64 v.d)))
      clear c0 fq lq X3 G3 e3 f3
      generalize W3.setCell ⟨qb, 3, none⟩ (.int .i64 v.d) = W4 at *
      rw [rounds_succ]
      have F4 := Lib.hid (F0.out.grown G4.out (by simp; omega))
      have P4 := Lib.hid (P0.out.other G4.out (by omega) OF.out)
      have B4 := Lib.hid (B0.out.grown G4.out B0.out.size (fun j hj => by cases hj; omega))
      clear F0 P0 B0 G4
      have x0 := X4.out.at (i := 0) (x := v.a) rfl
      have x1 := X4.out.at (i := 1) (x := v.b) rfl
      have x2 := X4.out.at (i := 2) (x := v.c) rfl
      have x3 := X4.out.at (i := 3) (x := v.d) rfl
      have lq := X4.out.lt
      have t0 := P4.out.cell (k / 3) hs0
      have t1 := P4.out.free (k / 3)
      have lg := P4.out.lt
      have own1 := P4.out.own (k / 3) hs0
      obtain ⟨ao, cp, hv, -⟩ := P4.out.form hs0
      rw [hv] at t0 own1
      have HV := Lib.hid hv
      have OW1 := Lib.hid own1
      have n1 : ((k : Int) / 3).toNat = k / 3 := by omega
      have NQ := Lib.hid (show some qb ≠ (Value.slice ao (row (arms a b c L k) (k / 3)).length cp).ownBlock from fun e => OF.out (k / 3) hs0 (by rw [hv]; exact e.symm))
      have NG := Lib.hid (show some (w.heap.size + 1) ≠ (Value.slice ao (row (arms a b c L k) (k / 3)).length cp).ownBlock from fun e => P4.out.far (k / 3) hs0 (by rw [hv]; exact e.symm))
      have q1 : ¬ qb = w.heap.size + 1 := by omega
      have q2 : ¬ w.heap.size + 1 = qb := by omega
      clear hv own1
      go_wp2
      refine wp_region_noPanic ?_
      refine wp_region_held_drew (S := (fun w' => w'.cell? ⟨qb, 0, none⟩ = some (.int .i64 v.a) ∧ w'.cell? ⟨qb, 1, none⟩ = some (.int .i64 v.b) ∧ w'.cell? ⟨qb, 2, none⟩ = some (.int .i64 v.c) ∧ w'.cell? ⟨qb, 3, none⟩ = some (.int .i64 v.d))) (by kernel_rfl) ?_ (fun hHeld => ?_)
      · (try dsimp only)
        first | go_keep | (refine ⟨?_, ?_, ?_, ?_⟩ <;> first | assumption | go_keep | (rw [World.cell?_setCell_other _ _ _ _ (by simp <;> omega)]; assumption))
      refine wpAnyH_take (i := 0) (v := ?_) rfl (by kernel_rfl) (by kernel_rfl) (by kernel_rfl) (fun _ _ _ h => h) (Or.inl ⟨by rfl, ?_⟩) (by assumption) ?_
      rotate_left
      · (intro w hSw; (try dsimp only at hSw); (try simp only [List.getElem_toArray, List.getElem_cons_zero, List.getElem_cons_succ]); go_simp; (try with_reducible rfl))
      (try simp only [Act.put, List.setIfInBounds_toArray, List.set_cons_zero, List.set_cons_succ, List.getElem_toArray, List.getElem_cons_zero, List.getElem_cons_succ])
      refine wpAnyH_take (i := 1) (v := ?_) rfl (by kernel_rfl) (by kernel_rfl) (by kernel_rfl) (fun _ _ _ h => h) (Or.inl ⟨by rfl, ?_⟩) (by assumption) ?_
      rotate_left
      · (intro w hSw; (try dsimp only at hSw); (try simp only [List.getElem_toArray, List.getElem_cons_zero, List.getElem_cons_succ]); go_simp; (try with_reducible rfl))
      (try simp only [Act.put, List.setIfInBounds_toArray, List.set_cons_zero, List.set_cons_succ, List.getElem_toArray, List.getElem_cons_zero, List.getElem_cons_succ])
      refine wpAnyH_take (i := 2) (v := ?_) rfl (by kernel_rfl) (by kernel_rfl) (by kernel_rfl) (fun _ _ _ h => h) (Or.inl ⟨by rfl, ?_⟩) (by assumption) ?_
      rotate_left
      · (intro w hSw; (try dsimp only at hSw); (try simp only [List.getElem_toArray, List.getElem_cons_zero, List.getElem_cons_succ]); go_simp; (try with_reducible rfl))
      (try simp only [Act.put, List.setIfInBounds_toArray, List.set_cons_zero, List.set_cons_succ, List.getElem_toArray, List.getElem_cons_zero, List.getElem_cons_succ])
      refine wpAnyH_take (i := 3) (v := ?_) rfl (by kernel_rfl) (by kernel_rfl) (by kernel_rfl) (fun _ _ _ h => h) (Or.inl ⟨by rfl, ?_⟩) (by assumption) ?_
      rotate_left
      · (intro w hSw; (try dsimp only at hSw); (try simp only [List.getElem_toArray, List.getElem_cons_zero, List.getElem_cons_succ]); go_simp; (try with_reducible rfl))
      (try simp only [Act.put, List.setIfInBounds_toArray, List.set_cons_zero, List.set_cons_succ, List.getElem_toArray, List.getElem_cons_zero, List.getElem_cons_succ])
      refine wpAnyH_take (i := 4) (v := ?_) rfl (by kernel_rfl) (by kernel_rfl) (by kernel_rfl) (fun _ _ _ h => h) (Or.inl ⟨by rfl, ?_⟩) (by assumption) ?_
      rotate_left
      · (intro w hSw; (try dsimp only at hSw); (try simp only [List.getElem_toArray, List.getElem_cons_zero, List.getElem_cons_succ]); go_simp; (try with_reducible rfl))
      (try simp only [Act.put, List.setIfInBounds_toArray, List.set_cons_zero, List.set_cons_succ, List.getElem_toArray, List.getElem_cons_zero, List.getElem_cons_succ])
      refine wpAnyH_take (i := 6) (v := ?_) rfl (by kernel_rfl) (by kernel_rfl) (by kernel_rfl) (fun _ _ _ h => h) (Or.inl ⟨by rfl, ?_⟩) (by assumption) ?_
      rotate_left
      · (intro w hSw; (try dsimp only at hSw); (try simp only [List.getElem_toArray, List.getElem_cons_zero, List.getElem_cons_succ]); go_simp; (try with_reducible rfl))
      (try simp only [Act.put, List.setIfInBounds_toArray, List.set_cons_zero, List.set_cons_succ, List.getElem_toArray, List.getElem_cons_zero, List.getElem_cons_succ])
      refine wpAnyH_take (i := 7) (v := ?_) rfl (by kernel_rfl) (by kernel_rfl) (by kernel_rfl) (fun _ _ _ h => h) (Or.inl ⟨by rfl, ?_⟩) (by assumption) ?_
      rotate_left
      · (intro w hSw; (try dsimp only at hSw); (try simp only [List.getElem_toArray, List.getElem_cons_zero, List.getElem_cons_succ]); go_simp; (try with_reducible rfl))
      (try simp only [Act.put, List.setIfInBounds_toArray, List.set_cons_zero, List.set_cons_succ, List.getElem_toArray, List.getElem_cons_zero, List.getElem_cons_succ])
      refine wpAnyH_take (i := 8) (v := ?_) rfl (by kernel_rfl) (by kernel_rfl) (by kernel_rfl) (fun _ _ _ h => h) (Or.inl ⟨by rfl, ?_⟩) (by assumption) ?_
      rotate_left
      · (intro w hSw; (try dsimp only at hSw); (try simp only [List.getElem_toArray, List.getElem_cons_zero, List.getElem_cons_succ]); go_simp; (try with_reducible rfl))
      (try simp only [Act.put, List.setIfInBounds_toArray, List.set_cons_zero, List.set_cons_succ, List.getElem_toArray, List.getElem_cons_zero, List.getElem_cons_succ])
      refine wpAnyH_ready (rs := [5, 9]) (by kernel_rfl) (by simp) ?_
      refine AllReadyH.cons (i := 5) rfl (fun K hK => ?_) (AllReadyH.cons (i := 9) rfl (fun K hK => ?_) AllReadyH.nil)
      (try dsimp only [List.getElem_toArray, List.getElem_cons_zero, List.getElem_cons_succ])
      go_simp
      refine hK.out _ _ ?_ (fun hHeld => ?_)
      · (try dsimp only)
        first | go_keep | (refine ⟨?_, ?_, ?_, ?_⟩ <;> first | assumption | go_keep | (rw [World.cell?_setCell_other _ _ _ _ (by simp <;> omega)]; assumption))
      clear hK K
      (try simp only [Act.put, List.setIfInBounds_toArray, List.set_cons_zero, List.set_cons_succ, List.getElem_toArray, List.getElem_cons_zero, List.getElem_cons_succ])
      refine wpAnyH_ready (rs := [9]) (by kernel_rfl) (by simp) ?_
      refine AllReadyH.cons (i := 9) rfl (fun K hK => ?_) AllReadyH.nil
      (try dsimp only [List.getElem_toArray, List.getElem_cons_zero, List.getElem_cons_succ])
      go_simp
      refine hK.out _ _ ?_ (fun hHeld => ?_)
      · (try dsimp only)
        first | go_keep | (refine ⟨?_, ?_, ?_, ?_⟩ <;> first | assumption | go_keep | (rw [World.cell?_setCell_other _ _ _ _ (by simp <;> omega)]; assumption))
      clear hK K
      (try simp only [Act.put, List.setIfInBounds_toArray, List.set_cons_zero, List.set_cons_succ, List.getElem_toArray, List.getElem_cons_zero, List.getElem_cons_succ])
      refine wpAnyH_ready (rs := [10]) (by kernel_rfl) (by simp) ?_
      refine AllReadyH.cons (i := 10) rfl (fun K hK => ?_) AllReadyH.nil
      (refine step_append_lies _ (by rfl) _ _ _ (by rfl) (w.heap.size + 2) 189 i0 _ 5 40 Try.underlying187 hi hz0 hz1 hz2 rfl (by omega) (.slice ao (row (arms a b c L k) (k / 3)).length cp) (row (arms a b c L k) (k / 3)).length (av (row (arms a b c L k) (k / 3))) (by rfl) (owned_later OW1.out (by repeat (first | (with_reducible exact Below.refl _ _) | (with_reducible refine Below.setCell ?_ ?_ _) | (with_reducible refine Below.drew ?_) | (with_reducible refine Below.alloc ?_ ?_ _) | omega | (simp <;> omega)))) ⟨W4.heap.size, 0, none⟩ 1 1 [vi y, vi v.a, vi v.b, vi v.c, vi v.d] (by rfl) (by rfl) (five_news (by rfl) (by simp [go_sem, vi]) (by simp [go_sem, vi]) (by simp [go_sem, vi]) (by simp [go_sem, vi]) (by simp [go_sem, vi])) (by rw [← HA1.out]; exact a5_ones _) (by omega) (by unfold maxLen; omega) (by omega) (by simp; omega) (W4.heap.size + 1) (by simp) ?_; intro g6 k6 w6 hown6 hgrow6 hat6 hlt6; have XB := (X4.out.later (show Below W4.heap.size W4 _ by repeat (first | (with_reducible exact Below.refl _ _) | (with_reducible refine Below.setCell ?_ ?_ _) | (with_reducible refine Below.drew ?_) | (with_reducible refine Below.alloc ?_ ?_ _) | omega | (simp <;> omega)))).grown hgrow6 NQ.out; have xx0 := XB.at (i := 0) (x := v.a) rfl; have xx1 := XB.at (i := 1) (x := v.b) rfl; have xx2 := XB.at (i := 2) (x := v.c) rfl; have xx3 := XB.at (i := 3) (x := v.d) rfl; have y0 := hgrow6.cell (((show Below W4.heap.size W4 _ by repeat (first | (with_reducible exact Below.refl _ _) | (with_reducible refine Below.setCell ?_ ?_ _) | (with_reducible refine Below.drew ?_) | (with_reducible refine Below.alloc ?_ ?_ _) | omega | (simp <;> omega))).cell (p := ⟨w.heap.size + 1, k / 3, none⟩) lg).trans t0) NG.out; have y1 := (World.frozen?_of_block (a := ⟨w.heap.size + 1, k / 3, none⟩) (hgrow6.block (w.heap.size + 1) (by simp; omega) NG.out)).trans (((show Below W4.heap.size W4 _ by repeat (first | (with_reducible exact Below.refl _ _) | (with_reducible refine Below.setCell ?_ ?_ _) | (with_reducible refine Below.drew ?_) | (with_reducible refine Below.alloc ?_ ?_ _) | omega | (simp <;> omega))).frozen (p := ⟨w.heap.size + 1, k / 3, none⟩) lg).trans t1))
      refine hK.out _ _ ?_ (fun hHeld => ?_)
      · (try dsimp only)
        first | go_keep | (refine ⟨?_, ?_, ?_, ?_⟩ <;> first | assumption | go_keep | (rw [World.cell?_setCell_other _ _ _ _ (by simp <;> omega)]; assumption))
      clear hK K
      (try simp only [Act.put, List.setIfInBounds_toArray, List.set_cons_zero, List.set_cons_succ, List.getElem_toArray, List.getElem_cons_zero, List.getElem_cons_succ])
      refine wpAnyH_take (i := 11) (v := ?_) rfl (by kernel_rfl) (by kernel_rfl) (by kernel_rfl) (fun _ _ _ h => h) (Or.inl ⟨by rfl, ?_⟩) (by assumption) ?_
      rotate_left
      · (intro w hSw; (try dsimp only at hSw); (try simp only [List.getElem_toArray, List.getElem_cons_zero, List.getElem_cons_succ]); go_simp; (try with_reducible rfl))
      (try simp only [Act.put, List.setIfInBounds_toArray, List.set_cons_zero, List.set_cons_succ, List.getElem_toArray, List.getElem_cons_zero, List.getElem_cons_succ])
      refine wpAnyH_ready (rs := [12]) (by kernel_rfl) (by simp) ?_
      refine AllReadyH.cons (i := 12) rfl (fun K hK => ?_) AllReadyH.nil
      (try dsimp only [List.getElem_toArray, List.getElem_cons_zero, List.getElem_cons_succ])
      go_simp
      refine hK.out _ _ ?_ (fun hHeld => ?_)
      · (try dsimp only)
        first | go_keep | (refine ⟨?_, ?_, ?_, ?_⟩ <;> first | assumption | go_keep | (rw [World.cell?_setCell_other _ _ _ _ (by simp <;> omega)]; assumption))
      clear hK K
      (try simp only [Act.put, List.setIfInBounds_toArray, List.set_cons_zero, List.set_cons_succ, List.getElem_toArray, List.getElem_cons_zero, List.getElem_cons_succ])
      refine wpAnyH_done (by kernel_rfl) ?_ _
      refine NoPanic.normal ?_
      rotate_left
      (try dsimp only [List.getElem_toArray, List.getElem_cons_zero, List.getElem_cons_succ])
      go_simp
      refine hK.out _ _ ?_ (fun hHeld => ?_)
      · (try dsimp only)
        first | go_keep | (refine ⟨?_, ?_, ?_, ?_⟩ <;> first | assumption | go_keep | (rw [World.cell?_setCell_other _ _ _ _ (by simp <;> omega)]; assumption))
      clear hK K
      (try simp only [Act.put, List.setIfInBounds_toArray, List.set_cons_zero, List.set_cons_succ, List.getElem_toArray, List.getElem_cons_zero, List.getElem_cons_succ])
      refine wpAnyH_ready (rs := [5]) (by kernel_rfl) (by simp) ?_
      refine AllReadyH.cons (i := 5) rfl (fun K hK => ?_) AllReadyH.nil
      (try dsimp only [List.getElem_toArray, List.getElem_cons_zero, List.getElem_cons_succ])
      go_simp
      refine hK.out _ _ ?_ (fun hHeld => ?_)
      · (try dsimp only)
        first | go_keep | (refine ⟨?_, ?_, ?_, ?_⟩ <;> first | assumption | go_keep | (rw [World.cell?_setCell_other _ _ _ _ (by simp <;> omega)]; assumption))
      clear hK K
      (try simp only [Act.put, List.setIfInBounds_toArray, List.set_cons_zero, List.set_cons_succ, List.getElem_toArray, List.getElem_cons_zero, List.getElem_cons_succ])
      refine wpAnyH_ready (rs := [10]) (by kernel_rfl) (by simp) ?_
      refine AllReadyH.cons (i := 10) rfl (fun K hK => ?_) AllReadyH.nil
      (refine step_append_lies _ (by rfl) _ _ _ (by rfl) (w.heap.size + 2) 189 i0 _ 5 40 Try.underlying187 hi hz0 hz1 hz2 rfl (by omega) (.slice ao (row (arms a b c L k) (k / 3)).length cp) (row (arms a b c L k) (k / 3)).length (av (row (arms a b c L k) (k / 3))) (by rfl) (owned_later OW1.out (by repeat (first | (with_reducible exact Below.refl _ _) | (with_reducible refine Below.setCell ?_ ?_ _) | (with_reducible refine Below.drew ?_) | (with_reducible refine Below.alloc ?_ ?_ _) | omega | (simp <;> omega)))) ⟨W4.heap.size, 0, none⟩ 1 1 [vi y, vi v.a, vi v.b, vi v.c, vi v.d] (by rfl) (by rfl) (five_news (by rfl) (by simp [go_sem, vi]) (by simp [go_sem, vi]) (by simp [go_sem, vi]) (by simp [go_sem, vi]) (by simp [go_sem, vi])) (by rw [← HA1.out]; exact a5_ones _) (by omega) (by unfold maxLen; omega) (by omega) (by simp; omega) (W4.heap.size + 1) (by simp) ?_; intro g6 k6 w6 hown6 hgrow6 hat6 hlt6; have XB := (X4.out.later (show Below W4.heap.size W4 _ by repeat (first | (with_reducible exact Below.refl _ _) | (with_reducible refine Below.setCell ?_ ?_ _) | (with_reducible refine Below.drew ?_) | (with_reducible refine Below.alloc ?_ ?_ _) | omega | (simp <;> omega)))).grown hgrow6 NQ.out; have xx0 := XB.at (i := 0) (x := v.a) rfl; have xx1 := XB.at (i := 1) (x := v.b) rfl; have xx2 := XB.at (i := 2) (x := v.c) rfl; have xx3 := XB.at (i := 3) (x := v.d) rfl; have y0 := hgrow6.cell (((show Below W4.heap.size W4 _ by repeat (first | (with_reducible exact Below.refl _ _) | (with_reducible refine Below.setCell ?_ ?_ _) | (with_reducible refine Below.drew ?_) | (with_reducible refine Below.alloc ?_ ?_ _) | omega | (simp <;> omega))).cell (p := ⟨w.heap.size + 1, k / 3, none⟩) lg).trans t0) NG.out; have y1 := (World.frozen?_of_block (a := ⟨w.heap.size + 1, k / 3, none⟩) (hgrow6.block (w.heap.size + 1) (by simp; omega) NG.out)).trans (((show Below W4.heap.size W4 _ by repeat (first | (with_reducible exact Below.refl _ _) | (with_reducible refine Below.setCell ?_ ?_ _) | (with_reducible refine Below.drew ?_) | (with_reducible refine Below.alloc ?_ ?_ _) | omega | (simp <;> omega))).frozen (p := ⟨w.heap.size + 1, k / 3, none⟩) lg).trans t1))
      refine hK.out _ _ ?_ (fun hHeld => ?_)
      · (try dsimp only)
        first | go_keep | (refine ⟨?_, ?_, ?_, ?_⟩ <;> first | assumption | go_keep | (rw [World.cell?_setCell_other _ _ _ _ (by simp <;> omega)]; assumption))
      clear hK K
      (try simp only [Act.put, List.setIfInBounds_toArray, List.set_cons_zero, List.set_cons_succ, List.getElem_toArray, List.getElem_cons_zero, List.getElem_cons_succ])
      refine wpAnyH_take (i := 11) (v := ?_) rfl (by kernel_rfl) (by kernel_rfl) (by kernel_rfl) (fun _ _ _ h => h) (Or.inl ⟨by rfl, ?_⟩) (by assumption) ?_
      rotate_left
      · (intro w hSw; (try dsimp only at hSw); (try simp only [List.getElem_toArray, List.getElem_cons_zero, List.getElem_cons_succ]); go_simp; (try with_reducible rfl))
      (try simp only [Act.put, List.setIfInBounds_toArray, List.set_cons_zero, List.set_cons_succ, List.getElem_toArray, List.getElem_cons_zero, List.getElem_cons_succ])
      refine wpAnyH_ready (rs := [12]) (by kernel_rfl) (by simp) ?_
      refine AllReadyH.cons (i := 12) rfl (fun K hK => ?_) AllReadyH.nil
      (try dsimp only [List.getElem_toArray, List.getElem_cons_zero, List.getElem_cons_succ])
      go_simp
      refine hK.out _ _ ?_ (fun hHeld => ?_)
      · (try dsimp only)
        first | go_keep | (refine ⟨?_, ?_, ?_, ?_⟩ <;> first | assumption | go_keep | (rw [World.cell?_setCell_other _ _ _ _ (by simp <;> omega)]; assumption))
      clear hK K
      (try simp only [Act.put, List.setIfInBounds_toArray, List.set_cons_zero, List.set_cons_succ, List.getElem_toArray, List.getElem_cons_zero, List.getElem_cons_succ])
      refine wpAnyH_done (by kernel_rfl) ?_ _
      refine NoPanic.normal ?_
      all_goals
        have hgv := hgrow6
        have hav := hat6
        rw [← HV.out] at hgv hav
        rw [← HA1.out] at hown6
        have P5 := (P4.out.later (show Below W4.heap.size W4 _ by repeat (first | (with_reducible exact Below.refl _ _) | (with_reducible refine Below.setCell ?_ ?_ _) | (with_reducible refine Below.drew ?_) | (with_reducible refine Below.alloc ?_ ?_ _) | omega | (simp <;> omega)))).push (x := ⟨k / 3, y, smS σ (tw u)⟩) hs0 hown6 hgv (W4.heap.size + 1) (by simp) hav
        have hru := row_upd (arms a b c L k) ⟨k / 3, y, smS σ (tw u)⟩
        dsimp only at hru
        rw [← hru] at P5
        have hg6q : g6 ≠ qb := fun e => by
          rcases hav with h | h
          · exact OF.out (k / 3) hs0 (by rw [h, e])
          · omega
        have O5 : ∀ t, t < n → (upd vs (k / 3) (.slice (some ⟨g6, 0, none⟩) ((row (arms a b c L k) (k / 3)).length + 1) k6) t).ownBlock ≠ some qb := fun t ht => by
          by_cases he : t = k / 3
          · subst he; rw [upd_same]; simp [Value.ownBlock]; exact hg6q
          · rw [upd_other _ _ he]; exact OF.out t ht
        have F5 := ((F4.out.later (show Below W4.heap.size W4 _ by repeat (first | (with_reducible exact Below.refl _ _) | (with_reducible refine Below.setCell ?_ ?_ _) | (with_reducible refine Below.drew ?_) | (with_reducible refine Below.alloc ?_ ?_ _) | omega | (simp <;> omega)))).grown hgrow6 (fun e => by have := owned_from OW1.out _ e.symm; omega)).grown (grown_setCell w6 ⟨w.heap.size + 1, k / 3, none⟩ (.slice (some ⟨g6, 0, none⟩) ((row (arms a b c L k) (k / 3)).length + 1) k6)) (by simp)
        have X5 := XB.other (b := w.heap.size + 1) (o := k / 3) (v := .slice (some ⟨g6, 0, none⟩) ((row (arms a b c L k) (k / 3)).length + 1) k6) q1
        have B5 := ((B4.out.trans ((show Below W4.heap.size W4 _ by repeat (first | (with_reducible exact Below.refl _ _) | (with_reducible refine Below.setCell ?_ ?_ _) | (with_reducible refine Below.drew ?_) | (with_reducible refine Below.alloc ?_ ?_ _) | omega | (simp <;> omega))) |>.mono B4.out.size)).grown hgrow6 (by simp; have := B4.out.size; omega) (fun j hj => by have := owned_from OW1.out j hj; omega)).grown (grown_setCell w6 ⟨w.heap.size + 1, k / 3, none⟩ (.slice (some ⟨g6, 0, none⟩) ((row (arms a b c L k) (k / 3)).length + 1) k6)) (by have := B4.out.size; have := hgrow6.size; simp at this; omega) (fun j hj => by simp at hj; omega)
        have HP5 := Lib.hid P5
        have HO5 := Lib.hid O5
        have HF5 := Lib.hid F5
        have HX5 := Lib.hid X5
        have HB5 := Lib.hid B5
        clear P5 O5 F5 X5 B5 hgv hav hru hg6q xx0 xx1 xx2 xx3 XB y0 y1 hown6 hgrow6 hat6 hlt6 x0 x1 x2 x3 t0 t1 lq lg n1
        generalize w6.setCell ⟨w.heap.size + 1, k / 3, none⟩ (.slice (some ⟨g6, 0, none⟩) ((row (arms a b c L k) (k / 3)).length + 1) k6) = W5 at *
        generalize upd vs (k / 3) (.slice (some ⟨g6, 0, none⟩) ((row (arms a b c L k) (k / 3)).length + 1) k6) = vs1 at *
        have hrl2 := row_len (arms a b c L k ++ [⟨k / 3, y, smS σ (tw u)⟩]) y
        rw [List.length_append, arms_len, List.length_cons, List.length_nil] at hrl2
        have x0 := HX5.out.at (i := 0) (x := v.a) rfl
        have x1 := HX5.out.at (i := 1) (x := v.b) rfl
        have x2 := HX5.out.at (i := 2) (x := v.c) rfl
        have x3 := HX5.out.at (i := 3) (x := v.d) rfl
        have lq := HX5.out.lt
        have t0 := HP5.out.cell y hyn
        have t1 := HP5.out.free y
        have lg := HP5.out.lt
        have own1 := HP5.out.own y hyn
        obtain ⟨ao1, cp1, hv1, -⟩ := HP5.out.form hyn
        rw [hv1] at t0 own1
        have HV1 := Lib.hid hv1
        have OW2 := Lib.hid own1
        generalize arms a b c L k ++ [⟨k / 3, y, smS σ (tw u)⟩] = A1 at *
        have NQ1 := Lib.hid (show some qb ≠ (Value.slice ao1 (row A1 y).length cp1).ownBlock from fun e => HO5.out y hyn (by rw [hv1]; exact e.symm))
        have NG1 := Lib.hid (show some (w.heap.size + 1) ≠ (Value.slice ao1 (row A1 y).length cp1).ownBlock from fun e => HP5.out.far y hyn (by rw [hv1]; exact e.symm))
        clear hv1 own1
        go_wp2
        refine wp_region_noPanic ?_
        refine wp_region_held_drew (S := (fun w' => w'.cell? ⟨qb, 0, none⟩ = some (.int .i64 v.a) ∧ w'.cell? ⟨qb, 1, none⟩ = some (.int .i64 v.b) ∧ w'.cell? ⟨qb, 2, none⟩ = some (.int .i64 v.c) ∧ w'.cell? ⟨qb, 3, none⟩ = some (.int .i64 v.d))) (by kernel_rfl) ?_ (fun hHeld => ?_)
        · (try dsimp only)
          first | go_keep | (refine ⟨?_, ?_, ?_, ?_⟩ <;> first | assumption | go_keep | (rw [World.cell?_setCell_other _ _ _ _ (by simp <;> omega)]; assumption))
        refine wpAnyH_take (i := 0) (v := ?_) rfl (by kernel_rfl) (by kernel_rfl) (by kernel_rfl) (fun _ _ _ h => h) (Or.inl ⟨by rfl, ?_⟩) (by assumption) ?_
        rotate_left
        · (intro w hSw; (try dsimp only at hSw); (try simp only [List.getElem_toArray, List.getElem_cons_zero, List.getElem_cons_succ]); go_simp; (try with_reducible rfl))
        (try simp only [Act.put, List.setIfInBounds_toArray, List.set_cons_zero, List.set_cons_succ, List.getElem_toArray, List.getElem_cons_zero, List.getElem_cons_succ])
        refine wpAnyH_take (i := 1) (v := ?_) rfl (by kernel_rfl) (by kernel_rfl) (by kernel_rfl) (fun _ _ _ h => h) (Or.inl ⟨by rfl, ?_⟩) (by assumption) ?_
        rotate_left
        · (intro w hSw; (try dsimp only at hSw); (try simp only [List.getElem_toArray, List.getElem_cons_zero, List.getElem_cons_succ]); go_simp; (try with_reducible rfl))
        (try simp only [Act.put, List.setIfInBounds_toArray, List.set_cons_zero, List.set_cons_succ, List.getElem_toArray, List.getElem_cons_zero, List.getElem_cons_succ])
        refine wpAnyH_take (i := 2) (v := ?_) rfl (by kernel_rfl) (by kernel_rfl) (by kernel_rfl) (fun _ _ _ h => h) (Or.inl ⟨by rfl, ?_⟩) (by assumption) ?_
        rotate_left
        · (intro w hSw; (try dsimp only at hSw); (try simp only [List.getElem_toArray, List.getElem_cons_zero, List.getElem_cons_succ]); go_simp; (try with_reducible rfl))
        (try simp only [Act.put, List.setIfInBounds_toArray, List.set_cons_zero, List.set_cons_succ, List.getElem_toArray, List.getElem_cons_zero, List.getElem_cons_succ])
        refine wpAnyH_take (i := 3) (v := ?_) rfl (by kernel_rfl) (by kernel_rfl) (by kernel_rfl) (fun _ _ _ h => h) (Or.inl ⟨by rfl, ?_⟩) (by assumption) ?_
        rotate_left
        · (intro w hSw; (try dsimp only at hSw); (try simp only [List.getElem_toArray, List.getElem_cons_zero, List.getElem_cons_succ]); go_simp; (try with_reducible rfl))
        (try simp only [Act.put, List.setIfInBounds_toArray, List.set_cons_zero, List.set_cons_succ, List.getElem_toArray, List.getElem_cons_zero, List.getElem_cons_succ])
        refine wpAnyH_take (i := 4) (v := ?_) rfl (by kernel_rfl) (by kernel_rfl) (by kernel_rfl) (fun _ _ _ h => h) (Or.inl ⟨by rfl, ?_⟩) (by assumption) ?_
        rotate_left
        · (intro w hSw; (try dsimp only at hSw); (try simp only [List.getElem_toArray, List.getElem_cons_zero, List.getElem_cons_succ]); go_simp; (try with_reducible rfl))
        (try simp only [Act.put, List.setIfInBounds_toArray, List.set_cons_zero, List.set_cons_succ, List.getElem_toArray, List.getElem_cons_zero, List.getElem_cons_succ])
        refine wpAnyH_take (i := 6) (v := ?_) rfl (by kernel_rfl) (by kernel_rfl) (by kernel_rfl) (fun _ _ _ h => h) (Or.inl ⟨by rfl, ?_⟩) (by assumption) ?_
        rotate_left
        · (intro w hSw; (try dsimp only at hSw); (try simp only [List.getElem_toArray, List.getElem_cons_zero, List.getElem_cons_succ]); go_simp; (try with_reducible rfl))
        (try simp only [Act.put, List.setIfInBounds_toArray, List.set_cons_zero, List.set_cons_succ, List.getElem_toArray, List.getElem_cons_zero, List.getElem_cons_succ])
        refine wpAnyH_take (i := 7) (v := ?_) rfl (by kernel_rfl) (by kernel_rfl) (by kernel_rfl) (fun _ _ _ h => h) (Or.inl ⟨by rfl, ?_⟩) (by assumption) ?_
        rotate_left
        · (intro w hSw; (try dsimp only at hSw); (try simp only [List.getElem_toArray, List.getElem_cons_zero, List.getElem_cons_succ]); go_simp; (try with_reducible rfl))
        (try simp only [Act.put, List.setIfInBounds_toArray, List.set_cons_zero, List.set_cons_succ, List.getElem_toArray, List.getElem_cons_zero, List.getElem_cons_succ])
        refine wpAnyH_take (i := 8) (v := ?_) rfl (by kernel_rfl) (by kernel_rfl) (by kernel_rfl) (fun _ _ _ h => h) (Or.inl ⟨by rfl, ?_⟩) (by assumption) ?_
        rotate_left
        · (intro w hSw; (try dsimp only at hSw); (try simp only [List.getElem_toArray, List.getElem_cons_zero, List.getElem_cons_succ]); go_simp; (try with_reducible rfl))
        (try simp only [Act.put, List.setIfInBounds_toArray, List.set_cons_zero, List.set_cons_succ, List.getElem_toArray, List.getElem_cons_zero, List.getElem_cons_succ])
        refine wpAnyH_take (i := 9) (v := ?_) rfl (by kernel_rfl) (by kernel_rfl) (by kernel_rfl) (fun _ _ _ h => h) (Or.inl ⟨by rfl, ?_⟩) (by assumption) ?_
        rotate_left
        · (intro w hSw; (try dsimp only at hSw); (try simp only [List.getElem_toArray, List.getElem_cons_zero, List.getElem_cons_succ]); go_simp; (try with_reducible rfl))
        (try simp only [Act.put, List.setIfInBounds_toArray, List.set_cons_zero, List.set_cons_succ, List.getElem_toArray, List.getElem_cons_zero, List.getElem_cons_succ])
        refine wpAnyH_take (i := 10) (v := ?_) rfl (by kernel_rfl) (by kernel_rfl) (by kernel_rfl) (fun _ _ _ h => h) (Or.inl ⟨by rfl, ?_⟩) (by assumption) ?_
        rotate_left
        · (intro w hSw; (try dsimp only at hSw); (try simp only [List.getElem_toArray, List.getElem_cons_zero, List.getElem_cons_succ]); go_simp; (try with_reducible rfl))
        (try simp only [Act.put, List.setIfInBounds_toArray, List.set_cons_zero, List.set_cons_succ, List.getElem_toArray, List.getElem_cons_zero, List.getElem_cons_succ])
        refine wpAnyH_take (i := 11) (v := ?_) rfl (by kernel_rfl) (by kernel_rfl) (by kernel_rfl) (fun _ _ _ h => h) (Or.inl ⟨by rfl, ?_⟩) (by assumption) ?_
        rotate_left
        · (intro w hSw; (try dsimp only at hSw); (try simp only [List.getElem_toArray, List.getElem_cons_zero, List.getElem_cons_succ]); go_simp; (try with_reducible rfl))
        (try simp only [Act.put, List.setIfInBounds_toArray, List.set_cons_zero, List.set_cons_succ, List.getElem_toArray, List.getElem_cons_zero, List.getElem_cons_succ])
        refine wpAnyH_take (i := 12) (v := ?_) rfl (by kernel_rfl) (by kernel_rfl) (by kernel_rfl) (fun _ _ _ h => h) (Or.inl ⟨by rfl, ?_⟩) (by assumption) ?_
        rotate_left
        · (intro w hSw; (try dsimp only at hSw); (try simp only [List.getElem_toArray, List.getElem_cons_zero, List.getElem_cons_succ]); go_simp; (try with_reducible rfl))
        (try simp only [Act.put, List.setIfInBounds_toArray, List.set_cons_zero, List.set_cons_succ, List.getElem_toArray, List.getElem_cons_zero, List.getElem_cons_succ])
        refine wpAnyH_take (i := 13) (v := ?_) rfl (by kernel_rfl) (by kernel_rfl) (by kernel_rfl) (fun _ _ _ h => h) (Or.inl ⟨by rfl, ?_⟩) (by assumption) ?_
        rotate_left
        · (intro w hSw; (try dsimp only at hSw); (try simp only [List.getElem_toArray, List.getElem_cons_zero, List.getElem_cons_succ]); go_simp; (try with_reducible rfl))
        (try simp only [Act.put, List.setIfInBounds_toArray, List.set_cons_zero, List.set_cons_succ, List.getElem_toArray, List.getElem_cons_zero, List.getElem_cons_succ])
        refine wpAnyH_take (i := 14) (v := ?_) rfl (by kernel_rfl) (by kernel_rfl) (by kernel_rfl) (fun _ _ _ h => h) (Or.inl ⟨by rfl, ?_⟩) (by assumption) ?_
        rotate_left
        · (intro w hSw; (try dsimp only at hSw); (try simp only [List.getElem_toArray, List.getElem_cons_zero, List.getElem_cons_succ]); go_simp; (try with_reducible rfl))
        (try simp only [Act.put, List.setIfInBounds_toArray, List.set_cons_zero, List.set_cons_succ, List.getElem_toArray, List.getElem_cons_zero, List.getElem_cons_succ])
        refine wpAnyH_take (i := 15) (v := ?_) rfl (by kernel_rfl) (by kernel_rfl) (by kernel_rfl) (fun _ _ _ h => h) (Or.inl ⟨by rfl, ?_⟩) (by assumption) ?_
        rotate_left
        · (intro w hSw; (try dsimp only at hSw); (try simp only [List.getElem_toArray, List.getElem_cons_zero, List.getElem_cons_succ]); go_simp; (try with_reducible rfl))
        (try simp only [Act.put, List.setIfInBounds_toArray, List.set_cons_zero, List.set_cons_succ, List.getElem_toArray, List.getElem_cons_zero, List.getElem_cons_succ])
        refine wpAnyH_take (i := 16) (v := ?_) rfl (by kernel_rfl) (by kernel_rfl) (by kernel_rfl) (fun _ _ _ h => h) (Or.inl ⟨by rfl, ?_⟩) (by assumption) ?_
        rotate_left
        · (intro w hSw; (try dsimp only at hSw); (try simp only [List.getElem_toArray, List.getElem_cons_zero, List.getElem_cons_succ]); go_simp; (try with_reducible rfl))
        (try simp only [Act.put, List.setIfInBounds_toArray, List.set_cons_zero, List.set_cons_succ, List.getElem_toArray, List.getElem_cons_zero, List.getElem_cons_succ])
        refine wpAnyH_take (i := 17) (v := ?_) rfl (by kernel_rfl) (by kernel_rfl) (by kernel_rfl) (fun _ _ _ h => h) (Or.inl ⟨by rfl, ?_⟩) (by assumption) ?_
        rotate_left
        · (intro w hSw; (try dsimp only at hSw); (try simp only [List.getElem_toArray, List.getElem_cons_zero, List.getElem_cons_succ]); go_simp; (try with_reducible rfl))
        (try simp only [Act.put, List.setIfInBounds_toArray, List.set_cons_zero, List.set_cons_succ, List.getElem_toArray, List.getElem_cons_zero, List.getElem_cons_succ])
        refine wpAnyH_ready (rs := [5, 18]) (by kernel_rfl) (by simp) ?_
        refine AllReadyH.cons (i := 5) rfl (fun K hK => ?_) (AllReadyH.cons (i := 18) rfl (fun K hK => ?_) AllReadyH.nil)
        (try dsimp only [List.getElem_toArray, List.getElem_cons_zero, List.getElem_cons_succ])
        go_simp
        refine hK.out _ _ ?_ (fun hHeld => ?_)
        · (try dsimp only)
          first | go_keep | (refine ⟨?_, ?_, ?_, ?_⟩ <;> first | assumption | go_keep | (rw [World.cell?_setCell_other _ _ _ _ (by simp <;> omega)]; assumption))
        clear hK K
        (try simp only [Act.put, List.setIfInBounds_toArray, List.set_cons_zero, List.set_cons_succ, List.getElem_toArray, List.getElem_cons_zero, List.getElem_cons_succ])
        refine wpAnyH_ready (rs := [18]) (by kernel_rfl) (by simp) ?_
        refine AllReadyH.cons (i := 18) rfl (fun K hK => ?_) AllReadyH.nil
        (try dsimp only [List.getElem_toArray, List.getElem_cons_zero, List.getElem_cons_succ])
        go_simp
        refine hK.out _ _ ?_ (fun hHeld => ?_)
        · (try dsimp only)
          first | go_keep | (refine ⟨?_, ?_, ?_, ?_⟩ <;> first | assumption | go_keep | (rw [World.cell?_setCell_other _ _ _ _ (by simp <;> omega)]; assumption))
        clear hK K
        (try simp only [Act.put, List.setIfInBounds_toArray, List.set_cons_zero, List.set_cons_succ, List.getElem_toArray, List.getElem_cons_zero, List.getElem_cons_succ])
        refine wpAnyH_ready (rs := [19]) (by kernel_rfl) (by simp) ?_
        refine AllReadyH.cons (i := 19) rfl (fun K hK => ?_) AllReadyH.nil
        (refine step_append_lies _ (by rfl) _ _ _ (by rfl) (w.heap.size + 2) 189 i0 _ 5 40 Try.underlying187 hi hz0 hz1 hz2 rfl (by omega) (.slice ao1 (row A1 y).length cp1) (row A1 y).length (av (row A1 y)) (by rfl) (owned_later OW2.out (by repeat (first | (with_reducible exact Below.refl _ _) | (with_reducible refine Below.setCell ?_ ?_ _) | (with_reducible refine Below.drew ?_) | (with_reducible refine Below.alloc ?_ ?_ _) | omega | (simp <;> omega)))) ⟨W5.heap.size, 0, none⟩ 1 1 [vi (k / 3 : Nat), vi fa, vi v.b, vi v.c, vi v.d] (by rfl) (by rfl) (five_news (by rfl) (by simp [go_sem, vi]) (by simp [go_sem, vi, e9]) (by simp [go_sem, vi]) (by simp [go_sem, vi]) (by simp [go_sem, vi])) (by rw [← HA2.out]; exact a5_ones _) (by omega) (by unfold maxLen; omega) (by omega) (by simp; omega) (W5.heap.size + 1) (by simp) ?_; intro g7 k7 w7 hown7 hgrow7 hat7 hlt7; have XB := (HX5.out.later (show Below W5.heap.size W5 _ by repeat (first | (with_reducible exact Below.refl _ _) | (with_reducible refine Below.setCell ?_ ?_ _) | (with_reducible refine Below.drew ?_) | (with_reducible refine Below.alloc ?_ ?_ _) | omega | (simp <;> omega)))).grown hgrow7 NQ1.out; have xx0 := XB.at (i := 0) (x := v.a) rfl; have xx1 := XB.at (i := 1) (x := v.b) rfl; have xx2 := XB.at (i := 2) (x := v.c) rfl; have xx3 := XB.at (i := 3) (x := v.d) rfl; have y0 := hgrow7.cell (((show Below W5.heap.size W5 _ by repeat (first | (with_reducible exact Below.refl _ _) | (with_reducible refine Below.setCell ?_ ?_ _) | (with_reducible refine Below.drew ?_) | (with_reducible refine Below.alloc ?_ ?_ _) | omega | (simp <;> omega))).cell (p := ⟨w.heap.size + 1, y, none⟩) lg).trans t0) NG1.out; have y1 := (World.frozen?_of_block (a := ⟨w.heap.size + 1, y, none⟩) (hgrow7.block (w.heap.size + 1) (by simp; omega) NG1.out)).trans (((show Below W5.heap.size W5 _ by repeat (first | (with_reducible exact Below.refl _ _) | (with_reducible refine Below.setCell ?_ ?_ _) | (with_reducible refine Below.drew ?_) | (with_reducible refine Below.alloc ?_ ?_ _) | omega | (simp <;> omega))).frozen (p := ⟨w.heap.size + 1, y, none⟩) lg).trans t1))
        refine hK.out _ _ ?_ (fun hHeld => ?_)
        · (try dsimp only)
          first | go_keep | (refine ⟨?_, ?_, ?_, ?_⟩ <;> first | assumption | go_keep | (rw [World.cell?_setCell_other _ _ _ _ (by simp <;> omega)]; assumption))
        clear hK K
        (try simp only [Act.put, List.setIfInBounds_toArray, List.set_cons_zero, List.set_cons_succ, List.getElem_toArray, List.getElem_cons_zero, List.getElem_cons_succ])
        refine wpAnyH_take (i := 20) (v := ?_) rfl (by kernel_rfl) (by kernel_rfl) (by kernel_rfl) (fun _ _ _ h => h) (Or.inl ⟨by rfl, ?_⟩) (by assumption) ?_
        rotate_left
        · (intro w hSw; (try dsimp only at hSw); (try simp only [List.getElem_toArray, List.getElem_cons_zero, List.getElem_cons_succ]); go_simp; (try with_reducible rfl))
        (try simp only [Act.put, List.setIfInBounds_toArray, List.set_cons_zero, List.set_cons_succ, List.getElem_toArray, List.getElem_cons_zero, List.getElem_cons_succ])
        refine wpAnyH_ready (rs := [21]) (by kernel_rfl) (by simp) ?_
        refine AllReadyH.cons (i := 21) rfl (fun K hK => ?_) AllReadyH.nil
        (try dsimp only [List.getElem_toArray, List.getElem_cons_zero, List.getElem_cons_succ])
        go_simp
        refine hK.out _ _ ?_ (fun hHeld => ?_)
        · (try dsimp only)
          first | go_keep | (refine ⟨?_, ?_, ?_, ?_⟩ <;> first | assumption | go_keep | (rw [World.cell?_setCell_other _ _ _ _ (by simp <;> omega)]; assumption))
        clear hK K
        (try simp only [Act.put, List.setIfInBounds_toArray, List.set_cons_zero, List.set_cons_succ, List.getElem_toArray, List.getElem_cons_zero, List.getElem_cons_succ])
        refine wpAnyH_done (by kernel_rfl) ?_ _
        refine NoPanic.normal ?_
        rotate_left
        (try dsimp only [List.getElem_toArray, List.getElem_cons_zero, List.getElem_cons_succ])
        go_simp
        refine hK.out _ _ ?_ (fun hHeld => ?_)
        · (try dsimp only)
          first | go_keep | (refine ⟨?_, ?_, ?_, ?_⟩ <;> first | assumption | go_keep | (rw [World.cell?_setCell_other _ _ _ _ (by simp <;> omega)]; assumption))
        clear hK K
        (try simp only [Act.put, List.setIfInBounds_toArray, List.set_cons_zero, List.set_cons_succ, List.getElem_toArray, List.getElem_cons_zero, List.getElem_cons_succ])
        refine wpAnyH_ready (rs := [5]) (by kernel_rfl) (by simp) ?_
        refine AllReadyH.cons (i := 5) rfl (fun K hK => ?_) AllReadyH.nil
        (try dsimp only [List.getElem_toArray, List.getElem_cons_zero, List.getElem_cons_succ])
        go_simp
        refine hK.out _ _ ?_ (fun hHeld => ?_)
        · (try dsimp only)
          first | go_keep | (refine ⟨?_, ?_, ?_, ?_⟩ <;> first | assumption | go_keep | (rw [World.cell?_setCell_other _ _ _ _ (by simp <;> omega)]; assumption))
        clear hK K
        (try simp only [Act.put, List.setIfInBounds_toArray, List.set_cons_zero, List.set_cons_succ, List.getElem_toArray, List.getElem_cons_zero, List.getElem_cons_succ])
        refine wpAnyH_ready (rs := [19]) (by kernel_rfl) (by simp) ?_
        refine AllReadyH.cons (i := 19) rfl (fun K hK => ?_) AllReadyH.nil
        (refine step_append_lies _ (by rfl) _ _ _ (by rfl) (w.heap.size + 2) 189 i0 _ 5 40 Try.underlying187 hi hz0 hz1 hz2 rfl (by omega) (.slice ao1 (row A1 y).length cp1) (row A1 y).length (av (row A1 y)) (by rfl) (owned_later OW2.out (by repeat (first | (with_reducible exact Below.refl _ _) | (with_reducible refine Below.setCell ?_ ?_ _) | (with_reducible refine Below.drew ?_) | (with_reducible refine Below.alloc ?_ ?_ _) | omega | (simp <;> omega)))) ⟨W5.heap.size, 0, none⟩ 1 1 [vi (k / 3 : Nat), vi fa, vi v.b, vi v.c, vi v.d] (by rfl) (by rfl) (five_news (by rfl) (by simp [go_sem, vi]) (by simp [go_sem, vi, e9]) (by simp [go_sem, vi]) (by simp [go_sem, vi]) (by simp [go_sem, vi])) (by rw [← HA2.out]; exact a5_ones _) (by omega) (by unfold maxLen; omega) (by omega) (by simp; omega) (W5.heap.size + 1) (by simp) ?_; intro g7 k7 w7 hown7 hgrow7 hat7 hlt7; have XB := (HX5.out.later (show Below W5.heap.size W5 _ by repeat (first | (with_reducible exact Below.refl _ _) | (with_reducible refine Below.setCell ?_ ?_ _) | (with_reducible refine Below.drew ?_) | (with_reducible refine Below.alloc ?_ ?_ _) | omega | (simp <;> omega)))).grown hgrow7 NQ1.out; have xx0 := XB.at (i := 0) (x := v.a) rfl; have xx1 := XB.at (i := 1) (x := v.b) rfl; have xx2 := XB.at (i := 2) (x := v.c) rfl; have xx3 := XB.at (i := 3) (x := v.d) rfl; have y0 := hgrow7.cell (((show Below W5.heap.size W5 _ by repeat (first | (with_reducible exact Below.refl _ _) | (with_reducible refine Below.setCell ?_ ?_ _) | (with_reducible refine Below.drew ?_) | (with_reducible refine Below.alloc ?_ ?_ _) | omega | (simp <;> omega))).cell (p := ⟨w.heap.size + 1, y, none⟩) lg).trans t0) NG1.out; have y1 := (World.frozen?_of_block (a := ⟨w.heap.size + 1, y, none⟩) (hgrow7.block (w.heap.size + 1) (by simp; omega) NG1.out)).trans (((show Below W5.heap.size W5 _ by repeat (first | (with_reducible exact Below.refl _ _) | (with_reducible refine Below.setCell ?_ ?_ _) | (with_reducible refine Below.drew ?_) | (with_reducible refine Below.alloc ?_ ?_ _) | omega | (simp <;> omega))).frozen (p := ⟨w.heap.size + 1, y, none⟩) lg).trans t1))
        refine hK.out _ _ ?_ (fun hHeld => ?_)
        · (try dsimp only)
          first | go_keep | (refine ⟨?_, ?_, ?_, ?_⟩ <;> first | assumption | go_keep | (rw [World.cell?_setCell_other _ _ _ _ (by simp <;> omega)]; assumption))
        clear hK K
        (try simp only [Act.put, List.setIfInBounds_toArray, List.set_cons_zero, List.set_cons_succ, List.getElem_toArray, List.getElem_cons_zero, List.getElem_cons_succ])
        refine wpAnyH_take (i := 20) (v := ?_) rfl (by kernel_rfl) (by kernel_rfl) (by kernel_rfl) (fun _ _ _ h => h) (Or.inl ⟨by rfl, ?_⟩) (by assumption) ?_
        rotate_left
        · (intro w hSw; (try dsimp only at hSw); (try simp only [List.getElem_toArray, List.getElem_cons_zero, List.getElem_cons_succ]); go_simp; (try with_reducible rfl))
        (try simp only [Act.put, List.setIfInBounds_toArray, List.set_cons_zero, List.set_cons_succ, List.getElem_toArray, List.getElem_cons_zero, List.getElem_cons_succ])
        refine wpAnyH_ready (rs := [21]) (by kernel_rfl) (by simp) ?_
        refine AllReadyH.cons (i := 21) rfl (fun K hK => ?_) AllReadyH.nil
        (try dsimp only [List.getElem_toArray, List.getElem_cons_zero, List.getElem_cons_succ])
        go_simp
        refine hK.out _ _ ?_ (fun hHeld => ?_)
        · (try dsimp only)
          first | go_keep | (refine ⟨?_, ?_, ?_, ?_⟩ <;> first | assumption | go_keep | (rw [World.cell?_setCell_other _ _ _ _ (by simp <;> omega)]; assumption))
        clear hK K
        (try simp only [Act.put, List.setIfInBounds_toArray, List.set_cons_zero, List.set_cons_succ, List.getElem_toArray, List.getElem_cons_zero, List.getElem_cons_succ])
        refine wpAnyH_done (by kernel_rfl) ?_ _
        refine NoPanic.normal ?_
        all_goals
          have hgv := hgrow7
          have hav := hat7
          rw [← HV1.out] at hgv hav
          rw [← HA2.out] at hown7
          have P6 := (HP5.out.later (show Below W5.heap.size W5 _ by repeat (first | (with_reducible exact Below.refl _ _) | (with_reducible refine Below.setCell ?_ ?_ _) | (with_reducible refine Below.drew ?_) | (with_reducible refine Below.alloc ?_ ?_ _) | omega | (simp <;> omega)))).push (x := ⟨y, k / 3, flipS (smS σ (tw u))⟩) hyn hown7 hgv (W5.heap.size + 1) (by simp) hav
          have hru := row_upd A1 ⟨y, k / 3, flipS (smS σ (tw u))⟩
          dsimp only at hru
          rw [← hru, ← HRW.out] at P6
          have F6 := ((HF5.out.later (show Below W5.heap.size W5 _ by repeat (first | (with_reducible exact Below.refl _ _) | (with_reducible refine Below.setCell ?_ ?_ _) | (with_reducible refine Below.drew ?_) | (with_reducible refine Below.alloc ?_ ?_ _) | omega | (simp <;> omega)))).grown hgrow7 (fun e => by have := owned_from OW2.out _ e.symm; omega)).grown (grown_setCell w7 ⟨w.heap.size + 1, y, none⟩ (.slice (some ⟨g7, 0, none⟩) ((row A1 y).length + 1) k7)) (by simp)
          have B6 := ((HB5.out.trans ((show Below W5.heap.size W5 _ by repeat (first | (with_reducible exact Below.refl _ _) | (with_reducible refine Below.setCell ?_ ?_ _) | (with_reducible refine Below.drew ?_) | (with_reducible refine Below.alloc ?_ ?_ _) | omega | (simp <;> omega))) |>.mono HB5.out.size)).grown hgrow7 (by simp; have := HB5.out.size; omega) (fun j hj => by have := owned_from OW2.out j hj; omega)).grown (grown_setCell w7 ⟨w.heap.size + 1, y, none⟩ (.slice (some ⟨g7, 0, none⟩) ((row A1 y).length + 1) k7)) (by have := HB5.out.size; have := hgrow7.size; simp at this; omega) (fun j hj => by simp at hj; omega)
          have HP6 := Lib.hid P6
          have HF6 := Lib.hid F6
          have HB6 := Lib.hid B6
          clear P6 F6 B6 hgv hav hru xx0 xx1 xx2 xx3 XB y0 y1 hown7 hgrow7 hat7 hlt7 x0 x1 x2 x3 t0 t1 lq lg
          go_wp2
          exact ⟨⟨k + 1, _, by omega, by go_num, HF6, HP6, HB6⟩, by simp [intOf]; omega⟩
    · obtain rfl : k = L.length := by omega
      have lg := hH.out.lt
      go_wp2
      go_ret2
      refine ⟨⟨w.heap.size + 1, vs, rfl, ?_, by omega⟩, hb.out⟩
      have hp := hH.out
      exact ⟨hp.cell, fun s hs => owned_base (hp.own s hs) (by omega), hp.far, hp.apart, hp.free, hp.lt⟩
end Go.Proofs.Ytojmagooapjohaa
