/- Quaternions of integers: their memory, products, doubles of units and sums, as the program and the document's answers make them.
Conditions: those written at each theorem. -/
import Derived.Test.YtmnlfojcofdaeaaFmM
import Derived.Test.YtmnlfojcofdaeaaIBox
import Derived.Test.YtmnlfojcofdaeaaCold
namespace Go.Proofs.Ytmnlfojcofdaeaa
set_option linter.unusedVariables false
set_option linter.unusedSimpArgs false
set_option maxRecDepth 1000000
open Go.RowKit
open Um Tm Fm

/-! ### memory -/
/-- what a make lays for a quaternion -/
def sz : List Value := [vi 0, vi 0, vi 0, vi 0]
theorem made_sz (n : Nat) : ∀ (i : Nat), i < n * 4 → (madeCells sz.toArray (n * 4))[i]? = some (vi 0) := fun i hi => by
  have h3 : i % 4 < 4 := Nat.mod_lt _ (by decide)
  have h3' : i % sz.toArray.size < sz.toArray.size := h3
  unfold madeCells
  rw [Array.getElem?_map, Array.getElem?_range, if_pos hi]
  show some (sz.toArray[i % sz.toArray.size]!) = _
  have e : sz.toArray[i % sz.toArray.size]! = sz[i % 4]'h3 := by
    rw [getElem!_pos sz.toArray (i % sz.toArray.size) h3']; rfl
  rw [e]
  have : i % 4 = 0 ∨ i % 4 = 1 ∨ i % 4 = 2 ∨ i % 4 = 3 := by omega
  congr 1
  rcases this with h | h | h | h <;> simp only [h] <;> rfl
theorem IBox.madeS {w : World} {g n : Nat} {T : TypeId} (h : w.heap[g]? = some (.cells (madeCells sz.toArray (n * 4)) T)) (hg : g < w.heap.size) : IBox w g (fl (List.replicate n zs)) := by
  rw [fl_repl]
  refine ⟨fun i x hx => ?_, fun j => by simp [World.frozen?, h], hg⟩
  have hi : i < n * 4 := by have := (List.getElem?_eq_some_iff.1 hx).1; simpa using this
  have hxz : x = 0 := by
    rw [List.getElem?_replicate, if_pos hi] at hx
    simpa using hx.symm
  subst hxz
  have := made_sz n i hi
  rw [Nat.zero_add]
  simp only [World.cell?, h]
  simpa [vi] using this
theorem infoS : (Try.prog.info? 64).map (fun i => (i.zero, i.size, i.bytes)) = some (some (.agg #[.int .i64 0, .int .i64 0, .int .i64 0, .int .i64 0]), 4, 32) := by kernel_rfl
theorem makeS (W : World) (n : Nat) (x : Int) (hx : x = n) (hn : n ≤ 1000000) : (Instr.makeSlice 26 (.int .i64 x) (.int .i64 x)).run Try.prog W = .ok (.slice (some ⟨W.heap.size, 0, none⟩) n n) (W.alloc (.cells (madeCells sz.toArray (n * 4)) 64)) := by
  obtain ⟨i0, hi, hz0, hz1, hz2⟩ := info_parts infoS
  have := run_make (P := Try.prog) W 26 64 i0 _ Try.underlying26 hi hz0 .i64 .i64 x x (by omega) (Int.le_refl _) (by rw [hz2]; omega) (by omega)
  rw [this, hz1, hx, Int.toNat_natCast]
  rfl
theorem ixS0 (x y z t : Int) : ∀ w, (Instr.index 64 (.agg #[.int .i64 x, .int .i64 y, .int .i64 z, .int .i64 t]) (.int .i64 0)).run Try.prog w = .ok (.int .i64 x) w := fun _ => by kernel_rfl
theorem ixS1 (x y z t : Int) : ∀ w, (Instr.index 64 (.agg #[.int .i64 x, .int .i64 y, .int .i64 z, .int .i64 t]) (.int .i64 1)).run Try.prog w = .ok (.int .i64 y) w := fun _ => by kernel_rfl
theorem ixS2 (x y z t : Int) : ∀ w, (Instr.index 64 (.agg #[.int .i64 x, .int .i64 y, .int .i64 z, .int .i64 t]) (.int .i64 2)).run Try.prog w = .ok (.int .i64 z) w := fun _ => by kernel_rfl
theorem ixS3 (x y z t : Int) : ∀ w, (Instr.index 64 (.agg #[.int .i64 x, .int .i64 y, .int .i64 z, .int .i64 t]) (.int .i64 3)).run Try.prog w = .ok (.int .i64 t) w := fun _ => by kernel_rfl
/-- the four cells of a quaternion in a list -/
theorem four_at {w : World} {b off s : Nat} {M : List Sp} {x : Sp} (h : LiesI w b off (fl M)) (hx : M[s]? = some x) : w.cell? ⟨b, off + s * 4, none⟩ = some (.int .i64 x.a) ∧ w.cell? ⟨b, off + s * 4 + 1, none⟩ = some (.int .i64 x.b) ∧ w.cell? ⟨b, off + s * 4 + 2, none⟩ = some (.int .i64 x.c) ∧ w.cell? ⟨b, off + s * 4 + 3, none⟩ = some (.int .i64 x.d) := by
  obtain ⟨h0, h1, h2, h3⟩ := fl_four hx
  exact ⟨h _ _ h0, h _ _ h1, h _ _ h2, h _ _ h3⟩
theorem IBox.four {w : World} {g s : Nat} {M : List Sp} {x : Sp} (k : IBox w g (fl M)) (hx : M[s]? = some x) : w.cell? ⟨g, s * 4, none⟩ = some (.int .i64 x.a) ∧ w.cell? ⟨g, s * 4 + 1, none⟩ = some (.int .i64 x.b) ∧ w.cell? ⟨g, s * 4 + 2, none⟩ = some (.int .i64 x.c) ∧ w.cell? ⟨g, s * 4 + 3, none⟩ = some (.int .i64 x.d) := by
  obtain ⟨h0, h1, h2, h3⟩ := fl_four hx
  exact ⟨k.at h0, k.at h1, k.at h2, k.at h3⟩
theorem IBox.put4 {w : World} {g s : Nat} {M : List Sp} (k : IBox w g (fl M)) (hs : s < M.length) (y : Sp) : IBox ((((w.setCell ⟨g, s * 4, none⟩ (.int .i64 y.a)).setCell ⟨g, s * 4 + 1, none⟩ (.int .i64 y.b)).setCell ⟨g, s * 4 + 2, none⟩ (.int .i64 y.c)).setCell ⟨g, s * 4 + 3, none⟩ (.int .i64 y.d)) g (fl (M.set s y)) := by
  have hl := fl_len M
  rw [← fl_set]
  refine (((k.put (s * 4) (by omega) y.a).put (s * 4 + 1) ?_ y.b).put (s * 4 + 2) ?_ y.c).put (s * 4 + 3) ?_ y.d
  · simp only [List.length_set]; omega
  · simp only [List.length_set]; omega
  · simp only [List.length_set]; omega
/-- the cells of a quaternion -/
def s4 (x : Sp) : List Value := [vi x.a, vi x.b, vi x.c, vi x.d]
theorem four_news {w : World} {b : Nat} {x : Sp} (h0 : w.cell? ⟨b, 0, none⟩ = some (vi x.a)) (h1 : w.cell? ⟨b, 1, none⟩ = some (vi x.b)) (h2 : w.cell? ⟨b, 2, none⟩ = some (vi x.c)) (h3 : w.cell? ⟨b, 3, none⟩ = some (vi x.d)) : ∀ j u, (s4 x)[j]? = some u → w.cell? (Addr.add ⟨b, 0, none⟩ j) = some u := by
  intro j u hj
  match j, hj with
  | 0, hj => simp [s4] at hj; subst hj; exact h0
  | 1, hj => simp [s4] at hj; subst hj; exact h1
  | 2, hj => simp [s4] at hj; subst hj; exact h2
  | 3, hj => simp [s4] at hj; subst hj; exact h3
  | n + 4, hj => simp [s4] at hj
theorem four_ones (x : Sp) : ∀ u ∈ s4 x, u.oneCell' = true := fun u hu => by
  simp [s4] at hu
  rcases hu with rfl | rfl | rfl | rfl <;> rfl
theorem fl_snoc (M : List Sp) (x : Sp) : (fl (M ++ [x])).map vi = (fl M).map vi ++ s4 x := by
  rw [fl_append, List.map_append]; rfl
/-- a list of quaternions that a call has made row by row -/
theorem owned_liesS {w : World} {base : Nat} {T : TypeId} {v : Value} {n : Nat} {M : List Sp} (h : w.ownsRow base T 4 v n ((fl M).map vi)) (hn : 0 < n) (hl : M.length = n) : ∃ g cap, v = .slice (some ⟨g, 0, none⟩) n cap ∧ base ≤ g ∧ LiesI w g 0 (fl M) := by
  have hc := h.2
  have hfl := fl_len M
  rcases hc with ⟨_, h0⟩ | ⟨g, cap, cur, rfl, hg, _⟩
  · omega
  · refine ⟨g, cap, rfl, hg, fun i x hx => ?_⟩
    have hi : i < (fl M).length := (List.getElem?_eq_some_iff.1 hx).1
    rw [Nat.zero_add, h.cellAt i (by omega), List.getElem?_map, hx]
    rfl

/-! ### products -/
set_option maxHeartbeats 3200000 in
theorem times7_any (p q : Sp) (w : World) : Calls Try.prog 70 #[.agg #[.int .i64 p.a, .int .i64 p.b, .int .i64 p.c, .int .i64 p.d], .agg #[.int .i64 q.a, .int .i64 q.b, .int .i64 q.c, .int .i64 q.d]] w fun e w' => e = .returned (.agg #[.int .i64 (mulS p q).w.a, .int .i64 (mulS p q).w.b, .int .i64 (mulS p q).w.c, .int .i64 (mulS p q).w.d]) ∧ Below w.heap.size w w' := by
  go_enter Try.func70, Try.ntmps70
  go_wp2
  refine bodyPost_ret (v := .agg #[.int .i64 (mulS p q).w.a, .int .i64 (mulS p q).w.b, .int .i64 (mulS p q).w.c, .int .i64 (mulS p q).w.d]) ?_ rfl ⟨rfl, ?_⟩
  · simp [results, Try.results70, go_sem, mulS, Sp.w, w_add_l, w_add_r, w_sub_l, w_sub_r]
  · repeat (first | (with_reducible exact Below.refl _ _) | (with_reducible refine Below.setCell ?_ ?_ _) | (with_reducible refine Below.drew ?_) | (with_reducible refine Below.alloc ?_ ?_ _) | omega | (simp <;> omega))
set_option maxHeartbeats 3200000 in
theorem refTimes7_any (p q : Sp) (w : World) : Calls Try.prog 73 #[.agg #[.int .i64 p.a, .int .i64 p.b, .int .i64 p.c, .int .i64 p.d], .agg #[.int .i64 q.a, .int .i64 q.b, .int .i64 q.c, .int .i64 q.d]] w fun e w' => e = .returned (.agg #[.int .i64 (mulS p q).w.a, .int .i64 (mulS p q).w.b, .int .i64 (mulS p q).w.c, .int .i64 (mulS p q).w.d]) ∧ Below w.heap.size w w' := by
  go_enter Try.func73, Try.ntmps73
  go_wp2
  refine bodyPost_ret (v := .agg #[.int .i64 (mulS p q).w.a, .int .i64 (mulS p q).w.b, .int .i64 (mulS p q).w.c, .int .i64 (mulS p q).w.d]) ?_ rfl ⟨rfl, ?_⟩
  · simp [results, Try.results73, go_sem, mulS, Sp.w, w_add_l, w_add_r, w_sub_l, w_sub_r]
  · repeat (first | (with_reducible exact Below.refl _ _) | (with_reducible refine Below.setCell ?_ ?_ _) | (with_reducible refine Below.drew ?_) | (with_reducible refine Below.alloc ?_ ?_ _) | omega | (simp <;> omega))
/-- a unit whose number of parts is 1 or 2 -/
def N12 (u : Q) : Prop := u.n = 1 ∨ u.n = 2
set_option maxHeartbeats 1600000 in
theorem twice7_any (u : Q) (w : World) (h : N12 u) : Calls Try.prog 71 #[.agg #[.int .i64 u.a, .int .i64 u.b, .int .i64 u.c, .int .i64 u.d, .int .i64 u.n]] w fun e w' => e = .returned (.agg #[.int .i64 (tw u).w.a, .int .i64 (tw u).w.b, .int .i64 (tw u).w.c, .int .i64 (tw u).w.d]) ∧ Below w.heap.size w w' := by
  obtain ⟨a, b, c, d, n⟩ := u
  rcases h with h | h <;> (simp only at h; subst h)
  all_goals
    go_enter Try.func71, Try.ntmps71
    go_wp2
    refine bodyPost_ret (v := .agg #[.int .i64 (tw ⟨a, b, c, d, _⟩).w.a, .int .i64 (tw ⟨a, b, c, d, _⟩).w.b, .int .i64 (tw ⟨a, b, c, d, _⟩).w.c, .int .i64 (tw ⟨a, b, c, d, _⟩).w.d]) ?_ rfl ⟨rfl, ?_⟩
    · simp [results, Try.results71, go_sem, tw, Sp.w]
    · repeat (first | (with_reducible exact Below.refl _ _) | (with_reducible refine Below.setCell ?_ ?_ _) | (with_reducible refine Below.drew ?_) | (with_reducible refine Below.alloc ?_ ?_ _) | omega | (simp <;> omega))
set_option maxHeartbeats 1600000 in
theorem refTwice7_any (u : Q) (w : World) (h : N12 u) : Calls Try.prog 74 #[.agg #[.int .i64 u.a, .int .i64 u.b, .int .i64 u.c, .int .i64 u.d, .int .i64 u.n]] w fun e w' => e = .returned (.agg #[.int .i64 (tw u).w.a, .int .i64 (tw u).w.b, .int .i64 (tw u).w.c, .int .i64 (tw u).w.d]) ∧ Below w.heap.size w w' := by
  obtain ⟨a, b, c, d, n⟩ := u
  rcases h with h | h <;> (simp only at h; subst h)
  all_goals
    go_enter Try.func74, Try.ntmps74
    go_wp2
    refine bodyPost_ret (v := .agg #[.int .i64 (tw ⟨a, b, c, d, _⟩).w.a, .int .i64 (tw ⟨a, b, c, d, _⟩).w.b, .int .i64 (tw ⟨a, b, c, d, _⟩).w.c, .int .i64 (tw ⟨a, b, c, d, _⟩).w.d]) ?_ rfl ⟨rfl, ?_⟩
    · simp [results, Try.results74, go_sem, tw, Sp.w]
    · repeat (first | (with_reducible exact Below.refl _ _) | (with_reducible refine Below.setCell ?_ ?_ _) | (with_reducible refine Below.drew ?_) | (with_reducible refine Below.alloc ?_ ?_ _) | omega | (simp <;> omega))
end Go.Proofs.Ytmnlfojcofdaeaa
