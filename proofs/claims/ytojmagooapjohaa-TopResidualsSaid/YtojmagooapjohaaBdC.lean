/- The bound of the error of a vector, as the program and the document's answers make it.
Conditions: the bounds written at each theorem. -/
import Derived.Test.YtojmagooapjohaaChcC
import Derived.Test.YtojmagooapjohaaQuatA
namespace Go.Proofs.Ytojmagooapjohaa
set_option linter.unusedVariables false
set_option linter.unusedSimpArgs false
set_option maxRecDepth 1000000
open Go.RowKit
open Um Tm Fm

theorem at0_in {M : List Sp} {m : Int} (h : AllE m M) (hm : 0 ≤ m) (s : Nat) : InS m (at0 M s) := by
  unfold at0
  rw [List.getD_eq_getElem?_getD]
  cases hx : M[s]? with
  | none => exact ⟨⟨by show -m ≤ 0; omega, by show (0 : Int) ≤ m; omega⟩, ⟨by show -m ≤ 0; omega, by show (0 : Int) ≤ m; omega⟩, ⟨by show -m ≤ 0; omega, by show (0 : Int) ≤ m; omega⟩, ⟨by show -m ≤ 0; omega, by show (0 : Int) ≤ m; omega⟩⟩
  | some x => exact h s x hx
theorem sq_rng {x : Int} (h : -268435456 ≤ x ∧ x ≤ 268435456) : 0 ≤ x * x ∧ x * x ≤ 72057594037927936 := by
  refine ⟨?_, ?_⟩
  · rcases Int.le_total 0 x with h1 | h1
    · exact Int.mul_nonneg h1 h1
    · exact Int.mul_nonneg_of_nonpos_of_nonpos h1 h1
  · have h2 : x * x = ((x.natAbs * x.natAbs : Nat) : Int) := by
      rw [Int.natAbs_mul_self]
    rw [h2]
    have h3 : x.natAbs ≤ 268435456 := by omega
    have := Nat.mul_le_mul h3 h3
    omega
theorem dot4_rng {x : Sp} (h : InS 268435456 x) : 0 ≤ dot4 x x ∧ dot4 x x ≤ 288230376151711744 := by
  obtain ⟨h1, h2, h3, h4⟩ := h
  have := sq_rng h1; have := sq_rng h2; have := sq_rng h3; have := sq_rng h4
  unfold dot4; omega
theorem dotK_rng {M : List Sp} (h : AllE 268435456 M) : ∀ k : Nat, 0 ≤ dotK M M k ∧ dotK M M k ≤ (k : Int) * 288230376151711744
  | 0 => by unfold dotK; omega
  | k + 1 => by
    have h1 := dotK_rng h k
    have h2 := dot4_rng (at0_in h (by decide) k)
    unfold dotK
    omega
theorem dotL_rng {M : List Sp} (h : AllE mE M) (hn : M.length ≤ 16) : 0 ≤ dotL M M ∧ dotL M M ≤ 4611686018427387904 := by
  have := dotK_rng (M := M) h M.length
  unfold dotL; omega
theorem dotL_w {M : List Sp} (h : AllE mE M) (hn : M.length ≤ 16) : wrap64 (dotL M M) = dotL M M := by
  have := dotL_rng h hn
  unfold wrap64; omega
theorem sqm_rng {ma : Int} (h : IsM ma) : 16 ≤ 16 * ma * ma ∧ 16 * ma * ma ≤ 1600 := by
  obtain ⟨h1, h2⟩ := h
  have : ma = 1 ∨ ma = 2 ∨ ma = 3 ∨ ma = 4 ∨ ma = 5 ∨ ma = 6 ∨ ma = 7 ∨ ma = 8 ∨ ma = 9 ∨ ma = 10 := by omega
  rcases this with h | h | h | h | h | h | h | h | h | h <;> subst h <;> decide
set_option maxHeartbeats 400000 in
theorem divisor7_any (m n : Int) (w : World) (hm : 0 ≤ m ∧ m ≤ 4611686018427387904) (hn : 0 < n ∧ n ≤ 4611686018427387904) :
    Calls Try.prog 69 #[.int .i64 m, .int .i64 n] w fun e w' => e = .returned (.int .i64 (gc m n)) ∧ Below w.heap.size w w' := by
  obtain ⟨hm1, hm2⟩ := hm
  obtain ⟨hn1, hn2⟩ := hn
  go_enter Try.func69, Try.ntmps69
  go_wp2
  go_loopw [0, 1] (fun p q wr => ∃ x y : Int, p = .int .i64 x ∧ q = .int .i64 y ∧ 0 ≤ x ∧ x ≤ 4611686018427387904 ∧ 0 ≤ y ∧ y ≤ 4611686018427387904 ∧ gc y x = gc m n ∧ Below w.heap.size w wr) (fun p _ _ => (intOf p).natAbs)
  case atStart => exact ⟨m, n, rfl, rfl, hm1, hm2, by omega, hn2, gc_comm _ _, Below.refl _ _⟩
  case round =>
    obtain ⟨x, y, rfl, rfl, hx1, hx2, hy1, hy2, hg, hb⟩ := hrel
    have HG := Lib.hid hg
    clear hg
    by_cases h0 : x = 0
    · subst h0
      go_wp2
      all_goals
        go_ret
        exact ⟨by have := HG.out; rw [gc_zero] at this; rw [← this]; refine congrArg Ending.returned (congrArg (Value.int .i64) ?_); omega, hb⟩
    · have h0' : (x != 0) = true := by simpa using h0
      have h1' : (x == 0) = false := by simpa using h0
      have h1 : 1 ≤ x := by omega
      go_wp2
      have ht := Int.emod_lt_of_pos y (show 0 < x by omega)
      have hp := Int.emod_nonneg y (show x ≠ 0 by omega)
      exact ⟨⟨y % x, x, rfl, rfl, by omega, by omega, by omega, by omega, by rw [gc_step' _ _ hy1]; exact HG.out, ⟨hb.os, hb.tape, hb.output, hb.size, hb.block⟩⟩, by simp [intOf]; omega⟩
/-- what a bound is, where there is no error -/
def bdT (v ma : Int) : Value := .tuple #[.agg #[.int .i64 (rat v (16 * ma * ma)).1, .int .i64 (rat v (16 * ma * ma)).2], .int .i64 0]
def bdE (r : Int) : Value := .tuple #[.agg #[.int .i64 0, .int .i64 0], .int .i64 r]
set_option maxHeartbeats 1600000 in
theorem bound_err (a b c ma v r : Int) (ao po qo : Option Addr) (cap pc qc : Nat) (L : List Q) (M N : List Sp) (w : World) (h : LiesO w ao L) (hp : LiesOI w po (fl M)) (hq : LiesOI w qo (fl N)) (c1 : ∀ W : World, LiesO W ao L → LiesOI W po (fl M) → LiesOI W qo (fl N) → Calls Try.prog 32 #[.agg #[.int .i64 a, .int .i64 b, .int .i64 c, .slice ao L.length cap], .int .i64 ma, .slice po M.length pc, .slice qo N.length qc] W fun e w' => (∃ so, e = .returned (.tuple #[so, .int .i64 v, .int .i64 r])) ∧ Below W.heap.size W w') (hne : r ≠ 0) : Calls Try.prog 33 #[.agg #[.int .i64 a, .int .i64 b, .int .i64 c, .slice ao L.length cap], .int .i64 ma, .slice po M.length pc, .slice qo N.length qc] w fun e w' => e = .returned (bdE r) ∧ Below w.heap.size w w' := by
  have H := Lib.hid h
  have HP := Lib.hid hp
  have HQ := Lib.hid hq
  clear h hp hq
  have t1 : (r != 0) = true := by simpa using hne
  have kc := @Tail.cell_re
  have kc1 : ∀ (W : World) (o : Obj) (d : Nat) (os : Array Obj) (a : Addr), a.block ≤ W.heap.size → (Sort.grow (redrawn (W.alloc o) d) os).cell? a = (W.alloc o).cell? a := fun W o d os a h => Tail.cell_re (W.alloc o) d os a (Nat.lt_of_le_of_lt h (by simp))
  go_enter Try.func33, Try.ntmps33
  go_wp2_with ((with_reducible refine (c1 _ (H.out.later (by repeat (first | (with_reducible exact Below.refl _ _) | (with_reducible refine Below.setCell ?_ ?_ _) | (with_reducible refine Below.drew ?_) | (with_reducible refine Below.alloc ?_ ?_ _) | omega | (simp <;> omega)))) (HP.out.later (by repeat (first | (with_reducible exact Below.refl _ _) | (with_reducible refine Below.setCell ?_ ?_ _) | (with_reducible refine Below.drew ?_) | (with_reducible refine Below.alloc ?_ ?_ _) | omega | (simp <;> omega)))) (HQ.out.later (by repeat (first | (with_reducible exact Below.refl _ _) | (with_reducible refine Below.setCell ?_ ?_ _) | (with_reducible refine Below.drew ?_) | (with_reducible refine Below.alloc ?_ ?_ _) | omega | (simp <;> omega))))).mono ?_); clear c1; rintro e w1 ⟨⟨so, rfl⟩, hw1⟩; have hc1 := Tail.cells hw1; have zw10 := Nat.lt_of_lt_of_le (n := w.heap.size) (by simp <;> omega) hw1.size; have zw11 := Nat.lt_of_lt_of_le (n := w.heap.size + 1) (by simp <;> omega) hw1.size)
  refine bodyPost_ret (v := bdE r) ?_ rfl ⟨rfl, by repeat (first | (with_reducible exact Below.refl _ _) | (with_reducible refine Below.setCell ?_ ?_ _) | (with_reducible refine Below.drew ?_) | (with_reducible refine Below.alloc ?_ ?_ _) | (with_reducible refine Below.trans ?_ (Below.mono hw1 ?_)) | (with_reducible exact hw1.size) | omega | (simp <;> omega) | (simp <;> (have s := hw1.size; omega)) | (have s0 := hw1.size; (try simp at s0); (try simp); omega))⟩
  simp [bdE, results, Try.results33, go_sem, hc1]
set_option maxHeartbeats 1600000 in
theorem bound_ok (a b c ma v r : Int) (ao po qo : Option Addr) (cap pc qc : Nat) (L : List Q) (M N : List Sp) (w : World) (h : LiesO w ao L) (hp : LiesOI w po (fl M)) (hq : LiesOI w qo (fl N)) (c1 : ∀ W : World, LiesO W ao L → LiesOI W po (fl M) → LiesOI W qo (fl N) → Calls Try.prog 32 #[.agg #[.int .i64 a, .int .i64 b, .int .i64 c, .slice ao L.length cap], .int .i64 ma, .slice po M.length pc, .slice qo N.length qc] W fun e w' => (∃ so, e = .returned (.tuple #[so, .int .i64 v, .int .i64 r])) ∧ Below W.heap.size W w') (hr : r = 0) (hv : 0 ≤ v ∧ v ≤ 4611686018427387904) (him : IsM ma) : Calls Try.prog 33 #[.agg #[.int .i64 a, .int .i64 b, .int .i64 c, .slice ao L.length cap], .int .i64 ma, .slice po M.length pc, .slice qo N.length qc] w fun e w' => e = .returned (bdT v ma) ∧ Below w.heap.size w w' := by
  subst hr
  have H := Lib.hid h
  have HP := Lib.hid hp
  have HQ := Lib.hid hq
  clear h hp hq
  obtain ⟨y1, y2⟩ := sqm_rng him
  obtain ⟨m1, m2⟩ := him
  obtain ⟨v1, v2⟩ := hv
  have e0 : wrap64 (16 * ma) = 16 * ma := by unfold wrap64; omega
  have e1 : wrap64 (16 * ma * ma) = 16 * ma * ma := by unfold wrap64; omega
  have c2 := fun W : World => divisor7_any v (16 * ma * ma) W (by omega) (by omega)
  generalize hy : 16 * ma * ma = y at *
  have e2 : wrap64 (16 * ma * ma) = y := by rw [hy]; exact e1
  obtain ⟨q1, q2⟩ := rat_wraps v y (by omega) (by omega)
  have hg := gc_pos v y (by omega)
  have hg0 : ¬ gc v y = 0 := by omega
  have kc := @Tail.cell_re
  have kc1 : ∀ (W : World) (o : Obj) (d : Nat) (os : Array Obj) (a : Addr), a.block ≤ W.heap.size → (Sort.grow (redrawn (W.alloc o) d) os).cell? a = (W.alloc o).cell? a := fun W o d os a h => Tail.cell_re (W.alloc o) d os a (Nat.lt_of_le_of_lt h (by simp))
  go_enter Try.func33, Try.ntmps33
  go_wp2_with (first | ((with_reducible refine (c1 _ (H.out.later (by repeat (first | (with_reducible exact Below.refl _ _) | (with_reducible refine Below.setCell ?_ ?_ _) | (with_reducible refine Below.drew ?_) | (with_reducible refine Below.alloc ?_ ?_ _) | omega | (simp <;> omega)))) (HP.out.later (by repeat (first | (with_reducible exact Below.refl _ _) | (with_reducible refine Below.setCell ?_ ?_ _) | (with_reducible refine Below.drew ?_) | (with_reducible refine Below.alloc ?_ ?_ _) | omega | (simp <;> omega)))) (HQ.out.later (by repeat (first | (with_reducible exact Below.refl _ _) | (with_reducible refine Below.setCell ?_ ?_ _) | (with_reducible refine Below.drew ?_) | (with_reducible refine Below.alloc ?_ ?_ _) | omega | (simp <;> omega))))).mono ?_); clear c1; rintro e w1 ⟨⟨so, rfl⟩, hw1⟩; have hc1 := Tail.cells hw1; have zw10 := Nat.lt_of_lt_of_le (n := w.heap.size) (by simp <;> omega) hw1.size; have zw11 := Nat.lt_of_lt_of_le (n := w.heap.size + 1) (by simp <;> omega) hw1.size) | ((with_reducible refine (c2 _).mono ?_); clear c2; rintro e w2 ⟨rfl, hw2⟩; have hc2 := Tail.cells hw2; have zz20 := Nat.lt_of_lt_of_le zw10 hw2.size; have zz21 := Nat.lt_of_lt_of_le zw11 hw2.size))
  refine Tail.region_tail_below 7 (by kernel_rfl) (by kernel_rfl) ?_
  simp only [List.take_succ_cons, List.take_zero, List.drop_succ_cons, List.drop_zero]
  repeat (go_big_quiet_step (fail))
  refine wpQuiet_nil ?_
  intro w9 hw9
  have hc9 := Tail.cells hw9
  go_wp2
  refine bodyPost_ret (v := bdT v ma) ?_ rfl ⟨rfl, by repeat (first | (with_reducible exact Below.refl _ _) | (with_reducible refine Below.setCell ?_ ?_ _) | (with_reducible refine Below.drew ?_) | (with_reducible refine Below.alloc ?_ ?_ _) | (with_reducible refine Below.trans ?_ (Below.mono hw9 ?_)) | (with_reducible refine Below.trans ?_ (Below.mono hw2 ?_)) | (with_reducible refine Below.trans ?_ (Below.mono hw1 ?_)) | (with_reducible exact hw9.size) | (with_reducible exact hw2.size) | (with_reducible exact hw1.size) | omega | (simp <;> omega) | (simp <;> (have s := hw9.size; omega)) | (simp <;> (have s := hw2.size; omega)) | (simp <;> (have s := hw1.size; omega)) | (have s0 := hw9.size; (try simp at s0); have s1 := hw2.size; (try simp at s1); have s2 := hw1.size; (try simp at s2); (try simp); omega))⟩
  simp [bdT, results, Try.results33, go_sem, hc1, hc9, hc2, zz21, zw11, hy]
end Go.Proofs.Ytojmagooapjohaa
