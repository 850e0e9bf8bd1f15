/- Rational numbers in lowest terms, as the program and the document's answers make them.
Conditions: the bounds written at each theorem. -/
import Derived.Test.YtoafojojhdcmfaaLow
namespace Go.Proofs.Ytoafojojhdcmfaa
set_option linter.unusedVariables false
set_option linter.unusedSimpArgs false
open Go.RowKit
open Um

theorem gc_comm (m n : Int) : gc m n = gc n m := by unfold gc; rw [Nat.gcd_comm]
theorem gc_pos (m n : Int) (h : 0 < n) : 0 < gc m n := gcd_pos m n h
theorem rat_tdiv (x y : Int) : x.tdiv (gc x y) = (rat x y).1 ∧ y.tdiv (gc x y) = (rat x y).2 := by
  have h1 : gc x y ∣ x := Int.ofNat_dvd_left.2 (Nat.gcd_dvd_left _ _)
  have h2 : gc x y ∣ y := Int.ofNat_dvd_left.2 (Nat.gcd_dvd_right _ _)
  exact ⟨Int.tdiv_eq_ediv_of_dvd h1, Int.tdiv_eq_ediv_of_dvd h2⟩
theorem tdiv_abs (p k : Int) : -(p.natAbs : Int) ≤ p.tdiv k ∧ p.tdiv k ≤ p.natAbs := by
  have h1 : (p.tdiv k).natAbs ≤ p.natAbs := by rw [Int.natAbs_tdiv]; exact Nat.div_le_self _ _
  omega
theorem rat_wraps (x y : Int) (hx : -4611686018427387904 ≤ x ∧ x ≤ 4611686018427387904) (hy : 0 < y ∧ y ≤ 4611686018427387904) : IntKind.i64.wrap (x.tdiv (gc x y)) = (rat x y).1 ∧ IntKind.i64.wrap (y.tdiv (gc x y)) = (rat x y).2 := by
  have h := rat_tdiv x y
  have t1 := tdiv_abs x (gc x y)
  have t2 := tdiv_abs y (gc x y)
  rw [← h.1, ← h.2]
  exact ⟨IntWalk.i64_in _ (by omega), IntWalk.i64_in _ (by omega)⟩

set_option maxHeartbeats 800000 in
theorem ratio_any (x y : Int) (w : World) (hx : -4611686018427387904 ≤ x ∧ x ≤ 4611686018427387904) (hy : 0 < y ∧ y ≤ 4611686018427387904) :
    Calls Try.prog 134 #[.int .i64 x, .int .i64 y] w fun e w' => e = .returned (.agg #[.int .i64 (rat x y).1, .int .i64 (rat x y).2]) ∧ Below w.heap.size w w' := by
  obtain ⟨w1, w2⟩ := rat_wraps x y hx hy
  have hg := gc_pos x y hy.1
  have hg0 : ¬ gc x y = 0 := by omega
  have hd := fun W : World => divisor_any y x W (by omega) hx
  rw [gc_comm y x] at hd
  obtain ⟨hx1, hx2⟩ := hx
  obtain ⟨hy1, hy2⟩ := hy
  have kc := @Tail.cell_re
  go_enter Try.func134, Try.ntmps134
  go_wp2_with (go_at_call 172; refine (hd _).mono ?_; rintro e w1 ⟨rfl, hw1⟩; have hc := Tail.cells hw1; have hz1 := Nat.lt_of_lt_of_le (n := w.heap.size) (by simp <;> omega) hw1.size)
  refine Tail.region_tail_below 7 (by kernel_rfl) (by kernel_rfl) ?_
  simp only [List.take_succ_cons, List.take_zero, List.drop_succ_cons, List.drop_zero]
  repeat (quiet_step (fail))
  refine wpQuiet_nil ?_
  intro w2 hw2
  have hc2 := Tail.cells hw2
  go_wp2
  refine bodyPost_ret (v := .agg #[.int .i64 (rat x y).1, .int .i64 (rat x y).2]) ?_ rfl ⟨rfl, ?_⟩
  · simp [results, Try.results134, go_sem, hc, hc2, hz1]
  · repeat (first | exact Below.refl _ _ | refine Below.setCell ?_ (by simp) _ | refine Below.trans ?_ (Below.mono hw2 (by omega)) | refine Below.trans ?_ (Below.mono hw1 (by simp; try omega)) | refine Below.alloc ?_ (by simp) _)

set_option maxHeartbeats 800000 in
theorem refRatio_any (x y : Int) (w : World) (hx : -4611686018427387904 ≤ x ∧ x ≤ 4611686018427387904) (hy : 0 < y ∧ y ≤ 4611686018427387904) :
    Calls Try.prog 70 #[.int .i64 x, .int .i64 y] w fun e w' => e = .returned (.agg #[.int .i64 (rat x y).1, .int .i64 (rat x y).2]) ∧ Below w.heap.size w w' := by
  obtain ⟨w1, w2⟩ := rat_wraps x y hx hy
  have hg := gc_pos x y hy.1
  have hg0 : ¬ gc x y = 0 := by omega
  have hd := fun W : World => gcd_any x y W (by omega) (by omega)
  obtain ⟨hx1, hx2⟩ := hx
  obtain ⟨hy1, hy2⟩ := hy
  have kc := @Tail.cell_re
  go_enter Try.func70, Try.ntmps70
  go_wp2_with (go_at_call 135; refine (hd _).mono ?_; rintro e w1 ⟨rfl, hw1⟩; have hc := Tail.cells hw1; have hz1 := Nat.lt_of_lt_of_le (n := w.heap.size) (by simp <;> omega) hw1.size)
  refine Tail.region_tail_below 7 (by kernel_rfl) (by kernel_rfl) ?_
  simp only [List.take_succ_cons, List.take_zero, List.drop_succ_cons, List.drop_zero]
  repeat (quiet_step (fail))
  refine wpQuiet_nil ?_
  intro w2 hw2
  have hc2 := Tail.cells hw2
  go_wp2
  refine bodyPost_ret (v := .agg #[.int .i64 (rat x y).1, .int .i64 (rat x y).2]) ?_ rfl ⟨rfl, ?_⟩
  · simp [results, Try.results70, go_sem, hc, hc2, hz1]
  · repeat (first | exact Below.refl _ _ | refine Below.setCell ?_ (by simp) _ | refine Below.trans ?_ (Below.mono hw2 (by omega)) | refine Below.trans ?_ (Below.mono hw1 (by simp; try omega)) | refine Below.alloc ?_ (by simp) _)
end Go.Proofs.Ytoafojojhdcmfaa
