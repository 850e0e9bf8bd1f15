/- The small units by their numbers, as the document's answers make them.
Conditions: the numbers that are written. -/
import Derived.Test.YtpfhjdmgkckjfaaGreatDoorADist
namespace Go.Proofs.YtpfhjdmgkckjfaaGreatDoor
set_option linter.unusedVariables false
set_option linter.unusedSimpArgs false
open Go.RowKit
open Um

set_option maxHeartbeats 800000 in
theorem refSmall_0 (w : World) : Calls Tryz.prog 162 #[.int .i64 0] w fun e w' => e = .returned (.tuple #[.agg #[.int .i64 (small 0).a, .int .i64 (small 0).b, .int .i64 (small 0).c, .int .i64 (small 0).d, .int .i64 (small 0).n], .int .i64 0]) ∧ Below w.heap.size w w' := by
  have c1 := fun W : World => within_any 0 0 23 W
  rw [inB_yes (by omega) (by omega)] at c1
  go_enter Tryz.func162, Tryz.ntmps162
  go_wp2_with ((with_reducible refine (c1 _).mono ?_); rintro e w1 ⟨rfl, rfl⟩)
  refine bodyPost_ret (v := .tuple #[.agg #[.int .i64 (small 0).a, .int .i64 (small 0).b, .int .i64 (small 0).c, .int .i64 (small 0).d, .int .i64 (small 0).n], .int .i64 0]) ?_ rfl ⟨rfl, ?_⟩
  · simp [results, Tryz.results162, go_sem, small]
  · repeat (first | (with_reducible exact Below.refl _ _) | (with_reducible refine Below.setCell ?_ ?_ _) | (with_reducible refine Below.drew ?_) | (with_reducible refine Below.alloc ?_ ?_ _) | omega | (simp <;> omega))

set_option maxHeartbeats 800000 in
theorem refSmall_1 (w : World) : Calls Tryz.prog 162 #[.int .i64 1] w fun e w' => e = .returned (.tuple #[.agg #[.int .i64 (small 1).a, .int .i64 (small 1).b, .int .i64 (small 1).c, .int .i64 (small 1).d, .int .i64 (small 1).n], .int .i64 0]) ∧ Below w.heap.size w w' := by
  have c1 := fun W : World => within_any 1 0 23 W
  rw [inB_yes (by omega) (by omega)] at c1
  go_enter Tryz.func162, Tryz.ntmps162
  go_wp2_with ((with_reducible refine (c1 _).mono ?_); rintro e w1 ⟨rfl, rfl⟩)
  refine bodyPost_ret (v := .tuple #[.agg #[.int .i64 (small 1).a, .int .i64 (small 1).b, .int .i64 (small 1).c, .int .i64 (small 1).d, .int .i64 (small 1).n], .int .i64 0]) ?_ rfl ⟨rfl, ?_⟩
  · simp [results, Tryz.results162, go_sem, small]
  · repeat (first | (with_reducible exact Below.refl _ _) | (with_reducible refine Below.setCell ?_ ?_ _) | (with_reducible refine Below.drew ?_) | (with_reducible refine Below.alloc ?_ ?_ _) | omega | (simp <;> omega))

set_option maxHeartbeats 800000 in
theorem refSmall_2 (w : World) : Calls Tryz.prog 162 #[.int .i64 2] w fun e w' => e = .returned (.tuple #[.agg #[.int .i64 (small 2).a, .int .i64 (small 2).b, .int .i64 (small 2).c, .int .i64 (small 2).d, .int .i64 (small 2).n], .int .i64 0]) ∧ Below w.heap.size w w' := by
  have c1 := fun W : World => within_any 2 0 23 W
  rw [inB_yes (by omega) (by omega)] at c1
  go_enter Tryz.func162, Tryz.ntmps162
  go_wp2_with ((with_reducible refine (c1 _).mono ?_); rintro e w1 ⟨rfl, rfl⟩)
  refine bodyPost_ret (v := .tuple #[.agg #[.int .i64 (small 2).a, .int .i64 (small 2).b, .int .i64 (small 2).c, .int .i64 (small 2).d, .int .i64 (small 2).n], .int .i64 0]) ?_ rfl ⟨rfl, ?_⟩
  · simp [results, Tryz.results162, go_sem, small]
  · repeat (first | (with_reducible exact Below.refl _ _) | (with_reducible refine Below.setCell ?_ ?_ _) | (with_reducible refine Below.drew ?_) | (with_reducible refine Below.alloc ?_ ?_ _) | omega | (simp <;> omega))

set_option maxHeartbeats 800000 in
theorem refSmall_3 (w : World) : Calls Tryz.prog 162 #[.int .i64 3] w fun e w' => e = .returned (.tuple #[.agg #[.int .i64 (small 3).a, .int .i64 (small 3).b, .int .i64 (small 3).c, .int .i64 (small 3).d, .int .i64 (small 3).n], .int .i64 0]) ∧ Below w.heap.size w w' := by
  have c1 := fun W : World => within_any 3 0 23 W
  rw [inB_yes (by omega) (by omega)] at c1
  go_enter Tryz.func162, Tryz.ntmps162
  go_wp2_with ((with_reducible refine (c1 _).mono ?_); rintro e w1 ⟨rfl, rfl⟩)
  refine bodyPost_ret (v := .tuple #[.agg #[.int .i64 (small 3).a, .int .i64 (small 3).b, .int .i64 (small 3).c, .int .i64 (small 3).d, .int .i64 (small 3).n], .int .i64 0]) ?_ rfl ⟨rfl, ?_⟩
  · simp [results, Tryz.results162, go_sem, small]
  · repeat (first | (with_reducible exact Below.refl _ _) | (with_reducible refine Below.setCell ?_ ?_ _) | (with_reducible refine Below.drew ?_) | (with_reducible refine Below.alloc ?_ ?_ _) | omega | (simp <;> omega))

set_option maxHeartbeats 800000 in
theorem refSmall_4 (w : World) : Calls Tryz.prog 162 #[.int .i64 4] w fun e w' => e = .returned (.tuple #[.agg #[.int .i64 (small 4).a, .int .i64 (small 4).b, .int .i64 (small 4).c, .int .i64 (small 4).d, .int .i64 (small 4).n], .int .i64 0]) ∧ Below w.heap.size w w' := by
  have c1 := fun W : World => within_any 4 0 23 W
  rw [inB_yes (by omega) (by omega)] at c1
  go_enter Tryz.func162, Tryz.ntmps162
  go_wp2_with ((with_reducible refine (c1 _).mono ?_); rintro e w1 ⟨rfl, rfl⟩)
  refine bodyPost_ret (v := .tuple #[.agg #[.int .i64 (small 4).a, .int .i64 (small 4).b, .int .i64 (small 4).c, .int .i64 (small 4).d, .int .i64 (small 4).n], .int .i64 0]) ?_ rfl ⟨rfl, ?_⟩
  · simp [results, Tryz.results162, go_sem, small]
  · repeat (first | (with_reducible exact Below.refl _ _) | (with_reducible refine Below.setCell ?_ ?_ _) | (with_reducible refine Below.drew ?_) | (with_reducible refine Below.alloc ?_ ?_ _) | omega | (simp <;> omega))

set_option maxHeartbeats 800000 in
theorem refSmall_5 (w : World) : Calls Tryz.prog 162 #[.int .i64 5] w fun e w' => e = .returned (.tuple #[.agg #[.int .i64 (small 5).a, .int .i64 (small 5).b, .int .i64 (small 5).c, .int .i64 (small 5).d, .int .i64 (small 5).n], .int .i64 0]) ∧ Below w.heap.size w w' := by
  have c1 := fun W : World => within_any 5 0 23 W
  rw [inB_yes (by omega) (by omega)] at c1
  go_enter Tryz.func162, Tryz.ntmps162
  go_wp2_with ((with_reducible refine (c1 _).mono ?_); rintro e w1 ⟨rfl, rfl⟩)
  refine bodyPost_ret (v := .tuple #[.agg #[.int .i64 (small 5).a, .int .i64 (small 5).b, .int .i64 (small 5).c, .int .i64 (small 5).d, .int .i64 (small 5).n], .int .i64 0]) ?_ rfl ⟨rfl, ?_⟩
  · simp [results, Tryz.results162, go_sem, small]
  · repeat (first | (with_reducible exact Below.refl _ _) | (with_reducible refine Below.setCell ?_ ?_ _) | (with_reducible refine Below.drew ?_) | (with_reducible refine Below.alloc ?_ ?_ _) | omega | (simp <;> omega))

set_option maxHeartbeats 800000 in
theorem refSmall_6 (w : World) : Calls Tryz.prog 162 #[.int .i64 6] w fun e w' => e = .returned (.tuple #[.agg #[.int .i64 (small 6).a, .int .i64 (small 6).b, .int .i64 (small 6).c, .int .i64 (small 6).d, .int .i64 (small 6).n], .int .i64 0]) ∧ Below w.heap.size w w' := by
  have c1 := fun W : World => within_any 6 0 23 W
  rw [inB_yes (by omega) (by omega)] at c1
  go_enter Tryz.func162, Tryz.ntmps162
  go_wp2_with ((with_reducible refine (c1 _).mono ?_); rintro e w1 ⟨rfl, rfl⟩)
  refine bodyPost_ret (v := .tuple #[.agg #[.int .i64 (small 6).a, .int .i64 (small 6).b, .int .i64 (small 6).c, .int .i64 (small 6).d, .int .i64 (small 6).n], .int .i64 0]) ?_ rfl ⟨rfl, ?_⟩
  · simp [results, Tryz.results162, go_sem, small]
  · repeat (first | (with_reducible exact Below.refl _ _) | (with_reducible refine Below.setCell ?_ ?_ _) | (with_reducible refine Below.drew ?_) | (with_reducible refine Below.alloc ?_ ?_ _) | omega | (simp <;> omega))

set_option maxHeartbeats 800000 in
theorem refSmall_7 (w : World) : Calls Tryz.prog 162 #[.int .i64 7] w fun e w' => e = .returned (.tuple #[.agg #[.int .i64 (small 7).a, .int .i64 (small 7).b, .int .i64 (small 7).c, .int .i64 (small 7).d, .int .i64 (small 7).n], .int .i64 0]) ∧ Below w.heap.size w w' := by
  have c1 := fun W : World => within_any 7 0 23 W
  rw [inB_yes (by omega) (by omega)] at c1
  go_enter Tryz.func162, Tryz.ntmps162
  go_wp2_with ((with_reducible refine (c1 _).mono ?_); rintro e w1 ⟨rfl, rfl⟩)
  refine bodyPost_ret (v := .tuple #[.agg #[.int .i64 (small 7).a, .int .i64 (small 7).b, .int .i64 (small 7).c, .int .i64 (small 7).d, .int .i64 (small 7).n], .int .i64 0]) ?_ rfl ⟨rfl, ?_⟩
  · simp [results, Tryz.results162, go_sem, small]
  · repeat (first | (with_reducible exact Below.refl _ _) | (with_reducible refine Below.setCell ?_ ?_ _) | (with_reducible refine Below.drew ?_) | (with_reducible refine Below.alloc ?_ ?_ _) | omega | (simp <;> omega))

set_option maxHeartbeats 1600000 in
theorem refSmall_high (n : Int) (w : World) (h8 : 8 ≤ n) (h23 : n ≤ 23) : Calls Tryz.prog 162 #[.int .i64 n] w fun e w' => e = .returned (.tuple #[.agg #[.int .i64 (small n).a, .int .i64 (small n).b, .int .i64 (small n).c, .int .i64 (small n).d, .int .i64 (small n).n], .int .i64 0]) ∧ Below w.heap.size w w' := by
  have c1 := fun W : World => within_any n 0 23 W
  rw [inB_yes (by omega) (by omega)] at c1
  have es : small n = ⟨1 - 2 * ((n - 8) % 2), 1 - 2 * ((n - 8) / 2 % 2), 1 - 2 * ((n - 8) / 4 % 2), 1 - 2 * ((n - 8) / 8 % 2), 2⟩ := by
    unfold small
    rw [if_neg (by omega)]
  rw [es]
  clear es
  go_enter Tryz.func162, Tryz.ntmps162
  go_wp2_with ((with_reducible refine (c1 _).mono ?_); rintro e w1 ⟨rfl, rfl⟩)
  refine bodyPost_ret (v := .tuple #[.agg #[.int .i64 (1 - 2 * ((n - 8) % 2)), .int .i64 (1 - 2 * ((n - 8) / 2 % 2)), .int .i64 (1 - 2 * ((n - 8) / 4 % 2)), .int .i64 (1 - 2 * ((n - 8) / 8 % 2)), .int .i64 2], .int .i64 0]) ?_ rfl ⟨rfl, ?_⟩
  · simp [results, Tryz.results162, go_sem]
  · repeat (first | (with_reducible exact Below.refl _ _) | (with_reducible refine Below.setCell ?_ ?_ _) | (with_reducible refine Below.drew ?_) | (with_reducible refine Below.alloc ?_ ?_ _) | omega | (simp <;> omega))

theorem refSmall_any (n : Int) (w : World) (h0 : 0 ≤ n) (h23 : n ≤ 23) : Calls Tryz.prog 162 #[.int .i64 n] w fun e w' => e = .returned (.tuple #[.agg #[.int .i64 (small n).a, .int .i64 (small n).b, .int .i64 (small n).c, .int .i64 (small n).d, .int .i64 (small n).n], .int .i64 0]) ∧ Below w.heap.size w w' := by
  by_cases h : n < 8
  · have : n = 0 ∨ n = 1 ∨ n = 2 ∨ n = 3 ∨ n = 4 ∨ n = 5 ∨ n = 6 ∨ n = 7 := by omega
    rcases this with rfl | rfl | rfl | rfl | rfl | rfl | rfl | rfl
    · exact refSmall_0 w
    · exact refSmall_1 w
    · exact refSmall_2 w
    · exact refSmall_3 w
    · exact refSmall_4 w
    · exact refSmall_5 w
    · exact refSmall_6 w
    · exact refSmall_7 w
  · exact refSmall_high n w (by omega) h23

end Go.Proofs.YtpfhjdmgkckjfaaGreatDoor
