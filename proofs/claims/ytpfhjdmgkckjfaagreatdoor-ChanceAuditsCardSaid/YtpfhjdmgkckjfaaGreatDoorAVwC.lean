/- Weights that are checked, and the weights of the values of a link, as the program makes them.
Conditions: those written at each theorem. -/
import Derived.Test.YtpfhjdmgkckjfaaGreatDoorAWsC
import Derived.Test.YtpfhjdmgkckjfaaGreatDoorANumC
namespace Go.Proofs.YtpfhjdmgkckjfaaGreatDoor
set_option linter.unusedVariables false
set_option linter.unusedSimpArgs false
set_option maxRecDepth 1000000
open Go.RowKit
open Um Tm Cm

def vwR (ws : List Int) (r : Int) : Prop := (WOk ws ∧ r = 0) ∨ (¬ WOk ws ∧ r = 1)
theorem vwR_ex (ws : List Int) : ∃ r, vwR ws r := by
  by_cases h : WOk ws
  · exact ⟨0, .inl ⟨h, rfl⟩⟩
  · exact ⟨1, .inr ⟨h, rfl⟩⟩
def InW (x : Int) : Prop := 1 ≤ x ∧ x ≤ 100
theorem wok_of {w0 w1 w2 w3 w4 : Int} (h0 : InW w0) (h1 : InW w1) (h2 : InW w2) (h3 : InW w3) (h4 : InW w4) : WOk [w0, w1, w2, w3, w4] := ⟨rfl, fun x hx => by
  simp at hx
  rcases hx with rfl | rfl | rfl | rfl | rfl <;> assumption⟩
theorem wok_in {w0 w1 w2 w3 w4 : Int} (h : WOk [w0, w1, w2, w3, w4]) : InW w0 ∧ InW w1 ∧ InW w2 ∧ InW w3 ∧ InW w4 := ⟨h.2 _ (by simp), h.2 _ (by simp), h.2 _ (by simp), h.2 _ (by simp), h.2 _ (by simp)⟩
set_option maxHeartbeats 1600000 in
theorem vw_bad0l (w0 w1 w2 w3 w4 : Int) (w : World)  (hb : w0 < 1) : Calls Tryz.prog 15 #[.agg #[.int .i64 w0, .int .i64 w1, .int .i64 w2, .int .i64 w3, .int .i64 w4]] w fun e w' => e = .returned (.int .i64 1) ∧ Below w.heap.size w w' := by
  have i0 : ∀ W, (Instr.index 26 (.agg #[.int .i64 w0, .int .i64 w1, .int .i64 w2, .int .i64 w3, .int .i64 w4]) (.int .i64 0)).run Tryz.prog W = .ok (.int .i64 w0) W := fun _ => by kernel_rfl
  have i1 : ∀ W, (Instr.index 26 (.agg #[.int .i64 w0, .int .i64 w1, .int .i64 w2, .int .i64 w3, .int .i64 w4]) (.int .i64 1)).run Tryz.prog W = .ok (.int .i64 w1) W := fun _ => by kernel_rfl
  have i2 : ∀ W, (Instr.index 26 (.agg #[.int .i64 w0, .int .i64 w1, .int .i64 w2, .int .i64 w3, .int .i64 w4]) (.int .i64 2)).run Tryz.prog W = .ok (.int .i64 w2) W := fun _ => by kernel_rfl
  have i3 : ∀ W, (Instr.index 26 (.agg #[.int .i64 w0, .int .i64 w1, .int .i64 w2, .int .i64 w3, .int .i64 w4]) (.int .i64 3)).run Tryz.prog W = .ok (.int .i64 w3) W := fun _ => by kernel_rfl
  have i4 : ∀ W, (Instr.index 26 (.agg #[.int .i64 w0, .int .i64 w1, .int .i64 w2, .int .i64 w3, .int .i64 w4]) (.int .i64 4)).run Tryz.prog W = .ok (.int .i64 w4) W := fun _ => by kernel_rfl
  · go_enter Tryz.func15, Tryz.ntmps15
    go_wp2
    refine wp_loop_rounds 1 ?_
    rw [rounds_succ]
    go_wp2
    go_ret
    exact ⟨rfl, by repeat (first | (with_reducible exact Below.refl _ _) | (with_reducible refine Below.setCell ?_ ?_ _) | (with_reducible refine Below.drew ?_) | (with_reducible refine Below.alloc ?_ ?_ _) | omega | (simp <;> omega))⟩
set_option maxHeartbeats 1600000 in
theorem vw_bad0h (w0 w1 w2 w3 w4 : Int) (w : World)  (hb : 100 < w0) : Calls Tryz.prog 15 #[.agg #[.int .i64 w0, .int .i64 w1, .int .i64 w2, .int .i64 w3, .int .i64 w4]] w fun e w' => e = .returned (.int .i64 1) ∧ Below w.heap.size w w' := by
  have hb' : 1 ≤ w0 := by omega
  have i0 : ∀ W, (Instr.index 26 (.agg #[.int .i64 w0, .int .i64 w1, .int .i64 w2, .int .i64 w3, .int .i64 w4]) (.int .i64 0)).run Tryz.prog W = .ok (.int .i64 w0) W := fun _ => by kernel_rfl
  have i1 : ∀ W, (Instr.index 26 (.agg #[.int .i64 w0, .int .i64 w1, .int .i64 w2, .int .i64 w3, .int .i64 w4]) (.int .i64 1)).run Tryz.prog W = .ok (.int .i64 w1) W := fun _ => by kernel_rfl
  have i2 : ∀ W, (Instr.index 26 (.agg #[.int .i64 w0, .int .i64 w1, .int .i64 w2, .int .i64 w3, .int .i64 w4]) (.int .i64 2)).run Tryz.prog W = .ok (.int .i64 w2) W := fun _ => by kernel_rfl
  have i3 : ∀ W, (Instr.index 26 (.agg #[.int .i64 w0, .int .i64 w1, .int .i64 w2, .int .i64 w3, .int .i64 w4]) (.int .i64 3)).run Tryz.prog W = .ok (.int .i64 w3) W := fun _ => by kernel_rfl
  have i4 : ∀ W, (Instr.index 26 (.agg #[.int .i64 w0, .int .i64 w1, .int .i64 w2, .int .i64 w3, .int .i64 w4]) (.int .i64 4)).run Tryz.prog W = .ok (.int .i64 w4) W := fun _ => by kernel_rfl
  · go_enter Tryz.func15, Tryz.ntmps15
    go_wp2
    refine wp_loop_rounds 1 ?_
    rw [rounds_succ]
    go_wp2
    go_ret
    exact ⟨rfl, by repeat (first | (with_reducible exact Below.refl _ _) | (with_reducible refine Below.setCell ?_ ?_ _) | (with_reducible refine Below.drew ?_) | (with_reducible refine Below.alloc ?_ ?_ _) | omega | (simp <;> omega))⟩
set_option maxHeartbeats 1600000 in
theorem vw_bad1l (w0 w1 w2 w3 w4 : Int) (w : World) (h0 : 1 ≤ w0) (k0 : w0 ≤ 100) (hb : w1 < 1) : Calls Tryz.prog 15 #[.agg #[.int .i64 w0, .int .i64 w1, .int .i64 w2, .int .i64 w3, .int .i64 w4]] w fun e w' => e = .returned (.int .i64 1) ∧ Below w.heap.size w w' := by
  have i0 : ∀ W, (Instr.index 26 (.agg #[.int .i64 w0, .int .i64 w1, .int .i64 w2, .int .i64 w3, .int .i64 w4]) (.int .i64 0)).run Tryz.prog W = .ok (.int .i64 w0) W := fun _ => by kernel_rfl
  have i1 : ∀ W, (Instr.index 26 (.agg #[.int .i64 w0, .int .i64 w1, .int .i64 w2, .int .i64 w3, .int .i64 w4]) (.int .i64 1)).run Tryz.prog W = .ok (.int .i64 w1) W := fun _ => by kernel_rfl
  have i2 : ∀ W, (Instr.index 26 (.agg #[.int .i64 w0, .int .i64 w1, .int .i64 w2, .int .i64 w3, .int .i64 w4]) (.int .i64 2)).run Tryz.prog W = .ok (.int .i64 w2) W := fun _ => by kernel_rfl
  have i3 : ∀ W, (Instr.index 26 (.agg #[.int .i64 w0, .int .i64 w1, .int .i64 w2, .int .i64 w3, .int .i64 w4]) (.int .i64 3)).run Tryz.prog W = .ok (.int .i64 w3) W := fun _ => by kernel_rfl
  have i4 : ∀ W, (Instr.index 26 (.agg #[.int .i64 w0, .int .i64 w1, .int .i64 w2, .int .i64 w3, .int .i64 w4]) (.int .i64 4)).run Tryz.prog W = .ok (.int .i64 w4) W := fun _ => by kernel_rfl
  · go_enter Tryz.func15, Tryz.ntmps15
    go_wp2
    refine wp_loop_rounds 2 ?_
    rw [rounds_succ]
    go_wp2
    rw [rounds_succ]
    go_wp2
    go_ret
    exact ⟨rfl, by repeat (first | (with_reducible exact Below.refl _ _) | (with_reducible refine Below.setCell ?_ ?_ _) | (with_reducible refine Below.drew ?_) | (with_reducible refine Below.alloc ?_ ?_ _) | omega | (simp <;> omega))⟩
set_option maxHeartbeats 1600000 in
theorem vw_bad1h (w0 w1 w2 w3 w4 : Int) (w : World) (h0 : 1 ≤ w0) (k0 : w0 ≤ 100) (hb : 100 < w1) : Calls Tryz.prog 15 #[.agg #[.int .i64 w0, .int .i64 w1, .int .i64 w2, .int .i64 w3, .int .i64 w4]] w fun e w' => e = .returned (.int .i64 1) ∧ Below w.heap.size w w' := by
  have hb' : 1 ≤ w1 := by omega
  have i0 : ∀ W, (Instr.index 26 (.agg #[.int .i64 w0, .int .i64 w1, .int .i64 w2, .int .i64 w3, .int .i64 w4]) (.int .i64 0)).run Tryz.prog W = .ok (.int .i64 w0) W := fun _ => by kernel_rfl
  have i1 : ∀ W, (Instr.index 26 (.agg #[.int .i64 w0, .int .i64 w1, .int .i64 w2, .int .i64 w3, .int .i64 w4]) (.int .i64 1)).run Tryz.prog W = .ok (.int .i64 w1) W := fun _ => by kernel_rfl
  have i2 : ∀ W, (Instr.index 26 (.agg #[.int .i64 w0, .int .i64 w1, .int .i64 w2, .int .i64 w3, .int .i64 w4]) (.int .i64 2)).run Tryz.prog W = .ok (.int .i64 w2) W := fun _ => by kernel_rfl
  have i3 : ∀ W, (Instr.index 26 (.agg #[.int .i64 w0, .int .i64 w1, .int .i64 w2, .int .i64 w3, .int .i64 w4]) (.int .i64 3)).run Tryz.prog W = .ok (.int .i64 w3) W := fun _ => by kernel_rfl
  have i4 : ∀ W, (Instr.index 26 (.agg #[.int .i64 w0, .int .i64 w1, .int .i64 w2, .int .i64 w3, .int .i64 w4]) (.int .i64 4)).run Tryz.prog W = .ok (.int .i64 w4) W := fun _ => by kernel_rfl
  · go_enter Tryz.func15, Tryz.ntmps15
    go_wp2
    refine wp_loop_rounds 2 ?_
    rw [rounds_succ]
    go_wp2
    rw [rounds_succ]
    go_wp2
    go_ret
    exact ⟨rfl, by repeat (first | (with_reducible exact Below.refl _ _) | (with_reducible refine Below.setCell ?_ ?_ _) | (with_reducible refine Below.drew ?_) | (with_reducible refine Below.alloc ?_ ?_ _) | omega | (simp <;> omega))⟩
set_option maxHeartbeats 1600000 in
theorem vw_bad2l (w0 w1 w2 w3 w4 : Int) (w : World) (h0 : 1 ≤ w0) (k0 : w0 ≤ 100) (h1 : 1 ≤ w1) (k1 : w1 ≤ 100) (hb : w2 < 1) : Calls Tryz.prog 15 #[.agg #[.int .i64 w0, .int .i64 w1, .int .i64 w2, .int .i64 w3, .int .i64 w4]] w fun e w' => e = .returned (.int .i64 1) ∧ Below w.heap.size w w' := by
  have i0 : ∀ W, (Instr.index 26 (.agg #[.int .i64 w0, .int .i64 w1, .int .i64 w2, .int .i64 w3, .int .i64 w4]) (.int .i64 0)).run Tryz.prog W = .ok (.int .i64 w0) W := fun _ => by kernel_rfl
  have i1 : ∀ W, (Instr.index 26 (.agg #[.int .i64 w0, .int .i64 w1, .int .i64 w2, .int .i64 w3, .int .i64 w4]) (.int .i64 1)).run Tryz.prog W = .ok (.int .i64 w1) W := fun _ => by kernel_rfl
  have i2 : ∀ W, (Instr.index 26 (.agg #[.int .i64 w0, .int .i64 w1, .int .i64 w2, .int .i64 w3, .int .i64 w4]) (.int .i64 2)).run Tryz.prog W = .ok (.int .i64 w2) W := fun _ => by kernel_rfl
  have i3 : ∀ W, (Instr.index 26 (.agg #[.int .i64 w0, .int .i64 w1, .int .i64 w2, .int .i64 w3, .int .i64 w4]) (.int .i64 3)).run Tryz.prog W = .ok (.int .i64 w3) W := fun _ => by kernel_rfl
  have i4 : ∀ W, (Instr.index 26 (.agg #[.int .i64 w0, .int .i64 w1, .int .i64 w2, .int .i64 w3, .int .i64 w4]) (.int .i64 4)).run Tryz.prog W = .ok (.int .i64 w4) W := fun _ => by kernel_rfl
  · go_enter Tryz.func15, Tryz.ntmps15
    go_wp2
    refine wp_loop_rounds 3 ?_
    rw [rounds_succ]
    go_wp2
    rw [rounds_succ]
    go_wp2
    rw [rounds_succ]
    go_wp2
    go_ret
    exact ⟨rfl, by repeat (first | (with_reducible exact Below.refl _ _) | (with_reducible refine Below.setCell ?_ ?_ _) | (with_reducible refine Below.drew ?_) | (with_reducible refine Below.alloc ?_ ?_ _) | omega | (simp <;> omega))⟩
set_option maxHeartbeats 1600000 in
theorem vw_bad2h (w0 w1 w2 w3 w4 : Int) (w : World) (h0 : 1 ≤ w0) (k0 : w0 ≤ 100) (h1 : 1 ≤ w1) (k1 : w1 ≤ 100) (hb : 100 < w2) : Calls Tryz.prog 15 #[.agg #[.int .i64 w0, .int .i64 w1, .int .i64 w2, .int .i64 w3, .int .i64 w4]] w fun e w' => e = .returned (.int .i64 1) ∧ Below w.heap.size w w' := by
  have hb' : 1 ≤ w2 := by omega
  have i0 : ∀ W, (Instr.index 26 (.agg #[.int .i64 w0, .int .i64 w1, .int .i64 w2, .int .i64 w3, .int .i64 w4]) (.int .i64 0)).run Tryz.prog W = .ok (.int .i64 w0) W := fun _ => by kernel_rfl
  have i1 : ∀ W, (Instr.index 26 (.agg #[.int .i64 w0, .int .i64 w1, .int .i64 w2, .int .i64 w3, .int .i64 w4]) (.int .i64 1)).run Tryz.prog W = .ok (.int .i64 w1) W := fun _ => by kernel_rfl
  have i2 : ∀ W, (Instr.index 26 (.agg #[.int .i64 w0, .int .i64 w1, .int .i64 w2, .int .i64 w3, .int .i64 w4]) (.int .i64 2)).run Tryz.prog W = .ok (.int .i64 w2) W := fun _ => by kernel_rfl
  have i3 : ∀ W, (Instr.index 26 (.agg #[.int .i64 w0, .int .i64 w1, .int .i64 w2, .int .i64 w3, .int .i64 w4]) (.int .i64 3)).run Tryz.prog W = .ok (.int .i64 w3) W := fun _ => by kernel_rfl
  have i4 : ∀ W, (Instr.index 26 (.agg #[.int .i64 w0, .int .i64 w1, .int .i64 w2, .int .i64 w3, .int .i64 w4]) (.int .i64 4)).run Tryz.prog W = .ok (.int .i64 w4) W := fun _ => by kernel_rfl
  · go_enter Tryz.func15, Tryz.ntmps15
    go_wp2
    refine wp_loop_rounds 3 ?_
    rw [rounds_succ]
    go_wp2
    rw [rounds_succ]
    go_wp2
    rw [rounds_succ]
    go_wp2
    go_ret
    exact ⟨rfl, by repeat (first | (with_reducible exact Below.refl _ _) | (with_reducible refine Below.setCell ?_ ?_ _) | (with_reducible refine Below.drew ?_) | (with_reducible refine Below.alloc ?_ ?_ _) | omega | (simp <;> omega))⟩
set_option maxHeartbeats 1600000 in
theorem vw_bad3l (w0 w1 w2 w3 w4 : Int) (w : World) (h0 : 1 ≤ w0) (k0 : w0 ≤ 100) (h1 : 1 ≤ w1) (k1 : w1 ≤ 100) (h2 : 1 ≤ w2) (k2 : w2 ≤ 100) (hb : w3 < 1) : Calls Tryz.prog 15 #[.agg #[.int .i64 w0, .int .i64 w1, .int .i64 w2, .int .i64 w3, .int .i64 w4]] w fun e w' => e = .returned (.int .i64 1) ∧ Below w.heap.size w w' := by
  have i0 : ∀ W, (Instr.index 26 (.agg #[.int .i64 w0, .int .i64 w1, .int .i64 w2, .int .i64 w3, .int .i64 w4]) (.int .i64 0)).run Tryz.prog W = .ok (.int .i64 w0) W := fun _ => by kernel_rfl
  have i1 : ∀ W, (Instr.index 26 (.agg #[.int .i64 w0, .int .i64 w1, .int .i64 w2, .int .i64 w3, .int .i64 w4]) (.int .i64 1)).run Tryz.prog W = .ok (.int .i64 w1) W := fun _ => by kernel_rfl
  have i2 : ∀ W, (Instr.index 26 (.agg #[.int .i64 w0, .int .i64 w1, .int .i64 w2, .int .i64 w3, .int .i64 w4]) (.int .i64 2)).run Tryz.prog W = .ok (.int .i64 w2) W := fun _ => by kernel_rfl
  have i3 : ∀ W, (Instr.index 26 (.agg #[.int .i64 w0, .int .i64 w1, .int .i64 w2, .int .i64 w3, .int .i64 w4]) (.int .i64 3)).run Tryz.prog W = .ok (.int .i64 w3) W := fun _ => by kernel_rfl
  have i4 : ∀ W, (Instr.index 26 (.agg #[.int .i64 w0, .int .i64 w1, .int .i64 w2, .int .i64 w3, .int .i64 w4]) (.int .i64 4)).run Tryz.prog W = .ok (.int .i64 w4) W := fun _ => by kernel_rfl
  · go_enter Tryz.func15, Tryz.ntmps15
    go_wp2
    refine wp_loop_rounds 4 ?_
    rw [rounds_succ]
    go_wp2
    rw [rounds_succ]
    go_wp2
    rw [rounds_succ]
    go_wp2
    rw [rounds_succ]
    go_wp2
    go_ret
    exact ⟨rfl, by repeat (first | (with_reducible exact Below.refl _ _) | (with_reducible refine Below.setCell ?_ ?_ _) | (with_reducible refine Below.drew ?_) | (with_reducible refine Below.alloc ?_ ?_ _) | omega | (simp <;> omega))⟩
set_option maxHeartbeats 1600000 in
theorem vw_bad3h (w0 w1 w2 w3 w4 : Int) (w : World) (h0 : 1 ≤ w0) (k0 : w0 ≤ 100) (h1 : 1 ≤ w1) (k1 : w1 ≤ 100) (h2 : 1 ≤ w2) (k2 : w2 ≤ 100) (hb : 100 < w3) : Calls Tryz.prog 15 #[.agg #[.int .i64 w0, .int .i64 w1, .int .i64 w2, .int .i64 w3, .int .i64 w4]] w fun e w' => e = .returned (.int .i64 1) ∧ Below w.heap.size w w' := by
  have hb' : 1 ≤ w3 := by omega
  have i0 : ∀ W, (Instr.index 26 (.agg #[.int .i64 w0, .int .i64 w1, .int .i64 w2, .int .i64 w3, .int .i64 w4]) (.int .i64 0)).run Tryz.prog W = .ok (.int .i64 w0) W := fun _ => by kernel_rfl
  have i1 : ∀ W, (Instr.index 26 (.agg #[.int .i64 w0, .int .i64 w1, .int .i64 w2, .int .i64 w3, .int .i64 w4]) (.int .i64 1)).run Tryz.prog W = .ok (.int .i64 w1) W := fun _ => by kernel_rfl
  have i2 : ∀ W, (Instr.index 26 (.agg #[.int .i64 w0, .int .i64 w1, .int .i64 w2, .int .i64 w3, .int .i64 w4]) (.int .i64 2)).run Tryz.prog W = .ok (.int .i64 w2) W := fun _ => by kernel_rfl
  have i3 : ∀ W, (Instr.index 26 (.agg #[.int .i64 w0, .int .i64 w1, .int .i64 w2, .int .i64 w3, .int .i64 w4]) (.int .i64 3)).run Tryz.prog W = .ok (.int .i64 w3) W := fun _ => by kernel_rfl
  have i4 : ∀ W, (Instr.index 26 (.agg #[.int .i64 w0, .int .i64 w1, .int .i64 w2, .int .i64 w3, .int .i64 w4]) (.int .i64 4)).run Tryz.prog W = .ok (.int .i64 w4) W := fun _ => by kernel_rfl
  · go_enter Tryz.func15, Tryz.ntmps15
    go_wp2
    refine wp_loop_rounds 4 ?_
    rw [rounds_succ]
    go_wp2
    rw [rounds_succ]
    go_wp2
    rw [rounds_succ]
    go_wp2
    rw [rounds_succ]
    go_wp2
    go_ret
    exact ⟨rfl, by repeat (first | (with_reducible exact Below.refl _ _) | (with_reducible refine Below.setCell ?_ ?_ _) | (with_reducible refine Below.drew ?_) | (with_reducible refine Below.alloc ?_ ?_ _) | omega | (simp <;> omega))⟩
set_option maxHeartbeats 1600000 in
theorem vw_bad4l (w0 w1 w2 w3 w4 : Int) (w : World) (h0 : 1 ≤ w0) (k0 : w0 ≤ 100) (h1 : 1 ≤ w1) (k1 : w1 ≤ 100) (h2 : 1 ≤ w2) (k2 : w2 ≤ 100) (h3 : 1 ≤ w3) (k3 : w3 ≤ 100) (hb : w4 < 1) : Calls Tryz.prog 15 #[.agg #[.int .i64 w0, .int .i64 w1, .int .i64 w2, .int .i64 w3, .int .i64 w4]] w fun e w' => e = .returned (.int .i64 1) ∧ Below w.heap.size w w' := by
  have i0 : ∀ W, (Instr.index 26 (.agg #[.int .i64 w0, .int .i64 w1, .int .i64 w2, .int .i64 w3, .int .i64 w4]) (.int .i64 0)).run Tryz.prog W = .ok (.int .i64 w0) W := fun _ => by kernel_rfl
  have i1 : ∀ W, (Instr.index 26 (.agg #[.int .i64 w0, .int .i64 w1, .int .i64 w2, .int .i64 w3, .int .i64 w4]) (.int .i64 1)).run Tryz.prog W = .ok (.int .i64 w1) W := fun _ => by kernel_rfl
  have i2 : ∀ W, (Instr.index 26 (.agg #[.int .i64 w0, .int .i64 w1, .int .i64 w2, .int .i64 w3, .int .i64 w4]) (.int .i64 2)).run Tryz.prog W = .ok (.int .i64 w2) W := fun _ => by kernel_rfl
  have i3 : ∀ W, (Instr.index 26 (.agg #[.int .i64 w0, .int .i64 w1, .int .i64 w2, .int .i64 w3, .int .i64 w4]) (.int .i64 3)).run Tryz.prog W = .ok (.int .i64 w3) W := fun _ => by kernel_rfl
  have i4 : ∀ W, (Instr.index 26 (.agg #[.int .i64 w0, .int .i64 w1, .int .i64 w2, .int .i64 w3, .int .i64 w4]) (.int .i64 4)).run Tryz.prog W = .ok (.int .i64 w4) W := fun _ => by kernel_rfl
  · go_enter Tryz.func15, Tryz.ntmps15
    go_wp2
    refine wp_loop_rounds 5 ?_
    rw [rounds_succ]
    go_wp2
    rw [rounds_succ]
    go_wp2
    rw [rounds_succ]
    go_wp2
    rw [rounds_succ]
    go_wp2
    rw [rounds_succ]
    go_wp2
    go_ret
    exact ⟨rfl, by repeat (first | (with_reducible exact Below.refl _ _) | (with_reducible refine Below.setCell ?_ ?_ _) | (with_reducible refine Below.drew ?_) | (with_reducible refine Below.alloc ?_ ?_ _) | omega | (simp <;> omega))⟩
set_option maxHeartbeats 1600000 in
theorem vw_bad4h (w0 w1 w2 w3 w4 : Int) (w : World) (h0 : 1 ≤ w0) (k0 : w0 ≤ 100) (h1 : 1 ≤ w1) (k1 : w1 ≤ 100) (h2 : 1 ≤ w2) (k2 : w2 ≤ 100) (h3 : 1 ≤ w3) (k3 : w3 ≤ 100) (hb : 100 < w4) : Calls Tryz.prog 15 #[.agg #[.int .i64 w0, .int .i64 w1, .int .i64 w2, .int .i64 w3, .int .i64 w4]] w fun e w' => e = .returned (.int .i64 1) ∧ Below w.heap.size w w' := by
  have hb' : 1 ≤ w4 := by omega
  have i0 : ∀ W, (Instr.index 26 (.agg #[.int .i64 w0, .int .i64 w1, .int .i64 w2, .int .i64 w3, .int .i64 w4]) (.int .i64 0)).run Tryz.prog W = .ok (.int .i64 w0) W := fun _ => by kernel_rfl
  have i1 : ∀ W, (Instr.index 26 (.agg #[.int .i64 w0, .int .i64 w1, .int .i64 w2, .int .i64 w3, .int .i64 w4]) (.int .i64 1)).run Tryz.prog W = .ok (.int .i64 w1) W := fun _ => by kernel_rfl
  have i2 : ∀ W, (Instr.index 26 (.agg #[.int .i64 w0, .int .i64 w1, .int .i64 w2, .int .i64 w3, .int .i64 w4]) (.int .i64 2)).run Tryz.prog W = .ok (.int .i64 w2) W := fun _ => by kernel_rfl
  have i3 : ∀ W, (Instr.index 26 (.agg #[.int .i64 w0, .int .i64 w1, .int .i64 w2, .int .i64 w3, .int .i64 w4]) (.int .i64 3)).run Tryz.prog W = .ok (.int .i64 w3) W := fun _ => by kernel_rfl
  have i4 : ∀ W, (Instr.index 26 (.agg #[.int .i64 w0, .int .i64 w1, .int .i64 w2, .int .i64 w3, .int .i64 w4]) (.int .i64 4)).run Tryz.prog W = .ok (.int .i64 w4) W := fun _ => by kernel_rfl
  · go_enter Tryz.func15, Tryz.ntmps15
    go_wp2
    refine wp_loop_rounds 5 ?_
    rw [rounds_succ]
    go_wp2
    rw [rounds_succ]
    go_wp2
    rw [rounds_succ]
    go_wp2
    rw [rounds_succ]
    go_wp2
    rw [rounds_succ]
    go_wp2
    go_ret
    exact ⟨rfl, by repeat (first | (with_reducible exact Below.refl _ _) | (with_reducible refine Below.setCell ?_ ?_ _) | (with_reducible refine Below.drew ?_) | (with_reducible refine Below.alloc ?_ ?_ _) | omega | (simp <;> omega))⟩
set_option maxHeartbeats 1600000 in
theorem vw_ok (w0 w1 w2 w3 w4 : Int) (w : World) (h : WOk [w0, w1, w2, w3, w4]) : Calls Tryz.prog 15 #[.agg #[.int .i64 w0, .int .i64 w1, .int .i64 w2, .int .i64 w3, .int .i64 w4]] w fun e w' => e = .returned (.int .i64 0) ∧ Below w.heap.size w w' := by
  obtain ⟨⟨a0, b0⟩, ⟨a1, b1⟩, ⟨a2, b2⟩, ⟨a3, b3⟩, ⟨a4, b4⟩⟩ := wok_in h
  clear h
  have i0 : ∀ W, (Instr.index 26 (.agg #[.int .i64 w0, .int .i64 w1, .int .i64 w2, .int .i64 w3, .int .i64 w4]) (.int .i64 0)).run Tryz.prog W = .ok (.int .i64 w0) W := fun _ => by kernel_rfl
  have i1 : ∀ W, (Instr.index 26 (.agg #[.int .i64 w0, .int .i64 w1, .int .i64 w2, .int .i64 w3, .int .i64 w4]) (.int .i64 1)).run Tryz.prog W = .ok (.int .i64 w1) W := fun _ => by kernel_rfl
  have i2 : ∀ W, (Instr.index 26 (.agg #[.int .i64 w0, .int .i64 w1, .int .i64 w2, .int .i64 w3, .int .i64 w4]) (.int .i64 2)).run Tryz.prog W = .ok (.int .i64 w2) W := fun _ => by kernel_rfl
  have i3 : ∀ W, (Instr.index 26 (.agg #[.int .i64 w0, .int .i64 w1, .int .i64 w2, .int .i64 w3, .int .i64 w4]) (.int .i64 3)).run Tryz.prog W = .ok (.int .i64 w3) W := fun _ => by kernel_rfl
  have i4 : ∀ W, (Instr.index 26 (.agg #[.int .i64 w0, .int .i64 w1, .int .i64 w2, .int .i64 w3, .int .i64 w4]) (.int .i64 4)).run Tryz.prog W = .ok (.int .i64 w4) W := fun _ => by kernel_rfl
  · go_enter Tryz.func15, Tryz.ntmps15
    go_wp2
    refine wp_loop_rounds 6 ?_
    rw [rounds_succ]
    go_wp2
    rw [rounds_succ]
    go_wp2
    rw [rounds_succ]
    go_wp2
    rw [rounds_succ]
    go_wp2
    rw [rounds_succ]
    go_wp2
    rw [rounds_succ]
    go_wp2
    go_ret
    exact ⟨rfl, by repeat (first | (with_reducible exact Below.refl _ _) | (with_reducible refine Below.setCell ?_ ?_ _) | (with_reducible refine Below.drew ?_) | (with_reducible refine Below.alloc ?_ ?_ _) | omega | (simp <;> omega))⟩
theorem vw_any (w0 w1 w2 w3 w4 r : Int) (w : World) (h : vwR [w0, w1, w2, w3, w4] r) : Calls Tryz.prog 15 #[.agg #[.int .i64 w0, .int .i64 w1, .int .i64 w2, .int .i64 w3, .int .i64 w4]] w fun e w' => e = .returned (.int .i64 r) ∧ Below w.heap.size w w' := by
  rcases h with ⟨h, rfl⟩ | ⟨h, rfl⟩
  · exact vw_ok w0 w1 w2 w3 w4 w h
  · by_cases c0 : w0 < 1
    · exact vw_bad0l w0 w1 w2 w3 w4 w  c0
    have a0 : 1 ≤ w0 := by omega
    by_cases d0 : 100 < w0
    · exact vw_bad0h w0 w1 w2 w3 w4 w  d0
    have b0 : w0 ≤ 100 := by omega
    by_cases c1 : w1 < 1
    · exact vw_bad1l w0 w1 w2 w3 w4 w a0 b0 c1
    have a1 : 1 ≤ w1 := by omega
    by_cases d1 : 100 < w1
    · exact vw_bad1h w0 w1 w2 w3 w4 w a0 b0 d1
    have b1 : w1 ≤ 100 := by omega
    by_cases c2 : w2 < 1
    · exact vw_bad2l w0 w1 w2 w3 w4 w a0 b0 a1 b1 c2
    have a2 : 1 ≤ w2 := by omega
    by_cases d2 : 100 < w2
    · exact vw_bad2h w0 w1 w2 w3 w4 w a0 b0 a1 b1 d2
    have b2 : w2 ≤ 100 := by omega
    by_cases c3 : w3 < 1
    · exact vw_bad3l w0 w1 w2 w3 w4 w a0 b0 a1 b1 a2 b2 c3
    have a3 : 1 ≤ w3 := by omega
    by_cases d3 : 100 < w3
    · exact vw_bad3h w0 w1 w2 w3 w4 w a0 b0 a1 b1 a2 b2 d3
    have b3 : w3 ≤ 100 := by omega
    by_cases c4 : w4 < 1
    · exact vw_bad4l w0 w1 w2 w3 w4 w a0 b0 a1 b1 a2 b2 a3 b3 c4
    have a4 : 1 ≤ w4 := by omega
    by_cases d4 : 100 < w4
    · exact vw_bad4h w0 w1 w2 w3 w4 w a0 b0 a1 b1 a2 b2 a3 b3 d4
    have b4 : w4 ≤ 100 := by omega
    exact absurd (wok_of ⟨a0, b0⟩ ⟨a1, b1⟩ ⟨a2, b2⟩ ⟨a3, b3⟩ ⟨a4, b4⟩) h
end Go.Proofs.YtpfhjdmgkckjfaaGreatDoor
