/- The site ahead, and the links and plaquettes of a torus, as the document's answers make them.
Conditions: those written at each theorem. -/
import Derived.Test.YtpfhjdmgkckjfaaGreatDoorATorA
import Derived.Test.YtpfhjdmgkckjfaaGreatDoorARegA
import Derived.Test.YtpfhjdmgkckjfaaGreatDoorAMathA
namespace Go.Proofs.YtpfhjdmgkckjfaaGreatDoor
set_option linter.unusedVariables false
set_option linter.unusedSimpArgs false
set_option maxRecDepth 1000000
open Go.RowKit
open Cm Tm

theorem ahead_rng {a b c s : Int} (h : Sz a b c) (h0 : 0 ≤ s) (h1 : s < a * b * c) : (0 ≤ b * (s / a / b) ∧ b * (s / a / b) ≤ 16) ∧ (0 ≤ a * (s / a % b + b * (s / a / b)) ∧ a * (s / a % b + b * (s / a / b)) ≤ 100) := by
  have p := parts_rng h 0 (s / a) (s / a / b)
  rw [pz_mod h h0 h1] at p
  exact ⟨p.2.2.2.1, p.2.2.2.2⟩
theorem ahead1 {a b c s : Int} (h : Sz a b c) (h0 : 0 ≤ s) (h1 : s < a * b * c) : (s % a + 1) % a + a * (s / a % b + b * (s / a / b)) = nx a b c s 1 := by
  rw [nx_p1]; unfold site; rw [pz_mod h h0 h1, Int.emod_emod]
theorem ahead2 {a b c s : Int} (h : Sz a b c) (h0 : 0 ≤ s) (h1 : s < a * b * c) : s % a + a * ((s / a % b + 1) % b + b * (s / a / b)) = nx a b c s 2 := by
  rw [nx_p2]; unfold site; rw [pz_mod h h0 h1, Int.emod_emod]
theorem ahead3 {a b c s : Int} (h : Sz a b c) (h0 : 0 ≤ s) (h1 : s < a * b * c) : s % a + a * (s / a % b + b * ((s / a / b + 1) % c)) = nx a b c s 3 := by
  rw [nx_p3]; unfold site; rw [Int.emod_emod, Int.emod_emod]
theorem ahead_rng3 {a b c : Int} (h : Sz a b c) (x y z : Int) : (0 ≤ b * (z % c) ∧ b * (z % c) ≤ 16) ∧ (0 ≤ a * (y % b + b * (z % c)) ∧ a * (y % b + b * (z % c)) ≤ 100) := by
  have p := parts_rng h x y z
  exact ⟨p.2.2.2.1, p.2.2.2.2⟩

set_option maxHeartbeats 1600000 in
theorem ahead1_any (a b c s : Int) (w : World) (h : Sz a b c) (h0 : 0 ≤ s) (h1 : s < a * b * c) : Calls Tryz.prog 133 #[.agg #[.int .i64 a, .int .i64 b, .int .i64 c], .int .i64 s, .int .i64 0] w fun e w' => e = .returned (.int .i64 (nx a b c s 1)) ∧ Below w.heap.size w w' := by
  obtain ⟨d0, d1, d2, d3, d4, d5, d6, d7, d8, d9⟩ := div_rng h h0 h1
  have q4 : s / a / b < c := (pz_rng h h0 h1).2
  have EE := Lib.hid (ahead1 h h0 h1)
  obtain ⟨⟨r1, r2⟩, r3, r4⟩ := ahead_rng h h0 h1
  obtain ⟨a1, a4, b1, b4, c1, c4, -⟩ := h
  have a0 : (a == 0) = false := by simp; omega
  have b0 : (b == 0) = false := by simp; omega
  have c0 : (c == 0) = false := by simp; omega
  have e1 : s.tmod a = s % a := Int.tmod_eq_emod_of_nonneg h0
  have e2 : IntKind.i64.wrap (s.tdiv a) = s / a := IntWalk.i64_quo _ _ ⟨h0, by omega, a1⟩
  have e3 : (s / a).tmod b = s / a % b := Int.tmod_eq_emod_of_nonneg d2
  have e4 : IntKind.i64.wrap ((s / a).tdiv b) = s / a / b := IntWalk.i64_quo _ _ ⟨d2, by omega, b1⟩
  have e5 : IntKind.i64.wrap (s % a) = s % a := IntWalk.i64_in _ (by omega)
  have e6 : IntKind.i64.wrap (s / a % b) = s / a % b := IntWalk.i64_in _ (by omega)
  have e7 : IntKind.i64.wrap (s % a + 1) = s % a + 1 := IntWalk.i64_in _ (by omega)
  have e8 : (s % a + 1).tmod a = (s % a + 1) % a := Int.tmod_eq_emod_of_nonneg (by omega)
  have e9 := Int.emod_nonneg (s % a + 1) (show a ≠ 0 by omega)
  have e10 := Int.emod_lt_of_pos (s % a + 1) (show 0 < a by omega)
  have e11 : IntKind.i64.wrap ((s % a + 1) % a) = (s % a + 1) % a := IntWalk.i64_in _ (by omega)
  clear h1
  have kc := @Tail.cell_re; have kc1 : ∀ (W : World) (o : Obj) (d : Nat) (os : Array Obj) (a : Addr), a.block ≤ W.heap.size → (Sort.grow (redrawn (W.alloc o) d) os).cell? a = (W.alloc o).cell? a := fun W o d os a h => Tail.cell_re (W.alloc o) d os a (Nat.lt_of_le_of_lt h (by simp))
  go_enter Tryz.func133, Tryz.ntmps133
  go_wp2
  apply Wide.region_one 19 (.cells #[.int .i64 0, .int .i64 0, .int .i64 0] 22) (some 7) (by kernel_rfl) (by kernel_rfl) (by kernel_rfl) ⟨_, rfl, rfl, fun a W => ⟨rfl, by simp [go_sem]⟩⟩
  · intro B hB
    have hcB := Tail.cells hB
    have zB0 := Nat.lt_of_lt_of_le (n := w.heap.size) (by simp) hB.size
    simp only [List.take_succ_cons, List.take_zero]
    repeat (go_big_quiet_step (fail))
    exact wpQuiet_nil rfl
  · intro bb w2 hb hw2 hx2
    simp only [List.drop_succ_cons, List.drop_zero]
    have hc2 := Tail.cells hw2
    have k0 := Wide.cell_at hx2 0 _ rfl
    have k1 := Wide.cell_at hx2 1 _ rfl
    have k2 := Wide.cell_at hx2 2 _ rfl
    have f := Wide.free_at hx2
    have z20 := Nat.lt_of_lt_of_le (n := w.heap.size) (by simp) hw2.size
    have zb : w.heap.size < bb := by have := hb; simp at this; omega
    have hbl : bb < w2.heap.size := World.block_lt_of_cell? w2 _ k0
    have hB2 : Below w.heap.size w w2 := by repeat (first | (with_reducible exact Below.refl _ _) | (with_reducible refine Below.setCell ?_ ?_ _) | (with_reducible refine Below.drew ?_) | (with_reducible refine Below.alloc ?_ ?_ _) | (with_reducible refine Below.trans ?_ (Below.mono hw2 ?_)) | (with_reducible exact hw2.size) | omega | (simp <;> omega) | (simp <;> (have s := hw2.size; omega)) | (have s0 := hw2.size; (try simp at s0); (try simp); omega))
    have g0 : w2.cell? ⟨w.heap.size, 0, none⟩ = some (.int .i64 a) := (hc2.1 _ _ (by simp)).trans (by simp [go_sem])
    have g1 : w2.cell? ⟨w.heap.size, 1, none⟩ = some (.int .i64 b) := (hc2.1 _ _ (by simp)).trans (by simp [go_sem])
    have g2 : w2.cell? ⟨w.heap.size, 2, none⟩ = some (.int .i64 c) := (hc2.1 _ _ (by simp)).trans (by simp [go_sem])
    clear hx2 hw2 hc2 e1 e2 e3 e4 e5 e6
    generalize s / a / b = pz at *
    generalize s / a % b = py at *
    generalize s % a = px at *
    have hne : w.heap.size ≠ bb := by omega
    go_wp2
    have m0 : (((w2.setCell ⟨bb, 0, none⟩ (.int .i64 (px))).setCell ⟨bb, 1, none⟩ (.int .i64 (py))).setCell ⟨bb, 2, none⟩ (.int .i64 (pz))).cell? ⟨bb, 0, none⟩ = some (.int .i64 (px)) := by simp [go_sem, k0, k1, k2]
    have m1 : (((w2.setCell ⟨bb, 0, none⟩ (.int .i64 (px))).setCell ⟨bb, 1, none⟩ (.int .i64 (py))).setCell ⟨bb, 2, none⟩ (.int .i64 (pz))).cell? ⟨bb, 1, none⟩ = some (.int .i64 (py)) := by simp [go_sem, k0, k1, k2]
    have m2 : (((w2.setCell ⟨bb, 0, none⟩ (.int .i64 (px))).setCell ⟨bb, 1, none⟩ (.int .i64 (py))).setCell ⟨bb, 2, none⟩ (.int .i64 (pz))).cell? ⟨bb, 2, none⟩ = some (.int .i64 (pz)) := by simp [go_sem, k0, k1, k2]
    have n0 : (((w2.setCell ⟨bb, 0, none⟩ (.int .i64 (px))).setCell ⟨bb, 1, none⟩ (.int .i64 (py))).setCell ⟨bb, 2, none⟩ (.int .i64 (pz))).cell? ⟨w.heap.size, 0, none⟩ = some (.int .i64 (a)) := by simp [go_sem, hne, g0]
    have n1 : (((w2.setCell ⟨bb, 0, none⟩ (.int .i64 (px))).setCell ⟨bb, 1, none⟩ (.int .i64 (py))).setCell ⟨bb, 2, none⟩ (.int .i64 (pz))).cell? ⟨w.heap.size, 1, none⟩ = some (.int .i64 (b)) := by simp [go_sem, hne, g1]
    have n2 : (((w2.setCell ⟨bb, 0, none⟩ (.int .i64 (px))).setCell ⟨bb, 1, none⟩ (.int .i64 (py))).setCell ⟨bb, 2, none⟩ (.int .i64 (pz))).cell? ⟨w.heap.size, 2, none⟩ = some (.int .i64 (c)) := by simp [go_sem, hne, g2]
    have f3 : ∀ j, (((w2.setCell ⟨bb, 0, none⟩ (.int .i64 (px))).setCell ⟨bb, 1, none⟩ (.int .i64 (py))).setCell ⟨bb, 2, none⟩ (.int .i64 (pz))).frozen? ⟨bb, j, none⟩ = false := fun j => by simp [go_sem, f]
    have s3 : bb < (((w2.setCell ⟨bb, 0, none⟩ (.int .i64 (px))).setCell ⟨bb, 1, none⟩ (.int .i64 (py))).setCell ⟨bb, 2, none⟩ (.int .i64 (pz))).heap.size := by simpa [World.setCell] using hbl
    have s4 : w.heap.size < (((w2.setCell ⟨bb, 0, none⟩ (.int .i64 (px))).setCell ⟨bb, 1, none⟩ (.int .i64 (py))).setCell ⟨bb, 2, none⟩ (.int .i64 (pz))).heap.size := by omega
    have hB3 : Below w.heap.size w (((w2.setCell ⟨bb, 0, none⟩ (.int .i64 (px))).setCell ⟨bb, 1, none⟩ (.int .i64 (py))).setCell ⟨bb, 2, none⟩ (.int .i64 (pz))) := ((hB2.setCell (by simp; omega) _).setCell (by simp; omega) _).setCell (by simp; omega) _
    generalize ((w2.setCell ⟨bb, 0, none⟩ (.int .i64 (px))).setCell ⟨bb, 1, none⟩ (.int .i64 (py))).setCell ⟨bb, 2, none⟩ (.int .i64 (pz)) = w3 at *
    clear k0 k1 k2 g0 g1 g2 f hbl z20 hB2
    refine Tail.region_tail_below 10 (by kernel_rfl) (by kernel_rfl) ?_
    simp only [List.take_succ_cons, List.take_zero, List.drop_succ_cons, List.drop_zero]
    repeat (go_big_quiet_step (fail))
    refine wpQuiet_nil ?_
    intro w4 hw4
    have hc4 := Tail.cells hw4
    have m0' := (hc4.1 _ _ s3).trans m0
    have m1' := (hc4.1 _ _ s3).trans m1
    have m2' := (hc4.1 _ _ s3).trans m2
    have n0' := (hc4.1 _ _ s4).trans n0
    have n1' := (hc4.1 _ _ s4).trans n1
    have n2' := (hc4.1 _ _ s4).trans n2
    have f4 : ∀ j, w4.frozen? ⟨bb, j, none⟩ = false := fun j => (hc4.2 _ _ s3).trans (f3 j)
    have s5 : bb < w4.heap.size := Nat.lt_of_lt_of_le s3 hw4.size
    have hB4 : Below w.heap.size w w4 := by repeat (first | (with_reducible exact Below.refl _ _) | (with_reducible refine Below.setCell ?_ ?_ _) | (with_reducible refine Below.drew ?_) | (with_reducible refine Below.alloc ?_ ?_ _) | (with_reducible refine Below.trans ?_ (Below.mono hw4 ?_)) | (with_reducible refine Below.trans ?_ (Below.mono hB3 ?_)) | (with_reducible exact hw4.size) | (with_reducible exact hB3.size) | omega | (simp <;> omega) | (simp <;> (have s := hw4.size; omega)) | (simp <;> (have s := hB3.size; omega)) | (have s0 := hw4.size; (try simp at s0); have s1 := hB3.size; (try simp at s1); (try simp); omega))
    clear m0 m1 m2 n0 n1 n2 f3 s3 s4 hc4 hw4 hB3 e7 e8 e11
    go_wp2
    go_ret
    exact ⟨congrArg (fun z => Ending.returned (Value.int .i64 z)) EE.out, by repeat (first | (with_reducible exact Below.refl _ _) | (with_reducible refine Below.setCell ?_ ?_ _) | (with_reducible refine Below.drew ?_) | (with_reducible refine Below.alloc ?_ ?_ _) | (with_reducible refine Below.trans ?_ (Below.mono hB4 ?_)) | (with_reducible exact hB4.size) | omega | (simp <;> omega) | (simp <;> (have s := hB4.size; omega)) | (have s0 := hB4.size; (try simp at s0); (try simp); omega))⟩

set_option maxHeartbeats 1600000 in
theorem ahead2_any (a b c s : Int) (w : World) (h : Sz a b c) (h0 : 0 ≤ s) (h1 : s < a * b * c) : Calls Tryz.prog 133 #[.agg #[.int .i64 a, .int .i64 b, .int .i64 c], .int .i64 s, .int .i64 1] w fun e w' => e = .returned (.int .i64 (nx a b c s 2)) ∧ Below w.heap.size w w' := by
  obtain ⟨d0, d1, d2, d3, d4, d5, d6, d7, d8, d9⟩ := div_rng h h0 h1
  have q4 : s / a / b < c := (pz_rng h h0 h1).2
  have EE := Lib.hid (ahead2 h h0 h1)
  obtain ⟨⟨r1, r2⟩, r3, r4⟩ := ahead_rng3 h 0 (s / a % b + 1) (s / a / b)
  rw [pz_mod h h0 h1] at r1 r2 r3 r4
  obtain ⟨a1, a4, b1, b4, c1, c4, -⟩ := h
  have a0 : (a == 0) = false := by simp; omega
  have b0 : (b == 0) = false := by simp; omega
  have c0 : (c == 0) = false := by simp; omega
  have e1 : s.tmod a = s % a := Int.tmod_eq_emod_of_nonneg h0
  have e2 : IntKind.i64.wrap (s.tdiv a) = s / a := IntWalk.i64_quo _ _ ⟨h0, by omega, a1⟩
  have e3 : (s / a).tmod b = s / a % b := Int.tmod_eq_emod_of_nonneg d2
  have e4 : IntKind.i64.wrap ((s / a).tdiv b) = s / a / b := IntWalk.i64_quo _ _ ⟨d2, by omega, b1⟩
  have e5 : IntKind.i64.wrap (s % a) = s % a := IntWalk.i64_in _ (by omega)
  have e6 : IntKind.i64.wrap (s / a % b) = s / a % b := IntWalk.i64_in _ (by omega)
  have e7 : IntKind.i64.wrap (s / a % b + 1) = s / a % b + 1 := IntWalk.i64_in _ (by omega)
  have e8 : (s / a % b + 1).tmod b = (s / a % b + 1) % b := Int.tmod_eq_emod_of_nonneg (by omega)
  have e9 := Int.emod_nonneg (s / a % b + 1) (show b ≠ 0 by omega)
  have e10 := Int.emod_lt_of_pos (s / a % b + 1) (show 0 < b by omega)
  have e11 : IntKind.i64.wrap ((s / a % b + 1) % b) = (s / a % b + 1) % b := IntWalk.i64_in _ (by omega)
  clear h1
  have kc := @Tail.cell_re; have kc1 : ∀ (W : World) (o : Obj) (d : Nat) (os : Array Obj) (a : Addr), a.block ≤ W.heap.size → (Sort.grow (redrawn (W.alloc o) d) os).cell? a = (W.alloc o).cell? a := fun W o d os a h => Tail.cell_re (W.alloc o) d os a (Nat.lt_of_le_of_lt h (by simp))
  go_enter Tryz.func133, Tryz.ntmps133
  go_wp2
  apply Wide.region_one 19 (.cells #[.int .i64 0, .int .i64 0, .int .i64 0] 22) (some 7) (by kernel_rfl) (by kernel_rfl) (by kernel_rfl) ⟨_, rfl, rfl, fun a W => ⟨rfl, by simp [go_sem]⟩⟩
  · intro B hB
    have hcB := Tail.cells hB
    have zB0 := Nat.lt_of_lt_of_le (n := w.heap.size) (by simp) hB.size
    simp only [List.take_succ_cons, List.take_zero]
    repeat (go_big_quiet_step (fail))
    exact wpQuiet_nil rfl
  · intro bb w2 hb hw2 hx2
    simp only [List.drop_succ_cons, List.drop_zero]
    have hc2 := Tail.cells hw2
    have k0 := Wide.cell_at hx2 0 _ rfl
    have k1 := Wide.cell_at hx2 1 _ rfl
    have k2 := Wide.cell_at hx2 2 _ rfl
    have f := Wide.free_at hx2
    have z20 := Nat.lt_of_lt_of_le (n := w.heap.size) (by simp) hw2.size
    have zb : w.heap.size < bb := by have := hb; simp at this; omega
    have hbl : bb < w2.heap.size := World.block_lt_of_cell? w2 _ k0
    have hB2 : Below w.heap.size w w2 := by repeat (first | (with_reducible exact Below.refl _ _) | (with_reducible refine Below.setCell ?_ ?_ _) | (with_reducible refine Below.drew ?_) | (with_reducible refine Below.alloc ?_ ?_ _) | (with_reducible refine Below.trans ?_ (Below.mono hw2 ?_)) | (with_reducible exact hw2.size) | omega | (simp <;> omega) | (simp <;> (have s := hw2.size; omega)) | (have s0 := hw2.size; (try simp at s0); (try simp); omega))
    have g0 : w2.cell? ⟨w.heap.size, 0, none⟩ = some (.int .i64 a) := (hc2.1 _ _ (by simp)).trans (by simp [go_sem])
    have g1 : w2.cell? ⟨w.heap.size, 1, none⟩ = some (.int .i64 b) := (hc2.1 _ _ (by simp)).trans (by simp [go_sem])
    have g2 : w2.cell? ⟨w.heap.size, 2, none⟩ = some (.int .i64 c) := (hc2.1 _ _ (by simp)).trans (by simp [go_sem])
    clear hx2 hw2 hc2 e1 e2 e3 e4 e5 e6
    generalize s / a / b = pz at *
    generalize s / a % b = py at *
    generalize s % a = px at *
    have hne : w.heap.size ≠ bb := by omega
    go_wp2
    have m0 : (((w2.setCell ⟨bb, 0, none⟩ (.int .i64 (px))).setCell ⟨bb, 1, none⟩ (.int .i64 (py))).setCell ⟨bb, 2, none⟩ (.int .i64 (pz))).cell? ⟨bb, 0, none⟩ = some (.int .i64 (px)) := by simp [go_sem, k0, k1, k2]
    have m1 : (((w2.setCell ⟨bb, 0, none⟩ (.int .i64 (px))).setCell ⟨bb, 1, none⟩ (.int .i64 (py))).setCell ⟨bb, 2, none⟩ (.int .i64 (pz))).cell? ⟨bb, 1, none⟩ = some (.int .i64 (py)) := by simp [go_sem, k0, k1, k2]
    have m2 : (((w2.setCell ⟨bb, 0, none⟩ (.int .i64 (px))).setCell ⟨bb, 1, none⟩ (.int .i64 (py))).setCell ⟨bb, 2, none⟩ (.int .i64 (pz))).cell? ⟨bb, 2, none⟩ = some (.int .i64 (pz)) := by simp [go_sem, k0, k1, k2]
    have n0 : (((w2.setCell ⟨bb, 0, none⟩ (.int .i64 (px))).setCell ⟨bb, 1, none⟩ (.int .i64 (py))).setCell ⟨bb, 2, none⟩ (.int .i64 (pz))).cell? ⟨w.heap.size, 0, none⟩ = some (.int .i64 (a)) := by simp [go_sem, hne, g0]
    have n1 : (((w2.setCell ⟨bb, 0, none⟩ (.int .i64 (px))).setCell ⟨bb, 1, none⟩ (.int .i64 (py))).setCell ⟨bb, 2, none⟩ (.int .i64 (pz))).cell? ⟨w.heap.size, 1, none⟩ = some (.int .i64 (b)) := by simp [go_sem, hne, g1]
    have n2 : (((w2.setCell ⟨bb, 0, none⟩ (.int .i64 (px))).setCell ⟨bb, 1, none⟩ (.int .i64 (py))).setCell ⟨bb, 2, none⟩ (.int .i64 (pz))).cell? ⟨w.heap.size, 2, none⟩ = some (.int .i64 (c)) := by simp [go_sem, hne, g2]
    have f3 : ∀ j, (((w2.setCell ⟨bb, 0, none⟩ (.int .i64 (px))).setCell ⟨bb, 1, none⟩ (.int .i64 (py))).setCell ⟨bb, 2, none⟩ (.int .i64 (pz))).frozen? ⟨bb, j, none⟩ = false := fun j => by simp [go_sem, f]
    have s3 : bb < (((w2.setCell ⟨bb, 0, none⟩ (.int .i64 (px))).setCell ⟨bb, 1, none⟩ (.int .i64 (py))).setCell ⟨bb, 2, none⟩ (.int .i64 (pz))).heap.size := by simpa [World.setCell] using hbl
    have s4 : w.heap.size < (((w2.setCell ⟨bb, 0, none⟩ (.int .i64 (px))).setCell ⟨bb, 1, none⟩ (.int .i64 (py))).setCell ⟨bb, 2, none⟩ (.int .i64 (pz))).heap.size := by omega
    have hB3 : Below w.heap.size w (((w2.setCell ⟨bb, 0, none⟩ (.int .i64 (px))).setCell ⟨bb, 1, none⟩ (.int .i64 (py))).setCell ⟨bb, 2, none⟩ (.int .i64 (pz))) := ((hB2.setCell (by simp; omega) _).setCell (by simp; omega) _).setCell (by simp; omega) _
    generalize ((w2.setCell ⟨bb, 0, none⟩ (.int .i64 (px))).setCell ⟨bb, 1, none⟩ (.int .i64 (py))).setCell ⟨bb, 2, none⟩ (.int .i64 (pz)) = w3 at *
    clear k0 k1 k2 g0 g1 g2 f hbl z20 hB2
    refine Tail.region_tail_below 10 (by kernel_rfl) (by kernel_rfl) ?_
    simp only [List.take_succ_cons, List.take_zero, List.drop_succ_cons, List.drop_zero]
    repeat (go_big_quiet_step (fail))
    refine wpQuiet_nil ?_
    intro w4 hw4
    have hc4 := Tail.cells hw4
    have m0' := (hc4.1 _ _ s3).trans m0
    have m1' := (hc4.1 _ _ s3).trans m1
    have m2' := (hc4.1 _ _ s3).trans m2
    have n0' := (hc4.1 _ _ s4).trans n0
    have n1' := (hc4.1 _ _ s4).trans n1
    have n2' := (hc4.1 _ _ s4).trans n2
    have f4 : ∀ j, w4.frozen? ⟨bb, j, none⟩ = false := fun j => (hc4.2 _ _ s3).trans (f3 j)
    have s5 : bb < w4.heap.size := Nat.lt_of_lt_of_le s3 hw4.size
    have hB4 : Below w.heap.size w w4 := by repeat (first | (with_reducible exact Below.refl _ _) | (with_reducible refine Below.setCell ?_ ?_ _) | (with_reducible refine Below.drew ?_) | (with_reducible refine Below.alloc ?_ ?_ _) | (with_reducible refine Below.trans ?_ (Below.mono hw4 ?_)) | (with_reducible refine Below.trans ?_ (Below.mono hB3 ?_)) | (with_reducible exact hw4.size) | (with_reducible exact hB3.size) | omega | (simp <;> omega) | (simp <;> (have s := hw4.size; omega)) | (simp <;> (have s := hB3.size; omega)) | (have s0 := hw4.size; (try simp at s0); have s1 := hB3.size; (try simp at s1); (try simp); omega))
    clear m0 m1 m2 n0 n1 n2 f3 s3 s4 hc4 hw4 hB3 e7 e8 e11
    go_wp2
    go_ret
    exact ⟨congrArg (fun z => Ending.returned (Value.int .i64 z)) EE.out, by repeat (first | (with_reducible exact Below.refl _ _) | (with_reducible refine Below.setCell ?_ ?_ _) | (with_reducible refine Below.drew ?_) | (with_reducible refine Below.alloc ?_ ?_ _) | (with_reducible refine Below.trans ?_ (Below.mono hB4 ?_)) | (with_reducible exact hB4.size) | omega | (simp <;> omega) | (simp <;> (have s := hB4.size; omega)) | (have s0 := hB4.size; (try simp at s0); (try simp); omega))⟩

set_option maxHeartbeats 1600000 in
theorem ahead3_any (a b c s : Int) (w : World) (h : Sz a b c) (h0 : 0 ≤ s) (h1 : s < a * b * c) : Calls Tryz.prog 133 #[.agg #[.int .i64 a, .int .i64 b, .int .i64 c], .int .i64 s, .int .i64 2] w fun e w' => e = .returned (.int .i64 (nx a b c s 3)) ∧ Below w.heap.size w w' := by
  obtain ⟨d0, d1, d2, d3, d4, d5, d6, d7, d8, d9⟩ := div_rng h h0 h1
  have q4 : s / a / b < c := (pz_rng h h0 h1).2
  have EE := Lib.hid (ahead3 h h0 h1)
  obtain ⟨⟨r1, r2⟩, r3, r4⟩ := ahead_rng3 h 0 (s / a) (s / a / b + 1)
  obtain ⟨a1, a4, b1, b4, c1, c4, -⟩ := h
  have a0 : (a == 0) = false := by simp; omega
  have b0 : (b == 0) = false := by simp; omega
  have c0 : (c == 0) = false := by simp; omega
  have e1 : s.tmod a = s % a := Int.tmod_eq_emod_of_nonneg h0
  have e2 : IntKind.i64.wrap (s.tdiv a) = s / a := IntWalk.i64_quo _ _ ⟨h0, by omega, a1⟩
  have e3 : (s / a).tmod b = s / a % b := Int.tmod_eq_emod_of_nonneg d2
  have e4 : IntKind.i64.wrap ((s / a).tdiv b) = s / a / b := IntWalk.i64_quo _ _ ⟨d2, by omega, b1⟩
  have e5 : IntKind.i64.wrap (s % a) = s % a := IntWalk.i64_in _ (by omega)
  have e6 : IntKind.i64.wrap (s / a % b) = s / a % b := IntWalk.i64_in _ (by omega)
  have e7 : IntKind.i64.wrap (s / a / b + 1) = s / a / b + 1 := IntWalk.i64_in _ (by omega)
  have e8 : (s / a / b + 1).tmod c = (s / a / b + 1) % c := Int.tmod_eq_emod_of_nonneg (by omega)
  have e9 := Int.emod_nonneg (s / a / b + 1) (show c ≠ 0 by omega)
  have e10 := Int.emod_lt_of_pos (s / a / b + 1) (show 0 < c by omega)
  have e11 : IntKind.i64.wrap ((s / a / b + 1) % c) = (s / a / b + 1) % c := IntWalk.i64_in _ (by omega)
  clear h1
  have kc := @Tail.cell_re; have kc1 : ∀ (W : World) (o : Obj) (d : Nat) (os : Array Obj) (a : Addr), a.block ≤ W.heap.size → (Sort.grow (redrawn (W.alloc o) d) os).cell? a = (W.alloc o).cell? a := fun W o d os a h => Tail.cell_re (W.alloc o) d os a (Nat.lt_of_le_of_lt h (by simp))
  go_enter Tryz.func133, Tryz.ntmps133
  go_wp2
  apply Wide.region_one 19 (.cells #[.int .i64 0, .int .i64 0, .int .i64 0] 22) (some 7) (by kernel_rfl) (by kernel_rfl) (by kernel_rfl) ⟨_, rfl, rfl, fun a W => ⟨rfl, by simp [go_sem]⟩⟩
  · intro B hB
    have hcB := Tail.cells hB
    have zB0 := Nat.lt_of_lt_of_le (n := w.heap.size) (by simp) hB.size
    simp only [List.take_succ_cons, List.take_zero]
    repeat (go_big_quiet_step (fail))
    exact wpQuiet_nil rfl
  · intro bb w2 hb hw2 hx2
    simp only [List.drop_succ_cons, List.drop_zero]
    have hc2 := Tail.cells hw2
    have k0 := Wide.cell_at hx2 0 _ rfl
    have k1 := Wide.cell_at hx2 1 _ rfl
    have k2 := Wide.cell_at hx2 2 _ rfl
    have f := Wide.free_at hx2
    have z20 := Nat.lt_of_lt_of_le (n := w.heap.size) (by simp) hw2.size
    have zb : w.heap.size < bb := by have := hb; simp at this; omega
    have hbl : bb < w2.heap.size := World.block_lt_of_cell? w2 _ k0
    have hB2 : Below w.heap.size w w2 := by repeat (first | (with_reducible exact Below.refl _ _) | (with_reducible refine Below.setCell ?_ ?_ _) | (with_reducible refine Below.drew ?_) | (with_reducible refine Below.alloc ?_ ?_ _) | (with_reducible refine Below.trans ?_ (Below.mono hw2 ?_)) | (with_reducible exact hw2.size) | omega | (simp <;> omega) | (simp <;> (have s := hw2.size; omega)) | (have s0 := hw2.size; (try simp at s0); (try simp); omega))
    have g0 : w2.cell? ⟨w.heap.size, 0, none⟩ = some (.int .i64 a) := (hc2.1 _ _ (by simp)).trans (by simp [go_sem])
    have g1 : w2.cell? ⟨w.heap.size, 1, none⟩ = some (.int .i64 b) := (hc2.1 _ _ (by simp)).trans (by simp [go_sem])
    have g2 : w2.cell? ⟨w.heap.size, 2, none⟩ = some (.int .i64 c) := (hc2.1 _ _ (by simp)).trans (by simp [go_sem])
    clear hx2 hw2 hc2 e1 e2 e3 e4 e5 e6
    generalize s / a / b = pz at *
    generalize s / a % b = py at *
    generalize s % a = px at *
    have hne : w.heap.size ≠ bb := by omega
    go_wp2
    have m0 : (((w2.setCell ⟨bb, 0, none⟩ (.int .i64 (px))).setCell ⟨bb, 1, none⟩ (.int .i64 (py))).setCell ⟨bb, 2, none⟩ (.int .i64 (pz))).cell? ⟨bb, 0, none⟩ = some (.int .i64 (px)) := by simp [go_sem, k0, k1, k2]
    have m1 : (((w2.setCell ⟨bb, 0, none⟩ (.int .i64 (px))).setCell ⟨bb, 1, none⟩ (.int .i64 (py))).setCell ⟨bb, 2, none⟩ (.int .i64 (pz))).cell? ⟨bb, 1, none⟩ = some (.int .i64 (py)) := by simp [go_sem, k0, k1, k2]
    have m2 : (((w2.setCell ⟨bb, 0, none⟩ (.int .i64 (px))).setCell ⟨bb, 1, none⟩ (.int .i64 (py))).setCell ⟨bb, 2, none⟩ (.int .i64 (pz))).cell? ⟨bb, 2, none⟩ = some (.int .i64 (pz)) := by simp [go_sem, k0, k1, k2]
    have n0 : (((w2.setCell ⟨bb, 0, none⟩ (.int .i64 (px))).setCell ⟨bb, 1, none⟩ (.int .i64 (py))).setCell ⟨bb, 2, none⟩ (.int .i64 (pz))).cell? ⟨w.heap.size, 0, none⟩ = some (.int .i64 (a)) := by simp [go_sem, hne, g0]
    have n1 : (((w2.setCell ⟨bb, 0, none⟩ (.int .i64 (px))).setCell ⟨bb, 1, none⟩ (.int .i64 (py))).setCell ⟨bb, 2, none⟩ (.int .i64 (pz))).cell? ⟨w.heap.size, 1, none⟩ = some (.int .i64 (b)) := by simp [go_sem, hne, g1]
    have n2 : (((w2.setCell ⟨bb, 0, none⟩ (.int .i64 (px))).setCell ⟨bb, 1, none⟩ (.int .i64 (py))).setCell ⟨bb, 2, none⟩ (.int .i64 (pz))).cell? ⟨w.heap.size, 2, none⟩ = some (.int .i64 (c)) := by simp [go_sem, hne, g2]
    have f3 : ∀ j, (((w2.setCell ⟨bb, 0, none⟩ (.int .i64 (px))).setCell ⟨bb, 1, none⟩ (.int .i64 (py))).setCell ⟨bb, 2, none⟩ (.int .i64 (pz))).frozen? ⟨bb, j, none⟩ = false := fun j => by simp [go_sem, f]
    have s3 : bb < (((w2.setCell ⟨bb, 0, none⟩ (.int .i64 (px))).setCell ⟨bb, 1, none⟩ (.int .i64 (py))).setCell ⟨bb, 2, none⟩ (.int .i64 (pz))).heap.size := by simpa [World.setCell] using hbl
    have s4 : w.heap.size < (((w2.setCell ⟨bb, 0, none⟩ (.int .i64 (px))).setCell ⟨bb, 1, none⟩ (.int .i64 (py))).setCell ⟨bb, 2, none⟩ (.int .i64 (pz))).heap.size := by omega
    have hB3 : Below w.heap.size w (((w2.setCell ⟨bb, 0, none⟩ (.int .i64 (px))).setCell ⟨bb, 1, none⟩ (.int .i64 (py))).setCell ⟨bb, 2, none⟩ (.int .i64 (pz))) := ((hB2.setCell (by simp; omega) _).setCell (by simp; omega) _).setCell (by simp; omega) _
    generalize ((w2.setCell ⟨bb, 0, none⟩ (.int .i64 (px))).setCell ⟨bb, 1, none⟩ (.int .i64 (py))).setCell ⟨bb, 2, none⟩ (.int .i64 (pz)) = w3 at *
    clear k0 k1 k2 g0 g1 g2 f hbl z20 hB2
    refine Tail.region_tail_below 10 (by kernel_rfl) (by kernel_rfl) ?_
    simp only [List.take_succ_cons, List.take_zero, List.drop_succ_cons, List.drop_zero]
    repeat (go_big_quiet_step (fail))
    refine wpQuiet_nil ?_
    intro w4 hw4
    have hc4 := Tail.cells hw4
    have m0' := (hc4.1 _ _ s3).trans m0
    have m1' := (hc4.1 _ _ s3).trans m1
    have m2' := (hc4.1 _ _ s3).trans m2
    have n0' := (hc4.1 _ _ s4).trans n0
    have n1' := (hc4.1 _ _ s4).trans n1
    have n2' := (hc4.1 _ _ s4).trans n2
    have f4 : ∀ j, w4.frozen? ⟨bb, j, none⟩ = false := fun j => (hc4.2 _ _ s3).trans (f3 j)
    have s5 : bb < w4.heap.size := Nat.lt_of_lt_of_le s3 hw4.size
    have hB4 : Below w.heap.size w w4 := by repeat (first | (with_reducible exact Below.refl _ _) | (with_reducible refine Below.setCell ?_ ?_ _) | (with_reducible refine Below.drew ?_) | (with_reducible refine Below.alloc ?_ ?_ _) | (with_reducible refine Below.trans ?_ (Below.mono hw4 ?_)) | (with_reducible refine Below.trans ?_ (Below.mono hB3 ?_)) | (with_reducible exact hw4.size) | (with_reducible exact hB3.size) | omega | (simp <;> omega) | (simp <;> (have s := hw4.size; omega)) | (simp <;> (have s := hB3.size; omega)) | (have s0 := hw4.size; (try simp at s0); have s1 := hB3.size; (try simp at s1); (try simp); omega))
    clear m0 m1 m2 n0 n1 n2 f3 s3 s4 hc4 hw4 hB3 e7 e8 e11
    go_wp2
    go_ret
    exact ⟨congrArg (fun z => Ending.returned (Value.int .i64 z)) EE.out, by repeat (first | (with_reducible exact Below.refl _ _) | (with_reducible refine Below.setCell ?_ ?_ _) | (with_reducible refine Below.drew ?_) | (with_reducible refine Below.alloc ?_ ?_ _) | (with_reducible refine Below.trans ?_ (Below.mono hB4 ?_)) | (with_reducible exact hB4.size) | omega | (simp <;> omega) | (simp <;> (have s := hB4.size; omega)) | (have s0 := hB4.size; (try simp at s0); (try simp); omega))⟩

theorem ahead_any (a b c s d : Int) (w : World) (h : Sz a b c) (h0 : 0 ≤ s) (h1 : s < a * b * c) (d0 : 0 ≤ d) (d1 : d ≤ 2) : Calls Tryz.prog 133 #[.agg #[.int .i64 a, .int .i64 b, .int .i64 c], .int .i64 s, .int .i64 d] w fun e w' => e = .returned (.int .i64 (nx a b c s (d + 1))) ∧ Below w.heap.size w w' := by
  have hd : d = 0 ∨ d = 1 ∨ d = 2 := by omega
  rcases hd with rfl | rfl | rfl
  · exact ahead1_any a b c s w h h0 h1
  · exact ahead2_any a b c s w h h0 h1
  · exact ahead3_any a b c s w h h0 h1
end Go.Proofs.YtpfhjdmgkckjfaaGreatDoor
