/- Vectors turned by units, as the document's answers turn them.
Conditions: none. -/
import Derived.Test.YtecoemdpfpdeoaaRot
namespace Go.Proofs.Ytecoemdpfpdeoaa
set_option linter.unusedVariables false
set_option linter.unusedSimpArgs false
open Go.RowKit
open Um

set_option maxHeartbeats 800000 in
theorem refVec_any (a b c : Int) (w : World) : Calls Try.prog 74 #[.agg #[.int .i64 a, .int .i64 b, .int .i64 c]] w fun e w' => e = .returned (.bool (vB a b c)) ∧ Below w.heap.size w w' := by
  unfold vB
  cases e1 : inB a (-1000) 1000
  · go_enter Try.func74, Try.ntmps74
    go_wp2_with (go_at_call 61; refine (within_any _ _ _ _).mono ?_; rintro e w1 ⟨rfl, rfl⟩)
    go_ret
    exact ⟨rfl, by repeat (first | (with_reducible exact Below.refl _ _) | (with_reducible refine Below.setCell ?_ ?_ _) | (with_reducible refine Below.drew ?_) | (with_reducible refine Below.alloc ?_ ?_ _) | omega | (simp <;> omega))⟩
  cases e2 : inB b (-1000) 1000
  · go_enter Try.func74, Try.ntmps74
    go_wp2_with (go_at_call 61; refine (within_any _ _ _ _).mono ?_; rintro e w1 ⟨rfl, rfl⟩)
    go_ret
    exact ⟨rfl, by repeat (first | (with_reducible exact Below.refl _ _) | (with_reducible refine Below.setCell ?_ ?_ _) | (with_reducible refine Below.drew ?_) | (with_reducible refine Below.alloc ?_ ?_ _) | omega | (simp <;> omega))⟩
  cases e3 : inB c (-1000) 1000
  all_goals
    go_enter Try.func74, Try.ntmps74
    go_wp2_with (go_at_call 61; refine (within_any _ _ _ _).mono ?_; rintro e w1 ⟨rfl, rfl⟩)
    go_ret
    exact ⟨rfl, by repeat (first | (with_reducible exact Below.refl _ _) | (with_reducible refine Below.setCell ?_ ?_ _) | (with_reducible refine Below.drew ?_) | (with_reducible refine Below.alloc ?_ ?_ _) | omega | (simp <;> omega))⟩

set_option maxHeartbeats 800000 in
theorem refRotate_bad (x : Q) (a b c : Int) (w : World) (h : ¬ V x) : Calls Try.prog 45 #[.agg #[.int .i64 x.a, .int .i64 x.b, .int .i64 x.c, .int .i64 x.d, .int .i64 x.n], .agg #[.int .i64 a, .int .i64 b, .int .i64 c]] w fun e w' => e = .returned (.tuple #[.agg #[.int .i64 0, .int .i64 0, .int .i64 0, .int .i64 0, .int .i64 0, .int .i64 0], .int .i64 1]) ∧ Below w.heap.size w w' := by
  have c1 := fun W : World => refValidate_any x W 1 (.inr ⟨h, rfl⟩)
  clear h
  go_enter Try.func45, Try.ntmps45
  go_wp2_with ((with_reducible refine (c1 _).mono ?_); rintro e w1 ⟨rfl, hw1⟩; have hc := Tail.cells hw1; have zw10 := Nat.lt_of_lt_of_le (n := w.heap.size) (by simp <;> omega) hw1.size; have zw11 := Nat.lt_of_lt_of_le (n := w.heap.size + 1) (by simp <;> omega) hw1.size; have zw12 := Nat.lt_of_lt_of_le (n := w.heap.size + 2) (by simp <;> omega) hw1.size)
  refine bodyPost_ret (v := .tuple #[.agg #[.int .i64 0, .int .i64 0, .int .i64 0, .int .i64 0, .int .i64 0, .int .i64 0], .int .i64 1]) ?_ rfl ⟨rfl, ?_⟩
  · simp [results, Try.results45, go_sem, hc, zw10, zw11, zw12]
  · repeat (first | (with_reducible exact Below.refl _ _) | (with_reducible refine Below.setCell ?_ ?_ _) | (with_reducible refine Below.drew ?_) | (with_reducible refine Below.alloc ?_ ?_ _) | (with_reducible refine Below.trans ?_ (Below.mono hw1 ?_)) | (with_reducible exact hw1.size) | omega | (simp <;> omega) | (simp <;> (have s := hw1.size; omega)))

set_option maxHeartbeats 1600000 in
theorem refRotate_far (x : Q) (a b c : Int) (w : World) (h : V x) (hv : vB a b c = false) : Calls Try.prog 45 #[.agg #[.int .i64 x.a, .int .i64 x.b, .int .i64 x.c, .int .i64 x.d, .int .i64 x.n], .agg #[.int .i64 a, .int .i64 b, .int .i64 c]] w fun e w' => e = .returned (.tuple #[.agg #[.int .i64 0, .int .i64 0, .int .i64 0, .int .i64 0, .int .i64 0, .int .i64 0], .int .i64 1]) ∧ Below w.heap.size w w' := by
  have c1 := fun W : World => refValidate_any x W 0 (.inl ⟨h, rfl⟩)
  have c2 := fun W : World => refVec_any a b c W
  rw [hv] at c2
  clear h hv
  go_enter Try.func45, Try.ntmps45
  go_wp2_with (first | ((with_reducible refine (c1 _).mono ?_); rintro e w1 ⟨rfl, hw1⟩; have hc := Tail.cells hw1; have zw10 := Nat.lt_of_lt_of_le (n := w.heap.size) (by simp <;> omega) hw1.size; have zw11 := Nat.lt_of_lt_of_le (n := w.heap.size + 1) (by simp <;> omega) hw1.size; have zw12 := Nat.lt_of_lt_of_le (n := w.heap.size + 2) (by simp <;> omega) hw1.size) | ((with_reducible refine (c2 _).mono ?_); rintro e w2 ⟨rfl, hw2⟩; have hc2 := Tail.cells hw2; have s2 := hw2.size; have z20 : w.heap.size < w2.heap.size := (by omega); have z21 : w.heap.size + 1 < w2.heap.size := (by omega); have z22 : w.heap.size + 2 < w2.heap.size := (by omega)))
  refine bodyPost_ret (v := .tuple #[.agg #[.int .i64 0, .int .i64 0, .int .i64 0, .int .i64 0, .int .i64 0, .int .i64 0], .int .i64 1]) ?_ rfl ⟨rfl, ?_⟩
  · simp [results, Try.results45, go_sem, hc, hc2, zw10, zw11, zw12, z20, z21, z22]
  · repeat (first | (with_reducible exact Below.refl _ _) | (with_reducible refine Below.setCell ?_ ?_ _) | (with_reducible refine Below.drew ?_) | (with_reducible refine Below.alloc ?_ ?_ _) | (with_reducible refine Below.trans ?_ (Below.mono hw2 ?_)) | (with_reducible refine Below.trans ?_ (Below.mono hw1 ?_)) | (with_reducible exact hw2.size) | (with_reducible exact hw1.size) | omega | (simp <;> omega) | (simp <;> (have s := hw2.size; omega)) | (simp <;> (have s := hw1.size; omega)))

set_option maxRecDepth 100000 in
set_option maxHeartbeats 1600000 in
theorem refRotate_ok (x : Q) (a b c : Int) (p q r : Int × Int) (w : World) (h : V x) (hv : vB a b c = true) (hr : rotV x a b c = (p, q, r)) : Calls Try.prog 45 #[.agg #[.int .i64 x.a, .int .i64 x.b, .int .i64 x.c, .int .i64 x.d, .int .i64 x.n], .agg #[.int .i64 a, .int .i64 b, .int .i64 c]] w fun e w' => e = .returned (.tuple #[.agg #[.int .i64 p.1, .int .i64 p.2, .int .i64 q.1, .int .i64 q.2, .int .i64 r.1, .int .i64 r.2], .int .i64 0]) ∧ Below w.heap.size w w' := by
  have hvb := vB_iff.1 hv
  have hb := vec_bd hvb.1 hvb.2.1 hvb.2.2
  have tb := turn_bd h hb
  have ix := V.in h
  have c1 := fun W : World => refValidate_any x W 0 (.inl ⟨h, rfl⟩)
  have c2 := fun W : World => refVec_any a b c W
  rw [hv] at c2
  have c4 : ∀ W : World, Calls Try.prog 67 #[.agg #[.int .i64 x.a, .int .i64 x.b, .int .i64 x.c, .int .i64 x.d, .int .i64 x.n], .agg #[.int .i64 0, .int .i64 a, .int .i64 b, .int .i64 c, .int .i64 1]] W fun e w' => e = .returned (.agg #[.int .i64 (mul x ⟨0, a, b, c, 1⟩).a, .int .i64 (mul x ⟨0, a, b, c, 1⟩).b, .int .i64 (mul x ⟨0, a, b, c, 1⟩).c, .int .i64 (mul x ⟨0, a, b, c, 1⟩).d, .int .i64 (mul x ⟨0, a, b, c, 1⟩).n]) ∧ Below W.heap.size W w' := fun W => raw_any x ⟨0, a, b, c, 1⟩ W (Bd.small (by omega) (V.bd h) hb (by omega))
  have c5 := fun W : World => back_any x W (by have := ix.b; omega) (by have := ix.c; omega) (by have := ix.d; omega)
  have c6 := fun W : World => raw_any (mul x ⟨0, a, b, c, 1⟩) (bar x) W (Bd.small (by omega) tb.1 (V.bd h.bar) (by omega))
  have et : mul (mul x ⟨0, a, b, c, 1⟩) (bar x) = turn x a b c := rfl
  rw [et] at c6
  have tn : 0 < (turn x a b c).n := by rw [turn_n]; exact Int.mul_pos h.u.pos h.u.pos
  have tn2 := tb.2 (turn x a b c).n (by simp)
  have c7 := fun W : World => refRatio_any (turn x a b c).b (turn x a b c).n W (by have := tb.2 (turn x a b c).b (by simp); omega) (by omega)
  have c8 := fun W : World => refRatio_any (turn x a b c).c (turn x a b c).n W (by have := tb.2 (turn x a b c).c (by simp); omega) (by omega)
  have c9 := fun W : World => refRatio_any (turn x a b c).d (turn x a b c).n W (by have := tb.2 (turn x a b c).d (by simp); omega) (by omega)
  simp only [rotV, Prod.mk.injEq] at hr
  obtain ⟨r1, r2, r3⟩ := hr
  rw [r1] at c7
  rw [r2] at c8
  rw [r3] at c9
  clear h hv hvb hb tb ix et tn tn2 r1 r2 r3
  generalize mul x ⟨0, a, b, c, 1⟩ = m at *
  generalize turn x a b c = t at *
  have kc := @Tail.cell_re
  go_enter Try.func45, Try.ntmps45
  go_wp2_with (first | ((with_reducible refine (c1 _).mono ?_); rintro e w1 ⟨rfl, hw1⟩; have hc := Tail.cells hw1; have zw10 := Nat.lt_of_lt_of_le (n := w.heap.size) (by simp <;> omega) hw1.size; have zw11 := Nat.lt_of_lt_of_le (n := w.heap.size + 1) (by simp <;> omega) hw1.size; have zw12 := Nat.lt_of_lt_of_le (n := w.heap.size + 2) (by simp <;> omega) hw1.size) | ((with_reducible refine (c2 _).mono ?_); rintro e w2 ⟨rfl, hw2⟩; have hc2 := Tail.cells hw2; have s2 := hw2.size; have z20 : w.heap.size < w2.heap.size := (by omega); have z21 : w.heap.size + 1 < w2.heap.size := (by omega); have z22 : w.heap.size + 2 < w2.heap.size := (by omega)))
  apply Wide.region_one 12 (.cells #[.int .i64 0, .int .i64 0, .int .i64 0, .int .i64 0, .int .i64 0] 23) (some 7) (by kernel_rfl) (by kernel_rfl) (by kernel_rfl) ⟨_, rfl, rfl, fun a W => ⟨rfl, by simp [go_sem]⟩⟩
  · intro B hB
    have hcB := Tail.cells hB
    have sB := hB.size
    have zB0 : w.heap.size < B.heap.size := by omega
    have zB1 : w.heap.size + 1 < B.heap.size := by omega
    simp only [List.take_succ_cons, List.take_zero]
    repeat (go_big_quiet_step (first | (with_reducible exact Calls.regrown_of (c4 _)) | (with_reducible exact Calls.regrown_of (c5 _)) | (with_reducible exact Calls.regrown_of (c6 _))))
    exact wpQuiet_nil rfl
  · intro b w4 hb hw4 hx4
    simp only [List.drop_succ_cons, List.drop_zero]
    have hc4 := Tail.cells hw4
    have k0 := Wide.cell_at hx4 0 _ rfl
    have k1 := Wide.cell_at hx4 1 _ rfl
    have k2 := Wide.cell_at hx4 2 _ rfl
    have k3 := Wide.cell_at hx4 3 _ rfl
    have k4 := Wide.cell_at hx4 4 _ rfl
    have f := Wide.free_at hx4
    have s4 := hw4.size
    have z40 : w.heap.size < w4.heap.size := by omega
    have z41 : w.heap.size + 1 < w4.heap.size := by omega
    have z42 : w.heap.size + 2 < w4.heap.size := by omega
    have zb : w.heap.size + 2 < b := by omega
    have hbl : b < w4.heap.size := World.block_lt_of_cell? w4 _ k0
    clear hx4
    go_wp2
    refine Tail.region_tail_below 16 (by kernel_rfl) (by kernel_rfl) ?_
    simp only [List.take_succ_cons, List.take_zero, List.drop_succ_cons, List.drop_zero]
    repeat (go_big_quiet_step (first | (with_reducible exact Calls.regrown_of (c7 _)) | (with_reducible exact Calls.regrown_of (c8 _)) | (with_reducible exact Calls.regrown_of (c9 _))))
    refine wpQuiet_nil ?_
    intro w5 hw5
    have hc5 := Tail.cells hw5
    have s5 := hw5.size
    simp at s5
    have z52 : w.heap.size + 2 < w5.heap.size := by omega
    go_wp2
    refine bodyPost_ret (v := .tuple #[.agg #[.int .i64 p.1, .int .i64 p.2, .int .i64 q.1, .int .i64 q.2, .int .i64 r.1, .int .i64 r.2], .int .i64 0]) ?_ rfl ⟨rfl, ?_⟩
    · simp [results, Try.results45, go_sem, hc5, hc4, hc2, hc, zw10, zw11, zw12, z20, z21, z22, z40, z41, z42, z52]
    · repeat (first | (with_reducible exact Below.refl _ _) | (with_reducible refine Below.setCell ?_ ?_ _) | (with_reducible refine Below.drew ?_) | (with_reducible refine Below.alloc ?_ ?_ _) | (with_reducible refine Below.trans ?_ (Below.mono hw5 ?_)) | (with_reducible refine Below.trans ?_ (Below.mono hw4 ?_)) | (with_reducible refine Below.trans ?_ (Below.mono hw2 ?_)) | (with_reducible refine Below.trans ?_ (Below.mono hw1 ?_)) | (with_reducible exact hw5.size) | (with_reducible exact hw4.size) | (with_reducible exact hw2.size) | (with_reducible exact hw1.size) | omega | (simp <;> omega) | (simp <;> (have s := hw5.size; omega)) | (simp <;> (have s := hw4.size; omega)) | (simp <;> (have s := hw2.size; omega)) | (simp <;> (have s := hw1.size; omega)))
end Go.Proofs.Ytecoemdpfpdeoaa
