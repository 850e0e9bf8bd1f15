/- The Cayley map and its inverse, as the document's answers make them, and the inverse as the program makes it.
Conditions: none. -/
import Derived.Test.YtecoemdpfpdeoaaCay
namespace Go.Proofs.Ytecoemdpfpdeoaa
set_option linter.unusedVariables false
set_option linter.unusedSimpArgs false
open Go.RowKit
open Um

set_option maxHeartbeats 1600000 in
theorem refCayley_bad (a b c d : Int) (w : World) (hv : vB a b c = false ∨ (vB a b c = true ∧ inB d 1 1000 = false)) : Calls Try.prog 47 #[.agg #[.int .i64 a, .int .i64 b, .int .i64 c], .int .i64 d] w fun e w' => e = .returned (.tuple #[.agg #[.int .i64 zero.a, .int .i64 zero.b, .int .i64 zero.c, .int .i64 zero.d, .int .i64 zero.n], .int .i64 1]) ∧ Below w.heap.size w w' := by
  have c2 := fun W : World => refVec_any a b c W
  have c3 := fun W : World => within_any d 1 1000 W
  rcases hv with hv | ⟨hv, hd⟩
  · rw [hv] at c2
    clear hv
    go_enter Try.func47, Try.ntmps47
    go_wp2_with ((with_reducible refine (c2 _).mono ?_); rintro e w1 ⟨rfl, hw1⟩; have hc := Tail.cells hw1; have zw10 := Nat.lt_of_lt_of_le (n := w.heap.size) (by simp <;> omega) hw1.size; have zw11 := Nat.lt_of_lt_of_le (n := w.heap.size + 1) (by simp <;> omega) hw1.size)
    refine bodyPost_ret (v := .tuple #[.agg #[.int .i64 zero.a, .int .i64 zero.b, .int .i64 zero.c, .int .i64 zero.d, .int .i64 zero.n], .int .i64 1]) ?_ rfl ⟨rfl, ?_⟩
    · simp [results, Try.results47, go_sem, hc, zw10, zw11, zero]
    · repeat (first | (with_reducible exact Below.refl _ _) | (with_reducible refine Below.setCell ?_ ?_ _) | (with_reducible refine Below.drew ?_) | (with_reducible refine Below.alloc ?_ ?_ _) | (with_reducible refine Below.trans ?_ (Below.mono hw1 ?_)) | (with_reducible exact hw1.size) | omega | (simp <;> omega) | (simp <;> (have s := hw1.size; omega)))
  · rw [hv] at c2
    rw [hd] at c3
    clear hv hd
    go_enter Try.func47, Try.ntmps47
    go_wp2_with (first | ((with_reducible refine (c2 _).mono ?_); rintro e w1 ⟨rfl, hw1⟩; have hc := Tail.cells hw1; have zw10 := Nat.lt_of_lt_of_le (n := w.heap.size) (by simp <;> omega) hw1.size; have zw11 := Nat.lt_of_lt_of_le (n := w.heap.size + 1) (by simp <;> omega) hw1.size) | ((with_reducible refine (c3 _).mono ?_); rintro e w2 ⟨rfl, rfl⟩))
    refine bodyPost_ret (v := .tuple #[.agg #[.int .i64 zero.a, .int .i64 zero.b, .int .i64 zero.c, .int .i64 zero.d, .int .i64 zero.n], .int .i64 1]) ?_ rfl ⟨rfl, ?_⟩
    · simp [results, Try.results47, go_sem, hc, zw10, zw11, zero]
    · repeat (first | (with_reducible exact Below.refl _ _) | (with_reducible refine Below.setCell ?_ ?_ _) | (with_reducible refine Below.drew ?_) | (with_reducible refine Below.alloc ?_ ?_ _) | (with_reducible refine Below.trans ?_ (Below.mono hw1 ?_)) | (with_reducible exact hw1.size) | omega | (simp <;> omega) | (simp <;> (have s := hw1.size; omega)))

set_option maxRecDepth 100000 in
set_option maxHeartbeats 1600000 in
theorem refCayley_ok (a b c d : Int) (r : Q) (er : Int) (w : World) (hv : vB a b c = true) (hd1 : ¬ d < 1) (hd2 : ¬ 1000 < d) (hr : cayR a b c d r er) : Calls Try.prog 47 #[.agg #[.int .i64 a, .int .i64 b, .int .i64 c], .int .i64 d] w fun e w' => e = .returned (.tuple #[.agg #[.int .i64 r.a, .int .i64 r.b, .int .i64 r.c, .int .i64 r.d, .int .i64 r.n], .int .i64 er]) ∧ Below w.heap.size w w' := by
  have hvb := vB_iff.1 hv
  have c2 := fun W : World => refVec_any a b c W
  have c3 := fun W : World => within_any d 1 1000 W
  rw [hv] at c2
  rw [inB_yes (by omega) (by omega)] at c3
  obtain ⟨ka1, ka2⟩ := mul_bnd (a := 2 * d) (b := a) (X := 2000) (Y := 1000) (by omega) (by omega) hvb.1
  obtain ⟨kb1, kb2⟩ := mul_bnd (a := 2 * d) (b := b) (X := 2000) (Y := 1000) (by omega) (by omega) hvb.2.1
  obtain ⟨kc1, kc2⟩ := mul_bnd (a := 2 * d) (b := c) (X := 2000) (Y := 1000) (by omega) (by omega) hvb.2.2
  obtain ⟨sd1, sd2⟩ := sq_le (a := d) (by omega)
  obtain ⟨sa1, sa2⟩ := sq_le hvb.1
  obtain ⟨sb1, sb2⟩ := sq_le hvb.2.1
  obtain ⟨sc1, sc2⟩ := sq_le hvb.2.2
  have hu := cay_len a b c d (by omega)
  have hi : In (cay a b c d) 4611686018427387904 := U.in hu (by simp only [cay]; omega)
  have c5 : ∀ W : World, Calls Try.prog 63 #[.agg #[.int .i64 (d * d - (a * a + b * b + c * c)), .int .i64 (2 * d * a), .int .i64 (2 * d * b), .int .i64 (2 * d * c), .int .i64 (d * d + (a * a + b * b + c * c))]] W fun e' w' => e' = .returned (.tuple #[.agg #[.int .i64 r.a, .int .i64 r.b, .int .i64 r.c, .int .i64 r.d, .int .i64 r.n], .int .i64 er]) ∧ Below W.heap.size W w' := fun W => by
    rcases hr with ⟨h1, rfl, rfl⟩ | ⟨h1, rfl, rfl⟩
    · exact lowest_ok (cay a b c d) _ hi h1
    · exact lowest_large (cay a b c d) _ hi h1
  clear hv hvb hu hi hr
  go_enter Try.func47, Try.ntmps47
  go_wp2_with (first | ((with_reducible refine (c2 _).mono ?_); rintro e w1 ⟨rfl, hw1⟩; have hc := Tail.cells hw1; have zw10 := Nat.lt_of_lt_of_le (n := w.heap.size) (by simp <;> omega) hw1.size; have zw11 := Nat.lt_of_lt_of_le (n := w.heap.size + 1) (by simp <;> omega) hw1.size) | ((with_reducible refine (c3 _).mono ?_); rintro e w2 ⟨rfl, rfl⟩) | ((with_reducible refine (c5 _).mono ?_); rintro e w4 ⟨rfl, hw4⟩; have hc4 := Tail.cells hw4; have s4 := hw4.size; have z41 : w.heap.size + 1 < w4.heap.size := (by omega)))
  refine bodyPost_ret (v := .tuple #[.agg #[.int .i64 r.a, .int .i64 r.b, .int .i64 r.c, .int .i64 r.d, .int .i64 r.n], .int .i64 er]) ?_ rfl ⟨rfl, ?_⟩
  · simp [results, Try.results47, go_sem, hc, hc4, zw10, zw11, z41]
  · repeat (first | (with_reducible exact Below.refl _ _) | (with_reducible refine Below.setCell ?_ ?_ _) | (with_reducible refine Below.drew ?_) | (with_reducible refine Below.alloc ?_ ?_ _) | (with_reducible refine Below.trans ?_ (Below.mono hw4 ?_)) | (with_reducible refine Below.trans ?_ (Below.mono hw1 ?_)) | (with_reducible exact hw4.size) | (with_reducible exact hw1.size) | omega | (simp <;> omega) | (simp <;> (have s := hw4.size; omega)) | (simp <;> (have s := hw1.size; omega)))

set_option maxHeartbeats 800000 in
theorem vector_bad (x : Q) (w : World) (h : ¬ V x) : Calls Try.prog 48 #[.agg #[.int .i64 x.a, .int .i64 x.b, .int .i64 x.c, .int .i64 x.d, .int .i64 x.n]] w fun e w' => e = .returned (.tuple #[.agg #[.int .i64 0, .int .i64 0, .int .i64 0, .int .i64 0, .int .i64 0, .int .i64 0], .int .i64 1]) ∧ Below w.heap.size w w' := by
  have c1 := fun W : World => validate_bad x W h
  clear h
  go_enter Try.func48, Try.ntmps48
  go_wp2_with ((with_reducible refine (c1 _).mono ?_); rintro e w1 ⟨rfl, hw1⟩; have hc := Tail.cells hw1; have zw10 := Nat.lt_of_lt_of_le (n := w.heap.size) (by simp <;> omega) hw1.size; have zw11 := Nat.lt_of_lt_of_le (n := w.heap.size + 1) (by simp <;> omega) hw1.size)
  refine bodyPost_ret (v := .tuple #[.agg #[.int .i64 0, .int .i64 0, .int .i64 0, .int .i64 0, .int .i64 0, .int .i64 0], .int .i64 1]) ?_ rfl ⟨rfl, ?_⟩
  · simp [results, Try.results48, go_sem, hc, zw10, zw11]
  · repeat (first | (with_reducible exact Below.refl _ _) | (with_reducible refine Below.setCell ?_ ?_ _) | (with_reducible refine Below.drew ?_) | (with_reducible refine Below.alloc ?_ ?_ _) | (with_reducible refine Below.trans ?_ (Below.mono hw1 ?_)) | (with_reducible exact hw1.size) | omega | (simp <;> omega) | (simp <;> (have s := hw1.size; omega)))

set_option maxHeartbeats 800000 in
theorem vector_zero (x : Q) (w : World) (h : V x) (ha : x.a = -x.n) : Calls Try.prog 48 #[.agg #[.int .i64 x.a, .int .i64 x.b, .int .i64 x.c, .int .i64 x.d, .int .i64 x.n]] w fun e w' => e = .returned (.tuple #[.agg #[.int .i64 0, .int .i64 0, .int .i64 0, .int .i64 0, .int .i64 0, .int .i64 0], .int .i64 5]) ∧ Below w.heap.size w w' := by
  obtain ⟨⟨a1, a2⟩, b, c, d, n1, n2⟩ := V.in h
  have c1 := fun W : World => validate_ok x W h
  have e1 : (x.a == -x.n) = true := by simpa using ha
  clear h b c d ha
  go_enter Try.func48, Try.ntmps48
  go_wp2_with ((with_reducible refine (c1 _).mono ?_); rintro e w1 ⟨rfl, hw1⟩; have hc := Tail.cells hw1; have zw10 := Nat.lt_of_lt_of_le (n := w.heap.size) (by simp <;> omega) hw1.size; have zw11 := Nat.lt_of_lt_of_le (n := w.heap.size + 1) (by simp <;> omega) hw1.size)
  refine bodyPost_ret (v := .tuple #[.agg #[.int .i64 0, .int .i64 0, .int .i64 0, .int .i64 0, .int .i64 0, .int .i64 0], .int .i64 5]) ?_ rfl ⟨rfl, ?_⟩
  · simp [results, Try.results48, go_sem, hc, zw10, zw11]
  · repeat (first | (with_reducible exact Below.refl _ _) | (with_reducible refine Below.setCell ?_ ?_ _) | (with_reducible refine Below.drew ?_) | (with_reducible refine Below.alloc ?_ ?_ _) | (with_reducible refine Below.trans ?_ (Below.mono hw1 ?_)) | (with_reducible exact hw1.size) | omega | (simp <;> omega) | (simp <;> (have s := hw1.size; omega)))

set_option maxRecDepth 100000 in
set_option maxHeartbeats 1600000 in
theorem vector_ok (x : Q) (p q r : Int × Int) (w : World) (h : V x) (ha : ¬ x.a = -x.n) (hr : vec x = (p, q, r)) : Calls Try.prog 48 #[.agg #[.int .i64 x.a, .int .i64 x.b, .int .i64 x.c, .int .i64 x.d, .int .i64 x.n]] w fun e w' => e = .returned (.tuple #[.agg #[.int .i64 p.1, .int .i64 p.2, .int .i64 q.1, .int .i64 q.2, .int .i64 r.1, .int .i64 r.2], .int .i64 0]) ∧ Below w.heap.size w w' := by
  obtain ⟨⟨a1, a2⟩, b, c, d, n1, n2⟩ := V.in h
  have hp := part_le x h.u
  have c1 := fun W : World => validate_ok x W h
  have c2 := fun W : World => quaternionOf_any x W
  have c3 := fun W : World => over_any x (x.n + x.a) W (by omega) (by omega) (by omega) (by omega)
  have ws : IntKind.i64.wrap (x.n + x.a) = x.n + x.a := IntWalk.i64_in _ (by omega)
  simp only [vec, Prod.mk.injEq] at hr
  obtain ⟨r1, r2, r3⟩ := hr
  rw [r1, r2, r3] at c3
  have e1 : (x.a == -x.n) = false := by simpa using ha
  clear h b c d ha hp r1 r2 r3
  have hf : ∀ W : World, Sem.run Try.prog (Instr.field 68 (.agg #[.int .i64 x.b, .int .i64 x.c, .int .i64 x.d, .int .i64 x.a, .int .i64 x.n]) 0) W = .ok (.agg #[.int .i64 x.b, .int .i64 x.c, .int .i64 x.d]) W := fun _ => by kernel_rfl
  have kc := @Tail.cell_re
  go_enter Try.func48, Try.ntmps48
  go_wp2_with ((with_reducible refine (c1 _).mono ?_); rintro e w1 ⟨rfl, hw1⟩; have hc := Tail.cells hw1; have zw10 := Nat.lt_of_lt_of_le (n := w.heap.size) (by simp <;> omega) hw1.size; have zw11 := Nat.lt_of_lt_of_le (n := w.heap.size + 1) (by simp <;> omega) hw1.size)
  refine Tail.region_tail_below 9 (by kernel_rfl) (by kernel_rfl) ?_
  simp only [List.take_succ_cons, List.take_zero, List.drop_succ_cons, List.drop_zero]
  repeat (first | go_big_quiet_step (first | (with_reducible exact Calls.regrown_of (c2 _)) | (with_reducible exact Calls.regrown_of (c3 _))) | quiet_step (fail))
  refine wpQuiet_nil ?_
  intro w5 hw5
  have hc5 := Tail.cells hw5
  have z50 := Nat.lt_of_lt_of_le zw10 hw5.size
  have z51 := Nat.lt_of_lt_of_le zw11 hw5.size
  go_wp2
  refine bodyPost_ret (v := .tuple #[.agg #[.int .i64 p.1, .int .i64 p.2, .int .i64 q.1, .int .i64 q.2, .int .i64 r.1, .int .i64 r.2], .int .i64 0]) ?_ rfl ⟨rfl, ?_⟩
  · simp [results, Try.results48, go_sem, hc5, hc, zw10, zw11, z50, z51]
  · repeat (first | (with_reducible exact Below.refl _ _) | (with_reducible refine Below.setCell ?_ ?_ _) | (with_reducible refine Below.drew ?_) | (with_reducible refine Below.alloc ?_ ?_ _) | (with_reducible refine Below.trans ?_ (Below.mono hw5 ?_)) | (with_reducible refine Below.trans ?_ (Below.mono hw1 ?_)) | (with_reducible exact hw5.size) | (with_reducible exact hw1.size) | omega | (simp <;> omega) | (simp <;> (have s := hw5.size; omega)) | (simp <;> (have s := hw1.size; omega)))

set_option maxHeartbeats 800000 in
theorem refVector_bad (x : Q) (w : World) (h : ¬ V x) : Calls Try.prog 49 #[.agg #[.int .i64 x.a, .int .i64 x.b, .int .i64 x.c, .int .i64 x.d, .int .i64 x.n]] w fun e w' => e = .returned (.tuple #[.agg #[.int .i64 0, .int .i64 0, .int .i64 0, .int .i64 0, .int .i64 0, .int .i64 0], .int .i64 1]) ∧ Below w.heap.size w w' := by
  have c1 := fun W : World => refValidate_any x W 1 (.inr ⟨h, rfl⟩)
  clear h
  go_enter Try.func49, Try.ntmps49
  go_wp2_with ((with_reducible refine (c1 _).mono ?_); rintro e w1 ⟨rfl, hw1⟩; have hc := Tail.cells hw1; have zw10 := Nat.lt_of_lt_of_le (n := w.heap.size) (by simp <;> omega) hw1.size; have zw11 := Nat.lt_of_lt_of_le (n := w.heap.size + 1) (by simp <;> omega) hw1.size)
  refine bodyPost_ret (v := .tuple #[.agg #[.int .i64 0, .int .i64 0, .int .i64 0, .int .i64 0, .int .i64 0, .int .i64 0], .int .i64 1]) ?_ rfl ⟨rfl, ?_⟩
  · simp [results, Try.results49, go_sem, hc, zw10, zw11]
  · repeat (first | (with_reducible exact Below.refl _ _) | (with_reducible refine Below.setCell ?_ ?_ _) | (with_reducible refine Below.drew ?_) | (with_reducible refine Below.alloc ?_ ?_ _) | (with_reducible refine Below.trans ?_ (Below.mono hw1 ?_)) | (with_reducible exact hw1.size) | omega | (simp <;> omega) | (simp <;> (have s := hw1.size; omega)))

set_option maxHeartbeats 800000 in
theorem refVector_zero (x : Q) (w : World) (h : V x) (ha : x.a = -x.n) : Calls Try.prog 49 #[.agg #[.int .i64 x.a, .int .i64 x.b, .int .i64 x.c, .int .i64 x.d, .int .i64 x.n]] w fun e w' => e = .returned (.tuple #[.agg #[.int .i64 0, .int .i64 0, .int .i64 0, .int .i64 0, .int .i64 0, .int .i64 0], .int .i64 5]) ∧ Below w.heap.size w w' := by
  obtain ⟨⟨a1, a2⟩, b, c, d, n1, n2⟩ := V.in h
  have c1 := fun W : World => refValidate_any x W 0 (.inl ⟨h, rfl⟩)
  have e1 : (x.n + x.a == 0) = true := by simp; omega
  clear h b c d ha
  go_enter Try.func49, Try.ntmps49
  go_wp2_with ((with_reducible refine (c1 _).mono ?_); rintro e w1 ⟨rfl, hw1⟩; have hc := Tail.cells hw1; have zw10 := Nat.lt_of_lt_of_le (n := w.heap.size) (by simp <;> omega) hw1.size; have zw11 := Nat.lt_of_lt_of_le (n := w.heap.size + 1) (by simp <;> omega) hw1.size)
  refine bodyPost_ret (v := .tuple #[.agg #[.int .i64 0, .int .i64 0, .int .i64 0, .int .i64 0, .int .i64 0, .int .i64 0], .int .i64 5]) ?_ rfl ⟨rfl, ?_⟩
  · simp [results, Try.results49, go_sem, hc, zw10, zw11]
  · repeat (first | (with_reducible exact Below.refl _ _) | (with_reducible refine Below.setCell ?_ ?_ _) | (with_reducible refine Below.drew ?_) | (with_reducible refine Below.alloc ?_ ?_ _) | (with_reducible refine Below.trans ?_ (Below.mono hw1 ?_)) | (with_reducible exact hw1.size) | omega | (simp <;> omega) | (simp <;> (have s := hw1.size; omega)))

set_option maxRecDepth 100000 in
set_option maxHeartbeats 1600000 in
theorem refVector_ok (x : Q) (p q r : Int × Int) (w : World) (h : V x) (ha : ¬ x.a = -x.n) (hr : vec x = (p, q, r)) : Calls Try.prog 49 #[.agg #[.int .i64 x.a, .int .i64 x.b, .int .i64 x.c, .int .i64 x.d, .int .i64 x.n]] w fun e w' => e = .returned (.tuple #[.agg #[.int .i64 p.1, .int .i64 p.2, .int .i64 q.1, .int .i64 q.2, .int .i64 r.1, .int .i64 r.2], .int .i64 0]) ∧ Below w.heap.size w w' := by
  obtain ⟨⟨a1, a2⟩, b, c, d, n1, n2⟩ := V.in h
  have hp := part_le x h.u
  have c1 := fun W : World => refValidate_any x W 0 (.inl ⟨h, rfl⟩)
  have c2 := fun W : World => refRatio_any x.b (x.n + x.a) W (by omega) (by omega)
  have c3 := fun W : World => refRatio_any x.c (x.n + x.a) W (by omega) (by omega)
  have c4 := fun W : World => refRatio_any x.d (x.n + x.a) W (by omega) (by omega)
  simp only [vec, Prod.mk.injEq] at hr
  obtain ⟨r1, r2, r3⟩ := hr
  rw [r1] at c2
  rw [r2] at c3
  rw [r3] at c4
  have e1 : (x.n + x.a == 0) = false := by simp; omega
  clear h b c d ha hp r1 r2 r3
  have kc := @Tail.cell_re
  go_enter Try.func49, Try.ntmps49
  go_wp2_with ((with_reducible refine (c1 _).mono ?_); rintro e w1 ⟨rfl, hw1⟩; have hc := Tail.cells hw1; have zw10 := Nat.lt_of_lt_of_le (n := w.heap.size) (by simp <;> omega) hw1.size; have zw11 := Nat.lt_of_lt_of_le (n := w.heap.size + 1) (by simp <;> omega) hw1.size)
  refine Tail.region_tail_below 13 (by kernel_rfl) (by kernel_rfl) ?_
  simp only [List.take_succ_cons, List.take_zero, List.drop_succ_cons, List.drop_zero]
  repeat (go_big_quiet_step (first | (with_reducible exact Calls.regrown_of (c2 _)) | (with_reducible exact Calls.regrown_of (c3 _)) | (with_reducible exact Calls.regrown_of (c4 _))))
  refine wpQuiet_nil ?_
  intro w5 hw5
  have hc5 := Tail.cells hw5
  have z50 := Nat.lt_of_lt_of_le zw10 hw5.size
  have z51 := Nat.lt_of_lt_of_le zw11 hw5.size
  go_wp2
  refine bodyPost_ret (v := .tuple #[.agg #[.int .i64 p.1, .int .i64 p.2, .int .i64 q.1, .int .i64 q.2, .int .i64 r.1, .int .i64 r.2], .int .i64 0]) ?_ rfl ⟨rfl, ?_⟩
  · simp [results, Try.results49, go_sem, hc5, hc, zw10, zw11, z50, z51]
  · repeat (first | (with_reducible exact Below.refl _ _) | (with_reducible refine Below.setCell ?_ ?_ _) | (with_reducible refine Below.drew ?_) | (with_reducible refine Below.alloc ?_ ?_ _) | (with_reducible refine Below.trans ?_ (Below.mono hw5 ?_)) | (with_reducible refine Below.trans ?_ (Below.mono hw1 ?_)) | (with_reducible exact hw5.size) | (with_reducible exact hw1.size) | omega | (simp <;> omega) | (simp <;> (have s := hw5.size; omega)) | (simp <;> (have s := hw1.size; omega)))
end Go.Proofs.Ytecoemdpfpdeoaa
