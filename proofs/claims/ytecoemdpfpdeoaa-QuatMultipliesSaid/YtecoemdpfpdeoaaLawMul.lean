/- QuatMultiplies: the program's product of any two units is the document's, the product with the inverse is 1, and a product that is answered is valid.
Conditions: none. -/
import Derived.Test.YtecoemdpfpdeoaaOpen
namespace Go.Proofs.Ytecoemdpfpdeoaa
set_option linter.unusedVariables false
set_option linter.unusedSimpArgs false
open Go.ChangeShapes Go.WideShapes Go.ChangeAt Go.RowKit
open Um

/-- What both answer to a product, in cases. -/
theorem mul_cases (x y : Q) : ∃ (r : Q) (er : Int), (∀ W : World, Calls Try.prog 25 #[.agg #[.int .i64 x.a, .int .i64 x.b, .int .i64 x.c, .int .i64 x.d, .int .i64 x.n], .agg #[.int .i64 y.a, .int .i64 y.b, .int .i64 y.c, .int .i64 y.d, .int .i64 y.n]] W fun e w' => e = .returned (.tuple #[.agg #[.int .i64 r.a, .int .i64 r.b, .int .i64 r.c, .int .i64 r.d, .int .i64 r.n], .int .i64 er]) ∧ Below W.heap.size W w') ∧ (∀ W : World, Calls Try.prog 26 #[.agg #[.int .i64 x.a, .int .i64 x.b, .int .i64 x.c, .int .i64 x.d, .int .i64 x.n], .agg #[.int .i64 y.a, .int .i64 y.b, .int .i64 y.c, .int .i64 y.d, .int .i64 y.n]] W fun e w' => e = .returned (.tuple #[.agg #[.int .i64 r.a, .int .i64 r.b, .int .i64 r.c, .int .i64 r.d, .int .i64 r.n], .int .i64 er]) ∧ Below W.heap.size W w') ∧
    ((V x ∧ V y ∧ V r ∧ r = low (mul x y) ∧ er = 0) ∨ (V x ∧ V y ∧ 1048576 < (low (mul x y)).n ∧ r = zero ∧ er = 3) ∨ ((¬ V x ∨ ¬ V y) ∧ r = zero ∧ er = 1)) := by
  by_cases hx : V x
  · by_cases hy : V y
    · by_cases hl : (low (mul x y)).n ≤ 1048576
      · exact ⟨low (mul x y), 0, fun W => mul_good x y _ _ W hx hy (.inl ⟨hl, rfl, rfl⟩), fun W => refMul_good x y _ _ W hx hy (.inl ⟨hl, rfl, rfl⟩), .inl ⟨hx, hy, V.of_low (mul_len x y hx.u hy.u) hl, rfl, rfl⟩⟩
      · exact ⟨zero, 3, fun W => mul_good x y _ _ W hx hy (.inr ⟨by omega, rfl, rfl⟩), fun W => refMul_good x y _ _ W hx hy (.inr ⟨by omega, rfl, rfl⟩), .inr (.inl ⟨hx, hy, by omega, rfl, rfl⟩)⟩
    · exact ⟨zero, 1, fun W => mul_bad x y W (.inr hy), fun W => refMul_bad x y W (.inr hy), .inr (.inr ⟨.inr hy, rfl, rfl⟩)⟩
  · exact ⟨zero, 1, fun W => mul_bad x y W (.inl hx), fun W => refMul_bad x y W (.inl hx), .inr (.inr ⟨.inl hx, rfl, rfl⟩)⟩

theorem not_V_zero : ¬ V zero := fun h => absurd h.u.pos (by decide)

set_option maxRecDepth 100000 in
set_option maxHeartbeats 1600000 in
theorem quatMultiplies_walk (x y : Q) (w : World) : Calls Try.prog 5 #[.agg #[.int .i64 x.a, .int .i64 x.b, .int .i64 x.c, .int .i64 x.d, .int .i64 x.n], .agg #[.int .i64 y.a, .int .i64 y.b, .int .i64 y.c, .int .i64 y.d, .int .i64 y.n]] w fun e w' => e = .returned (.bool true) ∧ Below w.heap.size w w' := by
  obtain ⟨r, er, m1, m2, hc⟩ := mul_cases x y
  have kn := known_any
  have ko := refOne_any
  have kc := @Tail.cell_re
  have kc1 : ∀ (W : World) (o : Obj) (d : Nat) (os : Array Obj) (a : Addr), a.block ≤ W.heap.size → (Sort.grow (redrawn (W.alloc o) d) os).cell? a = (W.alloc o).cell? a := fun W o d os a h =>
    Tail.cell_re (W.alloc o) d os a (by have : (W.alloc o).heap.size = W.heap.size + 1 := by simp
                                        omega)
  by_cases hy : V y
  · have i1 := fun W : World => inv_ok y W hy
    have m3 : ∀ W : World, Calls Try.prog 25 #[.agg #[.int .i64 y.a, .int .i64 y.b, .int .i64 y.c, .int .i64 y.d, .int .i64 y.n], .agg #[.int .i64 (bar y).a, .int .i64 (bar y).b, .int .i64 (bar y).c, .int .i64 (bar y).d, .int .i64 (bar y).n]] W fun e w' => e = .returned (.tuple #[.agg #[.int .i64 one.a, .int .i64 one.b, .int .i64 one.c, .int .i64 one.d, .int .i64 one.n], .int .i64 0]) ∧ Below W.heap.size W w' := fun W =>
      mul_good y (bar y) one 0 W hy hy.bar (.inl ⟨by rw [low_mul_bar y hy.u]; decide, (low_mul_bar y hy.u).symm, rfl⟩)
    rcases hc with ⟨h1, h2, hr, h3, rfl⟩ | ⟨h1, h2, h3, hr, rfl⟩ | ⟨h1, hr, rfl⟩
    · have v1 := fun W : World => validate_ok r W hr
      clear hr hy h1 h2 h3
      go_enter Try.func5, Try.ntmps5
      go_wp2_with (first | ((with_reducible refine (m1 _).mono ?_); rintro e w1 ⟨rfl, hw1⟩; have hc1 := Tail.cells hw1; have s1 := hw1.size; (try simp at s1); have z1_0 : w.heap.size < w1.heap.size := (by omega); have z1_1 : w.heap.size + 1 < w1.heap.size := (by omega); clear s1) | ((with_reducible refine (m2 _).mono ?_); rintro e w2 ⟨rfl, hw2⟩; have hc2 := Tail.cells hw2; have s2 := hw2.size; (try simp at s2); have z2_0 : w.heap.size < w2.heap.size := (by omega); have z2_1 : w.heap.size + 1 < w2.heap.size := (by omega); have z2_2 : w1.heap.size < w2.heap.size := (by omega); clear s2) | ((with_reducible refine (i1 _).mono ?_); rintro e w3 ⟨rfl, hw3⟩; have hc3 := Tail.cells hw3; have s3 := hw3.size; (try simp at s3); have z3_0 : w.heap.size < w3.heap.size := (by omega); have z3_1 : w.heap.size + 1 < w3.heap.size := (by omega); have z3_2 : w1.heap.size < w3.heap.size := (by omega); have z3_3 : w2.heap.size < w3.heap.size := (by omega); clear s3) | ((with_reducible refine (m3 _).mono ?_); rintro e w4 ⟨rfl, hw4⟩; have hc4 := Tail.cells hw4; have s4 := hw4.size; (try simp at s4); have z4_0 : w.heap.size < w4.heap.size := (by omega); have z4_1 : w.heap.size + 1 < w4.heap.size := (by omega); have z4_2 : w1.heap.size < w4.heap.size := (by omega); have z4_3 : w2.heap.size < w4.heap.size := (by omega); have z4_4 : w3.heap.size < w4.heap.size := (by omega); clear s4))
      refine Tail.region_below (by kernel_rfl) (by kernel_rfl) ?_
      repeat (go_big_quiet_step (first | (with_reducible exact Calls.regrown_of (kn _)) | (with_reducible exact Calls.regrown_of (ko _)) | (with_reducible exact Calls.regrown_of (v1 _))))
      refine wpQuiet_nil ?_
      intro w9 hw9
      go_wp2
      go_ret
      exact ⟨rfl, by repeat (first | (with_reducible exact Below.refl _ _) | (with_reducible refine Below.setCell ?_ ?_ _) | (with_reducible refine Below.drew ?_) | (with_reducible refine Below.alloc ?_ ?_ _) | (refine Below.trans ?_ (Below.mono hw9 ?_)) | (refine Below.trans ?_ (Below.mono hw4 ?_)) | (refine Below.trans ?_ (Below.mono hw3 ?_)) | (refine Below.trans ?_ (Below.mono hw2 ?_)) | (refine Below.trans ?_ (Below.mono hw1 ?_)) | (exact hw9.size) | (exact hw4.size) | (exact hw3.size) | (exact hw2.size) | (exact hw1.size) | omega | (simp <;> omega) | (simp <;> (have s := hw9.size; omega)) | (simp <;> (have s := hw4.size; omega)) | (simp <;> (have s := hw3.size; omega)) | (simp <;> (have s := hw2.size; omega)) | (simp <;> (have s := hw1.size; omega)))⟩
    · clear hr hy h1 h2 h3
      go_enter Try.func5, Try.ntmps5
      go_wp2_with (first | ((with_reducible refine (m1 _).mono ?_); rintro e w1 ⟨rfl, hw1⟩; have hc1 := Tail.cells hw1; have s1 := hw1.size; (try simp at s1); have z1_0 : w.heap.size < w1.heap.size := (by omega); have z1_1 : w.heap.size + 1 < w1.heap.size := (by omega); clear s1) | ((with_reducible refine (m2 _).mono ?_); rintro e w2 ⟨rfl, hw2⟩; have hc2 := Tail.cells hw2; have s2 := hw2.size; (try simp at s2); have z2_0 : w.heap.size < w2.heap.size := (by omega); have z2_1 : w.heap.size + 1 < w2.heap.size := (by omega); have z2_2 : w1.heap.size < w2.heap.size := (by omega); clear s2) | ((with_reducible refine (i1 _).mono ?_); rintro e w3 ⟨rfl, hw3⟩; have hc3 := Tail.cells hw3; have s3 := hw3.size; (try simp at s3); have z3_0 : w.heap.size < w3.heap.size := (by omega); have z3_1 : w.heap.size + 1 < w3.heap.size := (by omega); have z3_2 : w1.heap.size < w3.heap.size := (by omega); have z3_3 : w2.heap.size < w3.heap.size := (by omega); clear s3) | ((with_reducible refine (m3 _).mono ?_); rintro e w4 ⟨rfl, hw4⟩; have hc4 := Tail.cells hw4; have s4 := hw4.size; (try simp at s4); have z4_0 : w.heap.size < w4.heap.size := (by omega); have z4_1 : w.heap.size + 1 < w4.heap.size := (by omega); have z4_2 : w1.heap.size < w4.heap.size := (by omega); have z4_3 : w2.heap.size < w4.heap.size := (by omega); have z4_4 : w3.heap.size < w4.heap.size := (by omega); clear s4))
      refine Tail.region_below (by kernel_rfl) (by kernel_rfl) ?_
      repeat (go_big_quiet_step (first | (with_reducible exact Calls.regrown_of (kn _)) | (with_reducible exact Calls.regrown_of (ko _))))
      refine wpQuiet_nil ?_
      intro w9 hw9
      go_wp2
      go_ret
      exact ⟨rfl, by repeat (first | (with_reducible exact Below.refl _ _) | (with_reducible refine Below.setCell ?_ ?_ _) | (with_reducible refine Below.drew ?_) | (with_reducible refine Below.alloc ?_ ?_ _) | (refine Below.trans ?_ (Below.mono hw9 ?_)) | (refine Below.trans ?_ (Below.mono hw4 ?_)) | (refine Below.trans ?_ (Below.mono hw3 ?_)) | (refine Below.trans ?_ (Below.mono hw2 ?_)) | (refine Below.trans ?_ (Below.mono hw1 ?_)) | (exact hw9.size) | (exact hw4.size) | (exact hw3.size) | (exact hw2.size) | (exact hw1.size) | omega | (simp <;> omega) | (simp <;> (have s := hw9.size; omega)) | (simp <;> (have s := hw4.size; omega)) | (simp <;> (have s := hw3.size; omega)) | (simp <;> (have s := hw2.size; omega)) | (simp <;> (have s := hw1.size; omega)))⟩
    · clear hr hy h1
      go_enter Try.func5, Try.ntmps5
      go_wp2_with (first | ((with_reducible refine (m1 _).mono ?_); rintro e w1 ⟨rfl, hw1⟩; have hc1 := Tail.cells hw1; have s1 := hw1.size; (try simp at s1); have z1_0 : w.heap.size < w1.heap.size := (by omega); have z1_1 : w.heap.size + 1 < w1.heap.size := (by omega); clear s1) | ((with_reducible refine (m2 _).mono ?_); rintro e w2 ⟨rfl, hw2⟩; have hc2 := Tail.cells hw2; have s2 := hw2.size; (try simp at s2); have z2_0 : w.heap.size < w2.heap.size := (by omega); have z2_1 : w.heap.size + 1 < w2.heap.size := (by omega); have z2_2 : w1.heap.size < w2.heap.size := (by omega); clear s2) | ((with_reducible refine (i1 _).mono ?_); rintro e w3 ⟨rfl, hw3⟩; have hc3 := Tail.cells hw3; have s3 := hw3.size; (try simp at s3); have z3_0 : w.heap.size < w3.heap.size := (by omega); have z3_1 : w.heap.size + 1 < w3.heap.size := (by omega); have z3_2 : w1.heap.size < w3.heap.size := (by omega); have z3_3 : w2.heap.size < w3.heap.size := (by omega); clear s3) | ((with_reducible refine (m3 _).mono ?_); rintro e w4 ⟨rfl, hw4⟩; have hc4 := Tail.cells hw4; have s4 := hw4.size; (try simp at s4); have z4_0 : w.heap.size < w4.heap.size := (by omega); have z4_1 : w.heap.size + 1 < w4.heap.size := (by omega); have z4_2 : w1.heap.size < w4.heap.size := (by omega); have z4_3 : w2.heap.size < w4.heap.size := (by omega); have z4_4 : w3.heap.size < w4.heap.size := (by omega); clear s4))
      refine Tail.region_below (by kernel_rfl) (by kernel_rfl) ?_
      repeat (go_big_quiet_step (first | (with_reducible exact Calls.regrown_of (kn _)) | (with_reducible exact Calls.regrown_of (ko _))))
      refine wpQuiet_nil ?_
      intro w9 hw9
      go_wp2
      go_ret
      exact ⟨rfl, by repeat (first | (with_reducible exact Below.refl _ _) | (with_reducible refine Below.setCell ?_ ?_ _) | (with_reducible refine Below.drew ?_) | (with_reducible refine Below.alloc ?_ ?_ _) | (refine Below.trans ?_ (Below.mono hw9 ?_)) | (refine Below.trans ?_ (Below.mono hw4 ?_)) | (refine Below.trans ?_ (Below.mono hw3 ?_)) | (refine Below.trans ?_ (Below.mono hw2 ?_)) | (refine Below.trans ?_ (Below.mono hw1 ?_)) | (exact hw9.size) | (exact hw4.size) | (exact hw3.size) | (exact hw2.size) | (exact hw1.size) | omega | (simp <;> omega) | (simp <;> (have s := hw9.size; omega)) | (simp <;> (have s := hw4.size; omega)) | (simp <;> (have s := hw3.size; omega)) | (simp <;> (have s := hw2.size; omega)) | (simp <;> (have s := hw1.size; omega)))⟩
  · have i1 := fun W : World => inv_bad y W hy
    have m3 := fun W : World => mul_bad y zero W (.inl hy)
    have hr : er = 1 := by
      rcases hc with ⟨h1, h2, _⟩ | ⟨h1, h2, _⟩ | ⟨_, _, h⟩
      · exact absurd h2 hy
      · exact absurd h2 hy
      · exact h
    subst hr
    clear hc hy
    go_enter Try.func5, Try.ntmps5
    go_wp2_with (first | ((with_reducible refine (m1 _).mono ?_); rintro e w1 ⟨rfl, hw1⟩; have hc1 := Tail.cells hw1; have s1 := hw1.size; (try simp at s1); have z1_0 : w.heap.size < w1.heap.size := (by omega); have z1_1 : w.heap.size + 1 < w1.heap.size := (by omega); clear s1) | ((with_reducible refine (m2 _).mono ?_); rintro e w2 ⟨rfl, hw2⟩; have hc2 := Tail.cells hw2; have s2 := hw2.size; (try simp at s2); have z2_0 : w.heap.size < w2.heap.size := (by omega); have z2_1 : w.heap.size + 1 < w2.heap.size := (by omega); have z2_2 : w1.heap.size < w2.heap.size := (by omega); clear s2) | ((with_reducible refine (i1 _).mono ?_); rintro e w3 ⟨rfl, hw3⟩; have hc3 := Tail.cells hw3; have s3 := hw3.size; (try simp at s3); have z3_0 : w.heap.size < w3.heap.size := (by omega); have z3_1 : w.heap.size + 1 < w3.heap.size := (by omega); have z3_2 : w1.heap.size < w3.heap.size := (by omega); have z3_3 : w2.heap.size < w3.heap.size := (by omega); clear s3) | ((with_reducible refine (m3 _).mono ?_); rintro e w4 ⟨rfl, hw4⟩; have hc4 := Tail.cells hw4; have s4 := hw4.size; (try simp at s4); have z4_0 : w.heap.size < w4.heap.size := (by omega); have z4_1 : w.heap.size + 1 < w4.heap.size := (by omega); have z4_2 : w1.heap.size < w4.heap.size := (by omega); have z4_3 : w2.heap.size < w4.heap.size := (by omega); have z4_4 : w3.heap.size < w4.heap.size := (by omega); clear s4))
    refine Tail.region_below (by kernel_rfl) (by kernel_rfl) ?_
    repeat (go_big_quiet_step (first | (with_reducible exact Calls.regrown_of (kn _))))
    refine wpQuiet_nil ?_
    intro w9 hw9
    go_wp2
    go_ret
    exact ⟨rfl, by repeat (first | (with_reducible exact Below.refl _ _) | (with_reducible refine Below.setCell ?_ ?_ _) | (with_reducible refine Below.drew ?_) | (with_reducible refine Below.alloc ?_ ?_ _) | (refine Below.trans ?_ (Below.mono hw9 ?_)) | (refine Below.trans ?_ (Below.mono hw4 ?_)) | (refine Below.trans ?_ (Below.mono hw3 ?_)) | (refine Below.trans ?_ (Below.mono hw2 ?_)) | (refine Below.trans ?_ (Below.mono hw1 ?_)) | (exact hw9.size) | (exact hw4.size) | (exact hw3.size) | (exact hw2.size) | (exact hw1.size) | omega | (simp <;> omega) | (simp <;> (have s := hw9.size; omega)) | (simp <;> (have s := hw4.size; omega)) | (simp <;> (have s := hw3.size; omega)) | (simp <;> (have s := hw2.size; omega)) | (simp <;> (have s := hw1.size; omega)))⟩
/-! ### The statement of the law QuatMultiplies, out of its walk -/
set_option maxRecDepth 100000 in
theorem quatMultiplies_lifted (os : Os) (started : os.Started) (H : Type) (enc : TypeId × Value → H) :
    ReturnsInHanded {} Try.checked os 5 .any (Rows.quatMultipliesSpec.pre6 enc Try.prog Try.f5 Rows.quatMultipliesRow.domain false) (Rows.quatMultipliesSpec.post enc Try.prog Try.f5 false true false false) := by
  refine returnsInHanded_of_change (C := Try.checked) own started (by kernel_rfl) Try.func5
    (ChangeSpec.witness6 (enc := enc) (C := Try.checked) false ⟨#[], #[.agg #[.int .i64 0, .int .i64 0, .int .i64 0, .int .i64 0, .int .i64 0], .agg #[.int .i64 0, .int .i64 0, .int .i64 0, .int .i64 0, .int .i64 0]], []⟩ 8 (by kernel_rfl) (by kernel_rfl) (by kernel_rfl) (by kernel_rfl)) ?_
  intro W base args ds gs before hval0 hW hcnd _
  have hval : ∀ (j : Nat) t v, Try.f5.params[j]? = some t → args[j]? = some v → Value.okWide Try.prog W .any base t v := hval0
  have hW' := hW
  obtain ⟨p, q, hA0, hV, rfl, hfz, hnd⟩ := hW
  have hA : DataW.TrodAll enc Try.prog W 0 (fun _ => true) true Try.f5.params.toList args.toList ds p := hA0
  rw [Try.params5] at hA hval
  obtain ⟨v0, vs0, d0, ds0, p0, q0, hargs, rfl, rfl, h0, r0⟩ := trodAll_cons hA
  obtain ⟨v1, vs1, d1, ds1, p1, q1, rfl, rfl, rfl, h1, r1⟩ := trodAll_cons r0
  obtain ⟨rfl, rfl, rfl⟩ := trodAll_nil r1
  obtain rfl : args = #[v0, v1] := by cases args; simp_all
  obtain ⟨rfl, rfl⟩ := trodVars_none hV
  have k0 := h0
  have lt0 : ∀ x ∈ p0, x.block < W.heap.size := by obtain ⟨m, hm⟩ := k0; exact DataW.trod_lt m _ _ _ hm
  obtain ⟨x0, rfl⟩ := open_unit (hval 0 23 v0 rfl rfl) h0
  have k1 := h1
  have lt1 : ∀ x ∈ p1, x.block < W.heap.size := by obtain ⟨m, hm⟩ := k1; exact DataW.trod_lt m _ _ _ hm
  obtain ⟨x1, rfl⟩ := open_unit (hval 1 23 v1 rfl rfl) h1
  clear hA0 hval0
  refine (quatMultiplies_walk x0 x1 W).mono fun e W' ⟨he, bel⟩ => ?_
  subst he
  exact ⟨_, rfl, _, _, _, [], _, [], hW', trodAll_mk1 (shut_bool Try.underlying4 _), (trodAll_cons_mk (Below.trod laidOut (by kernel_rfl) (of_decide_eq_true (by kernel_rfl)) k0 bel lt0) (trodAll_cons_mk (Below.trod laidOut (by kernel_rfl) (of_decide_eq_true (by kernel_rfl)) k1 bel lt1) trodAll_mk0)), rfl, bel.frame _, fun h => by cases h⟩

theorem quatMultiplies_over : Rows.quatMultipliesRow.holds Try.pinned (OpenSpec.ofChange Rows.quatMultipliesSpec) :=
  OpenClaim.holds_of_wide 5 Try.f5 rfl rfl rfl rfl rfl rfl rfl ⟨rfl, rfl, rfl, rfl, rfl⟩ rfl rfl rfl rfl rfl (by kernel_rfl) Try.func5 (by kernel_rfl)
    (of_decide_eq_true (by kernel_rfl)) (by unfold Func.isWrapper; first | (rw [if_pos (by decide +kernel)]; kernel_rfl) | (rw [if_neg (by decide +kernel)]; exact ⟨rfl, rfl⟩))
    (fun os started H enc _ => quatMultiplies_lifted os started H enc)

theorem quatMultiplies_holds : Rows.QuatMultipliesSaid := quatMultiplies_over
#print axioms quatMultiplies_holds

end Go.Proofs.Ytecoemdpfpdeoaa
