/- QuatValidates: the program finds the same units valid as the document, with the same inverses and opposites.
Conditions: none. -/
import Derived.Test.YtecoemdpfpdeoaaOpen
namespace Go.Proofs.Ytecoemdpfpdeoaa
set_option linter.unusedVariables false
set_option linter.unusedSimpArgs false
open Go.ChangeShapes Go.WideShapes Go.ChangeAt Go.RowKit
open Um

set_option maxRecDepth 100000 in
set_option maxHeartbeats 1600000 in
theorem quatValidates_walk (x : Q) (w : World) : Calls Try.prog 3 #[.agg #[.int .i64 x.a, .int .i64 x.b, .int .i64 x.c, .int .i64 x.d, .int .i64 x.n]] w fun e w' => e = .returned (.bool true) ∧ Below w.heap.size w w' := by
  have kn := known_any
  have kc := @Tail.cell_re
  have kc1 : ∀ (W : World) (o : Obj) (d : Nat) (os : Array Obj) (a : Addr), a.block ≤ W.heap.size → (Sort.grow (redrawn (W.alloc o) d) os).cell? a = (W.alloc o).cell? a := fun W o d os a h =>
    Tail.cell_re (W.alloc o) d os a (by have : (W.alloc o).heap.size = W.heap.size + 1 := by simp
                                        omega)
  by_cases hx : V x
  · have i1 := fun W : World => inv_ok x W hx
    have i2 := fun W : World => refInv_ok x W hx
    have n1 := fun W : World => neg_ok x W hx
    have n2 := fun W : World => refNeg_ok x W hx
    have v1 := fun W : World => validate_ok x W hx
    have v2 := fun W : World => refValidate_any x W 0 (.inl ⟨hx, rfl⟩)
    clear hx
    go_enter Try.func3, Try.ntmps3
    go_wp2_with (first | ((with_reducible refine (i1 _).mono ?_); rintro e w1 ⟨rfl, hw1⟩; have hc1 := Tail.cells hw1; have s1 := hw1.size; (try simp at s1); have z1_0 : w.heap.size < w1.heap.size := (by omega); clear s1) | ((with_reducible refine (i2 _).mono ?_); rintro e w2 ⟨rfl, hw2⟩; have hc2 := Tail.cells hw2; have s2 := hw2.size; (try simp at s2); have z2_0 : w.heap.size < w2.heap.size := (by omega); have z2_1 : w1.heap.size < w2.heap.size := (by omega); clear s2) | ((with_reducible refine (n1 _).mono ?_); rintro e w3 ⟨rfl, hw3⟩; have hc3 := Tail.cells hw3; have s3 := hw3.size; (try simp at s3); have z3_0 : w.heap.size < w3.heap.size := (by omega); have z3_1 : w1.heap.size < w3.heap.size := (by omega); have z3_2 : w2.heap.size < w3.heap.size := (by omega); clear s3) | ((with_reducible refine (n2 _).mono ?_); rintro e w4 ⟨rfl, hw4⟩; have hc4 := Tail.cells hw4; have s4 := hw4.size; (try simp at s4); have z4_0 : w.heap.size < w4.heap.size := (by omega); have z4_1 : w1.heap.size < w4.heap.size := (by omega); have z4_2 : w2.heap.size < w4.heap.size := (by omega); have z4_3 : w3.heap.size < w4.heap.size := (by omega); clear s4))
    refine Tail.region_below (by kernel_rfl) (by kernel_rfl) ?_
    repeat (go_big_quiet_step (first | (with_reducible exact Calls.regrown_of (kn _)) | (with_reducible exact Calls.regrown_of (v1 _)) | (with_reducible exact Calls.regrown_of (v2 _))))
    refine wpQuiet_nil ?_
    intro w9 hw9
    go_wp2
    go_ret
    exact ⟨rfl, by repeat (first | (with_reducible exact Below.refl _ _) | (with_reducible refine Below.setCell ?_ ?_ _) | (with_reducible refine Below.drew ?_) | (with_reducible refine Below.alloc ?_ ?_ _) | (refine Below.trans ?_ (Below.mono hw9 ?_)) | (refine Below.trans ?_ (Below.mono hw4 ?_)) | (refine Below.trans ?_ (Below.mono hw3 ?_)) | (refine Below.trans ?_ (Below.mono hw2 ?_)) | (refine Below.trans ?_ (Below.mono hw1 ?_)) | (exact hw9.size) | (exact hw4.size) | (exact hw3.size) | (exact hw2.size) | (exact hw1.size) | omega | (simp <;> omega) | (simp <;> (have s := hw9.size; omega)) | (simp <;> (have s := hw4.size; omega)) | (simp <;> (have s := hw3.size; omega)) | (simp <;> (have s := hw2.size; omega)) | (simp <;> (have s := hw1.size; omega)))⟩
  · have i1 := fun W : World => inv_bad x W hx
    have i2 := fun W : World => refInv_bad x W hx
    have n1 := fun W : World => neg_bad x W hx
    have n2 := fun W : World => refNeg_bad x W hx
    have v1 := fun W : World => validate_bad x W hx
    have v2 := fun W : World => refValidate_any x W 1 (.inr ⟨hx, rfl⟩)
    clear hx
    go_enter Try.func3, Try.ntmps3
    go_wp2_with (first | ((with_reducible refine (i1 _).mono ?_); rintro e w1 ⟨rfl, hw1⟩; have hc1 := Tail.cells hw1; have s1 := hw1.size; (try simp at s1); have z1_0 : w.heap.size < w1.heap.size := (by omega); clear s1) | ((with_reducible refine (i2 _).mono ?_); rintro e w2 ⟨rfl, hw2⟩; have hc2 := Tail.cells hw2; have s2 := hw2.size; (try simp at s2); have z2_0 : w.heap.size < w2.heap.size := (by omega); have z2_1 : w1.heap.size < w2.heap.size := (by omega); clear s2) | ((with_reducible refine (n1 _).mono ?_); rintro e w3 ⟨rfl, hw3⟩; have hc3 := Tail.cells hw3; have s3 := hw3.size; (try simp at s3); have z3_0 : w.heap.size < w3.heap.size := (by omega); have z3_1 : w1.heap.size < w3.heap.size := (by omega); have z3_2 : w2.heap.size < w3.heap.size := (by omega); clear s3) | ((with_reducible refine (n2 _).mono ?_); rintro e w4 ⟨rfl, hw4⟩; have hc4 := Tail.cells hw4; have s4 := hw4.size; (try simp at s4); have z4_0 : w.heap.size < w4.heap.size := (by omega); have z4_1 : w1.heap.size < w4.heap.size := (by omega); have z4_2 : w2.heap.size < w4.heap.size := (by omega); have z4_3 : w3.heap.size < w4.heap.size := (by omega); clear s4))
    refine Tail.region_below (by kernel_rfl) (by kernel_rfl) ?_
    repeat (go_big_quiet_step (first | (with_reducible exact Calls.regrown_of (kn _)) | (with_reducible exact Calls.regrown_of (v1 _)) | (with_reducible exact Calls.regrown_of (v2 _))))
    refine wpQuiet_nil ?_
    intro w9 hw9
    go_wp2
    go_ret
    exact ⟨rfl, by repeat (first | (with_reducible exact Below.refl _ _) | (with_reducible refine Below.setCell ?_ ?_ _) | (with_reducible refine Below.drew ?_) | (with_reducible refine Below.alloc ?_ ?_ _) | (refine Below.trans ?_ (Below.mono hw9 ?_)) | (refine Below.trans ?_ (Below.mono hw4 ?_)) | (refine Below.trans ?_ (Below.mono hw3 ?_)) | (refine Below.trans ?_ (Below.mono hw2 ?_)) | (refine Below.trans ?_ (Below.mono hw1 ?_)) | (exact hw9.size) | (exact hw4.size) | (exact hw3.size) | (exact hw2.size) | (exact hw1.size) | omega | (simp <;> omega) | (simp <;> (have s := hw9.size; omega)) | (simp <;> (have s := hw4.size; omega)) | (simp <;> (have s := hw3.size; omega)) | (simp <;> (have s := hw2.size; omega)) | (simp <;> (have s := hw1.size; omega)))⟩

/-! ### The statement of the law QuatValidates, out of its walk -/
set_option maxRecDepth 100000 in
theorem quatValidates_lifted (os : Os) (started : os.Started) (H : Type) (enc : TypeId × Value → H) :
    ReturnsInHanded {} Try.checked os 3 .any (Rows.quatValidatesSpec.pre6 enc Try.prog Try.f3 Rows.quatValidatesRow.domain false) (Rows.quatValidatesSpec.post enc Try.prog Try.f3 false true false false) := by
  refine returnsInHanded_of_change (C := Try.checked) own started (by kernel_rfl) Try.func3
    (ChangeSpec.witness6 (enc := enc) (C := Try.checked) false ⟨#[], #[.agg #[.int .i64 0, .int .i64 0, .int .i64 0, .int .i64 0, .int .i64 0]], []⟩ 8 (by kernel_rfl) (by kernel_rfl) (by kernel_rfl) (by kernel_rfl)) ?_
  intro W base args ds gs before hval0 hW hcnd _
  have hval : ∀ (j : Nat) t v, Try.f3.params[j]? = some t → args[j]? = some v → Value.okWide Try.prog W .any base t v := hval0
  have hW' := hW
  obtain ⟨p, q, hA0, hV, rfl, hfz, hnd⟩ := hW
  have hA : DataW.TrodAll enc Try.prog W 0 (fun _ => true) true Try.f3.params.toList args.toList ds p := hA0
  rw [Try.params3] at hA hval
  obtain ⟨v0, vs0, d0, ds0, p0, q0, hargs, rfl, rfl, h0, r0⟩ := trodAll_cons hA
  obtain ⟨rfl, rfl, rfl⟩ := trodAll_nil r0
  obtain rfl : args = #[v0] := by cases args; simp_all
  obtain ⟨rfl, rfl⟩ := trodVars_none hV
  have k0 := h0
  have lt0 : ∀ x ∈ p0, x.block < W.heap.size := by obtain ⟨m, hm⟩ := k0; exact DataW.trod_lt m _ _ _ hm
  obtain ⟨x0, rfl⟩ := open_unit (hval 0 23 v0 rfl rfl) h0
  clear hA0 hval0
  refine (quatValidates_walk x0 W).mono fun e W' ⟨he, bel⟩ => ?_
  subst he
  exact ⟨_, rfl, _, _, _, [], _, [], hW', trodAll_mk1 (shut_bool Try.underlying4 _), (trodAll_cons_mk (Below.trod laidOut (by kernel_rfl) (of_decide_eq_true (by kernel_rfl)) k0 bel lt0) trodAll_mk0), rfl, bel.frame _, fun h => by cases h⟩

theorem quatValidates_over : Rows.quatValidatesRow.holds Try.pinned (OpenSpec.ofChange Rows.quatValidatesSpec) :=
  OpenClaim.holds_of_wide 3 Try.f3 rfl rfl rfl rfl rfl rfl rfl ⟨rfl, rfl, rfl, rfl, rfl⟩ rfl rfl rfl rfl rfl (by kernel_rfl) Try.func3 (by kernel_rfl)
    (of_decide_eq_true (by kernel_rfl)) (by unfold Func.isWrapper; first | (rw [if_pos (by decide +kernel)]; kernel_rfl) | (rw [if_neg (by decide +kernel)]; exact ⟨rfl, rfl⟩))
    (fun os started H enc _ => quatValidates_lifted os started H enc)

theorem quatValidates_holds : Rows.QuatValidatesSaid := quatValidates_over
#print axioms quatValidates_holds

end Go.Proofs.Ytecoemdpfpdeoaa
