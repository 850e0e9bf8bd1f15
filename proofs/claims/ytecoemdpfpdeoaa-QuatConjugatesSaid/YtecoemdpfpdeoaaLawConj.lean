/- QuatConjugates: conjugates and commutators are the document's for all units, a conjugate has the trace of what was conjugated, and a commutator is 1 exactly if the two commute.
Conditions: none. -/
import Derived.Test.YtecoemdpfpdeoaaConj
import Derived.Test.YtecoemdpfpdeoaaCommute
import Derived.Test.YtecoemdpfpdeoaaDist
import Derived.Test.YtecoemdpfpdeoaaEqU
namespace Go.Proofs.Ytecoemdpfpdeoaa
set_option linter.unusedVariables false
set_option linter.unusedSimpArgs false
open Go.ChangeShapes Go.WideShapes Go.ChangeAt Go.RowKit
open Um

set_option maxRecDepth 100000 in
set_option maxHeartbeats 1600000 in
theorem quatConjugates_core (x y r1 r2 : Q) (s t : Int × Int) (e1 e2 es et eb : Int) (b : Bool) (w : World)
    (k1 : ∀ W : World, Calls Try.prog 34 #[.agg #[.int .i64 x.a, .int .i64 x.b, .int .i64 x.c, .int .i64 x.d, .int .i64 x.n], .agg #[.int .i64 y.a, .int .i64 y.b, .int .i64 y.c, .int .i64 y.d, .int .i64 y.n]] W fun e w' => e = .returned (.tuple #[.agg #[.int .i64 r1.a, .int .i64 r1.b, .int .i64 r1.c, .int .i64 r1.d, .int .i64 r1.n], .int .i64 e1]) ∧ Below W.heap.size W w')
    (k2 : ∀ W : World, Calls Try.prog 35 #[.agg #[.int .i64 x.a, .int .i64 x.b, .int .i64 x.c, .int .i64 x.d, .int .i64 x.n], .agg #[.int .i64 y.a, .int .i64 y.b, .int .i64 y.c, .int .i64 y.d, .int .i64 y.n]] W fun e w' => e = .returned (.tuple #[.agg #[.int .i64 r1.a, .int .i64 r1.b, .int .i64 r1.c, .int .i64 r1.d, .int .i64 r1.n], .int .i64 e1]) ∧ Below W.heap.size W w')
    (k3 : ∀ W : World, Calls Try.prog 36 #[.agg #[.int .i64 x.a, .int .i64 x.b, .int .i64 x.c, .int .i64 x.d, .int .i64 x.n], .agg #[.int .i64 y.a, .int .i64 y.b, .int .i64 y.c, .int .i64 y.d, .int .i64 y.n]] W fun e w' => e = .returned (.tuple #[.agg #[.int .i64 r2.a, .int .i64 r2.b, .int .i64 r2.c, .int .i64 r2.d, .int .i64 r2.n], .int .i64 e2]) ∧ Below W.heap.size W w')
    (k4 : ∀ W : World, Calls Try.prog 37 #[.agg #[.int .i64 x.a, .int .i64 x.b, .int .i64 x.c, .int .i64 x.d, .int .i64 x.n], .agg #[.int .i64 y.a, .int .i64 y.b, .int .i64 y.c, .int .i64 y.d, .int .i64 y.n]] W fun e w' => e = .returned (.tuple #[.agg #[.int .i64 r2.a, .int .i64 r2.b, .int .i64 r2.c, .int .i64 r2.d, .int .i64 r2.n], .int .i64 e2]) ∧ Below W.heap.size W w')
    (t1 : ∀ W : World, Calls Try.prog 38 #[.agg #[.int .i64 r1.a, .int .i64 r1.b, .int .i64 r1.c, .int .i64 r1.d, .int .i64 r1.n]] W fun e w' => e = .returned (.tuple #[.agg #[.int .i64 (s).1, .int .i64 (s).2], .int .i64 es]) ∧ Below W.heap.size W w')
    (t2 : ∀ W : World, Calls Try.prog 38 #[.agg #[.int .i64 y.a, .int .i64 y.b, .int .i64 y.c, .int .i64 y.d, .int .i64 y.n]] W fun e w' => e = .returned (.tuple #[.agg #[.int .i64 (t).1, .int .i64 (t).2], .int .i64 et]) ∧ Below W.heap.size W w')
    (m : ∀ W : World, Calls Try.prog 39 #[.agg #[.int .i64 x.a, .int .i64 x.b, .int .i64 x.c, .int .i64 x.d, .int .i64 x.n], .agg #[.int .i64 y.a, .int .i64 y.b, .int .i64 y.c, .int .i64 y.d, .int .i64 y.n]] W fun e w' => e = .returned (.tuple #[.bool b, .int .i64 eb]) ∧ Below W.heap.size W w')
    (h1 : (e1 = 0 ∧ s = t) ∨ ((e1 == 0) = false ∧ (e1 != 0) = true)) (h2 : (e2 = 0 ∧ eb = 0 ∧ b = decide (r2 = one)) ∨ ((e2 == 0) = false ∧ (e2 != 0) = true)) :
    Calls Try.prog 9 #[.agg #[.int .i64 x.a, .int .i64 x.b, .int .i64 x.c, .int .i64 x.d, .int .i64 x.n], .agg #[.int .i64 y.a, .int .i64 y.b, .int .i64 y.c, .int .i64 y.d, .int .i64 y.n]] w fun e w' => e = .returned (.bool true) ∧ Below w.heap.size w w' := by
  have kn := known_any
  have ro := fun W : World => refOne_any W
  have kc := @Tail.cell_re
  have qe := eqU
  go_enter Try.func9, Try.ntmps9
  go_wp2_with (first | ((with_reducible refine (k1 _).mono ?_); clear k1; rintro e w1 ⟨rfl, hw1⟩; have hc1 := Tail.cells hw1; have s1 := hw1.size; (try simp at s1); (try have z1_0 : w.heap.size < w1.heap.size := (by omega)); (try have z1_1 : w.heap.size + 1 < w1.heap.size := (by omega)); clear s1) | ((with_reducible refine (k2 _).mono ?_); clear k2; rintro e w2 ⟨rfl, hw2⟩; have hc2 := Tail.cells hw2; have s2 := hw2.size; (try simp at s2); (try have z2_0 : w.heap.size < w2.heap.size := (by omega)); (try have z2_1 : w.heap.size + 1 < w2.heap.size := (by omega)); (try have z2_2 : w1.heap.size < w2.heap.size := (by omega)); clear s2) | ((with_reducible refine (k3 _).mono ?_); clear k3; rintro e w3 ⟨rfl, hw3⟩; have hc3 := Tail.cells hw3; have s3 := hw3.size; (try simp at s3); (try have z3_0 : w.heap.size < w3.heap.size := (by omega)); (try have z3_1 : w.heap.size + 1 < w3.heap.size := (by omega)); (try have z3_2 : w1.heap.size < w3.heap.size := (by omega)); (try have z3_3 : w2.heap.size < w3.heap.size := (by omega)); clear s3) | ((with_reducible refine (k4 _).mono ?_); clear k4; rintro e w4 ⟨rfl, hw4⟩; have hc4 := Tail.cells hw4; have s4 := hw4.size; (try simp at s4); (try have z4_0 : w.heap.size < w4.heap.size := (by omega)); (try have z4_1 : w.heap.size + 1 < w4.heap.size := (by omega)); (try have z4_2 : w1.heap.size < w4.heap.size := (by omega)); (try have z4_3 : w2.heap.size < w4.heap.size := (by omega)); (try have z4_4 : w3.heap.size < w4.heap.size := (by omega)); clear s4) | ((with_reducible refine (t1 _).mono ?_); clear t1; rintro e w5 ⟨rfl, hw5⟩; have hc5 := Tail.cells hw5; have s5 := hw5.size; (try simp at s5); (try have z5_0 : w.heap.size < w5.heap.size := (by omega)); (try have z5_1 : w.heap.size + 1 < w5.heap.size := (by omega)); (try have z5_2 : w1.heap.size < w5.heap.size := (by omega)); (try have z5_3 : w2.heap.size < w5.heap.size := (by omega)); (try have z5_4 : w3.heap.size < w5.heap.size := (by omega)); (try have z5_5 : w4.heap.size < w5.heap.size := (by omega)); clear s5) | ((with_reducible refine (t2 _).mono ?_); clear t2; rintro e w6 ⟨rfl, hw6⟩; have hc6 := Tail.cells hw6; have s6 := hw6.size; (try simp at s6); (try have z6_0 : w.heap.size < w6.heap.size := (by omega)); (try have z6_1 : w.heap.size + 1 < w6.heap.size := (by omega)); (try have z6_2 : w1.heap.size < w6.heap.size := (by omega)); (try have z6_3 : w2.heap.size < w6.heap.size := (by omega)); (try have z6_4 : w3.heap.size < w6.heap.size := (by omega)); (try have z6_5 : w4.heap.size < w6.heap.size := (by omega)); (try have z6_6 : w5.heap.size < w6.heap.size := (by omega)); clear s6) | ((with_reducible refine (m _).mono ?_); clear m; rintro e w7 ⟨rfl, hw7⟩; have hc7 := Tail.cells hw7; have s7 := hw7.size; (try simp at s7); (try have z7_0 : w.heap.size < w7.heap.size := (by omega)); (try have z7_1 : w.heap.size + 1 < w7.heap.size := (by omega)); (try have z7_2 : w1.heap.size < w7.heap.size := (by omega)); (try have z7_3 : w2.heap.size < w7.heap.size := (by omega)); (try have z7_4 : w3.heap.size < w7.heap.size := (by omega)); (try have z7_5 : w4.heap.size < w7.heap.size := (by omega)); (try have z7_6 : w5.heap.size < w7.heap.size := (by omega)); (try have z7_7 : w6.heap.size < w7.heap.size := (by omega)); clear s7))
  rcases h1 with ⟨rfl, rfl⟩ | ⟨h1, h1'⟩ <;> rcases h2 with ⟨rfl, rfl, rfl⟩ | ⟨h2, h2'⟩
  all_goals
    refine Tail.region_below (by kernel_rfl) (by kernel_rfl) ?_
    repeat (go_big_quiet_step (first | (with_reducible exact Calls.regrown_of (ro _)) | (with_reducible exact Calls.regrown_of (kn _))))
    refine wpQuiet_nil ?_
    intro w9 hw9
    go_wp2
    go_ret
    exact ⟨rfl, by repeat (first | (with_reducible exact Below.refl _ _) | (with_reducible refine Below.setCell ?_ ?_ _) | (with_reducible refine Below.drew ?_) | (with_reducible refine Below.alloc ?_ ?_ _) | (with_reducible refine Below.trans ?_ (Below.mono hw9 ?_)) | (with_reducible refine Below.trans ?_ (Below.mono hw7 ?_)) | (with_reducible refine Below.trans ?_ (Below.mono hw6 ?_)) | (with_reducible refine Below.trans ?_ (Below.mono hw5 ?_)) | (with_reducible refine Below.trans ?_ (Below.mono hw4 ?_)) | (with_reducible refine Below.trans ?_ (Below.mono hw3 ?_)) | (with_reducible refine Below.trans ?_ (Below.mono hw2 ?_)) | (with_reducible refine Below.trans ?_ (Below.mono hw1 ?_)) | (with_reducible exact hw9.size) | (with_reducible exact hw7.size) | (with_reducible exact hw6.size) | (with_reducible exact hw5.size) | (with_reducible exact hw4.size) | (with_reducible exact hw3.size) | (with_reducible exact hw2.size) | (with_reducible exact hw1.size) | omega | (simp <;> omega) | (simp <;> (have s := hw9.size; omega)) | (simp <;> (have s := hw7.size; omega)) | (simp <;> (have s := hw6.size; omega)) | (simp <;> (have s := hw5.size; omega)) | (simp <;> (have s := hw4.size; omega)) | (simp <;> (have s := hw3.size; omega)) | (simp <;> (have s := hw2.size; omega)) | (simp <;> (have s := hw1.size; omega)))⟩

set_option maxHeartbeats 800000 in
theorem quatConjugates_walk (x y : Q) (w : World) : Calls Try.prog 9 #[.agg #[.int .i64 x.a, .int .i64 x.b, .int .i64 x.c, .int .i64 x.d, .int .i64 x.n], .agg #[.int .i64 y.a, .int .i64 y.b, .int .i64 y.c, .int .i64 y.d, .int .i64 y.n]] w fun e w' => e = .returned (.bool true) ∧ Below w.heap.size w w' := by
  by_cases hx : V x
  · by_cases hy : V y
    · obtain ⟨r1, e1, h1, c1⟩ := prod_cases one [x, y, bar x] V.one (V3 hx hy hx.bar)
      obtain ⟨r2, e2, h2, c2⟩ := prod_cases one [x, y, bar x, bar y] V.one (V4 hx hy hx.bar hy.bar)
      have h2' : (e2 = 0 ∧ (0 : Int) = 0 ∧ decide (mul x y = mul y x) = decide (r2 = one)) ∨ ((e2 == 0) = false ∧ (e2 != 0) = true) := by
        rcases c2 with ⟨rfl, hv⟩ | ⟨rfl, rfl⟩
        · refine .inl ⟨rfl, rfl, ?_⟩
          have := comm_iff x y r2 hx hy h2
          simp [this]
        · exact .inr ⟨by decide, by decide⟩
      rcases c1 with ⟨rfl, hv⟩ | ⟨rfl, rfl⟩
      · exact quatConjugates_core x y r1 r2 (tr r1) (tr y) 0 e2 0 0 0 _ w (fun W => conj_ok x y r1 0 W hx hy h1) (fun W => refConj_ok x y r1 0 W hx hy h1) (fun W => comm_ok x y r2 e2 W hx hy h2) (fun W => refComm_ok x y r2 e2 W hx hy h2) (fun W => trace_ok r1 W hv) (fun W => trace_ok y W hy)
          (fun W => commute_ok x y _ _ _ W hx hy rfl rfl (differ_mul x y)) (.inl ⟨rfl, tr_conj x y r1 hx hy h1⟩) h2'
      · exact quatConjugates_core x y zero r2 (0, 0) (tr y) 3 e2 1 0 0 _ w (fun W => conj_ok x y zero 3 W hx hy h1) (fun W => refConj_ok x y zero 3 W hx hy h1) (fun W => comm_ok x y r2 e2 W hx hy h2) (fun W => refComm_ok x y r2 e2 W hx hy h2) (fun W => trace_bad zero W not_V_zero) (fun W => trace_ok y W hy)
          (fun W => commute_ok x y _ _ _ W hx hy rfl rfl (differ_mul x y)) (.inr ⟨by decide, by decide⟩) h2'
    · exact quatConjugates_core x y zero zero (0, 0) (0, 0) 1 1 1 1 1 false w (fun W => conj_bad x y W (.inr hy)) (fun W => refConj_bad x y W (.inr hy)) (fun W => comm_bad x y W (.inr hy)) (fun W => refComm_bad x y W (.inr hy)) (fun W => trace_bad zero W not_V_zero) (fun W => trace_bad y W hy)
        (fun W => commute_bad x y W (.inr hy)) (.inr ⟨by decide, by decide⟩) (.inr ⟨by decide, by decide⟩)
  · have ht : ∃ (t : Int × Int) (et : Int), ∀ W : World, Calls Try.prog 38 #[.agg #[.int .i64 y.a, .int .i64 y.b, .int .i64 y.c, .int .i64 y.d, .int .i64 y.n]] W fun e w' => e = .returned (.tuple #[.agg #[.int .i64 (t).1, .int .i64 (t).2], .int .i64 et]) ∧ Below W.heap.size W w' := by
      by_cases hy : V y
      · exact ⟨tr y, 0, fun W => trace_ok y W hy⟩
      · exact ⟨(0, 0), 1, fun W => trace_bad y W hy⟩
    obtain ⟨t, et, ht⟩ := ht
    exact quatConjugates_core x y zero zero (0, 0) t 1 1 1 et 1 false w (fun W => conj_bad x y W (.inl hx)) (fun W => refConj_bad x y W (.inl hx)) (fun W => comm_bad x y W (.inl hx)) (fun W => refComm_bad x y W (.inl hx)) (fun W => trace_bad zero W not_V_zero) ht
      (fun W => commute_bad x y W (.inl hx)) (.inr ⟨by decide, by decide⟩) (.inr ⟨by decide, by decide⟩)

/-! ### The statement of the law QuatConjugates, out of its walk -/
set_option maxRecDepth 100000 in
theorem quatConjugates_lifted (os : Os) (started : os.Started) (H : Type) (enc : TypeId × Value → H) :
    ReturnsInHanded {} Try.checked os 9 .any (Rows.quatConjugatesSpec.pre6 enc Try.prog Try.f9 Rows.quatConjugatesRow.domain false) (Rows.quatConjugatesSpec.post enc Try.prog Try.f9 false true false false) := by
  refine returnsInHanded_of_change (C := Try.checked) own started (by kernel_rfl) Try.func9
    (ChangeSpec.witness6 (enc := enc) (C := Try.checked) false ⟨#[], #[.agg #[.int .i64 0, .int .i64 0, .int .i64 0, .int .i64 0, .int .i64 0], .agg #[.int .i64 0, .int .i64 0, .int .i64 0, .int .i64 0, .int .i64 0]], []⟩ 8 (by kernel_rfl) (by kernel_rfl) (by kernel_rfl) (by kernel_rfl)) ?_
  intro W base args ds gs before hval0 hW hcnd _
  have hval : ∀ (j : Nat) t v, Try.f9.params[j]? = some t → args[j]? = some v → Value.okWide Try.prog W .any base t v := hval0
  have hW' := hW
  obtain ⟨p, q, hA0, hV, rfl, hfz, hnd⟩ := hW
  have hA : DataW.TrodAll enc Try.prog W 0 (fun _ => true) true Try.f9.params.toList args.toList ds p := hA0
  rw [Try.params9] at hA hval
  obtain ⟨v0, vs0, d0, ds0, p0, q0, hargs, rfl, rfl, h0, r0⟩ := trodAll_cons hA
  obtain ⟨v1, vs1, d1, ds1, p1, q1, rfl, rfl, rfl, h1, r1⟩ := trodAll_cons r0
  obtain ⟨rfl, rfl, rfl⟩ := trodAll_nil r1
  obtain rfl : args = #[v0, v1] := by cases args; simp_all
  obtain ⟨rfl, rfl⟩ := trodVars_none hV
  have k0 := h0
  have lt0 : ∀ x ∈ p0, x.block < W.heap.size := by obtain ⟨m, hm⟩ := k0; exact DataW.trod_lt m _ _ _ hm
  obtain ⟨x0, rfl⟩ := open_unit (hval 0 23 v0 rfl rfl) h0
  have k1 := h1
  have lt1 : ∀ x ∈ p1, x.block < W.heap.size := by obtain ⟨m, hm⟩ := k1; exact DataW.trod_lt m _ _ _ hm
  obtain ⟨x1, rfl⟩ := open_unit (hval 1 23 v1 rfl rfl) h1
  clear hA0 hval0
  refine (quatConjugates_walk x0 x1 W).mono fun e W' ⟨he, bel⟩ => ?_
  subst he
  exact ⟨_, rfl, _, _, _, [], _, [], hW', trodAll_mk1 (shut_bool Try.underlying4 _), (trodAll_cons_mk (Below.trod laidOut (by kernel_rfl) (of_decide_eq_true (by kernel_rfl)) k0 bel lt0) (trodAll_cons_mk (Below.trod laidOut (by kernel_rfl) (of_decide_eq_true (by kernel_rfl)) k1 bel lt1) trodAll_mk0)), rfl, bel.frame _, fun h => by cases h⟩

theorem quatConjugates_over : Rows.quatConjugatesRow.holds Try.pinned (OpenSpec.ofChange Rows.quatConjugatesSpec) :=
  OpenClaim.holds_of_wide 9 Try.f9 rfl rfl rfl rfl rfl rfl rfl ⟨rfl, rfl, rfl, rfl, rfl⟩ rfl rfl rfl rfl rfl (by kernel_rfl) Try.func9 (by kernel_rfl)
    (of_decide_eq_true (by kernel_rfl)) (by unfold Func.isWrapper; first | (rw [if_pos (by decide +kernel)]; kernel_rfl) | (rw [if_neg (by decide +kernel)]; exact ⟨rfl, rfl⟩))
    (fun os started H enc _ => quatConjugates_lifted os started H enc)

theorem quatConjugates_holds : Rows.QuatConjugatesSaid := quatConjugates_over
#print axioms quatConjugates_holds

end Go.Proofs.Ytecoemdpfpdeoaa
