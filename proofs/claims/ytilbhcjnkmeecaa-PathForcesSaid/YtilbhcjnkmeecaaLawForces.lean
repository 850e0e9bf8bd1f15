/- PathForces: the force on a link is what the document says, for all fields and links.
Conditions: none. -/
import Derived.Test.YtilbhcjnkmeecaaKhC
import Derived.Test.YtilbhcjnkmeecaaSane6
import Derived.Test.YtilbhcjnkmeecaaLawValF
import Derived.Test.YtilbhcjnkmeecaaOpen3
import Derived.Test.YtilbhcjnkmeecaaJFacts
namespace Go.Proofs.Ytilbhcjnkmeecaa
set_option linter.unusedVariables false
set_option linter.unusedSimpArgs false
set_option maxRecDepth 1000000
open Go.ChangeShapes Go.WideShapes Go.ChangeAt Go.RowKit
open Um Tm Cm Km

set_option maxHeartbeats 3200000 in
theorem pathForces_ok (a b c i r0 x y z r : Int) (ao : Option Addr) (cap : Nat) (L : List Q) (ns : List Int) (w : World) (h : LiesO w ao L) (hr : numsR a b c L ns r0) (hf : frR a b c L r0 i x y z r) (hlen : L.length ≤ 100) : Calls Try.prog 5 #[.agg #[.int .i64 a, .int .i64 b, .int .i64 c, .slice ao L.length cap], .int .i64 i] w fun e w' => e = .returned (.bool true) ∧ Below w.heap.size w w' := by
  have kn := known6_any
  have H := Lib.hid h
  have c0 := fun W : World => long_any a b c ao cap L.length false W (.inl ⟨hlen, rfl⟩)
  have c1 := fun (W : World) (h : LiesO W ao L) => force_any a b c r0 i x y z r ao cap L ns W h hr hf (by omega)
  have c2 := fun (W : World) (h : LiesO W ao L) => refForce_any a b c r0 i x y z r ao cap L ns W h hr hf (by omega)
  have q3 := eqA3 x y z
  clear h hr hf
  go_enter Try.func5, Try.ntmps5
  go_wp2_with (first | ((with_reducible refine (c0 _).mono ?_); clear c0; rintro e w1 ⟨rfl, hw1⟩; have hc1 := Tail.cells hw1; have s1 := hw1.size; simp at s1; have z1 : w.heap.size < w1.heap.size := (by omega); clear s1) | ((with_reducible refine (c1 _ (H.out.later (by repeat (first | (with_reducible exact Below.refl _ _) | (with_reducible refine Below.setCell ?_ ?_ _) | (with_reducible refine Below.drew ?_) | (with_reducible refine Below.alloc ?_ ?_ _) | (with_reducible refine Below.trans ?_ (Below.mono hw1 ?_)) | (with_reducible exact hw1.size) | omega | (simp <;> omega) | (simp <;> (have s := hw1.size; omega)) | (have s0 := hw1.size; (try simp at s0); (try simp); omega))))).mono ?_); clear c1; rintro e w2 ⟨rfl, hw2⟩; have hc2 := Tail.cells hw2; have z2 : w.heap.size < w2.heap.size := (by have := hw2.size; omega)) | ((with_reducible refine (c2 _ (H.out.later (by repeat (first | (with_reducible exact Below.refl _ _) | (with_reducible refine Below.setCell ?_ ?_ _) | (with_reducible refine Below.drew ?_) | (with_reducible refine Below.alloc ?_ ?_ _) | (with_reducible refine Below.trans ?_ (Below.mono hw2 ?_)) | (with_reducible refine Below.trans ?_ (Below.mono hw1 ?_)) | (with_reducible exact hw2.size) | (with_reducible exact hw1.size) | omega | (simp <;> omega) | (simp <;> (have s := hw2.size; omega)) | (simp <;> (have s := hw1.size; omega)) | (have s0 := hw2.size; (try simp at s0); have s1 := hw1.size; (try simp at s1); (try simp); omega))))).mono ?_); clear c2; rintro e w3 ⟨rfl, hw3⟩; have hc3 := Tail.cells hw3; have z3 : w2.heap.size < w3.heap.size := (by have := hw3.size; simp at this; omega)) | ((with_reducible refine (kn _).mono ?_); clear kn; rintro e w4 ⟨rfl, hw4⟩))
  go_ret
  exact ⟨rfl, by repeat (first | (with_reducible exact Below.refl _ _) | (with_reducible refine Below.setCell ?_ ?_ _) | (with_reducible refine Below.drew ?_) | (with_reducible refine Below.alloc ?_ ?_ _) | (with_reducible refine Below.trans ?_ (Below.mono hw4 ?_)) | (with_reducible refine Below.trans ?_ (Below.mono hw3 ?_)) | (with_reducible refine Below.trans ?_ (Below.mono hw2 ?_)) | (with_reducible refine Below.trans ?_ (Below.mono hw1 ?_)) | (with_reducible exact hw4.size) | (with_reducible exact hw3.size) | (with_reducible exact hw2.size) | (with_reducible exact hw1.size) | omega | (simp <;> omega) | (simp <;> (have s := hw4.size; omega)) | (simp <;> (have s := hw3.size; omega)) | (simp <;> (have s := hw2.size; omega)) | (simp <;> (have s := hw1.size; omega)) | (have s0 := hw4.size; (try simp at s0); have s1 := hw3.size; (try simp at s1); have s2 := hw2.size; (try simp at s2); have s3 := hw1.size; (try simp at s3); (try simp); omega))⟩
theorem pathForces_long (a b c i : Int) (ao : Option Addr) (cap : Nat) (L : List Q) (w : World) (hlen : 100 < L.length) : Calls Try.prog 5 #[.agg #[.int .i64 a, .int .i64 b, .int .i64 c, .slice ao L.length cap], .int .i64 i] w fun e w' => e = .returned (.bool true) ∧ Below w.heap.size w w' := by
  have kn := known6_any
  have c0 := fun W : World => long_any a b c ao cap L.length true W (.inr ⟨hlen, rfl⟩)
  clear hlen
  go_enter Try.func5, Try.ntmps5
  go_wp2_with (first | ((with_reducible refine (c0 _).mono ?_); clear c0; rintro e w1 ⟨rfl, hw1⟩; have hc1 := Tail.cells hw1; have s1 := hw1.size; (try simp at s1); (try have z1_0 : w.heap.size < w1.heap.size := (by omega)); clear s1) | ((with_reducible refine (kn _).mono ?_); clear kn; rintro e w2 ⟨rfl, hw2⟩; have hc2 := Tail.cells hw2; have s2 := hw2.size; (try simp at s2); (try have z2_0 : w.heap.size < w2.heap.size := (by omega)); (try have z2_1 : w1.heap.size < w2.heap.size := (by omega)); clear s2))
  go_ret
  exact ⟨rfl, by repeat (first | (with_reducible exact Below.refl _ _) | (with_reducible refine Below.setCell ?_ ?_ _) | (with_reducible refine Below.drew ?_) | (with_reducible refine Below.alloc ?_ ?_ _) | (with_reducible refine Below.trans ?_ (Below.mono hw2 ?_)) | (with_reducible refine Below.trans ?_ (Below.mono hw1 ?_)) | (with_reducible exact hw2.size) | (with_reducible exact hw1.size) | omega | (simp <;> omega) | (simp <;> (have s := hw2.size; omega)) | (simp <;> (have s := hw1.size; omega)) | (have s0 := hw2.size; (try simp at s0); have s1 := hw1.size; (try simp at s1); (try simp); omega))⟩
theorem pathForces_walk (a b c : Int) (ao : Option Addr) (L : List Q) (cap : Nat) (i : Int) (w : World) (_ : L.length ≤ maxLen) (h : LiesO w ao L) : Calls Try.prog 5 #[.agg #[.int .i64 a, .int .i64 b, .int .i64 c, .slice ao L.length cap], .int .i64 i] w fun e w' => e = .returned (.bool true) ∧ Below w.heap.size w w' := by
  by_cases hlen : L.length ≤ 100
  · obtain ⟨ns, r0, hr⟩ := numsR_ex a b c L
    obtain ⟨x, y, z, r, hf⟩ := frR_ex a b c L r0 i
    exact pathForces_ok a b c i r0 x y z r ao cap L ns w h hr hf hlen
  · exact pathForces_long a b c i ao cap L w (by omega)

/-! ### The statement of the law PathForces, out of its walk -/
set_option maxRecDepth 100000 in
theorem pathForces_lifted (os : Os) (started : os.Started) (H : Type) (enc : TypeId × Value → H) :
    ReturnsInHanded {} Try.checked os 5 .any (Rows.pathForcesSpec.pre6 enc Try.prog Try.f5 Rows.pathForcesRow.domain false) (Rows.pathForcesSpec.post enc Try.prog Try.f5 false true false false) := by
  refine returnsInHanded_of_change (C := Try.checked) own started (by kernel_rfl) Try.func5
    (ChangeSpec.witness6 (enc := enc) (C := Try.checked) false ⟨#[], #[.agg #[.int .i64 0, .int .i64 0, .int .i64 0, .slice none 0 0], .int .i64 0], []⟩ 8 (by kernel_rfl) (by kernel_rfl) (by kernel_rfl) (by kernel_rfl)) ?_
  intro W base args ds gs before hval0 hW hcnd _
  have hval : ∀ (j : Nat) t v, Try.f5.params[j]? = some t → args[j]? = some v → Value.okWide Try.prog W .any base t v := hval0
  have hW' := hW
  obtain ⟨p, q, hA0, hV, rfl, hfz, hnd⟩ := hW
  have hA : DataW.TrodAll enc Try.prog W 0 (fun _ => true) true Try.f5.params.toList args.toList ds p := hA0
  rw [Try.params5] at hA hval
  obtain ⟨v0, vs0, d0, ds0, p0, q0, hargs, rfl, rfl, h0, r0⟩ := trodAll_cons hA
  obtain ⟨v1, vs1, d1, ds1, p1, q1, rfl, rfl, rfl, h1, r1⟩ := trodAll_cons r0
  obtain ⟨rfl, rfl, rfl⟩ := trodAll_nil r1
  obtain rfl : args = #[v0, v1] := by cases args; simp_all
  obtain ⟨rfl, rfl⟩ := trodVars_none hV
  have k0 := h0
  have lt0 : ∀ x ∈ p0, x.block < W.heap.size := by obtain ⟨m, hm⟩ := k0; exact DataW.trod_lt m _ _ _ hm
  obtain ⟨x0, y0, z0, ao0, L0, cap0, rfl, hl0, hm0⟩ := open_field (hval 0 25 v0 rfl rfl) h0
  have k1 := h1
  have lt1 : ∀ x ∈ p1, x.block < W.heap.size := by obtain ⟨m, hm⟩ := k1; exact DataW.trod_lt m _ _ _ hm
  obtain ⟨x1, e1, -, -, -⟩ := open_int Try.underlying3 (hval 1 3 v1 rfl rfl) h1
  subst e1
  clear hA0 hval0
  refine (pathForces_walk x0 y0 z0 ao0 L0 cap0 x1 W hl0 hm0).mono fun e W' ⟨he, bel⟩ => ?_
  subst he
  exact ⟨_, rfl, _, _, _, [], _, [], hW', trodAll_mk1 (shut_bool Try.underlying4 _), (trodAll_cons_mk (Below.trod laidOut (by kernel_rfl) (of_decide_eq_true (by kernel_rfl)) k0 bel lt0) (trodAll_cons_mk (Below.trod laidOut (by kernel_rfl) (of_decide_eq_true (by kernel_rfl)) k1 bel lt1) trodAll_mk0)), rfl, bel.frame _, fun h => by cases h⟩

theorem pathForces_jf9 : (Rows.pathForcesRow.inPlace == Try.prog.inPlace 5) = true := by kernel_rfl
theorem pathForces_jf10 : (Rows.pathForcesRow.unfollowed == Try.prog.unfollowed 5) = true := by kernel_rfl
theorem pathForces_jf11 : (Rows.pathForcesRow.recurses == Try.prog.recurses 5) = true := by kernel_rfl
theorem pathForces_jf12 : (Rows.pathForcesRow.named == Try.prog.varsNamed 5) = true := by kernel_rfl
theorem pathForces_facts : joinedFacts Try.prog 5 Try.f5 Rows.pathForcesSpec Rows.pathForcesRow = true := by
  unfold joinedFacts
  exact (band (band (band (band (band (band (band (band (band (band (band (band (band (band (band (band (band (band (band (band (band (band (band (band (band (band (band (band (band (band (band (by kernel_rfl) jf1) jf2) (by kernel_rfl)) (by kernel_rfl)) (by kernel_rfl)) jf6) (by kernel_rfl)) jf8) pathForces_jf9) pathForces_jf10) pathForces_jf11) pathForces_jf12) (by kernel_rfl)) (by kernel_rfl)) (by kernel_rfl)) (by kernel_rfl)) (by kernel_rfl)) (by kernel_rfl)) (by kernel_rfl)) (by kernel_rfl)) (by kernel_rfl)) (by kernel_rfl)) (by kernel_rfl)) jf24) jf25) jf26) jf27) (by kernel_rfl)) (by kernel_rfl)) (by kernel_rfl)) (by kernel_rfl))

theorem pathForces_over : Rows.pathForcesRow.holds Try.pinned (OpenSpec.ofChange Rows.pathForcesSpec) :=
  OpenClaim.holds_of_wide 5 Try.f5 rfl rfl rfl rfl rfl rfl rfl ⟨rfl, rfl, rfl, rfl, rfl⟩ rfl rfl rfl rfl rfl (by kernel_rfl) Try.func5 pathForces_facts
    (of_decide_eq_true (by kernel_rfl)) (by unfold Func.isWrapper; first | (rw [if_pos (by decide +kernel)]; kernel_rfl) | (rw [if_neg (by decide +kernel)]; exact ⟨rfl, rfl⟩))
    (fun os started H enc _ => pathForces_lifted os started H enc)

theorem pathForces_holds : Rows.PathForcesSaid := pathForces_over
#print axioms pathForces_holds

end Go.Proofs.Ytilbhcjnkmeecaa
