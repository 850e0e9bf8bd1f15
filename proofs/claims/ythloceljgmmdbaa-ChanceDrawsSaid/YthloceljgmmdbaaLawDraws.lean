/- ChanceDraws: the next seeds, and the draws among a number, are what the document says, for all numbers.
Conditions: none. -/
import Derived.Test.YthloceljgmmdbaaSane5
import Derived.Test.YthloceljgmmdbaaOpen3
import Derived.Test.YthloceljgmmdbaaJFacts
namespace Go.Proofs.Ythloceljgmmdbaa
set_option linter.unusedVariables false
set_option linter.unusedSimpArgs false
set_option maxRecDepth 1000000
open Go.ChangeShapes Go.WideShapes Go.ChangeAt Go.RowKit
open Cm

set_option maxHeartbeats 1600000 in
theorem chanceDraws_walk (s n : Int) (w : World) : Calls Try.prog 3 #[.int .i64 s, .int .i64 n] w fun e w' => e = .returned (.bool true) ∧ Below w.heap.size w w' := by
  obtain ⟨r, er, h1⟩ := stepR_ex s
  obtain ⟨d, t, e, h2⟩ := drawR_ex s n
  have c1 := fun W : World => step_any s r er W h1
  have c2 := fun W : World => refStep_any s r er W h1
  have c3 := fun W : World => draw_any s n d t e W h2
  have c4 := fun W : World => refDraw_any s n d t e W h2
  have kn := sane5_any
  clear h1 h2
  go_enter Try.func3, Try.ntmps3
  go_wp2_with (first | ((with_reducible refine (c1 _).mono ?_); rintro e w1 ⟨rfl, rfl⟩) | ((with_reducible refine (c2 _).mono ?_); rintro e w1 ⟨rfl, rfl⟩) | ((with_reducible refine (c3 _).mono ?_); rintro e w3 ⟨rfl, hw3⟩) | ((with_reducible refine (c4 _).mono ?_); rintro e w1 ⟨rfl, rfl⟩) | ((with_reducible refine (kn _).mono ?_); rintro e w5 ⟨rfl, hw5⟩))
  go_ret
  exact ⟨rfl, by repeat (first | (with_reducible exact Below.refl _ _) | (with_reducible refine Below.setCell ?_ ?_ _) | (with_reducible refine Below.drew ?_) | (with_reducible refine Below.alloc ?_ ?_ _) | (with_reducible refine Below.trans ?_ (Below.mono hw5 ?_)) | (with_reducible refine Below.trans ?_ (Below.mono hw3 ?_)) | (with_reducible exact hw5.size) | (with_reducible exact hw3.size) | omega | (simp <;> omega) | (simp <;> (have s := hw5.size; omega)) | (simp <;> (have s := hw3.size; omega)) | (have s0 := hw5.size; (try simp at s0); have s1 := hw3.size; (try simp at s1); (try simp); omega))⟩

/-! ### The statement of the law ChanceDraws, out of its walk -/
set_option maxRecDepth 100000 in
theorem chanceDraws_lifted (os : Os) (started : os.Started) (H : Type) (enc : TypeId × Value → H) :
    ReturnsInHanded {} Try.checked os 3 .any (Rows.chanceDrawsSpec.pre6 enc Try.prog Try.f3 Rows.chanceDrawsRow.domain false) (Rows.chanceDrawsSpec.post enc Try.prog Try.f3 false true false false) := by
  refine returnsInHanded_of_change (C := Try.checked) own started (by kernel_rfl) Try.func3
    (ChangeSpec.witness6 (enc := enc) (C := Try.checked) false ⟨#[], #[.int .i64 0, .int .i64 0], []⟩ 8 (by kernel_rfl) (by kernel_rfl) (by kernel_rfl) (by kernel_rfl)) ?_
  intro W base args ds gs before hval0 hW hcnd _
  have hval : ∀ (j : Nat) t v, Try.f3.params[j]? = some t → args[j]? = some v → Value.okWide Try.prog W .any base t v := hval0
  have hW' := hW
  obtain ⟨p, q, hA0, hV, rfl, hfz, hnd⟩ := hW
  have hA : DataW.TrodAll enc Try.prog W 0 (fun _ => true) true Try.f3.params.toList args.toList ds p := hA0
  rw [Try.params3] at hA hval
  obtain ⟨v0, vs0, d0, ds0, p0, q0, hargs, rfl, rfl, h0, r0⟩ := trodAll_cons hA
  obtain ⟨v1, vs1, d1, ds1, p1, q1, rfl, rfl, rfl, h1, r1⟩ := trodAll_cons r0
  obtain ⟨rfl, rfl, rfl⟩ := trodAll_nil r1
  obtain rfl : args = #[v0, v1] := by cases args; simp_all
  obtain ⟨rfl, rfl⟩ := trodVars_none hV
  have k0 := h0
  have lt0 : ∀ x ∈ p0, x.block < W.heap.size := by obtain ⟨m, hm⟩ := k0; exact DataW.trod_lt m _ _ _ hm
  obtain ⟨x0, e0, -, -, -⟩ := open_int Try.underlying3 (hval 0 3 v0 rfl rfl) h0
  subst e0
  have k1 := h1
  have lt1 : ∀ x ∈ p1, x.block < W.heap.size := by obtain ⟨m, hm⟩ := k1; exact DataW.trod_lt m _ _ _ hm
  obtain ⟨x1, e1, -, -, -⟩ := open_int Try.underlying3 (hval 1 3 v1 rfl rfl) h1
  subst e1
  clear hA0 hval0
  refine (chanceDraws_walk x0 x1 W).mono fun e W' ⟨he, bel⟩ => ?_
  subst he
  exact ⟨_, rfl, _, _, _, [], _, [], hW', trodAll_mk1 (shut_bool Try.underlying4 _), (trodAll_cons_mk (Below.trod laidOut (by kernel_rfl) (of_decide_eq_true (by kernel_rfl)) k0 bel lt0) (trodAll_cons_mk (Below.trod laidOut (by kernel_rfl) (of_decide_eq_true (by kernel_rfl)) k1 bel lt1) trodAll_mk0)), rfl, bel.frame _, fun h => by cases h⟩

theorem chanceDraws_jf9 : (Rows.chanceDrawsRow.inPlace == Try.prog.inPlace 3) = true := by kernel_rfl
theorem chanceDraws_jf10 : (Rows.chanceDrawsRow.unfollowed == Try.prog.unfollowed 3) = true := by kernel_rfl
theorem chanceDraws_jf11 : (Rows.chanceDrawsRow.recurses == Try.prog.recurses 3) = true := by kernel_rfl
theorem chanceDraws_jf12 : (Rows.chanceDrawsRow.named == Try.prog.varsNamed 3) = true := by kernel_rfl
theorem chanceDraws_facts : joinedFacts Try.prog 3 Try.f3 Rows.chanceDrawsSpec Rows.chanceDrawsRow = true := by
  unfold joinedFacts
  exact (band (band (band (band (band (band (band (band (band (band (band (band (band (band (band (band (band (band (band (band (band (band (band (band (band (band (band (band (band (band (band (by kernel_rfl) jf1) jf2) (by kernel_rfl)) (by kernel_rfl)) (by kernel_rfl)) jf6) (by kernel_rfl)) jf8) chanceDraws_jf9) chanceDraws_jf10) chanceDraws_jf11) chanceDraws_jf12) (by kernel_rfl)) (by kernel_rfl)) (by kernel_rfl)) (by kernel_rfl)) (by kernel_rfl)) (by kernel_rfl)) (by kernel_rfl)) (by kernel_rfl)) (by kernel_rfl)) (by kernel_rfl)) (by kernel_rfl)) jf24) jf25) jf26) jf27) (by kernel_rfl)) (by kernel_rfl)) (by kernel_rfl)) (by kernel_rfl))

theorem chanceDraws_over : Rows.chanceDrawsRow.holds Try.pinned (OpenSpec.ofChange Rows.chanceDrawsSpec) :=
  OpenClaim.holds_of_wide 3 Try.f3 rfl rfl rfl rfl rfl rfl rfl ⟨rfl, rfl, rfl, rfl, rfl⟩ rfl rfl rfl rfl rfl (by kernel_rfl) Try.func3 chanceDraws_facts
    (of_decide_eq_true (by kernel_rfl)) (by unfold Func.isWrapper; first | (rw [if_pos (by decide +kernel)]; kernel_rfl) | (rw [if_neg (by decide +kernel)]; exact ⟨rfl, rfl⟩))
    (fun os started H enc _ => chanceDraws_lifted os started H enc)

theorem chanceDraws_holds : Rows.ChanceDrawsSaid := chanceDraws_over
#print axioms chanceDraws_holds

end Go.Proofs.Ythloceljgmmdbaa
