/- PathAccepts: which changes of the energy a draw accepts is what the document says, for all numbers, and a draw that accepts a change accepts all smaller ones.
Conditions: none. -/
import Derived.Test.YtdplojcbfdbgnaaSane6
import Derived.Test.YtdplojcbfdbgnaaOpen3
import Derived.Test.YtdplojcbfdbgnaaJFacts
namespace Go.Proofs.Ytdplojcbfdbgnaa
set_option linter.unusedVariables false
set_option linter.unusedSimpArgs false
set_option maxRecDepth 1000000
open Go.ChangeShapes Go.WideShapes Go.ChangeAt Go.RowKit
open Um Km

set_option maxHeartbeats 1600000 in
theorem pathAccepts_walk (ch d l : Int) (w : World) : Calls Try.prog 10 #[.int .i64 ch, .int .i64 d, .int .i64 l] w fun e w' => e = .returned (.bool true) ∧ Below w.heap.size w w' := by
  have kn := known6_any
  obtain ⟨b, r, h1⟩ := accR_ex ch d
  obtain ⟨c, g, h2⟩ := accR_ex l d
  have c1 := fun W : World => accept_any ch d r b W h1
  have c2 := fun W : World => refAccept_any ch d r b W h1
  have c3 := fun W : World => accept_any l d g c W h2
  have key : b = true → ¬ ch < l → g = 0 ∧ c = true := fun hb hl => by
    rcases h1 with ⟨k, rfl, rfl⟩ | ⟨k, rfl, rfl⟩
    · rcases h2 with ⟨m, rfl, rfl⟩ | ⟨m, rfl, rfl⟩
      · exact ⟨rfl, acc_less hb (by omega)⟩
      · exact absurd k m
    · cases hb
  clear h1 h2
  cases b with
  | false =>
    clear key
    go_enter Try.func10, Try.ntmps10
    go_wp2_with (first | ((with_reducible refine (c1 _).mono ?_); clear c1; rintro e w1 ⟨rfl, rfl⟩) | ((with_reducible refine (c2 _).mono ?_); clear c2; rintro e w1 ⟨rfl, rfl⟩) | ((with_reducible refine (c3 _).mono ?_); clear c3; rintro e w1 ⟨rfl, rfl⟩) | ((with_reducible refine (kn _).mono ?_); rintro e w5 ⟨rfl, hw5⟩))
    go_ret
    exact ⟨rfl, by repeat (first | (with_reducible exact Below.refl _ _) | (with_reducible refine Below.setCell ?_ ?_ _) | (with_reducible refine Below.drew ?_) | (with_reducible refine Below.alloc ?_ ?_ _) | (with_reducible refine Below.trans ?_ (Below.mono hw5 ?_)) | (with_reducible exact hw5.size) | omega | (simp <;> omega) | (simp <;> (have s := hw5.size; omega)) | (have s0 := hw5.size; (try simp at s0); (try simp); omega))⟩
  | true =>
    by_cases hl : ch < l
    · clear key
      go_enter Try.func10, Try.ntmps10
      go_wp2_with (first | ((with_reducible refine (c1 _).mono ?_); clear c1; rintro e w1 ⟨rfl, rfl⟩) | ((with_reducible refine (c2 _).mono ?_); clear c2; rintro e w1 ⟨rfl, rfl⟩) | ((with_reducible refine (c3 _).mono ?_); clear c3; rintro e w1 ⟨rfl, rfl⟩) | ((with_reducible refine (kn _).mono ?_); rintro e w5 ⟨rfl, hw5⟩))
      go_ret
      exact ⟨rfl, by repeat (first | (with_reducible exact Below.refl _ _) | (with_reducible refine Below.setCell ?_ ?_ _) | (with_reducible refine Below.drew ?_) | (with_reducible refine Below.alloc ?_ ?_ _) | (with_reducible refine Below.trans ?_ (Below.mono hw5 ?_)) | (with_reducible exact hw5.size) | omega | (simp <;> omega) | (simp <;> (have s := hw5.size; omega)) | (have s0 := hw5.size; (try simp at s0); (try simp); omega))⟩
    · obtain ⟨rfl, rfl⟩ := key rfl hl
      clear key
      go_enter Try.func10, Try.ntmps10
      go_wp2_with (first | ((with_reducible refine (c1 _).mono ?_); clear c1; rintro e w1 ⟨rfl, rfl⟩) | ((with_reducible refine (c2 _).mono ?_); clear c2; rintro e w1 ⟨rfl, rfl⟩) | ((with_reducible refine (c3 _).mono ?_); clear c3; rintro e w1 ⟨rfl, rfl⟩) | ((with_reducible refine (kn _).mono ?_); rintro e w5 ⟨rfl, hw5⟩))
      go_ret
      exact ⟨rfl, by repeat (first | (with_reducible exact Below.refl _ _) | (with_reducible refine Below.setCell ?_ ?_ _) | (with_reducible refine Below.drew ?_) | (with_reducible refine Below.alloc ?_ ?_ _) | (with_reducible refine Below.trans ?_ (Below.mono hw5 ?_)) | (with_reducible exact hw5.size) | omega | (simp <;> omega) | (simp <;> (have s := hw5.size; omega)) | (have s0 := hw5.size; (try simp at s0); (try simp); omega))⟩

/-! ### The statement of the law PathAccepts, out of its walk -/
set_option maxRecDepth 100000 in
theorem pathAccepts_lifted (os : Os) (started : os.Started) (H : Type) (enc : TypeId × Value → H) :
    ReturnsInHanded {} Try.checked os 10 .any (Rows.pathAcceptsSpec.pre6 enc Try.prog Try.f10 Rows.pathAcceptsRow.domain false) (Rows.pathAcceptsSpec.post enc Try.prog Try.f10 false true false false) := by
  refine returnsInHanded_of_change (C := Try.checked) own started (by kernel_rfl) Try.func10
    (ChangeSpec.witness6 (enc := enc) (C := Try.checked) false ⟨#[], #[.int .i64 0, .int .i64 0, .int .i64 0], []⟩ 8 (by kernel_rfl) (by kernel_rfl) (by kernel_rfl) (by kernel_rfl)) ?_
  intro W base args ds gs before hval0 hW hcnd _
  have hval : ∀ (j : Nat) t v, Try.f10.params[j]? = some t → args[j]? = some v → Value.okWide Try.prog W .any base t v := hval0
  have hW' := hW
  obtain ⟨p, q, hA0, hV, rfl, hfz, hnd⟩ := hW
  have hA : DataW.TrodAll enc Try.prog W 0 (fun _ => true) true Try.f10.params.toList args.toList ds p := hA0
  rw [Try.params10] at hA hval
  obtain ⟨v0, vs0, d0, ds0, p0, q0, hargs, rfl, rfl, h0, r0⟩ := trodAll_cons hA
  obtain ⟨v1, vs1, d1, ds1, p1, q1, rfl, rfl, rfl, h1, r1⟩ := trodAll_cons r0
  obtain ⟨v2, vs2, d2, ds2, p2, q2, rfl, rfl, rfl, h2, r2⟩ := trodAll_cons r1
  obtain ⟨rfl, rfl, rfl⟩ := trodAll_nil r2
  obtain rfl : args = #[v0, v1, v2] := by cases args; simp_all
  obtain ⟨rfl, rfl⟩ := trodVars_none hV
  have k0 := h0
  have lt0 : ∀ x ∈ p0, x.block < W.heap.size := by obtain ⟨m, hm⟩ := k0; exact DataW.trod_lt m _ _ _ hm
  obtain ⟨x0, e0, -, -, -⟩ := open_int Try.underlying3 (hval 0 3 v0 rfl rfl) h0
  subst e0
  have k1 := h1
  have lt1 : ∀ x ∈ p1, x.block < W.heap.size := by obtain ⟨m, hm⟩ := k1; exact DataW.trod_lt m _ _ _ hm
  obtain ⟨x1, e1, -, -, -⟩ := open_int Try.underlying3 (hval 1 3 v1 rfl rfl) h1
  subst e1
  have k2 := h2
  have lt2 : ∀ x ∈ p2, x.block < W.heap.size := by obtain ⟨m, hm⟩ := k2; exact DataW.trod_lt m _ _ _ hm
  obtain ⟨x2, e2, -, -, -⟩ := open_int Try.underlying3 (hval 2 3 v2 rfl rfl) h2
  subst e2
  clear hA0 hval0
  refine (pathAccepts_walk x0 x1 x2 W).mono fun e W' ⟨he, bel⟩ => ?_
  subst he
  exact ⟨_, rfl, _, _, _, [], _, [], hW', trodAll_mk1 (shut_bool Try.underlying4 _), (trodAll_cons_mk (Below.trod laidOut (by kernel_rfl) (of_decide_eq_true (by kernel_rfl)) k0 bel lt0) (trodAll_cons_mk (Below.trod laidOut (by kernel_rfl) (of_decide_eq_true (by kernel_rfl)) k1 bel lt1) (trodAll_cons_mk (Below.trod laidOut (by kernel_rfl) (of_decide_eq_true (by kernel_rfl)) k2 bel lt2) trodAll_mk0))), rfl, bel.frame _, fun h => by cases h⟩

theorem pathAccepts_jf9 : (Rows.pathAcceptsRow.inPlace == Try.prog.inPlace 10) = true := by kernel_rfl
theorem pathAccepts_jf10 : (Rows.pathAcceptsRow.unfollowed == Try.prog.unfollowed 10) = true := by kernel_rfl
theorem pathAccepts_jf11 : (Rows.pathAcceptsRow.recurses == Try.prog.recurses 10) = true := by kernel_rfl
theorem pathAccepts_jf12 : (Rows.pathAcceptsRow.named == Try.prog.varsNamed 10) = true := by kernel_rfl
theorem pathAccepts_facts : joinedFacts Try.prog 10 Try.f10 Rows.pathAcceptsSpec Rows.pathAcceptsRow = true := by
  unfold joinedFacts
  exact (band (band (band (band (band (band (band (band (band (band (band (band (band (band (band (band (band (band (band (band (band (band (band (band (band (band (band (band (band (band (band (by kernel_rfl) jf1) jf2) (by kernel_rfl)) (by kernel_rfl)) (by kernel_rfl)) jf6) (by kernel_rfl)) jf8) pathAccepts_jf9) pathAccepts_jf10) pathAccepts_jf11) pathAccepts_jf12) (by kernel_rfl)) (by kernel_rfl)) (by kernel_rfl)) (by kernel_rfl)) (by kernel_rfl)) (by kernel_rfl)) (by kernel_rfl)) (by kernel_rfl)) (by kernel_rfl)) (by kernel_rfl)) (by kernel_rfl)) jf24) jf25) jf26) jf27) (by kernel_rfl)) (by kernel_rfl)) (by kernel_rfl)) (by kernel_rfl))

theorem pathAccepts_over : Rows.pathAcceptsRow.holds Try.pinned (OpenSpec.ofChange Rows.pathAcceptsSpec) :=
  OpenClaim.holds_of_wide 10 Try.f10 rfl rfl rfl rfl rfl rfl rfl ⟨rfl, rfl, rfl, rfl, rfl⟩ rfl rfl rfl rfl rfl (by kernel_rfl) Try.func10 pathAccepts_facts
    (of_decide_eq_true (by kernel_rfl)) (by unfold Func.isWrapper; first | (rw [if_pos (by decide +kernel)]; kernel_rfl) | (rw [if_neg (by decide +kernel)]; exact ⟨rfl, rfl⟩))
    (fun os started H enc _ => pathAccepts_lifted os started H enc)

theorem pathAccepts_holds : Rows.PathAcceptsSaid := pathAccepts_over
#print axioms pathAccepts_holds

end Go.Proofs.Ytdplojcbfdbgnaa
