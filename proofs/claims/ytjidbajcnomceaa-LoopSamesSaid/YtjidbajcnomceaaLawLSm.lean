/- LoopSames: whether two sums are the same function is the document's, for all sums, in both orders.
Conditions: none. -/
import Derived.Test.YtjidbajcnomceaaJFacts
import Derived.Test.YtjidbajcnomceaaLoopKn
import Derived.Test.YtjidbajcnomceaaLoopG
import Derived.Test.YtjidbajcnomceaaOpenTm
namespace Go.Proofs.Ytjidbajcnomceaa
set_option linter.unusedVariables false
set_option linter.unusedSimpArgs false
set_option maxRecDepth 1000000
open Go.ChangeShapes Go.WideShapes Go.ChangeAt Go.RowKit
open Tm Lm

set_option maxHeartbeats 1600000 in
theorem lsm_many1 (ao bo : Option Addr) (ca cb : Nat) (l m : List E) (w : World) (h : Trs w ao l) (hf : ¬ few l) (hl : l.length ≤ maxLen) (hp : ∀ e ∈ l, e.p.length ≤ maxLen) : Calls Try.prog 7 #[.slice ao l.length ca, .slice bo m.length cb] w fun e w' => e = .returned (.bool true) ∧ Below w.heap.size w w' := by
  have kn := known3_any
  have cM := many_yes ao ca l w h hf hl hp
  clear h hf hp
  go_enter Try.func7, Try.ntmps7
  go_wp2_with (fail)
  refine cM.mono ?_
  rintro e w1 ⟨rfl, hw1⟩
  go_wp2_with (fail)
  refine (kn _).mono ?_
  rintro e w2 ⟨rfl, hw2⟩
  have hb := hw1.trans (hw2.mono hw1.size)
  go_wp2
  go_ret
  exact ⟨rfl, hb⟩
set_option maxHeartbeats 1600000 in
theorem lsm_many2 (ao bo : Option Addr) (ca cb : Nat) (l m : List E) (w : World) (h : Trs w ao l) (hf : few l) (h2 : Trs w bo m) (hf2 : ¬ few m) (hl : m.length ≤ maxLen) (hp : ∀ e ∈ m, e.p.length ≤ maxLen) : Calls Try.prog 7 #[.slice ao l.length ca, .slice bo m.length cb] w fun e w' => e = .returned (.bool true) ∧ Below w.heap.size w w' := by
  have kn := known3_any
  have cM := many_no ao ca l w h hf
  have cM2 := fun W h => many_yes bo cb m W h hf2 hl hp
  have H2 := Lib.hid h2
  clear h hf h2 hf2 hp
  go_enter Try.func7, Try.ntmps7
  go_wp2_with (fail)
  refine cM.mono ?_
  rintro e w1 ⟨rfl, hw1⟩
  go_wp2_with (fail)
  refine (cM2 _ (H2.out.later hw1)).mono ?_
  rintro e w2 ⟨rfl, hw2⟩
  have hb := hw1.trans (hw2.mono hw1.size)
  go_wp2_with (fail)
  refine (kn _).mono ?_
  rintro e w3 ⟨rfl, hw3⟩
  have hb3 := hb.trans (hw3.mono hb.size)
  go_wp2
  go_ret
  exact ⟨rfl, hb3⟩
theorem bothR_zero {l m : List E} : bothR l m = 0 ↔ vT (tm l) = 0 ∧ vT (tm m) = 0 := by
  unfold bothR
  constructor
  · intro h
    by_cases hv : vT (tm l) = 0
    · rw [if_pos hv] at h; exact ⟨hv, h⟩
    · rw [if_neg hv] at h; exact absurd h hv
  · intro h
    rw [if_pos h.1]
    exact h.2
set_option maxHeartbeats 3200000 in
theorem lsm_bad (ao bo : Option Addr) (ca cb : Nat) (l m : List E) (w : World) (h : Trs w ao l) (hf : few l) (h2 : Trs w bo m) (hf2 : few m) (h0 : bothR l m ≠ 0) : Calls Try.prog 7 #[.slice ao l.length ca, .slice bo m.length cb] w fun e w' => e = .returned (.bool true) ∧ Below w.heap.size w w' := by
  have kn := known3_any
  have cM := fun W h => many_no ao ca l W h hf
  have cM2 := fun W h => many_no bo cb m W h hf2
  obtain ⟨f1, f2⟩ := hf
  obtain ⟨g1, g2⟩ := hf2
  have f3 : ∀ e ∈ l, e.p.length ≤ 1000000 := fun e he => by have := f2 e he; omega
  have g3 : ∀ e ∈ m, e.p.length ≤ 1000000 := fun e he => by have := g2 e he; omega
  have c1 := fun W h h2 => Same_bad ao bo ca cb l m (bothR l m) W h h2 rfl h0 (by omega) f3 (by omega) g3
  have c2 := fun W h h2 => refSame_bad ao bo ca cb l m W h h2 h0 (by omega) f3 (by omega) g3
  have h0' : bothR m l ≠ 0 := fun e => h0 (bothR_zero.2 (bothR_zero.1 e).symm)
  have c3 := fun W h h2 => Same_bad bo ao cb ca m l (bothR m l) W h h2 rfl h0' (by omega) g3 (by omega) f3
  generalize bothR l m = r at *
  generalize bothR m l = s at *
  have q1 : (r != 0) = true := by simpa using h0
  have H := Lib.hid h
  have H2 := Lib.hid h2
  clear h h2 h0 h0' f2 g2 f3 g3
  go_enter Try.func7, Try.ntmps7
  go_wp2_with (fail)
  refine (cM _ H.out).mono ?_
  rintro e w1 ⟨rfl, hw1⟩
  clear cM
  go_wp2_with (fail)
  refine (cM2 _ (H2.out.later hw1)).mono ?_
  rintro e w2 ⟨rfl, hw2⟩
  have hb2 := hw1.trans (hw2.mono hw1.size)
  clear cM2 hw1 hw2
  go_wp2_with (fail)
  refine (c1 _ (H.out.later hb2) (H2.out.later hb2)).mono ?_
  rintro e w3 ⟨rfl, hw3⟩
  have hb3 := hb2.trans (hw3.mono hb2.size)
  clear c1 hw3
  go_wp2_with (fail)
  refine (c2 _ (H.out.later hb3) (H2.out.later hb3)).mono ?_
  rintro e w4 ⟨rfl, hw4⟩
  have hb4 := hb3.trans (hw4.mono hb3.size)
  clear c2 hw4
  go_wp2_with (fail)
  refine (c3 _ (H2.out.later hb4) (H.out.later hb4)).mono ?_
  rintro e w5 ⟨rfl, hw5⟩
  have hb5 := hb4.trans (hw5.mono hb4.size)
  clear c3 hw5
  go_wp2_with (fail)
  refine (kn _).mono ?_
  rintro e w6 ⟨rfl, hw6⟩
  have hb6 := hb5.trans (hw6.mono hb5.size)
  clear kn hw6
  go_wp2
  go_ret
  exact ⟨rfl, hb6⟩
set_option maxHeartbeats 3200000 in
theorem lsm_ok (ao bo : Option Addr) (ca cb : Nat) (l m : List E) (w : World) (h : Trs w ao l) (hf : few l) (h2 : Trs w bo m) (hf2 : few m) (hv : vT (tm l) = 0) (hv2 : vT (tm m) = 0) : Calls Try.prog 7 #[.slice ao l.length ca, .slice bo m.length cb] w fun e w' => e = .returned (.bool true) ∧ Below w.heap.size w w' := by
  have kn := known3_any
  have cM := fun W h => many_no ao ca l W h hf
  have cM2 := fun W h => many_no bo cb m W h hf2
  have c1 := fun W h h2 => Same_ok ao bo ca cb l m W h h2 hv hv2
  have c2 := fun W h h2 => refSame_ok ao bo ca cb l m W h h2 hv hv2
  have c3 := fun W h h2 => Same_ok bo ao cb ca m l W h h2 hv2 hv
  have e : decide (plT (plo (tm m)) = plT (plo (tm l))) = decide (plT (plo (tm l)) = plT (plo (tm m))) := decide_eq_decide.2 ⟨Eq.symm, Eq.symm⟩
  rw [e] at c3
  generalize decide (plT (plo (tm l)) = plT (plo (tm m))) = q at *
  have H := Lib.hid h
  have H2 := Lib.hid h2
  have q0 : ∀ q : Bool, (q == q) = true := by decide
  have q1 := q0 q
  have l1 := hf.1
  have l2 := hf2.1
  clear h h2 hf hf2 hv hv2 q0 e
  cases q
  all_goals
    go_enter Try.func7, Try.ntmps7
    go_wp2_with (fail)
    refine (cM _ H.out).mono ?_
    rintro e w1 ⟨rfl, hw1⟩
    clear cM
    go_wp2_with (fail)
    refine (cM2 _ (H2.out.later hw1)).mono ?_
    rintro e w2 ⟨rfl, hw2⟩
    have hb2 := hw1.trans (hw2.mono hw1.size)
    clear cM2 hw1 hw2
    go_wp2_with (fail)
    refine (c1 _ (H.out.later hb2) (H2.out.later hb2)).mono ?_
    rintro e w3 ⟨rfl, hw3⟩
    have hb3 := hb2.trans (hw3.mono hb2.size)
    clear c1 hw3
    go_wp2_with (fail)
    refine (c2 _ (H.out.later hb3) (H2.out.later hb3)).mono ?_
    rintro e w4 ⟨rfl, hw4⟩
    have hb4 := hb3.trans (hw4.mono hb3.size)
    clear c2 hw4
    go_wp2_with (fail)
    refine (c3 _ (H2.out.later hb4) (H.out.later hb4)).mono ?_
    rintro e w5 ⟨rfl, hw5⟩
    have hb5 := hb4.trans (hw5.mono hb4.size)
    clear c3 hw5
    go_wp2_with (fail)
    refine (kn _).mono ?_
    rintro e w6 ⟨rfl, hw6⟩
    have hb6 := hb5.trans (hw6.mono hb5.size)
    clear kn hw6
    go_wp2
    go_ret
    exact ⟨rfl, hb6⟩
theorem loopSames_walk (ao : Option Addr) (l : List E) (ca : Nat) (bo : Option Addr) (m : List E) (cb : Nat) (w : World) (hl : l.length ≤ maxLen) (hp : ∀ e ∈ l, e.p.length ≤ maxLen) (h : Trs w ao l) (hm : m.length ≤ maxLen) (hq : ∀ e ∈ m, e.p.length ≤ maxLen) (h2 : Trs w bo m) : Calls Try.prog 7 #[.slice ao l.length ca, .slice bo m.length cb] w fun e w' => e = .returned (.bool true) ∧ Below w.heap.size w w' := by
  by_cases hf : few l
  · by_cases hf2 : few m
    · by_cases h0 : bothR l m = 0
      · unfold bothR at h0
        by_cases hv : vT (tm l) = 0
        · rw [if_pos hv] at h0
          exact lsm_ok ao bo ca cb l m w h hf h2 hf2 hv h0
        · rw [if_neg hv] at h0
          exact absurd h0 hv
      · exact lsm_bad ao bo ca cb l m w h hf h2 hf2 h0
    · exact lsm_many2 ao bo ca cb l m w h hf h2 hf2 hm hq
  · exact lsm_many1 ao bo ca cb l m w h hf hl hp

/-! ### The statement of the law LoopSames, out of its walk -/
set_option maxRecDepth 100000 in
theorem loopSames_lifted (os : Os) (started : os.Started) (H : Type) (enc : TypeId × Value → H) :
    ReturnsInHanded {} Try.checked os 7 .any (Rows.loopSamesSpec.pre6 enc Try.prog Try.f7 Rows.loopSamesRow.domain false) (Rows.loopSamesSpec.post enc Try.prog Try.f7 false true false false) := by
  refine returnsInHanded_of_change (C := Try.checked) own started (by kernel_rfl) Try.func7
    (ChangeSpec.witness6 (enc := enc) (C := Try.checked) false ⟨#[], #[.slice none 0 0, .slice none 0 0], []⟩ 8 (by kernel_rfl) (by kernel_rfl) (by kernel_rfl) (by kernel_rfl)) ?_
  intro W base args ds gs before hval0 hW hcnd _
  have hval : ∀ (j : Nat) t v, Try.f7.params[j]? = some t → args[j]? = some v → Value.okWide Try.prog W .any base t v := hval0
  have hW' := hW
  obtain ⟨p, q, hA0, hV, rfl, hfz, hnd⟩ := hW
  have hA : DataW.TrodAll enc Try.prog W 0 (fun _ => true) true Try.f7.params.toList args.toList ds p := hA0
  rw [Try.params7] at hA hval
  obtain ⟨v0, vs0, d0, ds0, p0, q0, hargs, rfl, rfl, h0, r0⟩ := trodAll_cons hA
  obtain ⟨v1, vs1, d1, ds1, p1, q1, rfl, rfl, rfl, h1, r1⟩ := trodAll_cons r0
  obtain ⟨rfl, rfl, rfl⟩ := trodAll_nil r1
  obtain rfl : args = #[v0, v1] := by cases args; simp_all
  obtain ⟨rfl, rfl⟩ := trodVars_none hV
  have k0 := h0
  have lt0 : ∀ x ∈ p0, x.block < W.heap.size := by obtain ⟨m, hm⟩ := k0; exact DataW.trod_lt m _ _ _ hm
  obtain ⟨po0, l0, pc0, rfl, hkl0, hkp0, hkt0⟩ := open_terms (hval 0 29 v0 rfl rfl) h0
  have k1 := h1
  have lt1 : ∀ x ∈ p1, x.block < W.heap.size := by obtain ⟨m, hm⟩ := k1; exact DataW.trod_lt m _ _ _ hm
  obtain ⟨po1, l1, pc1, rfl, hkl1, hkp1, hkt1⟩ := open_terms (hval 1 29 v1 rfl rfl) h1
  clear hA0 hval0
  refine (loopSames_walk po0 l0 pc0 po1 l1 pc1 W hkl0 hkp0 hkt0 hkl1 hkp1 hkt1).mono fun e W' ⟨he, bel⟩ => ?_
  subst he
  exact ⟨_, rfl, _, _, _, [], _, [], hW', trodAll_mk1 (shut_bool Try.underlying4 _), (trodAll_cons_mk (Below.trod laidOut (by kernel_rfl) (of_decide_eq_true (by kernel_rfl)) k0 bel lt0) (trodAll_cons_mk (Below.trod laidOut (by kernel_rfl) (of_decide_eq_true (by kernel_rfl)) k1 bel lt1) trodAll_mk0)), rfl, bel.frame _, fun h => by cases h⟩

theorem loopSames_jf9 : (Rows.loopSamesRow.inPlace == Try.prog.inPlace 7) = true := by kernel_rfl
theorem loopSames_jf10 : (Rows.loopSamesRow.unfollowed == Try.prog.unfollowed 7) = true := by kernel_rfl
theorem loopSames_jf11 : (Rows.loopSamesRow.recurses == Try.prog.recurses 7) = true := by kernel_rfl
theorem loopSames_jf12 : (Rows.loopSamesRow.named == Try.prog.varsNamed 7) = true := by kernel_rfl
theorem loopSames_facts : joinedFacts Try.prog 7 Try.f7 Rows.loopSamesSpec Rows.loopSamesRow = true := by
  unfold joinedFacts
  exact (band (band (band (band (band (band (band (band (band (band (band (band (band (band (band (band (band (band (band (band (band (band (band (band (band (band (band (band (band (band (band (by kernel_rfl) jf1) jf2) (by kernel_rfl)) (by kernel_rfl)) (by kernel_rfl)) jf6) (by kernel_rfl)) jf8) loopSames_jf9) loopSames_jf10) loopSames_jf11) loopSames_jf12) (by kernel_rfl)) (by kernel_rfl)) (by kernel_rfl)) (by kernel_rfl)) (by kernel_rfl)) (by kernel_rfl)) (by kernel_rfl)) (by kernel_rfl)) (by kernel_rfl)) (by kernel_rfl)) (by kernel_rfl)) jf24) jf25) jf26) jf27) (by kernel_rfl)) (by kernel_rfl)) (by kernel_rfl)) (by kernel_rfl))

theorem loopSames_over : Rows.loopSamesRow.holds Try.pinned (OpenSpec.ofChange Rows.loopSamesSpec) :=
  OpenClaim.holds_of_wide 7 Try.f7 rfl rfl rfl rfl rfl rfl rfl ⟨rfl, rfl, rfl, rfl, rfl⟩ rfl rfl rfl rfl rfl (by kernel_rfl) Try.func7 loopSames_facts
    (of_decide_eq_true (by kernel_rfl)) (by unfold Func.isWrapper; first | (rw [if_pos (by decide +kernel)]; kernel_rfl) | (rw [if_neg (by decide +kernel)]; exact ⟨rfl, rfl⟩))
    (fun os started H enc _ => loopSames_lifted os started H enc)

theorem loopSames_holds : Rows.LoopSamesSaid := loopSames_over
#print axioms loopSames_holds

end Go.Proofs.Ytjidbajcnomceaa
