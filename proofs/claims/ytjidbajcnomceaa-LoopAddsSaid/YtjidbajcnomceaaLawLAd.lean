/- LoopAdds: sums and multiples of sums are the document's, for all sums and numbers.
Conditions: none. -/
import Derived.Test.YtjidbajcnomceaaJFacts
import Derived.Test.YtjidbajcnomceaaLoopKn
import Derived.Test.YtjidbajcnomceaaLoopH
namespace Go.Proofs.Ytjidbajcnomceaa
set_option linter.unusedVariables false
set_option linter.unusedSimpArgs false
set_option maxRecDepth 1000000
open Go.ChangeShapes Go.WideShapes Go.ChangeAt Go.RowKit
open Tm Lm

set_option maxHeartbeats 1600000 in
theorem lad_many1 (ao bo : Option Addr) (ca cb : Nat) (l m : List E) (k : Int) (w : World) (h : Trs w ao l) (hf : ¬ few l) (hl : l.length ≤ maxLen) (hp : ∀ e ∈ l, e.p.length ≤ maxLen) : Calls Try.prog 5 #[.slice ao l.length ca, .slice bo m.length cb, .int .i64 k] w fun e w' => e = .returned (.bool true) ∧ Below w.heap.size w w' := by
  have kn := known3_any
  have cM := many_yes ao ca l w h hf hl hp
  clear h hf hp
  go_enter Try.func5, Try.ntmps5
  go_wp2_with (fail)
  refine cM.mono ?_
  rintro e w1 ⟨rfl, hw1⟩
  go_wp2_with (fail)
  refine (kn _).mono ?_
  rintro e w2 ⟨rfl, hw2⟩
  have hb := hw1.trans (hw2.mono hw1.size)
  go_wp2
  go_ret
  exact ⟨rfl, hb⟩
set_option maxHeartbeats 1600000 in
theorem lad_many2 (ao bo : Option Addr) (ca cb : Nat) (l m : List E) (k : Int) (w : World) (h : Trs w ao l) (hf : few l) (h2 : Trs w bo m) (hf2 : ¬ few m) (hl : m.length ≤ maxLen) (hp : ∀ e ∈ m, e.p.length ≤ maxLen) : Calls Try.prog 5 #[.slice ao l.length ca, .slice bo m.length cb, .int .i64 k] w fun e w' => e = .returned (.bool true) ∧ Below w.heap.size w w' := by
  have kn := known3_any
  have cM := many_no ao ca l w h hf
  have cM2 := fun W h => many_yes bo cb m W h hf2 hl hp
  have H2 := Lib.hid h2
  clear h hf h2 hf2 hp
  go_enter Try.func5, Try.ntmps5
  go_wp2_with (fail)
  refine cM.mono ?_
  rintro e w1 ⟨rfl, hw1⟩
  go_wp2_with (fail)
  refine (cM2 _ (H2.out.later hw1)).mono ?_
  rintro e w2 ⟨rfl, hw2⟩
  have hb := hw1.trans (hw2.mono hw1.size)
  go_wp2_with (fail)
  refine (kn _).mono ?_
  rintro e w3 ⟨rfl, hw3⟩
  have hb3 := hb.trans (hw3.mono hb.size)
  go_wp2
  go_ret
  exact ⟨rfl, hb3⟩
set_option maxHeartbeats 3200000 in
theorem lad_few (ao bo : Option Addr) (ca cb : Nat) (l m : List E) (k : Int) (w : World) (h : Trs w ao l) (hf : few l) (h2 : Trs w bo m) (hf2 : few m) : Calls Try.prog 5 #[.slice ao l.length ca, .slice bo m.length cb, .int .i64 k] w fun e w' => e = .returned (.bool true) ∧ Below w.heap.size w w' := by
  have kn := known3_any
  have cM := fun W h => many_no ao ca l W h hf
  have cM2 := fun W h => many_no bo cb m W h hf2
  obtain ⟨N, r, c1, c2⟩ := addAns ao bo ca cb l m hf hf2
  obtain ⟨N3, r3, c3, c4⟩ := scaleAns ao ca l k hf
  have l1 := hf.1
  have l2 := hf2.1
  have H := Lib.hid h
  have H2 := Lib.hid h2
  clear h h2 hf hf2
  go_enter Try.func5, Try.ntmps5
  go_wp2_with (fail)
  refine (cM _ H.out).mono ?_
  rintro e w1 ⟨rfl, hw1⟩
  clear cM
  go_wp2_with (fail)
  refine (cM2 _ (H2.out.later hw1)).mono ?_
  rintro e w2 ⟨rfl, hw2⟩
  have hb2 := hw1.trans (hw2.mono hw1.size)
  clear cM2 hw1 hw2
  go_wp2_with (fail)
  refine (c1 _ (H.out.later hb2) (H2.out.later hb2)).mono ?_
  rintro e w3 ⟨⟨a3, k3, es, rfl, hT, hm, hn, hq⟩, hw3⟩
  have hb3 := hb2.trans (hw3.mono hb2.size)
  have T1 := Lib.hid hT
  have M1 := Lib.hid hm
  have Q1 := Lib.hid hq
  clear c1 hw3 hT hm hq
  go_wp2_with (fail)
  refine (c2 _ (H.out.later hb3) (H2.out.later hb3)).mono ?_
  rintro e w4 ⟨⟨a4, k4, fs, rfl, hT, hm, hn2, -⟩, hw4⟩
  have hb4 := hb3.trans (hw4.mono hb3.size)
  have T1 := Lib.hid (T1.out.later hw4)
  have T2 := Lib.hid hT
  have hE : tm es = tm fs := by rw [M1.out, hm]
  have HE := Lib.hid hE
  clear c2 hw4 hT hm hE M1
  go_wp2_with (fail)
  refine (c3 _ (H.out.later hb4)).mono ?_
  rintro e w5 ⟨⟨a5, k5, gs, rfl, hT, hm, hn3, hq⟩, hw5⟩
  have hb5 := hb4.trans (hw5.mono hb4.size)
  have T1 := Lib.hid (T1.out.later hw5)
  have T2 := Lib.hid (T2.out.later hw5)
  have T3 := Lib.hid hT
  have M3 := Lib.hid hm
  have Q3 := Lib.hid hq
  clear c3 hw5 hT hm hq
  go_wp2_with (fail)
  refine (c4 _ (H.out.later hb5)).mono ?_
  rintro e w6 ⟨⟨a6, k6, is, rfl, hT, hm, hn4, -⟩, hw6⟩
  have hb6 := hb5.trans (hw6.mono hb5.size)
  have T1 := Lib.hid (T1.out.later hw6)
  have T2 := Lib.hid (T2.out.later hw6)
  have T3 := Lib.hid (T3.out.later hw6)
  have T4 := Lib.hid hT
  have hE : tm gs = tm is := by rw [M3.out, hm]
  have HE2 := Lib.hid hE
  clear c4 hw6 hT hm hE M3
  go_wp2_with (fail)
  refine (sameTerms_true a3 a4 k3 k4 es fs _ T1.out T2.out HE.out hn Q1.out).mono ?_
  rintro e w7 ⟨rfl, hw7⟩
  have hb7 := hb6.trans (hw7.mono hb6.size)
  have T3 := Lib.hid (T3.out.later hw7)
  have T4 := Lib.hid (T4.out.later hw7)
  clear hw7 T1 T2
  go_wp2_with (fail)
  refine (sameTerms_true a5 a6 k5 k6 gs is _ T3.out T4.out HE2.out hn3 Q3.out).mono ?_
  rintro e w8 ⟨rfl, hw8⟩
  have hb8 := hb7.trans (hw8.mono hb7.size)
  clear hw8 T3 T4
  go_wp2_with (fail)
  refine (kn _).mono ?_
  rintro e w9 ⟨rfl, hw9⟩
  have hb9 := hb8.trans (hw9.mono hb8.size)
  clear kn hw9
  go_wp2
  go_ret
  exact ⟨rfl, hb9⟩
theorem loopAdds_walk (ao : Option Addr) (l : List E) (ca : Nat) (bo : Option Addr) (m : List E) (cb : Nat) (k : Int) (w : World) (hl : l.length ≤ maxLen) (hp : ∀ e ∈ l, e.p.length ≤ maxLen) (h : Trs w ao l) (hm : m.length ≤ maxLen) (hq : ∀ e ∈ m, e.p.length ≤ maxLen) (h2 : Trs w bo m) : Calls Try.prog 5 #[.slice ao l.length ca, .slice bo m.length cb, .int .i64 k] w fun e w' => e = .returned (.bool true) ∧ Below w.heap.size w w' := by
  by_cases hf : few l
  · by_cases hf2 : few m
    · exact lad_few ao bo ca cb l m k w h hf h2 hf2
    · exact lad_many2 ao bo ca cb l m k w h hf h2 hf2 hm hq
  · exact lad_many1 ao bo ca cb l m k w h hf hl hp

/-! ### The statement of the law LoopAdds, out of its walk -/
set_option maxRecDepth 100000 in
theorem loopAdds_lifted (os : Os) (started : os.Started) (H : Type) (enc : TypeId × Value → H) :
    ReturnsInHanded {} Try.checked os 5 .any (Rows.loopAddsSpec.pre6 enc Try.prog Try.f5 Rows.loopAddsRow.domain false) (Rows.loopAddsSpec.post enc Try.prog Try.f5 false true false false) := by
  refine returnsInHanded_of_change (C := Try.checked) own started (by kernel_rfl) Try.func5
    (ChangeSpec.witness6 (enc := enc) (C := Try.checked) false ⟨#[], #[.slice none 0 0, .slice none 0 0, .int .i64 0], []⟩ 8 (by kernel_rfl) (by kernel_rfl) (by kernel_rfl) (by kernel_rfl)) ?_
  intro W base args ds gs before hval0 hW hcnd _
  have hval : ∀ (j : Nat) t v, Try.f5.params[j]? = some t → args[j]? = some v → Value.okWide Try.prog W .any base t v := hval0
  have hW' := hW
  obtain ⟨p, q, hA0, hV, rfl, hfz, hnd⟩ := hW
  have hA : DataW.TrodAll enc Try.prog W 0 (fun _ => true) true Try.f5.params.toList args.toList ds p := hA0
  rw [Try.params5] at hA hval
  obtain ⟨v0, vs0, d0, ds0, p0, q0, hargs, rfl, rfl, h0, r0⟩ := trodAll_cons hA
  obtain ⟨v1, vs1, d1, ds1, p1, q1, rfl, rfl, rfl, h1, r1⟩ := trodAll_cons r0
  obtain ⟨v2, vs2, d2, ds2, p2, q2, rfl, rfl, rfl, h2, r2⟩ := trodAll_cons r1
  obtain ⟨rfl, rfl, rfl⟩ := trodAll_nil r2
  obtain rfl : args = #[v0, v1, v2] := by cases args; simp_all
  obtain ⟨rfl, rfl⟩ := trodVars_none hV
  have k0 := h0
  have lt0 : ∀ x ∈ p0, x.block < W.heap.size := by obtain ⟨m, hm⟩ := k0; exact DataW.trod_lt m _ _ _ hm
  obtain ⟨po0, l0, pc0, rfl, hkl0, hkp0, hkt0⟩ := open_terms (hval 0 29 v0 rfl rfl) h0
  have k1 := h1
  have lt1 : ∀ x ∈ p1, x.block < W.heap.size := by obtain ⟨m, hm⟩ := k1; exact DataW.trod_lt m _ _ _ hm
  obtain ⟨po1, l1, pc1, rfl, hkl1, hkp1, hkt1⟩ := open_terms (hval 1 29 v1 rfl rfl) h1
  have k2 := h2
  have lt2 : ∀ x ∈ p2, x.block < W.heap.size := by obtain ⟨m, hm⟩ := k2; exact DataW.trod_lt m _ _ _ hm
  obtain ⟨x2, e2, -, -, -⟩ := open_int Try.underlying3 (hval 2 3 v2 rfl rfl) h2
  subst e2
  clear hA0 hval0
  refine (loopAdds_walk po0 l0 pc0 po1 l1 pc1 x2 W hkl0 hkp0 hkt0 hkl1 hkp1 hkt1).mono fun e W' ⟨he, bel⟩ => ?_
  subst he
  exact ⟨_, rfl, _, _, _, [], _, [], hW', trodAll_mk1 (shut_bool Try.underlying4 _), (trodAll_cons_mk (Below.trod laidOut (by kernel_rfl) (of_decide_eq_true (by kernel_rfl)) k0 bel lt0) (trodAll_cons_mk (Below.trod laidOut (by kernel_rfl) (of_decide_eq_true (by kernel_rfl)) k1 bel lt1) (trodAll_cons_mk (Below.trod laidOut (by kernel_rfl) (of_decide_eq_true (by kernel_rfl)) k2 bel lt2) trodAll_mk0))), rfl, bel.frame _, fun h => by cases h⟩

theorem loopAdds_jf9 : (Rows.loopAddsRow.inPlace == Try.prog.inPlace 5) = true := by kernel_rfl
theorem loopAdds_jf10 : (Rows.loopAddsRow.unfollowed == Try.prog.unfollowed 5) = true := by kernel_rfl
theorem loopAdds_jf11 : (Rows.loopAddsRow.recurses == Try.prog.recurses 5) = true := by kernel_rfl
theorem loopAdds_jf12 : (Rows.loopAddsRow.named == Try.prog.varsNamed 5) = true := by kernel_rfl
theorem loopAdds_facts : joinedFacts Try.prog 5 Try.f5 Rows.loopAddsSpec Rows.loopAddsRow = true := by
  unfold joinedFacts
  exact (band (band (band (band (band (band (band (band (band (band (band (band (band (band (band (band (band (band (band (band (band (band (band (band (band (band (band (band (band (band (band (by kernel_rfl) jf1) jf2) (by kernel_rfl)) (by kernel_rfl)) (by kernel_rfl)) jf6) (by kernel_rfl)) jf8) loopAdds_jf9) loopAdds_jf10) loopAdds_jf11) loopAdds_jf12) (by kernel_rfl)) (by kernel_rfl)) (by kernel_rfl)) (by kernel_rfl)) (by kernel_rfl)) (by kernel_rfl)) (by kernel_rfl)) (by kernel_rfl)) (by kernel_rfl)) (by kernel_rfl)) (by kernel_rfl)) jf24) jf25) jf26) jf27) (by kernel_rfl)) (by kernel_rfl)) (by kernel_rfl)) (by kernel_rfl))

theorem loopAdds_over : Rows.loopAddsRow.holds Try.pinned (OpenSpec.ofChange Rows.loopAddsSpec) :=
  OpenClaim.holds_of_wide 5 Try.f5 rfl rfl rfl rfl rfl rfl rfl ⟨rfl, rfl, rfl, rfl, rfl⟩ rfl rfl rfl rfl rfl (by kernel_rfl) Try.func5 loopAdds_facts
    (of_decide_eq_true (by kernel_rfl)) (by unfold Func.isWrapper; first | (rw [if_pos (by decide +kernel)]; kernel_rfl) | (rw [if_neg (by decide +kernel)]; exact ⟨rfl, rfl⟩))
    (fun os started H enc _ => loopAdds_lifted os started H enc)

theorem loopAdds_holds : Rows.LoopAddsSaid := loopAdds_over
#print axioms loopAdds_holds

end Go.Proofs.Ytjidbajcnomceaa
