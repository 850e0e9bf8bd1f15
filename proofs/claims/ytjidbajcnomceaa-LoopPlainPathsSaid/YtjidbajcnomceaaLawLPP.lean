/- LoopPlainPaths: plain paths are the document's, for all paths; a path from its end and a plain path have the same.
Conditions: none. -/
import Derived.Test.YtjidbajcnomceaaJFacts
import Derived.Test.YtjidbajcnomceaaLoopKn
import Derived.Test.YtjidbajcnomceaaLoopY
namespace Go.Proofs.Ytjidbajcnomceaa
set_option linter.unusedVariables false
set_option linter.unusedSimpArgs false
set_option maxRecDepth 1000000
open Go.ChangeShapes Go.WideShapes Go.ChangeAt Go.RowKit
open Tm Lm

theorem sameL (a1 a2 : Option Addr) (c1 c2 : Nat) (l : List Int) (w : World) (h1 : LiesOI w a1 l) (h2 : LiesOI w a2 l) (hlen : l.length ≤ 1000000) :
    Calls Try.prog 13 #[.slice a1 l.length c1, .slice a2 l.length c2] w fun e w' => e = .returned (.bool true) ∧ Below w.heap.size w w' := by
  have := sameInts_any a1 a2 c1 c2 l l w h1 h2 hlen
  rwa [decide_eq_true rfl] at this
set_option maxHeartbeats 3200000 in
theorem lpp_bad (ao : Option Addr) (l : List Int) (cap : Nat) (w : World) (hl : l.length ≤ 100) (hm : LiesOI w ao l) (h0 : pe l ≠ 0) : Calls Try.prog 3 #[.slice ao l.length cap] w fun e w' => e = .returned (.bool true) ∧ Below w.heap.size w w' := by
  have kn := known3_any
  have hle : ¬ (100 : Int) < (l.length : Int) := by omega
  have c1 := fun W h => plainPath_bad ao cap l (pe l) W h (pe_R l) h0 (by omega)
  have c2 := fun W h => refPlainPath_bad ao cap l W h h0 (by omega)
  have c3 := fun W h => back_bad ao cap l (pe l) W h (pe_R l) h0 (by omega)
  have c4 := fun W => plainPath_ok none 0 [] W (.inl rfl) (by simp) (by simp)
  have e0 : plL [] = [] := by decide
  rw [e0] at c4
  have sn := fun (a1 a2 : Option Addr) (c1 c2 : Nat) (W : World) => sameInts_nil a1 a2 c1 c2 W
  generalize pe l = r at *
  have q1 : (r == 0) = false := by simpa using h0
  have q2 : (r != 0) = true := by simpa using h0
  have H := Lib.hid hm
  clear hm h0
  go_enter Try.func3, Try.ntmps3
  go_wp2_with (fail)
  refine (c1 _ (H.out.later (by repeat (first | (with_reducible exact Below.refl _ _) | (with_reducible refine Below.setCell ?_ ?_ _) | (with_reducible refine Below.drew ?_) | (with_reducible refine Below.alloc ?_ ?_ _) | omega | (simp <;> omega))))).mono ?_
  rintro e w1 ⟨rfl, hw1⟩
  have hb1 : Below w.heap.size w w1 := by repeat (first | (with_reducible exact Below.refl _ _) | (with_reducible refine Below.setCell ?_ ?_ _) | (with_reducible refine Below.drew ?_) | (with_reducible refine Below.alloc ?_ ?_ _) | (with_reducible refine Below.trans ?_ (Below.mono hw1 ?_)) | (with_reducible exact hw1.size) | omega | (simp <;> omega) | (simp <;> (have s := hw1.size; omega)) | (have s0 := hw1.size; (try simp at s0); (try simp); omega))
  clear hw1
  go_wp2_with (fail)
  refine (c2 _ (H.out.later hb1)).mono ?_
  rintro e w2 ⟨rfl, hw2⟩
  have hb2 := hb1.trans (hw2.mono hb1.size)
  clear hw2
  go_wp2_with (fail)
  refine (sn _ _ _ _ _).mono ?_
  rintro e w3 ⟨rfl, hw3⟩
  have hb3 := hb2.trans (hw3.mono hb2.size)
  clear hw3
  go_wp2_with (fail)
  refine (c3 _ (H.out.later hb3)).mono ?_
  rintro e w4 ⟨rfl, hw4⟩
  have hb4 := hb3.trans (hw4.mono hb3.size)
  clear hw4
  go_wp2_with (fail)
  refine (c4 _).mono ?_
  rintro e w5 ⟨a5, k5, rfl, -, -, hw5⟩
  have hb5 := hb4.trans (hw5.mono hb4.size)
  clear hw5
  go_wp2_with (fail)
  refine (c4 _).mono ?_
  rintro e w6 ⟨a6, k6, rfl, -, -, hw6⟩
  have hb6 := hb5.trans (hw6.mono hb5.size)
  clear hw6
  go_wp2_with (fail)
  refine (kn _).mono ?_
  rintro e w7 ⟨rfl, hw7⟩
  have hb7 := hb6.trans (hw7.mono hb6.size)
  clear hw7
  go_wp2
  go_ret
  exact ⟨rfl, hb7⟩
set_option maxHeartbeats 3200000 in
theorem lpp_ok (ao : Option Addr) (l : List Int) (cap : Nat) (w : World) (hm : LiesOI w ao l) (h0 : pe l = 0) : Calls Try.prog 3 #[.slice ao l.length cap] w fun e w' => e = .returned (.bool true) ∧ Below w.heap.size w w' := by
  have kn := known3_any
  obtain ⟨h8, hs⟩ := pe_ok h0
  have hle : ¬ (100 : Int) < (l.length : Int) := by omega
  have hp8 : (plL l).length ≤ 8 := by rw [plL_len]; have := red_len l; omega
  have c1 := fun W h => plainPath_ok ao cap l W h hs h8
  have c2 := fun W h => refPlainPath_ok ao cap l W h h0
  have c3 := fun W h => back_ok ao cap l W h hs h8
  have c4 := fun a k W h => plainPath_ok a k (opp l) W h (opp_steps hs) (by rw [opp_len]; exact h8)
  have c5 := fun a k W h => plainPath_ok a k (plL l) W h (plL_steps hs) hp8
  rw [plL_opp] at c4
  rw [plL_plL] at c5
  have cs := fun (a1 a2 : Option Addr) (c1 c2 : Nat) (W : World) h1 h2 => sameL a1 a2 c1 c2 (plL l) W h1 h2 (by omega)
  have H := Lib.hid hm
  generalize plL l = P at *
  generalize opp l = O at *
  clear hm h0 hs hp8
  go_enter Try.func3, Try.ntmps3
  go_wp2_with (fail)
  refine (c1 _ (H.out.later (by repeat (first | (with_reducible exact Below.refl _ _) | (with_reducible refine Below.setCell ?_ ?_ _) | (with_reducible refine Below.drew ?_) | (with_reducible refine Below.alloc ?_ ?_ _) | omega | (simp <;> omega))))).mono ?_
  rintro e w1 ⟨a1, k1, rfl, hl1, -, hw1⟩
  have hb1 : Below w.heap.size w w1 := by repeat (first | (with_reducible exact Below.refl _ _) | (with_reducible refine Below.setCell ?_ ?_ _) | (with_reducible refine Below.drew ?_) | (with_reducible refine Below.alloc ?_ ?_ _) | (with_reducible refine Below.trans ?_ (Below.mono hw1 ?_)) | (with_reducible exact hw1.size) | omega | (simp <;> omega) | (simp <;> (have s := hw1.size; omega)) | (have s0 := hw1.size; (try simp at s0); (try simp); omega))
  have H1 := Lib.hid hl1.o
  clear hw1 hl1 c1
  go_wp2_with (fail)
  refine (c2 _ (H.out.later hb1)).mono ?_
  rintro e w2 ⟨a2, k2, rfl, hl2, hw2⟩
  have hb2 := hb1.trans (hw2.mono hb1.size)
  have H1 := Lib.hid (H1.out.later hw2)
  have H2 := Lib.hid hl2
  clear hw2 hl2 c2
  go_wp2_with (fail)
  refine (cs _ _ _ _ _ H1.out H2.out).mono ?_
  rintro e w3 ⟨rfl, hw3⟩
  have hb3 := hb2.trans (hw3.mono hb2.size)
  have H1 := Lib.hid (H1.out.later hw3)
  clear hw3 H2
  go_wp2_with (fail)
  refine (c3 _ (H.out.later hb3)).mono ?_
  rintro e w4 ⟨a4, k4, rfl, hl4, hw4⟩
  have hb4 := hb3.trans (hw4.mono hb3.size)
  have H1 := Lib.hid (H1.out.later hw4)
  have H4 := Lib.hid hl4
  clear hw4 hl4 c3
  go_wp2_with (fail)
  refine (c4 _ _ _ H4.out).mono ?_
  rintro e w5 ⟨a5, k5, rfl, hl5, -, hw5⟩
  have hb5 := hb4.trans (hw5.mono hb4.size)
  have H1 := Lib.hid (H1.out.later hw5)
  have H5 := Lib.hid hl5.o
  clear hw5 hl5 c4 H4
  go_wp2_with (fail)
  refine (c5 _ _ _ H1.out).mono ?_
  rintro e w6 ⟨a6, k6, rfl, hl6, -, hw6⟩
  have hb6 := hb5.trans (hw6.mono hb5.size)
  have H1 := Lib.hid (H1.out.later hw6)
  have H5 := Lib.hid (H5.out.later hw6)
  have H6 := Lib.hid hl6.o
  clear hw6 hl6 c5
  go_wp2_with (fail)
  refine (cs _ _ _ _ _ H5.out H1.out).mono ?_
  rintro e w7 ⟨rfl, hw7⟩
  have hb7 := hb6.trans (hw7.mono hb6.size)
  have H1 := Lib.hid (H1.out.later hw7)
  have H6 := Lib.hid (H6.out.later hw7)
  clear hw7
  go_wp2_with (fail)
  refine (cs _ _ _ _ _ H6.out H1.out).mono ?_
  rintro e w8 ⟨rfl, hw8⟩
  have hb8 := hb7.trans (hw8.mono hb7.size)
  clear hw8
  go_wp2_with (fail)
  refine (kn _).mono ?_
  rintro e w9 ⟨rfl, hw9⟩
  have hb9 := hb8.trans (hw9.mono hb8.size)
  clear hw9
  go_wp2
  go_ret
  exact ⟨rfl, hb9⟩
set_option maxHeartbeats 1600000 in
theorem lpp_long (ao : Option Addr) (n cap : Nat) (w : World) (hn : 100 < n) : Calls Try.prog 3 #[.slice ao n cap] w fun e w' => e = .returned (.bool true) ∧ Below w.heap.size w w' := by
  have kn := known3_any
  have hle : (100 : Int) < (n : Int) := by omega
  go_enter Try.func3, Try.ntmps3
  go_wp2_with ((with_reducible refine (kn _).mono ?_); rintro e w1 ⟨rfl, hw1⟩)
  go_ret
  exact ⟨rfl, by repeat (first | (with_reducible exact Below.refl _ _) | (with_reducible refine Below.setCell ?_ ?_ _) | (with_reducible refine Below.drew ?_) | (with_reducible refine Below.alloc ?_ ?_ _) | (with_reducible refine Below.trans ?_ (Below.mono hw1 ?_)) | (with_reducible exact hw1.size) | omega | (simp <;> omega) | (simp <;> (have s := hw1.size; omega)) | (have s0 := hw1.size; (try simp at s0); (try simp); omega))⟩
theorem loopPlainPaths_walk (ao : Option Addr) (l : List Int) (cap : Nat) (w : World) (hl : l.length ≤ cap) (hc : cap ≤ maxLen) (hm : LiesOI w ao l) : Calls Try.prog 3 #[.slice ao l.length cap] w fun e w' => e = .returned (.bool true) ∧ Below w.heap.size w w' := by
  by_cases hn : 100 < l.length
  · exact lpp_long ao _ cap w hn
  · by_cases h0 : pe l = 0
    · exact lpp_ok ao l cap w hm h0
    · exact lpp_bad ao l cap w (by omega) hm h0

/-! ### The statement of the law LoopPlainPaths, out of its walk -/
set_option maxRecDepth 100000 in
theorem loopPlainPaths_lifted (os : Os) (started : os.Started) (H : Type) (enc : TypeId × Value → H) :
    ReturnsInHanded {} Try.checked os 3 .any (Rows.loopPlainPathsSpec.pre6 enc Try.prog Try.f3 Rows.loopPlainPathsRow.domain false) (Rows.loopPlainPathsSpec.post enc Try.prog Try.f3 false true false false) := by
  refine returnsInHanded_of_change (C := Try.checked) own started (by kernel_rfl) Try.func3
    (ChangeSpec.witness6 (enc := enc) (C := Try.checked) false ⟨#[], #[.slice none 0 0], []⟩ 8 (by kernel_rfl) (by kernel_rfl) (by kernel_rfl) (by kernel_rfl)) ?_
  intro W base args ds gs before hval0 hW hcnd _
  have hval : ∀ (j : Nat) t v, Try.f3.params[j]? = some t → args[j]? = some v → Value.okWide Try.prog W .any base t v := hval0
  have hW' := hW
  obtain ⟨p, q, hA0, hV, rfl, hfz, hnd⟩ := hW
  have hA : DataW.TrodAll enc Try.prog W 0 (fun _ => true) true Try.f3.params.toList args.toList ds p := hA0
  rw [Try.params3] at hA hval
  obtain ⟨v0, vs0, d0, ds0, p0, q0, hargs, rfl, rfl, h0, r0⟩ := trodAll_cons hA
  obtain ⟨rfl, rfl, rfl⟩ := trodAll_nil r0
  obtain rfl : args = #[v0] := by cases args; simp_all
  obtain ⟨rfl, rfl⟩ := trodVars_none hV
  have k0 := h0
  have lt0 : ∀ x ∈ p0, x.block < W.heap.size := by obtain ⟨m, hm⟩ := k0; exact DataW.trod_lt m _ _ _ hm
  obtain ⟨ao0, l0, cap0, rfl, hl0, hc0, hm0⟩ := open_intsO (hval 0 22 v0 rfl rfl) h0
  clear hA0 hval0
  refine (loopPlainPaths_walk ao0 l0 cap0 W hl0 hc0 hm0).mono fun e W' ⟨he, bel⟩ => ?_
  subst he
  exact ⟨_, rfl, _, _, _, [], _, [], hW', trodAll_mk1 (shut_bool Try.underlying4 _), (trodAll_cons_mk (Below.trod laidOut (by kernel_rfl) (of_decide_eq_true (by kernel_rfl)) k0 bel lt0) trodAll_mk0), rfl, bel.frame _, fun h => by cases h⟩

theorem loopPlainPaths_jf9 : (Rows.loopPlainPathsRow.inPlace == Try.prog.inPlace 3) = true := by kernel_rfl
theorem loopPlainPaths_jf10 : (Rows.loopPlainPathsRow.unfollowed == Try.prog.unfollowed 3) = true := by kernel_rfl
theorem loopPlainPaths_jf11 : (Rows.loopPlainPathsRow.recurses == Try.prog.recurses 3) = true := by kernel_rfl
theorem loopPlainPaths_jf12 : (Rows.loopPlainPathsRow.named == Try.prog.varsNamed 3) = true := by kernel_rfl
theorem loopPlainPaths_facts : joinedFacts Try.prog 3 Try.f3 Rows.loopPlainPathsSpec Rows.loopPlainPathsRow = true := by
  unfold joinedFacts
  exact (band (band (band (band (band (band (band (band (band (band (band (band (band (band (band (band (band (band (band (band (band (band (band (band (band (band (band (band (band (band (band (by kernel_rfl) jf1) jf2) (by kernel_rfl)) (by kernel_rfl)) (by kernel_rfl)) jf6) (by kernel_rfl)) jf8) loopPlainPaths_jf9) loopPlainPaths_jf10) loopPlainPaths_jf11) loopPlainPaths_jf12) (by kernel_rfl)) (by kernel_rfl)) (by kernel_rfl)) (by kernel_rfl)) (by kernel_rfl)) (by kernel_rfl)) (by kernel_rfl)) (by kernel_rfl)) (by kernel_rfl)) (by kernel_rfl)) (by kernel_rfl)) jf24) jf25) jf26) jf27) (by kernel_rfl)) (by kernel_rfl)) (by kernel_rfl)) (by kernel_rfl))

theorem loopPlainPaths_over : Rows.loopPlainPathsRow.holds Try.pinned (OpenSpec.ofChange Rows.loopPlainPathsSpec) :=
  OpenClaim.holds_of_wide 3 Try.f3 rfl rfl rfl rfl rfl rfl rfl ⟨rfl, rfl, rfl, rfl, rfl⟩ rfl rfl rfl rfl rfl (by kernel_rfl) Try.func3 loopPlainPaths_facts
    (of_decide_eq_true (by kernel_rfl)) (by unfold Func.isWrapper; first | (rw [if_pos (by decide +kernel)]; kernel_rfl) | (rw [if_neg (by decide +kernel)]; exact ⟨rfl, rfl⟩))
    (fun os started H enc _ => loopPlainPaths_lifted os started H enc)

theorem loopPlainPaths_holds : Rows.LoopPlainPathsSaid := loopPlainPaths_over
#print axioms loopPlainPaths_holds

end Go.Proofs.Ytjidbajcnomceaa
