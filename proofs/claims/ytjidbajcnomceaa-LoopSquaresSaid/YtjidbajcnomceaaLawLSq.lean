/- LoopSquares: the square of a path is the document's, for all paths.
Conditions: none. -/
import Derived.Test.YtjidbajcnomceaaJFacts
import Derived.Test.YtjidbajcnomceaaLoopKn
import Derived.Test.YtjidbajcnomceaaLoopTe
namespace Go.Proofs.Ytjidbajcnomceaa
set_option linter.unusedVariables false
set_option linter.unusedSimpArgs false
set_option maxRecDepth 1000000
open Go.ChangeShapes Go.WideShapes Go.ChangeAt Go.RowKit
open Tm Lm

theorem trs_one {W : World} {ao : Option Addr} {ca : Nat} {p : List Int} (h : LiesOI W ao p) : Trs (W.alloc (.cells #[.int .i64 1, .slice ao p.length ca] 37)) (some ⟨W.heap.size, 0, none⟩) [⟨1, p, ao, ca⟩] := ⟨rows_one W ⟨1, p, ao, ca⟩, fun e he => by
  rw [List.mem_singleton] at he
  subst he
  exact h.later (by repeat (first | (with_reducible exact Below.refl _ _) | (with_reducible refine Below.setCell ?_ ?_ _) | (with_reducible refine Below.drew ?_) | (with_reducible refine Below.alloc ?_ ?_ _) | omega | (simp <;> omega)))⟩
set_option maxHeartbeats 1600000 in
theorem refSquare_ok (ao : Option Addr) (ca : Nat) (p : List Int) (w : World) (h : LiesOI w ao p) (hv : pe p = 0) :
    Calls Try.prog 27 #[.slice ao p.length ca] w fun e w' => RetD (plo (rawP [(1, p)] [(1, p)])) e w' ∧ Below w.heap.size w w' := by
  have hv1 : vT (tm [(⟨1, p, ao, ca⟩ : E)]) = 0 := by simp [tm, vT, tes, te, okC, hv]
  have hT := trs_one (ca := ca) h
  have cT := refTimes_ok (some ⟨w.heap.size, 0, none⟩) (some ⟨w.heap.size, 0, none⟩) 1 1 [⟨1, p, ao, ca⟩] [⟨1, p, ao, ca⟩] _ hT hT hv1 hv1
  rw [show tm [(⟨1, p, ao, ca⟩ : E)] = [(1, p)] from rfl] at cT
  clear h hv hv1 hT
  go_enter Try.func27, Try.ntmps27
  go_wp2_with (fail)
  refine cT.mono ?_
  rintro e w1 ⟨hr, hw1⟩
  have hb : Below w.heap.size w w1 := by repeat (first | (with_reducible exact Below.refl _ _) | (with_reducible refine Below.setCell ?_ ?_ _) | (with_reducible refine Below.drew ?_) | (with_reducible refine Below.alloc ?_ ?_ _) | (with_reducible refine Below.trans ?_ (Below.mono hw1 ?_)) | (with_reducible exact hw1.size) | omega | (simp <;> omega) | (simp <;> (have s := hw1.size; omega)) | (have s0 := hw1.size; (try simp at s0); (try simp); omega))
  rcases hr.ex with ⟨a, c, es, rfl, HR⟩ | ⟨rfl, HR⟩
  · clear hr hw1
    go_wp2
    go_ret2
    exact ⟨HR.out, hb⟩
  · clear hr hw1
    go_wp2
    go_ret2
    exact ⟨HR.out, hb⟩
set_option maxHeartbeats 1600000 in
theorem refSquare_bad (ao : Option Addr) (ca : Nat) (p : List Int) (w : World) (h : LiesOI w ao p) (h0 : pe p ≠ 0) (hl : p.length ≤ 1000000) :
    Calls Try.prog 27 #[.slice ao p.length ca] w fun e w' => e = .returned (.tuple #[.slice none 0 0, .int .i64 (pe p)]) ∧ Below w.heap.size w w' := by
  have hv1 : vT (tm [(⟨1, p, ao, ca⟩ : E)]) = pe p := by simp [tm, vT, tes, te, okC]; intro h; exact h.symm
  have hb0 : bothR [(⟨1, p, ao, ca⟩ : E)] [⟨1, p, ao, ca⟩] = pe p := by unfold bothR; rw [hv1, if_neg h0]
  have hT := trs_one (ca := ca) h
  have cT := refTimes_bad (some ⟨w.heap.size, 0, none⟩) (some ⟨w.heap.size, 0, none⟩) 1 1 [⟨1, p, ao, ca⟩] [⟨1, p, ao, ca⟩] _ hT hT (by rw [hb0]; exact h0) (by simp) (by simpa using hl) (by simp) (by simpa using hl)
  rw [hb0] at cT
  generalize pe p = r at *
  clear h h0 hv1 hT hb0
  go_enter Try.func27, Try.ntmps27
  go_wp2_with (fail)
  refine cT.mono ?_
  rintro e w1 ⟨rfl, hw1⟩
  go_wp2
  go_ret2
  exact ⟨rfl, by repeat (first | (with_reducible exact Below.refl _ _) | (with_reducible refine Below.setCell ?_ ?_ _) | (with_reducible refine Below.drew ?_) | (with_reducible refine Below.alloc ?_ ?_ _) | (with_reducible refine Below.trans ?_ (Below.mono hw1 ?_)) | (with_reducible exact hw1.size) | omega | (simp <;> omega) | (simp <;> (have s := hw1.size; omega)) | (have s0 := hw1.size; (try simp at s0); (try simp); omega))⟩
theorem squareAns (ao : Option Addr) (ca : Nat) (p : List Int) (hl : p.length ≤ 1000000) : ∃ N r, (∀ W, LiesOI W ao p → Calls Try.prog 26 #[.slice ao p.length ca] W fun e w' => Ans N r e w' ∧ Below W.heap.size W w') ∧
    (∀ W, LiesOI W ao p → Calls Try.prog 27 #[.slice ao p.length ca] W fun e w' => Ans N r e w' ∧ Below W.heap.size W w') := by
  by_cases h0 : pe p = 0
  · exact ⟨_, _, fun W h => (Square_ok ao ca p W h h0).mono fun e w' ⟨h1, hb⟩ => ⟨h1.ans, hb⟩, fun W h => (refSquare_ok ao ca p W h h0).mono fun e w' ⟨h1, hb⟩ => ⟨h1.ans, hb⟩⟩
  · exact ⟨[], pe p, fun W h => (Square_bad ao ca p _ W h rfl h0 hl).mono fun e w' ⟨h1, hb⟩ => ⟨by rw [h1]; exact ans_err _ _, hb⟩, fun W h => (refSquare_bad ao ca p W h h0 hl).mono fun e w' ⟨h1, hb⟩ => ⟨by rw [h1]; exact ans_err _ _, hb⟩⟩
set_option maxHeartbeats 3200000 in
theorem lsq_few (ao : Option Addr) (l : List Int) (cap : Nat) (w : World) (hl : l.length ≤ 40) (hm : LiesOI w ao l) : Calls Try.prog 6 #[.slice ao l.length cap] w fun e w' => e = .returned (.bool true) ∧ Below w.heap.size w w' := by
  have kn := known3_any
  have hle : ¬ (40 : Int) < (l.length : Int) := by omega
  obtain ⟨N, r, c1, c2⟩ := squareAns ao cap l (by omega)
  have H := Lib.hid hm
  clear hm
  go_enter Try.func6, Try.ntmps6
  go_wp2_with (fail)
  refine (c1 _ (H.out.later (by repeat (first | (with_reducible exact Below.refl _ _) | (with_reducible refine Below.setCell ?_ ?_ _) | (with_reducible refine Below.drew ?_) | (with_reducible refine Below.alloc ?_ ?_ _) | omega | (simp <;> omega))))).mono ?_
  rintro e w3 ⟨⟨a3, k3, es, rfl, hT, hm, hn, hq⟩, hw3⟩
  have hb3 : Below w.heap.size w w3 := by repeat (first | (with_reducible exact Below.refl _ _) | (with_reducible refine Below.setCell ?_ ?_ _) | (with_reducible refine Below.drew ?_) | (with_reducible refine Below.alloc ?_ ?_ _) | (with_reducible refine Below.trans ?_ (Below.mono hw3 ?_)) | (with_reducible exact hw3.size) | omega | (simp <;> omega) | (simp <;> (have s := hw3.size; omega)) | (have s0 := hw3.size; (try simp at s0); (try simp); omega))
  have T1 := Lib.hid hT
  have M1 := Lib.hid hm
  have Q1 := Lib.hid hq
  clear c1 hw3 hT hm hq
  go_wp2_with (fail)
  refine (c2 _ (H.out.later hb3)).mono ?_
  rintro e w4 ⟨⟨a4, k4, fs, rfl, hT, hm, hn2, -⟩, hw4⟩
  have hb4 := hb3.trans (hw4.mono hb3.size)
  have T1 := Lib.hid (T1.out.later hw4)
  have T2 := Lib.hid hT
  have hE : tm es = tm fs := by rw [M1.out, hm]
  have HE := Lib.hid hE
  clear c2 hw4 hT hm hE M1
  go_wp2_with (fail)
  refine (sameTerms_true a3 a4 k3 k4 es fs _ T1.out T2.out HE.out hn Q1.out).mono ?_
  rintro e w7 ⟨rfl, hw7⟩
  have hb7 := hb4.trans (hw7.mono hb4.size)
  clear hw7 T1 T2
  go_wp2_with (fail)
  refine (kn _).mono ?_
  rintro e w9 ⟨rfl, hw9⟩
  have hb9 := hb7.trans (hw9.mono hb7.size)
  clear kn hw9
  go_wp2
  go_ret
  exact ⟨rfl, hb9⟩
set_option maxHeartbeats 1600000 in
theorem lsq_long (ao : Option Addr) (n cap : Nat) (w : World) (hn : 40 < n) : Calls Try.prog 6 #[.slice ao n cap] w fun e w' => e = .returned (.bool true) ∧ Below w.heap.size w w' := by
  have kn := known3_any
  have hle : (40 : Int) < (n : Int) := by omega
  go_enter Try.func6, Try.ntmps6
  go_wp2_with ((with_reducible refine (kn _).mono ?_); rintro e w1 ⟨rfl, hw1⟩)
  go_ret
  exact ⟨rfl, by repeat (first | (with_reducible exact Below.refl _ _) | (with_reducible refine Below.setCell ?_ ?_ _) | (with_reducible refine Below.drew ?_) | (with_reducible refine Below.alloc ?_ ?_ _) | (with_reducible refine Below.trans ?_ (Below.mono hw1 ?_)) | (with_reducible exact hw1.size) | omega | (simp <;> omega) | (simp <;> (have s := hw1.size; omega)) | (have s0 := hw1.size; (try simp at s0); (try simp); omega))⟩
theorem loopSquares_walk (ao : Option Addr) (l : List Int) (cap : Nat) (w : World) (hl : l.length ≤ cap) (hc : cap ≤ maxLen) (hm : LiesOI w ao l) : Calls Try.prog 6 #[.slice ao l.length cap] w fun e w' => e = .returned (.bool true) ∧ Below w.heap.size w w' := by
  by_cases hn : 40 < l.length
  · exact lsq_long ao _ cap w hn
  · exact lsq_few ao l cap w (by omega) hm

/-! ### The statement of the law LoopSquares, out of its walk -/
set_option maxRecDepth 100000 in
theorem loopSquares_lifted (os : Os) (started : os.Started) (H : Type) (enc : TypeId × Value → H) :
    ReturnsInHanded {} Try.checked os 6 .any (Rows.loopSquaresSpec.pre6 enc Try.prog Try.f6 Rows.loopSquaresRow.domain false) (Rows.loopSquaresSpec.post enc Try.prog Try.f6 false true false false) := by
  refine returnsInHanded_of_change (C := Try.checked) own started (by kernel_rfl) Try.func6
    (ChangeSpec.witness6 (enc := enc) (C := Try.checked) false ⟨#[], #[.slice none 0 0], []⟩ 8 (by kernel_rfl) (by kernel_rfl) (by kernel_rfl) (by kernel_rfl)) ?_
  intro W base args ds gs before hval0 hW hcnd _
  have hval : ∀ (j : Nat) t v, Try.f6.params[j]? = some t → args[j]? = some v → Value.okWide Try.prog W .any base t v := hval0
  have hW' := hW
  obtain ⟨p, q, hA0, hV, rfl, hfz, hnd⟩ := hW
  have hA : DataW.TrodAll enc Try.prog W 0 (fun _ => true) true Try.f6.params.toList args.toList ds p := hA0
  rw [Try.params6] at hA hval
  obtain ⟨v0, vs0, d0, ds0, p0, q0, hargs, rfl, rfl, h0, r0⟩ := trodAll_cons hA
  obtain ⟨rfl, rfl, rfl⟩ := trodAll_nil r0
  obtain rfl : args = #[v0] := by cases args; simp_all
  obtain ⟨rfl, rfl⟩ := trodVars_none hV
  have k0 := h0
  have lt0 : ∀ x ∈ p0, x.block < W.heap.size := by obtain ⟨m, hm⟩ := k0; exact DataW.trod_lt m _ _ _ hm
  obtain ⟨ao0, l0, cap0, rfl, hl0, hc0, hm0⟩ := open_intsO (hval 0 22 v0 rfl rfl) h0
  clear hA0 hval0
  refine (loopSquares_walk ao0 l0 cap0 W hl0 hc0 hm0).mono fun e W' ⟨he, bel⟩ => ?_
  subst he
  exact ⟨_, rfl, _, _, _, [], _, [], hW', trodAll_mk1 (shut_bool Try.underlying4 _), (trodAll_cons_mk (Below.trod laidOut (by kernel_rfl) (of_decide_eq_true (by kernel_rfl)) k0 bel lt0) trodAll_mk0), rfl, bel.frame _, fun h => by cases h⟩

theorem loopSquares_jf9 : (Rows.loopSquaresRow.inPlace == Try.prog.inPlace 6) = true := by kernel_rfl
theorem loopSquares_jf10 : (Rows.loopSquaresRow.unfollowed == Try.prog.unfollowed 6) = true := by kernel_rfl
theorem loopSquares_jf11 : (Rows.loopSquaresRow.recurses == Try.prog.recurses 6) = true := by kernel_rfl
theorem loopSquares_jf12 : (Rows.loopSquaresRow.named == Try.prog.varsNamed 6) = true := by kernel_rfl
theorem loopSquares_facts : joinedFacts Try.prog 6 Try.f6 Rows.loopSquaresSpec Rows.loopSquaresRow = true := by
  unfold joinedFacts
  exact (band (band (band (band (band (band (band (band (band (band (band (band (band (band (band (band (band (band (band (band (band (band (band (band (band (band (band (band (band (band (band (by kernel_rfl) jf1) jf2) (by kernel_rfl)) (by kernel_rfl)) (by kernel_rfl)) jf6) (by kernel_rfl)) jf8) loopSquares_jf9) loopSquares_jf10) loopSquares_jf11) loopSquares_jf12) (by kernel_rfl)) (by kernel_rfl)) (by kernel_rfl)) (by kernel_rfl)) (by kernel_rfl)) (by kernel_rfl)) (by kernel_rfl)) (by kernel_rfl)) (by kernel_rfl)) (by kernel_rfl)) (by kernel_rfl)) jf24) jf25) jf26) jf27) (by kernel_rfl)) (by kernel_rfl)) (by kernel_rfl)) (by kernel_rfl))

theorem loopSquares_over : Rows.loopSquaresRow.holds Try.pinned (OpenSpec.ofChange Rows.loopSquaresSpec) :=
  OpenClaim.holds_of_wide 6 Try.f6 rfl rfl rfl rfl rfl rfl rfl ⟨rfl, rfl, rfl, rfl, rfl⟩ rfl rfl rfl rfl rfl (by kernel_rfl) Try.func6 loopSquares_facts
    (of_decide_eq_true (by kernel_rfl)) (by unfold Func.isWrapper; first | (rw [if_pos (by decide +kernel)]; kernel_rfl) | (rw [if_neg (by decide +kernel)]; exact ⟨rfl, rfl⟩))
    (fun os started H enc _ => loopSquares_lifted os started H enc)

theorem loopSquares_holds : Rows.LoopSquaresSaid := loopSquares_over
#print axioms loopSquares_holds

end Go.Proofs.Ytjidbajcnomceaa
