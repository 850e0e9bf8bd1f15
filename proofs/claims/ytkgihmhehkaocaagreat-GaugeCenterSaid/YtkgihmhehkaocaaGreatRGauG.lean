/- Which quaternions are certificates, as the document's answers find it.
Conditions: those written at each theorem. -/
import Derived.Test.YtkgihmhehkaocaaGreatRGauF
import Derived.Test.YtkgihmhehkaocaaGreatRGauE
import Derived.Test.YtkgihmhehkaocaaGreatRSame4
namespace Go.Proofs.YtkgihmhehkaocaaGreat
set_option linter.unusedVariables false
set_option linter.unusedSimpArgs false
set_option maxRecDepth 1000000
open Go.RowKit
open Um Tm

end Go.Proofs.YtkgihmhehkaocaaGreat

/- Which quaternions are certificates, as the document's answers find it: Check.
Conditions: those written at each theorem. -/
namespace Go.Proofs.YtkgihmhehkaocaaGreat
set_option linter.unusedVariables false
set_option linter.unusedSimpArgs false
set_option maxRecDepth 1000000
open Go.RowKit
open Um Tm

end Go.Proofs.YtkgihmhehkaocaaGreat

/- The sanity check of the laws of layer 4, by the chapter's examples.
Conditions: none. -/
namespace Go.Proofs.YtkgihmhehkaocaaGreat
set_option linter.unusedVariables false
set_option linter.unusedSimpArgs false
set_option maxRecDepth 1000000
open Go.RowKit
open Um Tm

theorem smR_all {L : List Q} (h : AllS L) : ∃ ns, smR L ns true := by
  have key : ∀ k, k ≤ L.length → ∃ ms, Nums L ms k := by
    intro k
    induction k with
    | zero => exact fun _ => ⟨[], rfl, fun i x hi => absurd hi (Nat.not_lt_zero _)⟩
    | succ k ih =>
      intro hk
      obtain ⟨ms, hm⟩ := ih (by omega)
      have hx := List.getElem?_eq_getElem (show k < L.length by omega)
      obtain ⟨j, hj, he⟩ := sm2_is (h k _ hx)
      obtain ⟨r, b, hr⟩ := NumR.ex L[k]
      have hb : b = true := by
        rcases hr with ⟨_, _, _, _, _, hb⟩ | ⟨hno, _, _⟩
        · exact hb
        · exact absurd he.symm (hno j hj)
      subst hb
      exact ⟨_, nums_snoc hm hx hr⟩
  obtain ⟨ms, hm⟩ := key L.length (Nat.le_refl _)
  exact ⟨ms, .inl ⟨rfl, hm⟩⟩
def exA : List Q := [⟨0, 1, 0, 0, 1⟩, ⟨0, 0, 1, 0, 1⟩, ⟨0, 0, 0, 1, 1⟩]
def exB : List Q := [⟨0, 1, 0, 0, 1⟩, ⟨0, 0, 0, 1, 1⟩, ⟨0, 0, -1, 0, 1⟩]
theorem exS (L : List Q) (h : ∀ x ∈ L, ∃ k : Nat, k < 24 ∧ x = small k) : AllS L := fun i x hx => by
  obtain ⟨k, hk, rfl⟩ := h x (List.mem_of_getElem? hx)
  exact sm2_small hk
theorem exA_s : AllS exA := exS exA (by
  intro x hx
  have : ∀ x ∈ exA, ∃ k ∈ List.range 24, x = small (k : Int) := by decide +kernel
  obtain ⟨k, hk, he⟩ := this x hx
  exact ⟨k, List.mem_range.1 hk, he⟩)
theorem exB_s : AllS exB := exS exB (by
  intro x hx
  have : ∀ x ∈ exB, ∃ k ∈ List.range 24, x = small (k : Int) := by decide +kernel
  obtain ⟨k, hk, he⟩ := this x hx
  exact ⟨k, List.mem_range.1 hk, he⟩)
theorem sz111 : Sz 1 1 1 := ⟨by decide, by decide, by decide, by decide, by decide, by decide, by decide⟩
theorem fldR_small {a b c : Int} {L : List Q} (hz : Sz a b c) (hn : (L.length : Int) = 3 * (a * b * c)) (h : AllS L) : fldR a b c L 0 :=
  .inr (.inr ⟨hz, hn, .inl ⟨fun i x hx => .inr (.inr ⟨(h i x hx).1, by have := (h i x hx).2; omega, rfl⟩), rfl⟩⟩)
theorem lpA : lpL 1 1 1 1 exA = exA := by decide +kernel
theorem lpB : lpL 1 1 1 1 exB = exB := by decide +kernel
theorem ck1 : ckO exA exB ⟨1, 1, 0, 0, 0⟩ 0 := by
  refine .inr (.inr (.inl ⟨⟨by decide, by decide, by decide, by decide⟩, fun h => absurd h.1 (by decide), ?_, rfl⟩))
  unfold carP turnsP
  decide +kernel
theorem ck2 : ckO exA exB ⟨1, 0, 1, 0, 0⟩ 9 := by
  refine .inr (.inr (.inr ⟨⟨by decide, by decide, by decide, by decide⟩, fun h => absurd h.1 (by decide), ?_, rfl⟩))
  unfold carP turnsP
  decide +kernel
theorem tr221 : (trAt 2 2 1 (3 * 4)).2 = [0, 1, 4] := by decide +kernel
set_option maxHeartbeats 6400000 in
theorem sane4_any (w : World) : Calls Tryz.prog 7 #[] w fun e w' => e = .returned (.bool true) ∧ Below w.heap.size w w' := by
  obtain ⟨ms, hms⟩ := smR_all exA_s
  obtain ⟨ns, hns⟩ := smR_all exB_s
  have fA : fldR 1 1 1 exA 0 := fldR_small sz111 (by decide) exA_s
  have fB : fldR 1 1 1 exB 0 := fldR_small sz111 (by decide) exB_s
  have cA : ∀ (W : World) (b b' : Nat), Lies W b 0 exA → Lies W b' 0 exB → Calls Tryz.prog 24 #[.agg #[.int .i64 1, .int .i64 1, .int .i64 1, .slice (some ⟨b, 0, none⟩) 3 3], .agg #[.int .i64 1, .int .i64 1, .int .i64 1, .slice (some ⟨b', 0, none⟩) 3 3], .agg #[.int .i64 1, .int .i64 1, .int .i64 0, .int .i64 0]] W fun e w' => e = .returned (.int .i64 0) ∧ Below W.heap.size W w' := fun W b b' h h' => gaCk_ok 1 1 1 b 0 b' 0 3 3 1 exA exB ms ns ⟨1, 1, 0, 0, 0⟩ 0 W h h' fA fB hms hns (by decide) (by rw [lpA, lpB]; exact ck1)
  have cB : ∀ (W : World) (b b' : Nat), Lies W b 0 exA → Lies W b' 0 exB → Calls Tryz.prog 24 #[.agg #[.int .i64 1, .int .i64 1, .int .i64 1, .slice (some ⟨b, 0, none⟩) 3 3], .agg #[.int .i64 1, .int .i64 1, .int .i64 1, .slice (some ⟨b', 0, none⟩) 3 3], .agg #[.int .i64 1, .int .i64 0, .int .i64 1, .int .i64 0]] W fun e w' => e = .returned (.int .i64 9) ∧ Below W.heap.size W w' := fun W b b' h h' => gaCk_ok 1 1 1 b 0 b' 0 3 3 1 exA exB ms ns ⟨1, 0, 1, 0, 0⟩ 9 W h h' fA fB hms hns (by decide) (by rw [lpA, lpB]; exact ck2)
  have cT : ∀ W : World, Calls Tryz.prog 22 #[.agg #[.int .i64 2, .int .i64 2, .int .i64 1]] W fun e w' => (∃ ao k, e = .returned (.tuple #[.slice ao 3 k, .int .i64 0]) ∧ LiesOI w' ao [0, 1, 4]) ∧ Below W.heap.size W w' := fun W => by
    have := gaTree_ok 2 2 1 W ⟨by decide, by decide, by decide, by decide, by decide, by decide, by decide⟩ 4 (by decide)
    rw [tr221] at this
    exact this
  have cS : ∀ (W : World) (ao bo : Option Addr) (k k' : Nat), LiesOI W ao [0, 1, 4] → LiesOI W bo [0, 1, 4] → Calls Tryz.prog 23 #[.slice ao 3 k, .slice bo 3 k'] W fun e w' => e = .returned (.bool true) ∧ Below W.heap.size W w' := fun W ao bo k k' h h' => by
    have := sameInts4_any ao bo k k' [0, 1, 4] [0, 1, 4] W h h' (by decide)
    simpa using this
  clear hms hns fA fB
  go_enter Tryz.func7, Tryz.ntmps7
  go_wp2_with (fail)
  refine (cT _).mono ?_
  rintro e w1 ⟨⟨ao, k, rfl, ht⟩, hw1⟩
  have HT := Lib.hid ht
  clear cT ht
  have LA : Lies (((((((((w1).alloc (.cells #[.int .i64 0, .int .i64 1, .int .i64 0, .int .i64 0, .int .i64 1] 55)).alloc (.cells #[.int .i64 0, .int .i64 0, .int .i64 1, .int .i64 0, .int .i64 1] 55)).alloc (.cells #[.int .i64 0, .int .i64 0, .int .i64 0, .int .i64 1, .int .i64 1] 55)).alloc (.cells #[.int .i64 0, .int .i64 1, .int .i64 0, .int .i64 0, .int .i64 1, .int .i64 0, .int .i64 0, .int .i64 1, .int .i64 0, .int .i64 1, .int .i64 0, .int .i64 0, .int .i64 0, .int .i64 1, .int .i64 1] 55)).alloc (.cells #[.int .i64 1, .int .i64 1, .int .i64 1, .slice (some ⟨w1.heap.size + 1 + 1 + 1, 0, none⟩) 3 3] 25)).alloc (.cells #[.int .i64 0, .int .i64 1, .int .i64 0, .int .i64 0, .int .i64 1, .int .i64 0, .int .i64 0, .int .i64 0, .int .i64 1, .int .i64 1, .int .i64 0, .int .i64 0, .int .i64 (-1), .int .i64 0, .int .i64 1] 55)).alloc (.cells #[.int .i64 1, .int .i64 1, .int .i64 1, .slice (some ⟨w1.heap.size + 1 + 1 + 1 + 1 + 1, 0, none⟩) 3 3] 25)).alloc (.cells #[.int .i64 0, .int .i64 1, .int .i64 4] 3)) (w1.heap.size + 1 + 1 + 1) 0 exA := fun i x hx => by
    match i, hx with
    | 0, hx => simp [exA] at hx; subst hx; exact ⟨by simp [go_sem], by simp [go_sem], by simp [go_sem], by simp [go_sem], by simp [go_sem]⟩
    | 1, hx => simp [exA] at hx; subst hx; exact ⟨by simp [go_sem], by simp [go_sem], by simp [go_sem], by simp [go_sem], by simp [go_sem]⟩
    | 2, hx => simp [exA] at hx; subst hx; exact ⟨by simp [go_sem], by simp [go_sem], by simp [go_sem], by simp [go_sem], by simp [go_sem]⟩
    | n + 3, hx => simp [exA] at hx
  have LB : Lies (((((((((w1).alloc (.cells #[.int .i64 0, .int .i64 1, .int .i64 0, .int .i64 0, .int .i64 1] 55)).alloc (.cells #[.int .i64 0, .int .i64 0, .int .i64 1, .int .i64 0, .int .i64 1] 55)).alloc (.cells #[.int .i64 0, .int .i64 0, .int .i64 0, .int .i64 1, .int .i64 1] 55)).alloc (.cells #[.int .i64 0, .int .i64 1, .int .i64 0, .int .i64 0, .int .i64 1, .int .i64 0, .int .i64 0, .int .i64 1, .int .i64 0, .int .i64 1, .int .i64 0, .int .i64 0, .int .i64 0, .int .i64 1, .int .i64 1] 55)).alloc (.cells #[.int .i64 1, .int .i64 1, .int .i64 1, .slice (some ⟨w1.heap.size + 1 + 1 + 1, 0, none⟩) 3 3] 25)).alloc (.cells #[.int .i64 0, .int .i64 1, .int .i64 0, .int .i64 0, .int .i64 1, .int .i64 0, .int .i64 0, .int .i64 0, .int .i64 1, .int .i64 1, .int .i64 0, .int .i64 0, .int .i64 (-1), .int .i64 0, .int .i64 1] 55)).alloc (.cells #[.int .i64 1, .int .i64 1, .int .i64 1, .slice (some ⟨w1.heap.size + 1 + 1 + 1 + 1 + 1, 0, none⟩) 3 3] 25)).alloc (.cells #[.int .i64 0, .int .i64 1, .int .i64 4] 3)) (w1.heap.size + 1 + 1 + 1 + 1 + 1) 0 exB := fun i x hx => by
    match i, hx with
    | 0, hx => simp [exB] at hx; subst hx; exact ⟨by simp [go_sem], by simp [go_sem], by simp [go_sem], by simp [go_sem], by simp [go_sem]⟩
    | 1, hx => simp [exB] at hx; subst hx; exact ⟨by simp [go_sem], by simp [go_sem], by simp [go_sem], by simp [go_sem], by simp [go_sem]⟩
    | 2, hx => simp [exB] at hx; subst hx; exact ⟨by simp [go_sem], by simp [go_sem], by simp [go_sem], by simp [go_sem], by simp [go_sem]⟩
    | n + 3, hx => simp [exB] at hx
  have FA : FW (((((((((w1).alloc (.cells #[.int .i64 0, .int .i64 1, .int .i64 0, .int .i64 0, .int .i64 1] 55)).alloc (.cells #[.int .i64 0, .int .i64 0, .int .i64 1, .int .i64 0, .int .i64 1] 55)).alloc (.cells #[.int .i64 0, .int .i64 0, .int .i64 0, .int .i64 1, .int .i64 1] 55)).alloc (.cells #[.int .i64 0, .int .i64 1, .int .i64 0, .int .i64 0, .int .i64 1, .int .i64 0, .int .i64 0, .int .i64 1, .int .i64 0, .int .i64 1, .int .i64 0, .int .i64 0, .int .i64 0, .int .i64 1, .int .i64 1] 55)).alloc (.cells #[.int .i64 1, .int .i64 1, .int .i64 1, .slice (some ⟨w1.heap.size + 1 + 1 + 1, 0, none⟩) 3 3] 25)).alloc (.cells #[.int .i64 0, .int .i64 1, .int .i64 0, .int .i64 0, .int .i64 1, .int .i64 0, .int .i64 0, .int .i64 0, .int .i64 1, .int .i64 1, .int .i64 0, .int .i64 0, .int .i64 (-1), .int .i64 0, .int .i64 1] 55)).alloc (.cells #[.int .i64 1, .int .i64 1, .int .i64 1, .slice (some ⟨w1.heap.size + 1 + 1 + 1 + 1 + 1, 0, none⟩) 3 3] 25)).alloc (.cells #[.int .i64 0, .int .i64 1, .int .i64 4] 3)) (w1.heap.size + 1 + 1 + 1 + 1) 1 1 1 (.slice (some ⟨w1.heap.size + 1 + 1 + 1, 0, none⟩) 3 3) := ⟨by simp [go_sem], by simp [go_sem], by simp [go_sem], by simp [go_sem], fun j => by simp [go_sem], by simp <;> omega⟩
  have FB : FW (((((((((w1).alloc (.cells #[.int .i64 0, .int .i64 1, .int .i64 0, .int .i64 0, .int .i64 1] 55)).alloc (.cells #[.int .i64 0, .int .i64 0, .int .i64 1, .int .i64 0, .int .i64 1] 55)).alloc (.cells #[.int .i64 0, .int .i64 0, .int .i64 0, .int .i64 1, .int .i64 1] 55)).alloc (.cells #[.int .i64 0, .int .i64 1, .int .i64 0, .int .i64 0, .int .i64 1, .int .i64 0, .int .i64 0, .int .i64 1, .int .i64 0, .int .i64 1, .int .i64 0, .int .i64 0, .int .i64 0, .int .i64 1, .int .i64 1] 55)).alloc (.cells #[.int .i64 1, .int .i64 1, .int .i64 1, .slice (some ⟨w1.heap.size + 1 + 1 + 1, 0, none⟩) 3 3] 25)).alloc (.cells #[.int .i64 0, .int .i64 1, .int .i64 0, .int .i64 0, .int .i64 1, .int .i64 0, .int .i64 0, .int .i64 0, .int .i64 1, .int .i64 1, .int .i64 0, .int .i64 0, .int .i64 (-1), .int .i64 0, .int .i64 1] 55)).alloc (.cells #[.int .i64 1, .int .i64 1, .int .i64 1, .slice (some ⟨w1.heap.size + 1 + 1 + 1 + 1 + 1, 0, none⟩) 3 3] 25)).alloc (.cells #[.int .i64 0, .int .i64 1, .int .i64 4] 3)) (w1.heap.size + 1 + 1 + 1 + 1 + 1 + 1) 1 1 1 (.slice (some ⟨w1.heap.size + 1 + 1 + 1 + 1 + 1, 0, none⟩) 3 3) := ⟨by simp [go_sem], by simp [go_sem], by simp [go_sem], by simp [go_sem], fun j => by simp [go_sem], by simp <;> omega⟩
  have LI : LiesOI (((((((((w1).alloc (.cells #[.int .i64 0, .int .i64 1, .int .i64 0, .int .i64 0, .int .i64 1] 55)).alloc (.cells #[.int .i64 0, .int .i64 0, .int .i64 1, .int .i64 0, .int .i64 1] 55)).alloc (.cells #[.int .i64 0, .int .i64 0, .int .i64 0, .int .i64 1, .int .i64 1] 55)).alloc (.cells #[.int .i64 0, .int .i64 1, .int .i64 0, .int .i64 0, .int .i64 1, .int .i64 0, .int .i64 0, .int .i64 1, .int .i64 0, .int .i64 1, .int .i64 0, .int .i64 0, .int .i64 0, .int .i64 1, .int .i64 1] 55)).alloc (.cells #[.int .i64 1, .int .i64 1, .int .i64 1, .slice (some ⟨w1.heap.size + 1 + 1 + 1, 0, none⟩) 3 3] 25)).alloc (.cells #[.int .i64 0, .int .i64 1, .int .i64 0, .int .i64 0, .int .i64 1, .int .i64 0, .int .i64 0, .int .i64 0, .int .i64 1, .int .i64 1, .int .i64 0, .int .i64 0, .int .i64 (-1), .int .i64 0, .int .i64 1] 55)).alloc (.cells #[.int .i64 1, .int .i64 1, .int .i64 1, .slice (some ⟨w1.heap.size + 1 + 1 + 1 + 1 + 1, 0, none⟩) 3 3] 25)).alloc (.cells #[.int .i64 0, .int .i64 1, .int .i64 4] 3)) (some ⟨w1.heap.size + 1 + 1 + 1 + 1 + 1 + 1 + 1, 0, none⟩) [0, 1, 4] := .inr ⟨_, _, rfl, fun i x hx => by
    match i, hx with
    | 0, hx => simp at hx; subst hx; simp [go_sem]
    | 1, hx => simp at hx; subst hx; simp [go_sem]
    | 2, hx => simp at hx; subst hx; simp [go_sem]
    | n + 3, hx => simp at hx⟩
  have BW : Below w1.heap.size w1 (((((((((w1).alloc (.cells #[.int .i64 0, .int .i64 1, .int .i64 0, .int .i64 0, .int .i64 1] 55)).alloc (.cells #[.int .i64 0, .int .i64 0, .int .i64 1, .int .i64 0, .int .i64 1] 55)).alloc (.cells #[.int .i64 0, .int .i64 0, .int .i64 0, .int .i64 1, .int .i64 1] 55)).alloc (.cells #[.int .i64 0, .int .i64 1, .int .i64 0, .int .i64 0, .int .i64 1, .int .i64 0, .int .i64 0, .int .i64 1, .int .i64 0, .int .i64 1, .int .i64 0, .int .i64 0, .int .i64 0, .int .i64 1, .int .i64 1] 55)).alloc (.cells #[.int .i64 1, .int .i64 1, .int .i64 1, .slice (some ⟨w1.heap.size + 1 + 1 + 1, 0, none⟩) 3 3] 25)).alloc (.cells #[.int .i64 0, .int .i64 1, .int .i64 0, .int .i64 0, .int .i64 1, .int .i64 0, .int .i64 0, .int .i64 0, .int .i64 1, .int .i64 1, .int .i64 0, .int .i64 0, .int .i64 (-1), .int .i64 0, .int .i64 1] 55)).alloc (.cells #[.int .i64 1, .int .i64 1, .int .i64 1, .slice (some ⟨w1.heap.size + 1 + 1 + 1 + 1 + 1, 0, none⟩) 3 3] 25)).alloc (.cells #[.int .i64 0, .int .i64 1, .int .i64 4] 3)) := by repeat (first | (with_reducible exact Below.refl _ _) | (with_reducible refine Below.setCell ?_ ?_ _) | (with_reducible refine Below.drew ?_) | (with_reducible refine Below.alloc ?_ ?_ _) | omega | (simp <;> omega))
  have HLA := Lib.hid LA
  have HLB := Lib.hid LB
  have HFA := Lib.hid FA
  have HFB := Lib.hid FB
  have HLI := Lib.hid LI
  have HBW := Lib.hid BW
  clear LA LB FA FB LI BW
  go_wp2_with (fail)
  refine (cS _ _ _ _ _ (HT.out.later HBW.out) HLI.out).mono ?_
  rintro e w2 ⟨rfl, hw2⟩
  have B2 := Lib.hid (hw1.trans ((HBW.out.trans (hw2.mono HBW.out.size)).mono hw1.size))
  have A2 := Lib.hid (HLA.out.later hw2)
  have C2 := Lib.hid (HLB.out.later hw2)
  have E2 := Lib.hid (HFA.out.later hw2)
  have G2 := Lib.hid (HFB.out.later hw2)
  clear cS hw1 hw2 HLA HLB HFA HFB HLI HBW HT
  obtain ⟨f0, f1, f2, f3, ff, fl⟩ := E2.out
  obtain ⟨g0, g1, g2, g3, gf, gl⟩ := G2.out
  go_wp2_with (fail)
  refine (cA _ _ _ A2.out C2.out).mono ?_
  rintro e w3 ⟨rfl, hw3⟩
  have B3 := Lib.hid (B2.out.trans (hw3.mono B2.out.size))
  have A3 := Lib.hid (A2.out.later hw3)
  have C3 := Lib.hid (C2.out.later hw3)
  have E3 := Lib.hid (E2.out.later hw3)
  have G3 := Lib.hid (G2.out.later hw3)
  clear cA hw3 A2 C2 E2 G2 f0 f1 f2 f3 ff fl g0 g1 g2 g3 gf gl B2
  obtain ⟨f0, f1, f2, f3, ff, fl⟩ := E3.out
  obtain ⟨g0, g1, g2, g3, gf, gl⟩ := G3.out
  go_wp2_with (fail)
  refine (cB _ _ _ A3.out C3.out).mono ?_
  rintro e w4 ⟨rfl, hw4⟩
  have B4 := Lib.hid (B3.out.trans (hw4.mono B3.out.size))
  clear cB hw4 A3 C3 E3 G3 f0 f1 f2 f3 ff fl g0 g1 g2 g3 gf gl B3
  go_wp2
  go_ret
  exact ⟨rfl, B4.out⟩
end Go.Proofs.YtkgihmhehkaocaaGreat

/- Which fields are long, and the answers of Check, for any fields.
Conditions: those written at each theorem. -/
namespace Go.Proofs.YtkgihmhehkaocaaGreat
set_option linter.unusedVariables false
set_option linter.unusedSimpArgs false
set_option maxRecDepth 1000000
open Go.RowKit
open Um Tm

set_option maxHeartbeats 800000 in
theorem long4_any (a b c : Int) (ao : Option Addr) (cap : Nat) (L : List Q) (d : Bool) (w : World) (h : (200 < L.length ∧ d = true) ∨ (L.length ≤ 200 ∧ d = false)) : Calls Tryz.prog 6 #[.agg #[.int .i64 a, .int .i64 b, .int .i64 c, .slice ao L.length cap]] w fun e w' => e = .returned (.bool d) ∧ Below w.heap.size w w' := by
  rcases h with ⟨h, rfl⟩ | ⟨h, rfl⟩
  · have h1 : (200 : Int) < (L.length : Int) := by omega
    clear h
    go_enter Tryz.func6, Tryz.ntmps6
    go_wp2
    go_ret
    exact ⟨rfl, ba1⟩
  · have h1 : ¬ (200 : Int) < (L.length : Int) := by omega
    clear h
    go_enter Tryz.func6, Tryz.ntmps6
    go_wp2
    go_ret
    exact ⟨rfl, ba1⟩
theorem fld_pos {a b c : Int} {L : List Q} (h : fldR a b c L 0) : 0 < L.length := by
  have hz := (fldR_ok h).1
  have hn := (fldR_ok h).2.1
  obtain ⟨-, -, p3, -⟩ := mul_rng hz.a1 hz.a4 hz.b1 hz.b4 hz.c1 hz.c4
  omega
theorem liesO_some {w : World} {ao : Option Addr} {L : List Q} (h : LiesO w ao L) (hp : 0 < L.length) : ∃ b f, ao = some ⟨b, f, none⟩ ∧ Lies w b f L := by
  rcases h with h | h
  · rw [h] at hp; exact absurd hp (by simp)
  · exact h
end Go.Proofs.YtkgihmhehkaocaaGreat
