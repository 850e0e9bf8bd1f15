/- What the program and the document answer about sums, in one form: the same terms and the same error.
Conditions: those written at each theorem. -/
import Derived.Test.YtjidbajcnomceaaLoopS
import Derived.Test.YtjidbajcnomceaaLoopG
import Derived.Test.YtjidbajcnomceaaOpenTm
namespace Go.Proofs.Ytjidbajcnomceaa
set_option linter.unusedVariables false
set_option linter.unusedSimpArgs false
set_option maxRecDepth 1000000
open Go.RowKit Go.Sort
open Um Tm Lm

/-- an answer: terms and an error -/
def Ans (N : List Trm) (r : Int) (e : Ending) (w' : World) : Prop :=
  ∃ a c, ∃ es : List E, e = .returned (.tuple #[.slice a es.length c, .int .i64 r]) ∧ Trs w' a es ∧ tm es = N ∧ es.length ≤ 1000000 ∧ ∀ e ∈ es, e.p.length ≤ 1000000
theorem trs_nil (w : World) : Trs w none [] := ⟨.inl rfl, fun e he => by simp at he⟩
theorem ans_err (r : Int) (w : World) : Ans [] r (.returned (.tuple #[.slice none 0 0, .int .i64 r])) w := ⟨none, 0, [], rfl, trs_nil w, rfl, by simp, fun e he => by simp at he⟩
theorem ans_es {es : List E} {N : List Trm} (hv : vT N = 0) (hm : tm es = N) : es.length ≤ 1000000 ∧ ∀ e ∈ es, e.p.length ≤ 1000000 := by
  rw [← hm] at hv
  obtain ⟨h1, h2⟩ := vT_small hv
  exact ⟨by omega, fun e he => by have := (h2 e he).1; omega⟩
/-- the terms and the error of a sum that has been reckoned -/
def ansN (L : List Trm) : List Trm := if vT (plT L) = 0 then plT L else []
def ansR (L : List Trm) : Int := if vT (plT L) = 0 then 0 else 3
theorem RetP.ans {B : Nat} {L : List Trm} {e : Ending} {w' : World} (h : RetP B L e w') : Ans (ansN L) (ansR L) e w' := by
  rcases h with ⟨h0, a, c, es, rfl, hT, hm⟩ | ⟨h0, rfl⟩
  · unfold ansN ansR
    rw [if_pos h0, if_pos h0]
    exact ⟨a, c, es, rfl, hT.o, hm, (ans_es h0 hm).1, (ans_es h0 hm).2⟩
  · unfold ansN ansR
    rw [if_neg h0, if_neg h0]
    exact ans_err 3 w'
theorem RetD.ans {L : List Trm} {e : Ending} {w' : World} (h : RetD L e w') : Ans (ansN L) (ansR L) e w' := by
  rcases h with ⟨h0, a, c, es, rfl, hT, hm⟩ | ⟨h0, rfl⟩
  · unfold ansN ansR
    rw [if_pos h0, if_pos h0]
    exact ⟨a, c, es, rfl, hT, hm, (ans_es h0 hm).1, (ans_es h0 hm).2⟩
  · unfold ansN ansR
    rw [if_neg h0, if_neg h0]
    exact ans_err 3 w'
theorem few_big {l : List E} (h : few l) : l.length ≤ 1000000 ∧ ∀ e ∈ l, e.p.length ≤ 1000000 := ⟨by have := h.1; omega, fun e he => by have := h.2 e he; omega⟩
theorem addAns (ao bo : Option Addr) (ca cb : Nat) (l m : List E) (hf : few l) (hf2 : few m) : ∃ N r, (∀ W, Trs W ao l → Trs W bo m → Calls Try.prog 22 #[.slice ao l.length ca, .slice bo m.length cb] W fun e w' => Ans N r e w' ∧ Below W.heap.size W w') ∧
    (∀ W, Trs W ao l → Trs W bo m → Calls Try.prog 23 #[.slice ao l.length ca, .slice bo m.length cb] W fun e w' => Ans N r e w' ∧ Below W.heap.size W w') := by
  by_cases h0 : bothR l m = 0
  · have hv : vT (tm l) = 0 := by
      unfold bothR at h0
      by_cases hv : vT (tm l) = 0
      · exact hv
      · rw [if_neg hv] at h0; exact absurd h0 hv
    have hv2 : vT (tm m) = 0 := by unfold bothR at h0; rwa [if_pos hv] at h0
    exact ⟨_, _, fun W h h2 => (Add_ok ao bo ca cb l m W h h2 hv hv2).mono fun e w' ⟨h1, hb⟩ => ⟨h1.ans, hb⟩, fun W h h2 => (refAdd_ok ao bo ca cb l m W h h2 hv hv2).mono fun e w' ⟨h1, hb⟩ => ⟨h1.ans, hb⟩⟩
  · obtain ⟨f1, f2⟩ := few_big hf
    obtain ⟨g1, g2⟩ := few_big hf2
    exact ⟨[], bothR l m, fun W h h2 => (Add_bad ao bo ca cb l m _ W h h2 rfl h0 f1 f2 g1 g2).mono fun e w' ⟨h1, hb⟩ => ⟨by rw [h1]; exact ans_err _ _, hb⟩, fun W h h2 => (refAdd_bad ao bo ca cb l m W h h2 h0 f1 f2 g1 g2).mono fun e w' ⟨h1, hb⟩ => ⟨by rw [h1]; exact ans_err _ _, hb⟩⟩
theorem scaleAns (ao : Option Addr) (ca : Nat) (l : List E) (k : Int) (hf : few l) : ∃ N r, (∀ W, Trs W ao l → Calls Try.prog 24 #[.slice ao l.length ca, .int .i64 k] W fun e w' => Ans N r e w' ∧ Below W.heap.size W w') ∧
    (∀ W, Trs W ao l → Calls Try.prog 25 #[.slice ao l.length ca, .int .i64 k] W fun e w' => Ans N r e w' ∧ Below W.heap.size W w') := by
  by_cases hv : vT (tm l) = 0
  · by_cases hk : okC k
    · exact ⟨_, _, fun W h => (Scale_ok ao ca l k W h hv hk).mono fun e w' ⟨h1, hb⟩ => ⟨h1.ans, hb⟩, fun W h => (refScale_ok ao ca l k W h hv hk).mono fun e w' ⟨h1, hb⟩ => ⟨h1.ans, hb⟩⟩
    · exact ⟨[], 1, fun W h => (Scale_arg ao ca l k W h hv hk).mono fun e w' ⟨h1, hb⟩ => ⟨by rw [h1]; exact ans_err _ _, hb⟩, fun W h => (refScale_arg ao ca l k W h hv hk).mono fun e w' ⟨h1, hb⟩ => ⟨by rw [h1]; exact ans_err _ _, hb⟩⟩
  · obtain ⟨f1, f2⟩ := few_big hf
    exact ⟨[], _, fun W h => (Scale_bad ao ca l k _ W h rfl hv f1 f2).mono fun e w' ⟨h1, hb⟩ => ⟨by rw [h1]; exact ans_err _ _, hb⟩, fun W h => (refScale_bad ao ca l k W h hv f1 f2).mono fun e w' ⟨h1, hb⟩ => ⟨by rw [h1]; exact ans_err _ _, hb⟩⟩
end Go.Proofs.Ytjidbajcnomceaa
