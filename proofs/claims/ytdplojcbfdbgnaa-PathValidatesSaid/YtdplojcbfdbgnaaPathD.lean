/- Paths without steps that undo each other, as the program and the document's answers make them.
Conditions: the list lies in memory as it is written at each theorem. -/
import Derived.Test.YtdplojcbfdbgnaaPathB
namespace Go.Proofs.Ytdplojcbfdbgnaa
set_option linter.unusedVariables false
set_option linter.unusedSimpArgs false
set_option maxRecDepth 1000000
open Go.RowKit
open Tm

/-- the list that a stack lies as -/
def stl (st : List Int) : List Value := st.reverse.map vi
theorem stl_cons (x : Int) (st : List Int) : stl (x :: st) = stl st ++ [vi x] := by simp [stl]
theorem stl_top (x : Int) (st : List Int) : (stl (x :: st))[st.length]? = some (vi x) := by
  rw [stl_cons, List.getElem?_append_right (by simp [stl])]
  simp [stl]
theorem stl_take (x : Int) (st : List Int) : (stl (x :: st)).take st.length = stl st := by
  rw [stl_cons]
  exact List.take_left' (by simp [stl])

theorem owned_some {w : World} {base : Nat} {T : TypeId} {v : Value} {n : Nat} {xs : List Value} (h : w.ownsRow base T 1 v n xs) (hn : 0 < n) : ∃ g cap, v = .slice (some ⟨g, 0, none⟩) n cap ∧ base ≤ g := by
  rcases h.2 with ⟨rfl, h0⟩ | ⟨g, cap, cur, rfl, hg, _⟩
  · omega
  · exact ⟨g, cap, rfl, hg⟩
theorem owned_zero {w : World} {base : Nat} {T : TypeId} {v : Value} {xs : List Value} (h : w.ownsRow base T 1 v 0 xs) : ∃ ao cap, v = .slice ao 0 cap := by
  rcases h.2 with ⟨rfl, h0⟩ | ⟨g, cap, cur, rfl, hg, _⟩
  · exact ⟨none, 0, rfl⟩
  · exact ⟨_, cap, rfl⟩

end Go.Proofs.Ytdplojcbfdbgnaa
