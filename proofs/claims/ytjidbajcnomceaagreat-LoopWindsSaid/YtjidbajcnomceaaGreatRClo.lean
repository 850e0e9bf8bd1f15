/- Whether a path is closed, as the document's answers tell it.
Conditions: the list lies in memory as it is written at each theorem. -/
import Derived.Test.YtjidbajcnomceaaGreatClosC
namespace Go.Proofs.YtjidbajcnomceaaGreat
set_option linter.unusedVariables false
set_option linter.unusedSimpArgs false
set_option maxRecDepth 1000000
open Go.ChangeShapes Go.WideShapes Go.ChangeAt Go.RowKit
open Tm

set_option maxHeartbeats 800000 in
theorem refClosed_nil (a b c : Int) (ao : Option Addr) (cap : Nat) (w : World) (hz : Sz a b c) : Calls Tryz.prog 33 #[.agg #[.int .i64 a, .int .i64 b, .int .i64 c], .slice ao 0 cap] w fun e w' => e = .returned (.bool true) ∧ Below w.heap.size w w' := by
  obtain ⟨a1, a4, b1, b4, c1, c4, -⟩ := hz
  have a0 : (a == 0) = false := by simp; omega
  have b0 : (b == 0) = false := by simp; omega
  have c0 : (c == 0) = false := by simp; omega
  go_enter Tryz.func33, Tryz.ntmps33
  go_wp2
  refine wp_loop_rounds 1 ?_
  rw [rounds_succ]
  go_wp2
  go_ret
  exact ⟨rfl, by repeat (first | (with_reducible exact Below.refl _ _) | (with_reducible refine Below.setCell ?_ ?_ _) | (with_reducible refine Below.drew ?_) | (with_reducible refine Below.alloc ?_ ?_ _) | omega | (simp <;> omega))⟩
theorem refClosed_any (a b c : Int) (q : Bool) (ao : Option Addr) (cap : Nat) (l : List Int) (w : World) (hz : Sz a b c) (h : LiesOI w ao l) (hs : ∀ t ∈ l, IsStep t) (h8 : l.length ≤ 8) (hq : (Clo a b c l ∧ q = true) ∨ (¬ Clo a b c l ∧ q = false)) : Calls Tryz.prog 33 #[.agg #[.int .i64 a, .int .i64 b, .int .i64 c], .slice ao l.length cap] w fun e w' => e = .returned (.bool q) ∧ Below w.heap.size w w' := by
  rcases h with rfl | ⟨ba, off, rfl, h⟩
  · have hc : Clo a b c [] := ⟨⟨0, by simp [sm]⟩, ⟨0, by simp [sm]⟩, ⟨0, by simp [sm]⟩⟩
    obtain rfl : q = true := by
      rcases hq with ⟨_, h⟩ | ⟨h, _⟩
      · exact h
      · exact absurd hc h
    exact refClosed_nil a b c ao cap w hz
  · exact refClosed_some a b c q ba off cap l w hz h hs h8 hq

end Go.Proofs.YtjidbajcnomceaaGreat
