/- Whether a quaternion has the length 1, and which units are valid, as the program finds it.
Conditions: the bounds written at each theorem. -/
import Derived.Test.YthloceljgmmdbaaIsUnit
import Derived.Test.YthloceljgmmdbaaRaw
import Derived.BigQuiet
namespace Go.Proofs.Ythloceljgmmdbaa
set_option linter.unusedVariables false
set_option linter.unusedSimpArgs false
open Go.RowKit
open Um

def uB (x : Q) : Bool := decide (x.a * x.a + (x.b * x.b + x.c * x.c + x.d * x.d) = x.n * x.n)
theorem uB_iff (x : Q) (hn : 0 < x.n) : uB x = true ↔ U x := by
  simp only [uB, decide_eq_true_eq]
  constructor
  · intro h; exact ⟨hn, by omega⟩
  · intro h; have := h.len; omega
theorem uB_false_of {x : Q} (hn : 0 < x.n) (h : ¬ (-x.n ≤ x.a ∧ x.a ≤ x.n ∧ -x.n ≤ x.b ∧ x.b ≤ x.n ∧ -x.n ≤ x.c ∧ x.c ≤ x.n ∧ -x.n ≤ x.d ∧ x.d ≤ x.n)) : uB x = false := by
  cases e : uB x
  · rfl
  · exact absurd (part_le x ((uB_iff x hn).1 e)) h
theorem inB_iff {n lo hi : Int} : inB n lo hi = true ↔ lo ≤ n ∧ n ≤ hi := by simp [inB]
theorem inB_false {n lo hi : Int} (h : inB n lo hi = false) : ¬ (lo ≤ n ∧ n ≤ hi) := fun h' => by rw [inB_iff.2 h'] at h; cases h

end Go.Proofs.Ythloceljgmmdbaa
