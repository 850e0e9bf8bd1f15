/- What the small functions of the program and of the document's answers hand back: bounds, signs, greatest common divisors, parts of quaternions.
Conditions: the bounds written at each theorem. -/
import Derived.Test.YthloceljgmmdbaaRows
import Derived.Test.YthloceljgmmdbaaMathA
import Derived.Test.YthloceljgmmdbaaRegA
import Derived.WalkKit
import Derived.WalkSpells
import Derived.WalkLawsBesides
import Derived.Lib.Hide
import Derived.BigQuiet
import Derived.Deep.DeepFit
namespace Go.Proofs.Ythloceljgmmdbaa
set_option linter.unusedVariables false
set_option linter.unusedSimpArgs false
open Go.RowKit
open Um

def inB (n lo hi : Int) : Bool := decide (lo ≤ n ∧ n ≤ hi)
theorem inB_yes {n lo hi : Int} (h1 : lo ≤ n) (h2 : n ≤ hi) : inB n lo hi = true := by simp [inB, h1, h2]
theorem inB_no {n lo hi : Int} (h : ¬ (lo ≤ n ∧ n ≤ hi)) : inB n lo hi = false := by simp only [inB, decide_eq_false_iff_not]; exact h

/-- Every product of a part of x and one of y lies within a bound: what an int can hold, four times over. -/
structure Small2 (x y : Q) : Prop where
  h : ∀ p q : Int, (p = x.a ∨ p = x.b ∨ p = x.c ∨ p = x.d ∨ p = x.n) → (q = y.a ∨ q = y.b ∨ q = y.c ∨ q = y.d ∨ q = y.n) → -1152921504606846976 ≤ p * q ∧ p * q ≤ 1152921504606846976

end Go.Proofs.Ythloceljgmmdbaa
