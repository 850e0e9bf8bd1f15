/- A link of a field, as the program and the document's answers read it.
Conditions: the list lies in memory as it is written at each theorem. -/
import Derived.Test.YtkgihmhehkaocaaGreatPLBox
import Derived.Test.YtkgihmhehkaocaaGreatPMathA
namespace Go.Proofs.YtkgihmhehkaocaaGreat
set_option linter.unusedVariables false
set_option linter.unusedSimpArgs false
set_option maxRecDepth 1000000
open Go.RowKit
open Um Tm

/-- the error of a field, a site and a direction -/
def lnR (a b c : Int) (L : List Q) (s d r : Int) : Prop := (fldR a b c L r ∧ r ≠ 0) ∨ (fldR a b c L 0 ∧ ¬ (0 ≤ s ∧ s < a * b * c) ∧ r = 4) ∨ (fldR a b c L 0 ∧ 0 ≤ s ∧ s < a * b * c ∧ ¬ (0 ≤ d ∧ d ≤ 2) ∧ r = 1) ∨ (fldR a b c L 0 ∧ 0 ≤ s ∧ s < a * b * c ∧ 0 ≤ d ∧ d ≤ 2 ∧ r = 0)
end Go.Proofs.YtkgihmhehkaocaaGreat
