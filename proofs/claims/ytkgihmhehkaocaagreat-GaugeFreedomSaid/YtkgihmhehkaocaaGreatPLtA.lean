/- The unit along a path, as the document's answers make it.
Conditions: those written at each theorem. -/
import Derived.Test.YtkgihmhehkaocaaGreatPAlongC
import Derived.Test.YtkgihmhehkaocaaGreatPCold
import Derived.Test.YtkgihmhehkaocaaGreatPClosC
import Derived.Test.YtkgihmhehkaocaaGreatPDist
namespace Go.Proofs.YtkgihmhehkaocaaGreat
set_option linter.unusedVariables false
set_option linter.unusedSimpArgs false
set_option maxRecDepth 1000000
open Go.RowKit
open Um Tm

/-- what a step reads -/
structure StepF (L : List Q) (s n t : Int) (y : Q) : Prop where
  s0 : 0 ≤ s
  s16 : s < 16
  n0 : 0 ≤ n
  n16 : n < 16
  ht : IsStep t
  fwd : 0 < t → L[(3 * s + t - 1).toNat]? = some y ∧ 0 ≤ 3 * s + t - 1 ∧ 3 * s + t - 1 < (L.length : Int)
  bwd : ¬ 0 < t → ∃ x, V x ∧ y = bar x ∧ L[(3 * n - t - 1).toNat]? = some x ∧ 0 ≤ 3 * n - t - 1 ∧ 3 * n - t - 1 < (L.length : Int)
end Go.Proofs.YtkgihmhehkaocaaGreat

/- Whether a path is closed, as the document's answers tell it.
Conditions: the list lies in memory as it is written at each theorem. -/
namespace Go.Proofs.YtkgihmhehkaocaaGreat
set_option linter.unusedVariables false
set_option linter.unusedSimpArgs false
set_option maxRecDepth 1000000
open Go.ChangeShapes Go.WideShapes Go.ChangeAt Go.RowKit
open Tm

end Go.Proofs.YtkgihmhehkaocaaGreat

/- Traces along paths, as the program and the document's answers make them.
Conditions: the lists lie in memory as it is written at each theorem. -/
namespace Go.Proofs.YtkgihmhehkaocaaGreat
set_option linter.unusedVariables false
set_option linter.unusedSimpArgs false
set_option maxRecDepth 1000000
open Go.RowKit
open Um Tm

def z2 : Value := .agg #[.int .i64 0, .int .i64 0]
/-! ### the document's -/
end Go.Proofs.YtkgihmhehkaocaaGreat
