/- Which units are valid, as the document's answers find it.
Conditions: none. -/
import Derived.Test.YthloceljgmmdbaaLow
import Derived.Test.YthloceljgmmdbaaRaw
namespace Go.Proofs.Ythloceljgmmdbaa
set_option linter.unusedVariables false
set_option linter.unusedSimpArgs false
open Go.RowKit
open Um

theorem inB_iff2 {n lo hi : Int} : inB n lo hi = true ↔ lo ≤ n ∧ n ≤ hi := by simp [inB]

end Go.Proofs.Ythloceljgmmdbaa
