/- Products of lists of units, as the document's answers make them.
Conditions: the list lies in memory as it is written at each theorem. -/
import Derived.Test.YtkgihmhehkaocaaGreatPProd
import Derived.Test.YtkgihmhehkaocaaGreatPMid
namespace Go.Proofs.YtkgihmhehkaocaaGreat
set_option linter.unusedVariables false
set_option linter.unusedSimpArgs false
open Go.RowKit
open Um

end Go.Proofs.YtkgihmhehkaocaaGreat
