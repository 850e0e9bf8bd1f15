/- Traces and distances, as the program and the document's answers make them.
Conditions: none. -/
import Derived.Test.YtkgihmhehkaocaaGreatPMulCases
import Derived.Test.YtkgihmhehkaocaaGreatPQuatA
import Derived.Test.YtkgihmhehkaocaaGreatPRegA
namespace Go.Proofs.YtkgihmhehkaocaaGreat
set_option linter.unusedVariables false
set_option linter.unusedSimpArgs false
open Go.RowKit
open Um

end Go.Proofs.YtkgihmhehkaocaaGreat
