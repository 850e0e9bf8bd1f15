/- What the program and the document's answers hand back of a product, in cases.
Conditions: none. -/
import Derived.Test.YtkgihmhehkaocaaGreatPOpen
namespace Go.Proofs.YtkgihmhehkaocaaGreat
set_option linter.unusedVariables false
set_option linter.unusedSimpArgs false
open Go.ChangeShapes Go.WideShapes Go.ChangeAt Go.RowKit
open Um

end Go.Proofs.YtkgihmhehkaocaaGreat
