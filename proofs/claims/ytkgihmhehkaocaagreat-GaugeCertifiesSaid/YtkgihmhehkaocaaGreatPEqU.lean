/- Whether two units are equal, as the model asks it; and what a product of a list may be.
Conditions: none. -/
import Derived.Test.YtkgihmhehkaocaaGreatPOpen
import Derived.ChangeKeysEq
namespace Go.Proofs.YtkgihmhehkaocaaGreat
set_option linter.unusedVariables false
set_option linter.unusedSimpArgs false
set_option maxRecDepth 1000000
open Go.RowKit
open Um

end Go.Proofs.YtkgihmhehkaocaaGreat
