/- What the program and the document's answers hand back of a product, in cases.
Conditions: none. -/
import Derived.Test.YtojmagooapjohaaOpen
namespace Go.Proofs.Ytojmagooapjohaa
set_option linter.unusedVariables false
set_option linter.unusedSimpArgs false
open Go.ChangeShapes Go.WideShapes Go.ChangeAt Go.RowKit
open Um

theorem not_V_zero : ¬ V zero := fun h => absurd h.u.pos (by decide)

end Go.Proofs.Ytojmagooapjohaa
