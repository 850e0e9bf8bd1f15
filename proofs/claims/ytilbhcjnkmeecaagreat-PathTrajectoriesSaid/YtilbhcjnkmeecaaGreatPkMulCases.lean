/- What the program and the document's answers hand back of a product, in cases.
Conditions: none. -/
import Derived.Test.YtilbhcjnkmeecaaGreatPkOpen
namespace Go.Proofs.YtilbhcjnkmeecaaGreat
set_option linter.unusedVariables false
set_option linter.unusedSimpArgs false
open Go.ChangeShapes Go.WideShapes Go.ChangeAt Go.RowKit
open Um

end Go.Proofs.YtilbhcjnkmeecaaGreat
