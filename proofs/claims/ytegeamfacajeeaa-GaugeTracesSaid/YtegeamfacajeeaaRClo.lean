/- Whether a path is closed, as the document's answers tell it.
Conditions: the list lies in memory as it is written at each theorem. -/
import Derived.Test.YtegeamfacajeeaaClosC
namespace Go.Proofs.Ytegeamfacajeeaa
set_option linter.unusedVariables false
set_option linter.unusedSimpArgs false
set_option maxRecDepth 1000000
open Go.ChangeShapes Go.WideShapes Go.ChangeAt Go.RowKit
open Tm

end Go.Proofs.Ytegeamfacajeeaa
