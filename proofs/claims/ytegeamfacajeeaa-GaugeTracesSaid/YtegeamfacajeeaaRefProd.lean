/- Products of lists of units, as the document's answers make them.
Conditions: the list lies in memory as it is written at each theorem. -/
import Derived.Test.YtegeamfacajeeaaProd
import Derived.Test.YtegeamfacajeeaaMid
namespace Go.Proofs.Ytegeamfacajeeaa
set_option linter.unusedVariables false
set_option linter.unusedSimpArgs false
open Go.RowKit
open Um

end Go.Proofs.Ytegeamfacajeeaa
