/- Products of lists of units, as the document's answers make them.
Conditions: the list lies in memory as it is written at each theorem. -/
import Derived.Test.YtojmagooapjohaaProd
import Derived.Test.YtojmagooapjohaaMid
namespace Go.Proofs.Ytojmagooapjohaa
set_option linter.unusedVariables false
set_option linter.unusedSimpArgs false
open Go.RowKit
open Um

end Go.Proofs.Ytojmagooapjohaa
