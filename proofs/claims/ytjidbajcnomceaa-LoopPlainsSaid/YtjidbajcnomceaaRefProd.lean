/- Products of lists of units, as the document's answers make them.
Conditions: the list lies in memory as it is written at each theorem. -/
import Derived.Test.YtjidbajcnomceaaProd
import Derived.Test.YtjidbajcnomceaaMid
namespace Go.Proofs.Ytjidbajcnomceaa
set_option linter.unusedVariables false
set_option linter.unusedSimpArgs false
open Go.RowKit
open Um

end Go.Proofs.Ytjidbajcnomceaa
