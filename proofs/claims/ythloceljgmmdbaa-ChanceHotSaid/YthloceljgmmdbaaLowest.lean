/- Lowest terms, as the document's answers make them.
Conditions: the bounds written at each theorem. -/
import Derived.Test.YthloceljgmmdbaaLow
import Derived.Deep.RegionHeld3
namespace Go.Proofs.Ythloceljgmmdbaa
set_option linter.unusedVariables false
set_option linter.unusedSimpArgs false
open Go.RowKit
open Um

end Go.Proofs.Ythloceljgmmdbaa
