/- Products of two quaternions as the program makes them: vectors scaled, added and crossed.
Conditions: the bounds written at each theorem. -/
import Derived.Test.YthloceljgmmdbaaRaw
namespace Go.Proofs.Ythloceljgmmdbaa
set_option linter.unusedVariables false
set_option linter.unusedSimpArgs false
open Go.RowKit
open Um

end Go.Proofs.Ythloceljgmmdbaa
