/- Vectors turned by units, as the document's answers turn them.
Conditions: none. -/
import Derived.Test.YtoafojojhdcmfaaRot
namespace Go.Proofs.Ytoafojojhdcmfaa
set_option linter.unusedVariables false
set_option linter.unusedSimpArgs false
open Go.RowKit
open Um

end Go.Proofs.Ytoafojojhdcmfaa
