/- Which lists are paths, as the program and the document's answers find it.
Conditions: the list lies in memory as it is written at each theorem. -/
import Derived.Test.YtdplojcbfdbgnaaInts
import Derived.Test.YtdplojcbfdbgnaaMathA
namespace Go.Proofs.Ytdplojcbfdbgnaa
set_option linter.unusedVariables false
set_option linter.unusedSimpArgs false
set_option maxRecDepth 1000000
open Go.RowKit
open Tm

end Go.Proofs.Ytdplojcbfdbgnaa
