/- Fields that are compared, and fields that are made: the cold one and those of given numbers, as the program and the document's answers make them.
Conditions: the list lies in memory as it is written at each theorem. -/
import Derived.Test.YtkgihmhehkaocaaGreatPFieldC
import Derived.Test.YtkgihmhehkaocaaGreatPKnown2
import Derived.Test.YtkgihmhehkaocaaGreatPEqU
namespace Go.Proofs.YtkgihmhehkaocaaGreat
set_option linter.unusedVariables false
set_option linter.unusedSimpArgs false
set_option maxRecDepth 1000000
open Go.RowKit
open Um Tm

end Go.Proofs.YtkgihmhehkaocaaGreat
