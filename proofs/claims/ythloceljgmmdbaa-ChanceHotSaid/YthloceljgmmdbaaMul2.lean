/- Products, inverses and opposites, as the document's answers and the program make them.
Conditions: none. -/
import Derived.Test.YthloceljgmmdbaaMul
import Derived.Test.YthloceljgmmdbaaRefValid
import Derived.Test.YthloceljgmmdbaaLowest
namespace Go.Proofs.Ythloceljgmmdbaa
set_option linter.unusedVariables false
set_option linter.unusedSimpArgs false
open Go.RowKit
open Um

/-- valid or not: the error -/
def vE (x : Q) (r : Int) : Prop := (V x ∧ r = 0) ∨ (¬ V x ∧ r = 1)

end Go.Proofs.Ythloceljgmmdbaa
