/- The plaquettes of a field, on both sides: what a good field and a bad one lead to.
Conditions: those written at each theorem. -/
import Derived.Test.YtkgihmhehkaocaaGreatPPlaqA
import Derived.Test.YtkgihmhehkaocaaGreatPLtA
import Derived.Test.YtkgihmhehkaocaaGreatPLmA
import Derived.Test.YtkgihmhehkaocaaGreatPLooA
import Derived.Test.YtkgihmhehkaocaaGreatPIsSm
import Derived.Test.YtkgihmhehkaocaaGreatPIBox
import Derived.Test.YtkgihmhehkaocaaGreatPMathA
namespace Go.Proofs.YtkgihmhehkaocaaGreat
set_option linter.unusedVariables false
set_option linter.unusedSimpArgs false
set_option maxRecDepth 1000000
open Go.RowKit
open Um Tm

end Go.Proofs.YtkgihmhehkaocaaGreat

/- The traces of all plaquettes, and their mean, as the program and the document's answers make them.
Conditions: the lists lie in memory as it is written at each theorem. -/
namespace Go.Proofs.YtkgihmhehkaocaaGreat
set_option linter.unusedVariables false
set_option linter.unusedSimpArgs false
set_option maxRecDepth 1000000
open Go.RowKit
open Um Tm Lm

def trs (a b c : Int) (L : List Q) (k : Nat) : List (Int × Int) := (pqs a b c L k).map tr
end Go.Proofs.YtkgihmhehkaocaaGreat

/- The mean of the traces of all plaquettes, and how many have each trace, as the program and the document's answers make them.
Conditions: the lists lie in memory as it is written at each theorem. -/
namespace Go.Proofs.YtkgihmhehkaocaaGreat
set_option linter.unusedVariables false
set_option linter.unusedSimpArgs false
set_option maxRecDepth 1000000
open Go.RowKit
open Um Tm Lm Km

def z5 : Value := .agg #[.int .i64 0, .int .i64 0, .int .i64 0, .int .i64 0, .int .i64 0]
/-- how many numbers have a numerator -/
def hcs (v : Int) : List (Int × Int) → Int
  | [] => 0
  | r :: l => (if r.1 = v then 1 else 0) + hcs v l
def hl5 (l : List (Int × Int)) : List Int := [hcs (-2) l, hcs (-1) l, hcs 0 l, hcs 1 l, hcs 2 l]
def h5 (l : List (Int × Int)) : Value := .agg #[.int .i64 (hcs (-2) l), .int .i64 (hcs (-1) l), .int .i64 (hcs 0 l), .int .i64 (hcs 1 l), .int .i64 (hcs 2 l)]
end Go.Proofs.YtkgihmhehkaocaaGreat
