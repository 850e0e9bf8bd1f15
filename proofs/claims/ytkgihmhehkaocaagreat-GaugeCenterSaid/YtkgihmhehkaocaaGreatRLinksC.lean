/- What the statements of the second layer ask of the program first, and how places are compared and arguments read.
Conditions: none. -/
import Derived.Test.YtkgihmhehkaocaaGreatRTorA
import Derived.Test.YtkgihmhehkaocaaGreatRFieldC
import Derived.Test.YtkgihmhehkaocaaGreatRDist
import Derived.Test.YtkgihmhehkaocaaGreatRProd
import Derived.Test.YtkgihmhehkaocaaGreatRMid
import Derived.Test.YtkgihmhehkaocaaGreatRRegA
import Derived.Test.YtkgihmhehkaocaaGreatRMathA
namespace Go.Proofs.YtkgihmhehkaocaaGreat
set_option linter.unusedVariables false
set_option linter.unusedSimpArgs false
set_option maxRecDepth 1000000
open Go.ChangeShapes Go.WideShapes Go.ChangeAt Go.RowKit
open Tm

theorem info3 : ∃ i, Tryz.prog.info? 3 = some i := Option.isSome_iff_exists.1 (by kernel_rfl)
theorem eqA3 (a b c : Int) (W : World) : Sem.run Tryz.prog (Op.equalIn 10000 22 (.agg #[.int .i64 a, .int .i64 b, .int .i64 c]) (.agg #[.int .i64 a, .int .i64 b, .int .i64 c])) W = .ok true W := by
  obtain ⟨i, hi⟩ := info3
  have h := run_equalIn_array W 9999 #[.int .i64 a, .int .i64 b, .int .i64 c] #[.int .i64 a, .int .i64 b, .int .i64 c] Tryz.underlying22 hi
  rw [show (10000 : Nat) = 9999 + 1 from rfl, h, cells3, show List.range 3 = [0, 1, 2] from rfl]
  simp [Op.eqItems, go_sem]

section
open Go.ChangeShapes Go.WideShapes Go.ChangeAt Go.RowKit Go.Joins Go.Deep
variable {H : Type} {enc : TypeId × Value → H} {w : World} {base : Nat} {spare : Nat → Bool} {held : Bool}
end
end Go.Proofs.YtkgihmhehkaocaaGreat

namespace Go.Proofs.YtkgihmhehkaocaaGreat
set_option linter.unusedVariables false
set_option linter.unusedSimpArgs false
set_option maxRecDepth 1000000
open Go.RowKit
open Um Tm

end Go.Proofs.YtkgihmhehkaocaaGreat

namespace Go.Proofs.YtkgihmhehkaocaaGreat
set_option linter.unusedVariables false
set_option linter.unusedSimpArgs false
open Go.RowKit
open Um

end Go.Proofs.YtkgihmhehkaocaaGreat

namespace Go.Proofs.YtkgihmhehkaocaaGreat
set_option linter.unusedVariables false
set_option linter.unusedSimpArgs false
set_option maxRecDepth 1000000
open Go.RowKit
open Cm Tm

end Go.Proofs.YtkgihmhehkaocaaGreat
