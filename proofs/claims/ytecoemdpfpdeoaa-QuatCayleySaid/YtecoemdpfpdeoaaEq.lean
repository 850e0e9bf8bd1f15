/- Three rational numbers are equal to themselves.
Conditions: none. -/
import Derived.Test.YtecoemdpfpdeoaaOpen3
import Derived.ChangeKeysEq
namespace Go.Proofs.Ytecoemdpfpdeoaa
set_option linter.unusedVariables false
set_option linter.unusedSimpArgs false
open Go.ChangeShapes Go.WideShapes Go.ChangeAt Go.RowKit
open Um

theorem info43 : ∃ i, Try.prog.info? 43 = some i := Option.isSome_iff_exists.1 (by kernel_rfl)
theorem cells43 : Try.prog.cellsOf 43 = 2 := by kernel_rfl
theorem eq50 (a b c d e f : Int) (W : World) : Sem.run Try.prog (Op.equalIn 10000 50 (.agg #[.int .i64 a, .int .i64 b, .int .i64 c, .int .i64 d, .int .i64 e, .int .i64 f]) (.agg #[.int .i64 a, .int .i64 b, .int .i64 c, .int .i64 d, .int .i64 e, .int .i64 f])) W = .ok true W := by
  obtain ⟨i, hi⟩ := info43
  have h := run_equalIn_array W 9999 #[.int .i64 a, .int .i64 b, .int .i64 c, .int .i64 d, .int .i64 e, .int .i64 f] #[.int .i64 a, .int .i64 b, .int .i64 c, .int .i64 d, .int .i64 e, .int .i64 f] Try.underlying50 hi
  rw [show (10000 : Nat) = 9999 + 1 from rfl, h, cells43, show List.range 3 = [0, 1, 2] from rfl]
  simp [Op.eqItems, go_sem]
end Go.Proofs.Ytecoemdpfpdeoaa
