/- Fields that are compared, and fields that are made: the cold one and those of given numbers, as the program and the document's answers make them.
Conditions: the list lies in memory as it is written at each theorem. -/
import Derived.Test.YtilbhcjnkmeecaaGreatPkFieldC
import Derived.Test.YtilbhcjnkmeecaaGreatPkKnown2
import Derived.Test.YtilbhcjnkmeecaaGreatPkEqU
namespace Go.Proofs.YtilbhcjnkmeecaaGreat
set_option linter.unusedVariables false
set_option linter.unusedSimpArgs false
set_option maxRecDepth 1000000
open Go.RowKit
open Um Tm

set_option maxHeartbeats 800000 in
theorem sameF_nil (a b c : Int) (a1 a2 : Option Addr) (c1 c2 : Nat) (w : World) :
    Calls Tryz.prog 17 #[.agg #[.int .i64 a, .int .i64 b, .int .i64 c, .slice a1 0 c1], .agg #[.int .i64 a, .int .i64 b, .int .i64 c, .slice a2 0 c2]] w fun e w' => e = .returned (.bool true) ∧ Below w.heap.size w w' := by
  have qa := eqA3 a b c
  go_enter Tryz.func17, Tryz.ntmps17
  go_wp2
  refine wp_loop_rounds 1 ?_
  rw [rounds_succ]
  go_wp2
  go_ret
  exact ⟨rfl, by repeat (first | (with_reducible exact Below.refl _ _) | (with_reducible refine Below.setCell ?_ ?_ _) | (with_reducible refine Below.drew ?_) | (with_reducible refine Below.alloc ?_ ?_ _) | omega | (simp <;> omega))⟩

end Go.Proofs.YtilbhcjnkmeecaaGreat
