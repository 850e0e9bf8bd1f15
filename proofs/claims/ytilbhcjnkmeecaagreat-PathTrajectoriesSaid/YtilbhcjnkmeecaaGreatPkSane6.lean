/- The chapter's examples, as the statements of layer 6 ask them.
Conditions: none. -/
import Derived.Test.YtilbhcjnkmeecaaGreatPkKickA
namespace Go.Proofs.YtilbhcjnkmeecaaGreat
set_option linter.unusedVariables false
set_option linter.unusedSimpArgs false
set_option maxRecDepth 1000000
open Go.RowKit
open Um Km

theorem turn_ex : turn ⟨1, 7, 3⟩ = ⟨1, 1, -1, 1, 2⟩ := by decide
theorem isK_ex : IsK ⟨1, 7, 3⟩ := by decide
set_option maxHeartbeats 1600000 in
theorem known6_any (w : World) : Calls Tryz.prog 9 #[] w fun e w' => e = .returned (.bool true) ∧ Below w.heap.size w w' := by
  have c1 : ∀ W : World, Calls Tryz.prog 27 #[.agg #[.int .i64 1, .int .i64 7, .int .i64 3]] W fun e w' => e = .returned (.tuple #[.agg #[.int .i64 1, .int .i64 1, .int .i64 (-1), .int .i64 1, .int .i64 2], .int .i64 0]) ∧ Below W.heap.size W w' :=
    fun W => turnerO_any ⟨1, 7, 3⟩ W 0 ⟨1, 1, -1, 1, 2⟩ (.inl ⟨isK_ex, turn_ex.symm, rfl⟩)
  have c2 : ∀ W : World, Calls Tryz.prog 28 #[.int .i64 5] W fun e w' => e = .returned (.int .i64 (-3)) ∧ W = w' := fun W => center_any 5 W
  go_enter Tryz.func9, Tryz.ntmps9
  go_wp2_with (first | ((with_reducible refine (c1 _).mono ?_); rintro e w1 ⟨rfl, hw1⟩) | ((with_reducible refine (c2 _).mono ?_); rintro e w2 ⟨rfl, rfl⟩))
  go_ret
  exact ⟨rfl, by repeat (first | (with_reducible exact Below.refl _ _) | (with_reducible refine Below.setCell ?_ ?_ _) | (with_reducible refine Below.drew ?_) | (with_reducible refine Below.alloc ?_ ?_ _) | (with_reducible refine Below.trans ?_ (Below.mono hw1 ?_)) | (with_reducible exact hw1.size) | omega | (simp <;> omega) | (simp <;> (have s := hw1.size; omega)) | (have s0 := hw1.size; (try simp at s0); (try simp); omega))⟩
end Go.Proofs.YtilbhcjnkmeecaaGreat
