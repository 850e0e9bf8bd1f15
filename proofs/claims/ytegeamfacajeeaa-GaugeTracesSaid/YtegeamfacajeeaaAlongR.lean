/- The unit along a path, as the document's answers make it.
Conditions: those written at each theorem. -/
import Derived.Test.YtegeamfacajeeaaAlongC
import Derived.Test.YtegeamfacajeeaaCold
namespace Go.Proofs.Ytegeamfacajeeaa
set_option linter.unusedVariables false
set_option linter.unusedSimpArgs false
set_option maxRecDepth 1000000
open Go.RowKit
open Um Tm

/-- what a step reads -/
structure StepF (L : List Q) (s n t : Int) (y : Q) : Prop where
  s0 : 0 ≤ s
  s16 : s < 16
  n0 : 0 ≤ n
  n16 : n < 16
  ht : IsStep t
  fwd : 0 < t → L[(3 * s + t - 1).toNat]? = some y ∧ 0 ≤ 3 * s + t - 1 ∧ 3 * s + t - 1 < (L.length : Int)
  bwd : ¬ 0 < t → ∃ x, V x ∧ y = bar x ∧ L[(3 * n - t - 1).toNat]? = some x ∧ 0 ≤ 3 * n - t - 1 ∧ 3 * n - t - 1 < (L.length : Int)
theorem StepF.mk' {a b c s t : Int} {L : List Q} (hF : Fl a b c L) (h0 : 0 ≤ s) (h1 : s < a * b * c) (ht : IsStep t) : StepF L s (nx a b c s t) t (up a b c L s t) := by
  have hp := hF.z.p
  have hn := hF.n
  have hr := nx_rng hF.z s t
  refine ⟨h0, by omega, hr.1, by omega, ht, fun h => ?_, fun h => ?_⟩
  · obtain ⟨i0, i1⟩ := idx_pos h0 h1 h ht.2.2
    unfold up
    rw [if_pos h]
    exact ⟨lk_get i0 (by rw [hn]; exact i1), i0, by rw [hn]; exact i1⟩
  · obtain ⟨i0, i1⟩ := idx_neg (s := s) hF.z ht h
    unfold up
    rw [if_neg h]
    exact ⟨_, (hF.lk i0 i1).1, rfl, lk_get i0 (by rw [hn]; exact i1), i0, by rw [hn]; exact i1⟩

end Go.Proofs.Ytegeamfacajeeaa
