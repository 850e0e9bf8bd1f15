/- Which units are valid, as the program finds it.
Conditions: none. -/
import Derived.Test.YthloceljgmmdbaaUnitB
namespace Go.Proofs.Ythloceljgmmdbaa
set_option linter.unusedVariables false
set_option linter.unusedSimpArgs false
open Go.RowKit
open Um

theorem V.in {x : Q} (h : V x) : In x 1048576 := by
  have hp := part_le x h.u
  have hl := h.le
  have h0 := h.u.pos
  exact ⟨by omega, by omega, by omega, by omega, by omega⟩
theorem U.in {x : Q} (h : U x) {m : Int} (hm : x.n ≤ m) : In x m := by
  have hp := part_le x h
  have h0 := h.pos
  exact ⟨by omega, by omega, by omega, by omega, by omega⟩

end Go.Proofs.Ythloceljgmmdbaa
