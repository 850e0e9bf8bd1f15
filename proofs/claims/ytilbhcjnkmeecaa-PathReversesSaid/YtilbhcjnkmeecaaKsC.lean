/- Small fields: their numbers and links.
Conditions: those written at each theorem. -/
import Derived.Test.YtilbhcjnkmeecaaKwC
namespace Go.Proofs.Ytilbhcjnkmeecaa
set_option linter.unusedVariables false
set_option linter.unusedSimpArgs false
set_option maxRecDepth 1000000
open Go.RowKit
open Um Tm Cm Km

theorem numsR_smR {a b c : Int} {L : List Q} {ns : List Int} (h : numsR a b c L ns 0) : fldR a b c L 0 ∧ smR L (L.map nm) true ∧ (∀ x ∈ L, IsS x) := by
  rcases h with ⟨-, h, -⟩ | ⟨h1, ⟨h2, -⟩ | ⟨-, h⟩⟩
  · exact absurd rfl h
  · obtain ⟨e, hS⟩ := smR_nm h2
    exact ⟨h1, e ▸ h2, hS⟩
  · simp at h
theorem fldR_Fl {a b c : Int} {L : List Q} (h : fldR a b c L 0) : Fl a b c L := by
  obtain ⟨h1, h2, h3⟩ := fldR_ok h
  exact ⟨h1, h2, h3⟩
end Go.Proofs.Ytilbhcjnkmeecaa
