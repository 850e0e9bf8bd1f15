/- A link of a field, as the program and the document's answers read it.
Conditions: the list lies in memory as it is written at each theorem. -/
import Derived.Test.YtojmagooapjohaaLBox
import Derived.Test.YtojmagooapjohaaMathA
namespace Go.Proofs.Ytojmagooapjohaa
set_option linter.unusedVariables false
set_option linter.unusedSimpArgs false
set_option maxRecDepth 1000000
open Go.RowKit
open Um Tm

/-- the error of a field, a site and a direction -/
def lnR (a b c : Int) (L : List Q) (s d r : Int) : Prop := (fldR a b c L r ∧ r ≠ 0) ∨ (fldR a b c L 0 ∧ ¬ (0 ≤ s ∧ s < a * b * c) ∧ r = 4) ∨ (fldR a b c L 0 ∧ 0 ≤ s ∧ s < a * b * c ∧ ¬ (0 ≤ d ∧ d ≤ 2) ∧ r = 1) ∨ (fldR a b c L 0 ∧ 0 ≤ s ∧ s < a * b * c ∧ 0 ≤ d ∧ d ≤ 2 ∧ r = 0)
theorem lnR_ex (a b c : Int) (L : List Q) (s d : Int) : ∃ r, lnR a b c L s d r := by
  obtain ⟨r, hr⟩ := fldR_ex a b c L
  by_cases h0 : r = 0
  · subst h0
    by_cases hs : 0 ≤ s ∧ s < a * b * c
    · by_cases hd : 0 ≤ d ∧ d ≤ 2
      · exact ⟨0, .inr (.inr (.inr ⟨hr, hs.1, hs.2, hd.1, hd.2, rfl⟩))⟩
      · exact ⟨1, .inr (.inr (.inl ⟨hr, hs.1, hs.2, hd, rfl⟩))⟩
    · exact ⟨4, .inr (.inl ⟨hr, hs, rfl⟩)⟩
  · exact ⟨r, .inl ⟨hr, h0⟩⟩
theorem fldR_Fl {a b c : Int} {L : List Q} (h : fldR a b c L 0) : Fl a b c L := by
  obtain ⟨h1, h2, h3⟩ := fldR_ok h
  exact ⟨h1, h2, h3⟩
theorem Fl_fldR {a b c : Int} {L : List Q} (h : Fl a b c L) : fldR a b c L 0 :=
  .inr (.inr ⟨h.z, h.n, .inl ⟨fun i x hx => .inr (.inr ⟨(h.v i x hx).1, (h.v i x hx).2, rfl⟩), rfl⟩⟩)

end Go.Proofs.Ytojmagooapjohaa
