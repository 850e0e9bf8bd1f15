/- The document's Branches, Loops and Fix, with their errors.
Conditions: those written at each theorem. -/
import Derived.Test.YtkgihmhehkaocaaGreatPGauE
import Derived.Test.YtkgihmhehkaocaaGreatPGauD
import Derived.Test.YtkgihmhehkaocaaGreatPGauC
import Derived.Test.YtkgihmhehkaocaaGreatPGauG
import Derived.Deep.RegionHeld3
namespace Go.Proofs.YtkgihmhehkaocaaGreat
set_option linter.unusedVariables false
set_option linter.unusedSimpArgs false
set_option maxRecDepth 1000000
open Go.RowKit
open Um Tm

theorem numsR_exG (a b c : Int) (L : List Q) : ∃ ns r, numsR a b c L ns r := by
  obtain ⟨r, hr⟩ := fldR_ex a b c L
  by_cases h0 : r = 0
  · subst h0
    obtain ⟨ns, q, hq⟩ := smR_ex L
    cases q with
    | true => exact ⟨ns, 0, .inr ⟨hr, .inl ⟨hq, rfl⟩⟩⟩
    | false => exact ⟨ns, 7, .inr ⟨hr, .inr ⟨hq, rfl⟩⟩⟩
  · exact ⟨[], r, .inl ⟨hr, h0, rfl⟩⟩
/-- the small fields that are valid, and how many sites they have -/
theorem numsR_okG {a b c : Int} {L : List Q} {ns : List Int} (h : numsR a b c L ns 0) : fldR a b c L 0 ∧ AllS L ∧ Fl a b c L ∧ ∃ N : Nat, (N : Int) = a * b * c := by
  rcases h with ⟨_, h, _⟩ | ⟨h1, ⟨h2, _⟩ | ⟨_, h⟩⟩
  · exact absurd rfl h
  · refine ⟨h1, AllS.num h2, ⟨(fldR_ok h1).1, (fldR_ok h1).2.1, (fldR_ok h1).2.2⟩, (a * b * c).toNat, ?_⟩
    have hz := (fldR_ok h1).1
    obtain ⟨-, -, p3, -⟩ := mul_rng hz.a1 hz.a4 hz.b1 hz.b4 hz.c1 hz.c4
    omega
  · exact absurd h (by decide)
end Go.Proofs.YtkgihmhehkaocaaGreat
