/- Walks, as the program and the document's answers make them.
Conditions: the list lies in memory as it is written at each theorem. -/
import Derived.Test.YthloceljgmmdbaaPathD
import Derived.Test.YthloceljgmmdbaaMathA
namespace Go.Proofs.Ythloceljgmmdbaa
set_option linter.unusedVariables false
set_option linter.unusedSimpArgs false
set_option maxRecDepth 1000000
open Go.RowKit
open Tm

/-- the error of sizes, a site and a path -/
def wkR (a b c s : Int) (l : List Int) (r : Int) : Prop := (stR a b c s r ∧ r ≠ 0) ∨ (Sz a b c ∧ 0 ≤ s ∧ s < a * b * c ∧ pathR l r)
theorem wkR_ex (a b c s : Int) (l : List Int) : ∃ r, wkR a b c s l r := by
  by_cases h : Sz a b c
  · by_cases hs : 0 ≤ s ∧ s < a * b * c
    · obtain ⟨r, hr⟩ := pathR_ex l
      exact ⟨r, .inr ⟨h, hs.1, hs.2, hr⟩⟩
    · exact ⟨4, .inl ⟨.inr (.inl ⟨h, hs, rfl⟩), by decide⟩⟩
  · exact ⟨1, .inl ⟨.inl ⟨h, rfl⟩, by decide⟩⟩

/-- three numbers in a box, to be read -/
structure ABox (w : World) (b : Nat) (x y z : Int) : Prop where
  c0 : w.cell? ⟨b, 0, none⟩ = some (.int .i64 x)
  c1 : w.cell? ⟨b, 1, none⟩ = some (.int .i64 y)
  c2 : w.cell? ⟨b, 2, none⟩ = some (.int .i64 z)
  lt : b < w.heap.size
theorem ABox.later {w w1 : World} {b : Nat} {x y z : Int} (h : ABox w b x y z) (hb : Below w.heap.size w w1) : ABox w1 b x y z :=
  ⟨(hb.cell h.lt).trans h.c0, (hb.cell h.lt).trans h.c1, (hb.cell h.lt).trans h.c2, Nat.lt_of_lt_of_le h.lt hb.size⟩
theorem ABox.grown {w w1 : World} {b : Nat} {x y z : Int} {row : Option Nat} (h : ABox w b x y z) (hg : w.grownBy w1 row) (hne : some b ≠ row) : ABox w1 b x y z :=
  ⟨hg.cell h.c0 hne, hg.cell h.c1 hne, hg.cell h.c2 hne, Nat.lt_of_lt_of_le h.lt hg.size⟩

end Go.Proofs.Ythloceljgmmdbaa
