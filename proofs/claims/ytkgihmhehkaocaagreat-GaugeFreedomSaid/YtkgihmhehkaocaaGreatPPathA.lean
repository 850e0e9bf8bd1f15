/- Which lists are paths, as the program and the document's answers find it.
Conditions: the list lies in memory as it is written at each theorem. -/
import Derived.Test.YtkgihmhehkaocaaGreatPInts
import Derived.Test.YtkgihmhehkaocaaGreatPMathA
namespace Go.Proofs.YtkgihmhehkaocaaGreat
set_option linter.unusedVariables false
set_option linter.unusedSimpArgs false
set_option maxRecDepth 1000000
open Go.RowKit
open Tm

end Go.Proofs.YtkgihmhehkaocaaGreat

/- Paths from their ends, as the program and the document's answers make them.
Conditions: the list lies in memory as it is written at each theorem. -/
namespace Go.Proofs.YtkgihmhehkaocaaGreat
set_option linter.unusedVariables false
set_option linter.unusedSimpArgs false
set_option maxRecDepth 1000000
open Go.RowKit
open Tm

end Go.Proofs.YtkgihmhehkaocaaGreat

/- Paths without steps that undo each other, as the program and the document's answers make them.
Conditions: the list lies in memory as it is written at each theorem. -/
namespace Go.Proofs.YtkgihmhehkaocaaGreat
set_option linter.unusedVariables false
set_option linter.unusedSimpArgs false
set_option maxRecDepth 1000000
open Go.RowKit
open Tm

/-- the list that a stack lies as -/
def stl (st : List Int) : List Value := st.reverse.map vi
theorem owned_some {w : World} {base : Nat} {T : TypeId} {v : Value} {n : Nat} {xs : List Value} (h : w.ownsRow base T 1 v n xs) (hn : 0 < n) : ∃ g cap, v = .slice (some ⟨g, 0, none⟩) n cap ∧ base ≤ g := by
  rcases h.2 with ⟨rfl, h0⟩ | ⟨g, cap, cur, rfl, hg, _⟩
  · omega
  · exact ⟨g, cap, rfl, hg⟩
end Go.Proofs.YtkgihmhehkaocaaGreat

/- Walks, as the program and the document's answers make them.
Conditions: the list lies in memory as it is written at each theorem. -/
namespace Go.Proofs.YtkgihmhehkaocaaGreat
set_option linter.unusedVariables false
set_option linter.unusedSimpArgs false
set_option maxRecDepth 1000000
open Go.RowKit
open Tm

/-- the error of sizes, a site and a path -/
def wkR (a b c s : Int) (l : List Int) (r : Int) : Prop := (stR a b c s r ∧ r ≠ 0) ∨ (Sz a b c ∧ 0 ≤ s ∧ s < a * b * c ∧ pathR l r)
/-- three numbers in a box, to be read -/
structure ABox (w : World) (b : Nat) (x y z : Int) : Prop where
  c0 : w.cell? ⟨b, 0, none⟩ = some (.int .i64 x)
  c1 : w.cell? ⟨b, 1, none⟩ = some (.int .i64 y)
  c2 : w.cell? ⟨b, 2, none⟩ = some (.int .i64 z)
  lt : b < w.heap.size
theorem ABox.later {w w1 : World} {b : Nat} {x y z : Int} (h : ABox w b x y z) (hb : Below w.heap.size w w1) : ABox w1 b x y z :=
  ⟨(hb.cell h.lt).trans h.c0, (hb.cell h.lt).trans h.c1, (hb.cell h.lt).trans h.c2, Nat.lt_of_lt_of_le h.lt hb.size⟩
theorem ABox.grown {w w1 : World} {b : Nat} {x y z : Int} {row : Option Nat} (h : ABox w b x y z) (hg : w.grownBy w1 row) (hne : some b ≠ row) : ABox w1 b x y z :=
  ⟨hg.cell h.c0 hne, hg.cell h.c1 hne, hg.cell h.c2 hne, Nat.lt_of_lt_of_le h.lt hg.size⟩

end Go.Proofs.YtkgihmhehkaocaaGreat
