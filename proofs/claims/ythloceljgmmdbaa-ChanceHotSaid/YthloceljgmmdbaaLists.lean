/- Lists of units: which are valid, one by one, as the program finds it.
Conditions: the list lies in memory as it is written at each theorem. -/
import Derived.Test.YthloceljgmmdbaaValid
namespace Go.Proofs.Ythloceljgmmdbaa
set_option linter.unusedVariables false
set_option linter.unusedSimpArgs false
open Go.RowKit
open Um

/-- A list of units lies at a place of memory, five cells a unit. -/
def Lies (w : World) (b off : Nat) (L : List Q) : Prop := ∀ (i : Nat) (x : Q), L[i]? = some x →
  w.cell? ⟨b, off + i * 5, none⟩ = some (.int .i64 x.a) ∧ w.cell? ⟨b, off + i * 5 + 1, none⟩ = some (.int .i64 x.b) ∧ w.cell? ⟨b, off + i * 5 + 2, none⟩ = some (.int .i64 x.c) ∧ w.cell? ⟨b, off + i * 5 + 3, none⟩ = some (.int .i64 x.d) ∧ w.cell? ⟨b, off + i * 5 + 4, none⟩ = some (.int .i64 x.n)

theorem Lies.later {w w1 : World} {b off : Nat} {L : List Q} (h : Lies w b off L) (hb : Below w.heap.size w w1) : Lies w1 b off L := fun i x hx => by
  have f := h i x hx
  have g : ∀ a : Addr, ∀ v : Value, w.cell? a = some v → w1.cell? a = some v := fun a v hv => by rw [hb.cell (World.block_lt_of_cell? w a hv)]; exact hv
  exact ⟨g _ _ f.1, g _ _ f.2.1, g _ _ f.2.2.1, g _ _ f.2.2.2.1, g _ _ f.2.2.2.2⟩

/-- the error of the first unit that is not valid -/
def vAll (L : List Q) (r : Int) : Prop := ((∀ x ∈ L, V x) ∧ r = 0) ∨ ((∃ x ∈ L, ¬ V x) ∧ r = 1)

end Go.Proofs.Ythloceljgmmdbaa
