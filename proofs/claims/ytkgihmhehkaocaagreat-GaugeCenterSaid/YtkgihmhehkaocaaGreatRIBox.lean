/- A list of integers in memory of the call's own, written number by number; momenta as a list of their numbers.
Conditions: those written at each theorem. -/
import Derived.Test.YtkgihmhehkaocaaGreatRLBox
import Derived.Test.YtkgihmhehkaocaaGreatRInts
namespace Go.Proofs.YtkgihmhehkaocaaGreat
set_option linter.unusedVariables false
set_option linter.unusedSimpArgs false
set_option maxRecDepth 1000000
open Go.RowKit
open Um Tm

/-- a list of integers in a block that may be written -/
structure IBox (w : World) (g : Nat) (l : List Int) : Prop where
  h : LiesI w g 0 l
  free : ∀ j, w.frozen? ⟨g, j, none⟩ = false
  lt : g < w.heap.size
theorem IBox.later {w w1 : World} {g : Nat} {l : List Int} (k : IBox w g l) (hb : Below w.heap.size w w1) : IBox w1 g l :=
  ⟨k.h.later hb, fun j => (hb.frozen (p := ⟨g, j, none⟩) k.lt).trans (k.free j), Nat.lt_of_lt_of_le k.lt hb.size⟩
theorem IBox.below {w w1 : World} {m g : Nat} {l : List Int} (k : IBox w g l) (hb : Below m w w1) (hg : g < m) : IBox w1 g l :=
  ⟨fun i x hx => (World.cell?_of_block (a := ⟨g, 0 + i, none⟩) (hb.block g hg)).trans (k.h i x hx), fun j => (World.frozen?_of_block (a := ⟨g, j, none⟩) (hb.block g hg)).trans (k.free j), Nat.lt_of_lt_of_le k.lt hb.size⟩
theorem IBox.grown {w w1 : World} {g : Nat} {l : List Int} {row : Option Nat} (k : IBox w g l) (hg : w.grownBy w1 row) (hne : some g ≠ row) : IBox w1 g l :=
  ⟨fun i x hx => hg.cell (k.h i x hx) hne, fun j => (World.frozen?_of_block (a := ⟨g, j, none⟩) (hg.block g k.lt hne)).trans (k.free j), Nat.lt_of_lt_of_le k.lt hg.size⟩
theorem IBox.at {w : World} {g i : Nat} {l : List Int} {x : Int} (k : IBox w g l) (hx : l[i]? = some x) : w.cell? ⟨g, i, none⟩ = some (.int .i64 x) := by
  have := k.h i x hx
  rwa [Nat.zero_add] at this
theorem IBox.put {w : World} {g : Nat} {l : List Int} (k : IBox w g l) (p : Nat) (hp : p < l.length) (x : Int) : IBox (w.setCell ⟨g, p, none⟩ (.int .i64 x)) g (l.set p x) := by
  refine ⟨fun i y hy => ?_, fun j => by rw [World.frozen?_setCell]; exact k.free j, by simp [World.setCell]; exact k.lt⟩
  rw [List.getElem?_set] at hy
  rw [Nat.zero_add]
  by_cases he : p = i
  · subst he
    rw [if_pos rfl, if_pos hp] at hy
    simp only [Option.some.injEq] at hy
    subst hy
    exact World.cell?_setCell_same _ _ _ (k.at (List.getElem?_eq_getElem hp))
  · rw [if_neg he] at hy
    rw [World.cell?_setCell_other _ _ _ _ (by simp <;> omega)]
    exact k.at hy
theorem IBox.other {w : World} {g b o : Nat} {l : List Int} {v : Value} (k : IBox w g l) (hne : g ≠ b) : IBox (w.setCell ⟨b, o, none⟩ v) g l :=
  k.grown (grown_setCell w ⟨b, o, none⟩ v) (by simp; exact hne)
theorem IBox.lies {w : World} {g : Nat} {l : List Int} (k : IBox w g l) : LiesOI w (some ⟨g, 0, none⟩) l := .inr ⟨g, 0, rfl, k.h⟩
/-- what a make has just laid for momenta -/
def kz : List Value := [vi 0, vi 0, vi 0]
theorem made_kz (n : Nat) : ∀ (i : Nat), i < n * 3 → (madeCells kz.toArray (n * 3))[i]? = some (vi 0) := fun i hi => by
  have h3 : i % 3 < 3 := Nat.mod_lt _ (by decide)
  have h3' : i % kz.toArray.size < kz.toArray.size := h3
  unfold madeCells
  rw [Array.getElem?_map, Array.getElem?_range, if_pos hi]
  show some (kz.toArray[i % kz.toArray.size]!) = _
  have e : kz.toArray[i % kz.toArray.size]! = kz[i % 3]'h3 := by
    rw [getElem!_pos kz.toArray (i % kz.toArray.size) h3']; rfl
  rw [e]
  have : i % 3 = 0 ∨ i % 3 = 1 ∨ i % 3 = 2 := by omega
  congr 1
  rcases this with h | h | h <;> simp only [h] <;> rfl
theorem IBox.made {w : World} {g n : Nat} {T : TypeId} (h : w.heap[g]? = some (.cells (madeCells kz.toArray (n * 3)) T)) (hg : g < w.heap.size) : IBox w g (List.replicate (n * 3) 0) := by
  refine ⟨fun i x hx => ?_, fun j => by simp [World.frozen?, h], hg⟩
  have hi : i < n * 3 := by have := (List.getElem?_eq_some_iff.1 hx).1; simpa using this
  have hxz : x = 0 := by
    rw [List.getElem?_replicate, if_pos hi] at hx
    simpa using hx.symm
  subst hxz
  have := made_kz n i hi
  rw [Nat.zero_add]
  simp only [World.cell?, h]
  simpa [vi] using this
end Go.Proofs.YtkgihmhehkaocaaGreat
