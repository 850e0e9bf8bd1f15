/- Lists of integers in memory: those that came in, those that a call made; and how two are compared.
Conditions: those written at each theorem. -/
import Derived.Test.YtpfhjdmgkckjfaaDoorQRows5
import Derived.Test.YtpfhjdmgkckjfaaDoorQDist
namespace Go.Proofs.YtpfhjdmgkckjfaaDoor
set_option linter.unusedVariables false
set_option linter.unusedSimpArgs false
set_option maxRecDepth 1000000
open Go.RowKit

def LiesI (w : World) (b off : Nat) (l : List Int) : Prop := ∀ (i : Nat) (x : Int), l[i]? = some x → w.cell? ⟨b, off + i, none⟩ = some (.int .i64 x)
theorem LiesI.later {w w1 : World} {b off : Nat} {l : List Int} (h : LiesI w b off l) (hb : Below w.heap.size w w1) : LiesI w1 b off l := fun i x hx => by
  have f := h i x hx
  rw [hb.cell (World.block_lt_of_cell? w _ f)]
  exact f
def LiesOI (w : World) (ao : Option Addr) (l : List Int) : Prop := l = [] ∨ ∃ b off, ao = some ⟨b, off, none⟩ ∧ LiesI w b off l
theorem LiesOI.later {w w1 : World} {ao : Option Addr} {l : List Int} (h : LiesOI w ao l) (hb : Below w.heap.size w w1) : LiesOI w1 ao l := by
  rcases h with h | ⟨b, off, h, hl⟩
  · exact .inl h
  · exact .inr ⟨b, off, h, hl.later hb⟩

theorem infoI : (Tryd.prog.info? 3).map (fun i => (i.zero, i.size, i.bytes)) = some (some (.int .i64 0), 1, 8) := by kernel_rfl
def vi (x : Int) : Value := .int .i64 x
theorem owned_liesI {w : World} {base : Nat} {T : TypeId} {g cap : Nat} {l : List Int} (h : w.ownsRow base T 1 (.slice (some ⟨g, 0, none⟩) l.length cap) l.length (l.map vi)) : LiesI w g 0 l := fun i x hx => by
  have hi : i < l.length := (List.getElem?_eq_some_iff.1 hx).1
  rw [Nat.zero_add, h.cellAt i (by omega), List.getElem?_map, hx]
  rfl
theorem owned_liesOI {w : World} {base : Nat} {T : TypeId} {v : Value} {l : List Int} (h : w.ownsRow base T 1 v l.length (l.map vi)) : ∃ ao cap, v = .slice ao l.length cap ∧ LiesOI w ao l := by
  rcases h.2 with ⟨rfl, h0⟩ | ⟨g, cap, cur, rfl, hg, _⟩
  · exact ⟨none, 0, by rw [h0], .inl (List.length_eq_zero_iff.1 h0)⟩
  · exact ⟨_, cap, rfl, .inr ⟨g, 0, rfl, owned_liesI h⟩⟩
/-- a list of numbers in a block that is no older than B -/
def LiesNI (w : World) (B : Nat) (ao : Option Addr) (l : List Int) : Prop := l = [] ∨ ∃ b off, ao = some ⟨b, off, none⟩ ∧ B ≤ b ∧ (∀ j, w.frozen? ⟨b, j, none⟩ = false) ∧ LiesI w b off l
theorem LiesNI.o {w : World} {B : Nat} {ao : Option Addr} {l : List Int} (h : LiesNI w B ao l) : LiesOI w ao l := by
  rcases h with h | ⟨b, off, h, -, -, hl⟩
  · exact .inl h
  · exact .inr ⟨b, off, h, hl⟩
theorem lies_block {w : World} {b off : Nat} {l : List Int} (h : LiesI w b off l) (h0 : l ≠ []) : b < w.heap.size :=
  World.block_lt_of_cell? w _ (h 0 _ (List.getElem?_eq_getElem (List.length_pos_iff.2 h0)))
theorem LiesNI.later {w w1 : World} {B : Nat} {ao : Option Addr} {l : List Int} (h : LiesNI w B ao l) (hb : Below w.heap.size w w1) : LiesNI w1 B ao l := by
  by_cases h0 : l = []
  · exact .inl h0
  · rcases h with h | ⟨b, off, h, hB, hf, hl⟩
    · exact .inl h
    · exact .inr ⟨b, off, h, hB, fun j => (hb.frozen (lies_block hl h0)).trans (hf j), hl.later hb⟩
theorem LiesNI.le {w : World} {B C : Nat} {ao : Option Addr} {l : List Int} (h : LiesNI w B ao l) (hC : C ≤ B) : LiesNI w C ao l := by
  rcases h with h | ⟨b, off, h, hB, hl⟩
  · exact .inl h
  · exact .inr ⟨b, off, h, Nat.le_trans hC hB, hl⟩
theorem owned_ne {w : World} {base : Nat} {T : TypeId} {size n b : Nat} {v : Value} {xs : List Value} (h : w.ownsRow base T size v n xs) (hb : b < base) : some b ≠ v.ownBlock := by
  rcases h.2 with ⟨rfl, _⟩ | ⟨g, cap, cur, rfl, hg, _⟩
  · simp [Value.ownBlock]
  · simp [Value.ownBlock]; omega
theorem owned_from {w : World} {base : Nat} {T : TypeId} {size n : Nat} {v : Value} {xs : List Value} (h : w.ownsRow base T size v n xs) : ∀ k, v.ownBlock = some k → base ≤ k := by
  rcases h.2 with ⟨rfl, _⟩ | ⟨g, cap, cur, rfl, hg, _⟩
  · simp [Value.ownBlock]
  · intro k hk; simp [Value.ownBlock] at hk; omega
theorem one_cell {w : World} {b : Nat} {x : Value} (h : w.cell? ⟨b, 0, none⟩ = some x) : ∀ j u, [x][j]? = some u → w.cell? (Addr.add ⟨b, 0, none⟩ j) = some u := fun j u hj => by
  match j, hj with
  | 0, hj => simp at hj; subst hj; exact h
  | n + 1, hj => simp at hj
theorem one_one (x : Int) : ∀ u ∈ [vi x], u.oneCell' = true := fun u hu => by
  simp at hu
  subst hu
  rfl

section
open Go.ChangeShapes Go.WideShapes Go.ChangeAt Go.RowKit Go.Joins Go.Deep
variable {H : Type} {enc : TypeId × Value → H} {w : World} {base : Nat} {spare : Nat → Bool} {held : Bool}
end

end Go.Proofs.YtpfhjdmgkckjfaaDoor
