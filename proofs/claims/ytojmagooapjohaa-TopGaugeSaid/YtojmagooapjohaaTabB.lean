/- A block of cells that is known whole, and what stores make of it.
Conditions: none. -/
import Derived.Test.YtojmagooapjohaaLBox
import Derived.Laws.Rows
namespace Go.Proofs.Ytojmagooapjohaa
set_option linter.unusedVariables false
set_option linter.unusedSimpArgs false
set_option maxRecDepth 1000000
open Go.RowKit

/-- a block that is known whole -/
structure ABx (w : World) (m : Nat) (T : TypeId) (cs : List Value) : Prop where
  h : w.heap[m]? = some (.cells cs.toArray T (0, 0))
theorem ABx.lt {w : World} {m : Nat} {T : TypeId} {cs : List Value} (k : ABx w m T cs) : m < w.heap.size := (Array.getElem?_eq_some_iff.1 k.h).1
theorem ABx.later {w w1 : World} {m : Nat} {T : TypeId} {cs : List Value} (k : ABx w m T cs) (hb : Below w.heap.size w w1) : ABx w1 m T cs := ⟨(hb.block m k.lt).trans k.h⟩
theorem ABx.grown {w w1 : World} {m : Nat} {T : TypeId} {cs : List Value} {row : Option Nat} (k : ABx w m T cs) (hg : w.grownBy w1 row) (hne : some m ≠ row) : ABx w1 m T cs := ⟨(hg.block m k.lt hne).trans k.h⟩
theorem ABx.cell {w : World} {m : Nat} {T : TypeId} {cs : List Value} (k : ABx w m T cs) (i : Nat) : w.cell? ⟨m, i, none⟩ = cs[i]? := by
  simp [World.cell?, k.h]
theorem ABx.free {w : World} {m : Nat} {T : TypeId} {cs : List Value} (k : ABx w m T cs) (i : Nat) : w.frozen? ⟨m, i, none⟩ = false := by
  simp [World.frozen?, k.h]
theorem ABx.set {w : World} {m : Nat} {T : TypeId} {cs : List Value} (k : ABx w m T cs) (i : Nat) (v : Value) : ABx (w.setCell ⟨m, i, none⟩ v) m T (cs.set i v) := ⟨by
  simp only [World.setCell, Array.getElem?_modify, if_pos rfl, k.h, Option.map_some]
  simp⟩
/-- cells that are put in the place of others -/
def upd : List Value → Nat → List Value → List Value
  | cs, _, [] => cs
  | cs, o, v :: vs => upd (cs.set o v) (o + 1) vs
theorem ABx.sets {m : Nat} {T : TypeId} : ∀ (vs : List Value) (w : World) (cs : List Value) (o : Nat), ABx w m T cs → ABx (w.setCells m o vs) m T (upd cs o vs)
  | [], _, _, _, k => k
  | v :: vs, w, cs, o, k => ABx.sets vs _ _ _ (k.set o v)
theorem upd_mid : ∀ (vs A B C : List Value), vs.length = B.length → upd (A ++ (B ++ C)) A.length vs = A ++ (vs ++ C)
  | [], A, B, C, h => by
    have : B = [] := List.length_eq_zero_iff.1 h.symm
    subst this
    rfl
  | v :: vs, A, [], C, h => by simp at h
  | v :: vs, A, b :: B, C, h => by
    unfold upd
    rw [List.set_append_right _ _ (Nat.le_refl _), Nat.sub_self, List.cons_append, List.set_cons_zero]
    have e : A ++ v :: (B ++ C) = (A ++ [v]) ++ (B ++ C) := by simp
    rw [e, show A.length + 1 = (A ++ [v]).length by simp, upd_mid vs (A ++ [v]) B C (by simpa using h)]
    simp
theorem ABx.news {w : World} {T : TypeId} (cs : Array Value) : ABx (w.alloc (.cells cs T)) w.heap.size T cs.toList := ⟨by
  show (w.heap.push _)[w.heap.size]? = _
  simp⟩
end Go.Proofs.Ytojmagooapjohaa
