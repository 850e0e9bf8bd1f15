/- A block of cells that is known whole, and what stores make of it.
Conditions: none. -/
import Derived.Test.YtpfhjdmgkckjfaaDoorQLBox
import Derived.Laws.Rows
import Derived.Test.YtpfhjdmgkckjfaaDoorQOpen4
import Derived.Deep.RegionHeld3
import Derived.Deep.AppendLies
import Derived.Deep.RegionLawGrows
import Derived.Deep.RegionLaw
import Derived.Laws.AppendOwnNone
namespace Go.Proofs.YtpfhjdmgkckjfaaDoor
set_option linter.unusedVariables false
set_option linter.unusedSimpArgs false
set_option maxRecDepth 1000000
open Go.RowKit

/-- a block that is known whole -/
structure ABx (w : World) (m : Nat) (T : TypeId) (cs : List Value) : Prop where
  h : w.heap[m]? = some (.cells cs.toArray T (0, 0))
theorem ABx.lt {w : World} {m : Nat} {T : TypeId} {cs : List Value} (k : ABx w m T cs) : m < w.heap.size := (Array.getElem?_eq_some_iff.1 k.h).1
theorem ABx.later {w w1 : World} {m : Nat} {T : TypeId} {cs : List Value} (k : ABx w m T cs) (hb : Below w.heap.size w w1) : ABx w1 m T cs := ⟨(hb.block m k.lt).trans k.h⟩
theorem ABx.grown {w w1 : World} {m : Nat} {T : TypeId} {cs : List Value} {row : Option Nat} (k : ABx w m T cs) (hg : w.grownBy w1 row) (hne : some m ≠ row) : ABx w1 m T cs := ⟨(hg.block m k.lt hne).trans k.h⟩
theorem ABx.cell {w : World} {m : Nat} {T : TypeId} {cs : List Value} (k : ABx w m T cs) (i : Nat) : w.cell? ⟨m, i, none⟩ = cs[i]? := by
  simp [World.cell?, k.h]
theorem ABx.free {w : World} {m : Nat} {T : TypeId} {cs : List Value} (k : ABx w m T cs) (i : Nat) : w.frozen? ⟨m, i, none⟩ = false := by
  simp [World.frozen?, k.h]
theorem ABx.set {w : World} {m : Nat} {T : TypeId} {cs : List Value} (k : ABx w m T cs) (i : Nat) (v : Value) : ABx (w.setCell ⟨m, i, none⟩ v) m T (cs.set i v) := ⟨by
  simp only [World.setCell, Array.getElem?_modify, if_pos rfl, k.h, Option.map_some]
  simp⟩
/-- cells that are put in the place of others -/
def upd : List Value → Nat → List Value → List Value
  | cs, _, [] => cs
  | cs, o, v :: vs => upd (cs.set o v) (o + 1) vs
theorem ABx.sets {m : Nat} {T : TypeId} : ∀ (vs : List Value) (w : World) (cs : List Value) (o : Nat), ABx w m T cs → ABx (w.setCells m o vs) m T (upd cs o vs)
  | [], _, _, _, k => k
  | v :: vs, w, cs, o, k => ABx.sets vs _ _ _ (k.set o v)
theorem upd_mid : ∀ (vs A B C : List Value), vs.length = B.length → upd (A ++ (B ++ C)) A.length vs = A ++ (vs ++ C)
  | [], A, B, C, h => by
    have : B = [] := List.length_eq_zero_iff.1 h.symm
    subst this
    rfl
  | v :: vs, A, [], C, h => by simp at h
  | v :: vs, A, b :: B, C, h => by
    unfold upd
    rw [List.set_append_right _ _ (Nat.le_refl _), Nat.sub_self, List.cons_append, List.set_cons_zero]
    have e : A ++ v :: (B ++ C) = (A ++ [v]) ++ (B ++ C) := by simp
    rw [e, show A.length + 1 = (A ++ [v]).length by simp, upd_mid vs (A ++ [v]) B C (by simpa using h)]
    simp
theorem ABx.news {w : World} {T : TypeId} (cs : Array Value) : ABx (w.alloc (.cells cs T)) w.heap.size T cs.toList := ⟨by
  show (w.heap.push _)[w.heap.size]? = _
  simp⟩
end Go.Proofs.YtpfhjdmgkckjfaaDoor

namespace Go.Proofs.YtpfhjdmgkckjfaaDoor
set_option linter.unusedVariables false
set_option linter.unusedSimpArgs false
set_option maxRecDepth 1000000
open Go.RowKit
open Um Tm

theorem lies_news {w : World} {b off : Nat} {L : List Q} (h : Lies w b off L) : ∀ j u, (L.flatMap uc)[j]? = some u → w.cell? (Addr.add ⟨b, off, none⟩ j) = some u := fun j u hj => by
  have hlt : j < L.length * 5 := by
    have := (List.getElem?_eq_some_iff.1 hj).1
    rwa [flat_len uc 5 uc_len] at this
  have hi : j / 5 < L.length := by omega
  have hx : L[j / 5]? = some L[j / 5] := List.getElem?_eq_getElem hi
  have hr : j % 5 < 5 := Nat.mod_lt _ (by decide)
  have e := flat_get uc 5 uc_len L (j / 5) _ hx (j % 5) hr
  rw [show j / 5 * 5 + j % 5 = j by omega, hj] at e
  obtain ⟨h0, h1, h2, h3, h4⟩ := h _ _ hx
  have ea : Addr.add ⟨b, off, none⟩ j = ⟨b, off + j, none⟩ := by
    unfold Addr.add
    split
    · rename_i h; subst h; rfl
    · rfl
  rw [ea, show off + j = off + j / 5 * 5 + j % 5 by omega]
  generalize j % 5 = r at *
  have : r = 0 ∨ r = 1 ∨ r = 2 ∨ r = 3 ∨ r = 4 := by omega
  rcases this with rfl | rfl | rfl | rfl | rfl
  · rw [Nat.add_zero, h0]; simpa [uc] using e.symm
  · rw [h1]; simpa [uc] using e.symm
  · rw [h2]; simpa [uc] using e.symm
  · rw [h3]; simpa [uc] using e.symm
  · rw [h4]; simpa [uc] using e.symm
theorem lies_ones (L : List Q) : ∀ u ∈ L.flatMap uc, u.oneCell' = true := fun u hu => by
  obtain ⟨x, _, hx⟩ := List.mem_flatMap.1 hu
  exact five_one (a := x.a) (b := x.b) (c := x.c) (d := x.d) (e := x.n) rfl u hx

theorem owned_LBox {w : World} {base : Nat} {T : TypeId} {g n cap : Nat} {L : List Q} (hn : n = L.length) (h : w.ownsRow base T 5 (.slice (some ⟨g, 0, none⟩) n cap) n (L.flatMap uc)) : LBox w g L ∧ base ≤ g := by
  subst hn
  refine ⟨⟨owned_lies h, fun j => ?_, ?_⟩, ?_⟩
  all_goals
    rcases h.2 with ⟨h', _⟩ | ⟨g', cap', cur, h', hb, hg, _⟩
    · simp at h'
    · simp only [Value.slice.injEq, Option.some.injEq, Addr.mk.injEq, and_true, true_and] at h'
      obtain ⟨rfl, -⟩ := h'
      first
        | exact hb
        | exact (Array.getElem?_eq_some_iff.1 hg).1
        | simp [World.frozen?, hg]

end Go.Proofs.YtpfhjdmgkckjfaaDoor
