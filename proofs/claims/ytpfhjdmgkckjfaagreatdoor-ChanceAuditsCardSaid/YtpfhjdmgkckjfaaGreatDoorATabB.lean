/- The unit along a path, as the program makes it.
Conditions: those written at each theorem. -/
import Derived.Test.YtpfhjdmgkckjfaaGreatDoorASortC
import Derived.Test.YtpfhjdmgkckjfaaGreatDoorAPathA
import Derived.Test.YtpfhjdmgkckjfaaGreatDoorARegB
import Derived.Test.YtpfhjdmgkckjfaaGreatDoorAMid
import Derived.Test.YtpfhjdmgkckjfaaGreatDoorADraws
import Derived.Laws.Rows
import Derived.Test.YtpfhjdmgkckjfaaGreatDoorAShelf
import Derived.Deep.RegionHeld3
import Derived.Deep.AppendLies
import Derived.Deep.RegionLawGrows
import Derived.Deep.RegionLaw
import Derived.Laws.AppendOwnNone
import Derived.Test.YtpfhjdmgkckjfaaGreatDoorAWlkA
namespace Go.Proofs.YtpfhjdmgkckjfaaGreatDoor
set_option linter.unusedVariables false
set_option linter.unusedSimpArgs false
set_option maxRecDepth 1000000
open Go.RowKit
open Um Tm

theorem lies_re {W : World} {b off : Nat} {L : List Q} (h : Lies W b off L) (d : Nat) (os : Array Obj) : Lies (Sort.grow (redrawn W d) os) b off L := fun i x hx => by
  have f := h i x hx
  have g : ∀ a : Addr, ∀ v : Value, W.cell? a = some v → (Sort.grow (redrawn W d) os).cell? a = some v := fun a v hv => by rw [Tail.cell_re W d os a (World.block_lt_of_cell? W a hv)]; exact hv
  exact ⟨g _ _ f.1, g _ _ f.2.1, g _ _ f.2.2.1, g _ _ f.2.2.2.1, g _ _ f.2.2.2.2⟩
theorem Lies.atP {w : World} {b off p : Nat} {L : List Q} (h : Lies w b off L) {x : Q} (hx : L[p]? = some x) : w.cell? ⟨b, off + p * 5, none⟩ = some (.int .i64 x.a) ∧ w.cell? ⟨b, off + p * 5 + 1, none⟩ = some (.int .i64 x.b) ∧ w.cell? ⟨b, off + p * 5 + 2, none⟩ = some (.int .i64 x.c) ∧ w.cell? ⟨b, off + p * 5 + 3, none⟩ = some (.int .i64 x.d) ∧ w.cell? ⟨b, off + p * 5 + 4, none⟩ = some (.int .i64 x.n) := h p x hx

/-- the error of a field, a site and a path -/
def asR (a b c : Int) (L : List Q) (s : Int) (l : List Int) (r : Int) : Prop := (fldR a b c L r ∧ r ≠ 0) ∨ (fldR a b c L 0 ∧ wkR a b c s l r)
end Go.Proofs.YtpfhjdmgkckjfaaGreatDoor

namespace Go.Proofs.YtpfhjdmgkckjfaaGreatDoor
set_option linter.unusedVariables false
set_option linter.unusedSimpArgs false
set_option maxRecDepth 1000000
open Go.RowKit

/-- a block that is known whole -/
structure ABx (w : World) (m : Nat) (T : TypeId) (cs : List Value) : Prop where
  h : w.heap[m]? = some (.cells cs.toArray T (0, 0))
theorem ABx.lt {w : World} {m : Nat} {T : TypeId} {cs : List Value} (k : ABx w m T cs) : m < w.heap.size := (Array.getElem?_eq_some_iff.1 k.h).1
theorem ABx.later {w w1 : World} {m : Nat} {T : TypeId} {cs : List Value} (k : ABx w m T cs) (hb : Below w.heap.size w w1) : ABx w1 m T cs := ⟨(hb.block m k.lt).trans k.h⟩
theorem ABx.grown {w w1 : World} {m : Nat} {T : TypeId} {cs : List Value} {row : Option Nat} (k : ABx w m T cs) (hg : w.grownBy w1 row) (hne : some m ≠ row) : ABx w1 m T cs := ⟨(hg.block m k.lt hne).trans k.h⟩
theorem ABx.cell {w : World} {m : Nat} {T : TypeId} {cs : List Value} (k : ABx w m T cs) (i : Nat) : w.cell? ⟨m, i, none⟩ = cs[i]? := by
  simp [World.cell?, k.h]
theorem ABx.free {w : World} {m : Nat} {T : TypeId} {cs : List Value} (k : ABx w m T cs) (i : Nat) : w.frozen? ⟨m, i, none⟩ = false := by
  simp [World.frozen?, k.h]
theorem ABx.set {w : World} {m : Nat} {T : TypeId} {cs : List Value} (k : ABx w m T cs) (i : Nat) (v : Value) : ABx (w.setCell ⟨m, i, none⟩ v) m T (cs.set i v) := ⟨by
  simp only [World.setCell, Array.getElem?_modify, if_pos rfl, k.h, Option.map_some]
  simp⟩
/-- cells that are put in the place of others -/
def upd : List Value → Nat → List Value → List Value
  | cs, _, [] => cs
  | cs, o, v :: vs => upd (cs.set o v) (o + 1) vs
theorem ABx.sets {m : Nat} {T : TypeId} : ∀ (vs : List Value) (w : World) (cs : List Value) (o : Nat), ABx w m T cs → ABx (w.setCells m o vs) m T (upd cs o vs)
  | [], _, _, _, k => k
  | v :: vs, w, cs, o, k => ABx.sets vs _ _ _ (k.set o v)
theorem upd_mid : ∀ (vs A B C : List Value), vs.length = B.length → upd (A ++ (B ++ C)) A.length vs = A ++ (vs ++ C)
  | [], A, B, C, h => by
    have : B = [] := List.length_eq_zero_iff.1 h.symm
    subst this
    rfl
  | v :: vs, A, [], C, h => by simp at h
  | v :: vs, A, b :: B, C, h => by
    unfold upd
    rw [List.set_append_right _ _ (Nat.le_refl _), Nat.sub_self, List.cons_append, List.set_cons_zero]
    have e : A ++ v :: (B ++ C) = (A ++ [v]) ++ (B ++ C) := by simp
    rw [e, show A.length + 1 = (A ++ [v]).length by simp, upd_mid vs (A ++ [v]) B C (by simpa using h)]
    simp
theorem ABx.news {w : World} {T : TypeId} (cs : Array Value) : ABx (w.alloc (.cells cs T)) w.heap.size T cs.toList := ⟨by
  show (w.heap.push _)[w.heap.size]? = _
  simp⟩
end Go.Proofs.YtpfhjdmgkckjfaaGreatDoor

set_option autoImplicit false
namespace Cm
set_option linter.unusedVariables false
set_option linter.unusedSimpArgs false
open Tm Um
/-- the sum of the first weights -/
def psum (l : List Int) (k : Nat) : Int := (l.take k).sum
theorem psum_zero (l : List Int) : psum l 0 = 0 := by simp [psum]
theorem psum_succ {l : List Int} {k : Nat} {x : Int} (h : l[k]? = some x) : psum l (k + 1) = psum l k + x := by
  obtain ⟨hk, rfl⟩ := List.getElem?_eq_some_iff.1 h
  unfold psum
  rw [List.take_succ_eq_append_getElem hk, List.sum_append]
  simp
/-- a draw leads to a value -/
def Ch (l : List Int) (d : Int) (k : Nat) : Prop := k < l.length ∧ psum l k ≤ d ∧ d < psum l (k + 1)
theorem Ch_up (l : List Int) (d : Int) (h0 : 0 ≤ d) : ∀ n : Nat, n ≤ l.length → d < psum l n → ∃ k, Ch l d k
  | 0, _, h => by rw [psum_zero] at h; omega
  | n + 1, hn, h => by
    by_cases hd : d < psum l n
    · exact Ch_up l d h0 n (by omega) hd
    · exact ⟨n, by omega, by omega, h⟩
theorem Ch_ex {l : List Int} {d : Int} (h0 : 0 ≤ d) (h1 : d < psum l l.length) : ∃ k, Ch l d k := Ch_up l d h0 l.length (Nat.le_refl _) h1
theorem psum_mono {l : List Int} (hp : ∀ x ∈ l, 1 ≤ x) (i : Nat) : ∀ j, i ≤ j → j ≤ l.length → psum l i ≤ psum l j
  | 0, h, _ => by
    have : i = 0 := by omega
    subst this
    exact Int.le_refl _
  | j + 1, h, hj => by
    by_cases he : i = j + 1
    · subst he
      exact Int.le_refl _
    · have hx : l[j]? = some l[j] := List.getElem?_eq_getElem (by omega)
      rw [psum_succ hx]
      have := psum_mono hp i j (by omega) (by omega)
      have := hp _ (List.mem_of_getElem? hx)
      omega
theorem psum_le {l : List Int} {B : Int} (hp : ∀ x ∈ l, x ≤ B) : ∀ j : Nat, j ≤ l.length → psum l j ≤ j * B
  | 0, _ => by rw [psum_zero]; omega
  | j + 1, hj => by
    have hx : l[j]? = some l[j] := List.getElem?_eq_getElem (by omega)
    rw [psum_succ hx]
    have := psum_le hp j (by omega)
    have := hp _ (List.mem_of_getElem? hx)
    have e : ((j + 1 : Nat) : Int) * B = j * B + B := by rw [Int.natCast_add, Int.add_mul]; simp
    omega
theorem psum_ge {l : List Int} (hp : ∀ x ∈ l, 1 ≤ x) (j : Nat) (hj : j ≤ l.length) : 0 ≤ psum l j := by
  have := psum_mono hp 0 j (by omega) hj
  rw [psum_zero] at this
  exact this
theorem Ch_le {l : List Int} {d : Int} {k : Nat} (hp : ∀ x ∈ l, 1 ≤ x) (h : Ch l d k) {j : Nat} (hj : j < k) : psum l (j + 1) ≤ d := by
  have := psum_mono hp (j + 1) k (by omega) (by have := h.1; omega)
  have := h.2.1
  omega
theorem small_inj : ∀ k : Nat, k < 24 → ∀ m : Nat, m < 24 → small k = small m → k = m := by decide +kernel
end Cm

namespace Go.Proofs.YtpfhjdmgkckjfaaGreatDoor
set_option linter.unusedVariables false
set_option linter.unusedSimpArgs false
set_option maxRecDepth 1000000
open Go.RowKit
open Um Tm

theorem lies_news {w : World} {b off : Nat} {L : List Q} (h : Lies w b off L) : ∀ j u, (L.flatMap uc)[j]? = some u → w.cell? (Addr.add ⟨b, off, none⟩ j) = some u := fun j u hj => by
  have hlt : j < L.length * 5 := by
    have := (List.getElem?_eq_some_iff.1 hj).1
    rwa [flat_len uc 5 uc_len] at this
  have hi : j / 5 < L.length := by omega
  have hx : L[j / 5]? = some L[j / 5] := List.getElem?_eq_getElem hi
  have hr : j % 5 < 5 := Nat.mod_lt _ (by decide)
  have e := flat_get uc 5 uc_len L (j / 5) _ hx (j % 5) hr
  rw [show j / 5 * 5 + j % 5 = j by omega, hj] at e
  obtain ⟨h0, h1, h2, h3, h4⟩ := h _ _ hx
  have ea : Addr.add ⟨b, off, none⟩ j = ⟨b, off + j, none⟩ := by
    unfold Addr.add
    split
    · rename_i h; subst h; rfl
    · rfl
  rw [ea, show off + j = off + j / 5 * 5 + j % 5 by omega]
  generalize j % 5 = r at *
  have : r = 0 ∨ r = 1 ∨ r = 2 ∨ r = 3 ∨ r = 4 := by omega
  rcases this with rfl | rfl | rfl | rfl | rfl
  · rw [Nat.add_zero, h0]; simpa [uc] using e.symm
  · rw [h1]; simpa [uc] using e.symm
  · rw [h2]; simpa [uc] using e.symm
  · rw [h3]; simpa [uc] using e.symm
  · rw [h4]; simpa [uc] using e.symm
theorem lies_ones (L : List Q) : ∀ u ∈ L.flatMap uc, u.oneCell' = true := fun u hu => by
  obtain ⟨x, _, hx⟩ := List.mem_flatMap.1 hu
  exact five_one (a := x.a) (b := x.b) (c := x.c) (d := x.d) (e := x.n) rfl u hx

theorem owned_LBox {w : World} {base : Nat} {T : TypeId} {g n cap : Nat} {L : List Q} (hn : n = L.length) (h : w.ownsRow base T 5 (.slice (some ⟨g, 0, none⟩) n cap) n (L.flatMap uc)) : LBox w g L ∧ base ≤ g := by
  subst hn
  refine ⟨⟨owned_lies h, fun j => ?_, ?_⟩, ?_⟩
  all_goals
    rcases h.2 with ⟨h', _⟩ | ⟨g', cap', cur, h', hb, hg, _⟩
    · simp at h'
    · simp only [Value.slice.injEq, Option.some.injEq, Addr.mk.injEq, and_true, true_and] at h'
      obtain ⟨rfl, -⟩ := h'
      first
        | exact hb
        | exact (Array.getElem?_eq_some_iff.1 hg).1
        | simp [World.frozen?, hg]

end Go.Proofs.YtpfhjdmgkckjfaaGreatDoor

namespace Go.Proofs.YtpfhjdmgkckjfaaGreatDoor
set_option linter.unusedVariables false
set_option linter.unusedSimpArgs false
set_option maxRecDepth 1000000
open Go.RowKit

theorem belDG {w w1 : World} (h : Below w.drew.heap.size w.drew w1) : Below w.heap.size w w1 := ⟨h.os, h.tape, h.output, h.size, h.block⟩
theorem held_belowG {W W1 : World} {b i : Nat} {v : Value} (h : Below W.heap.size W W1) (hc : W.cell? ⟨b, i, none⟩ = some v) : W1.cell? ⟨b, i, none⟩ = some v := (h.cell (World.block_lt_of_cell? W _ hc)).trans hc
open Um
theorem one_boxI {w : World} {b : Nat} {x : Q} (h : LBox w b [x]) : (w.cell? ⟨b, 0, none⟩ = some (.int .i64 x.a) ∧ w.cell? ⟨b, 1, none⟩ = some (.int .i64 x.b) ∧ w.cell? ⟨b, 2, none⟩ = some (.int .i64 x.c) ∧ w.cell? ⟨b, 3, none⟩ = some (.int .i64 x.d) ∧ w.cell? ⟨b, 4, none⟩ = some (.int .i64 x.n)) ∧ (∀ j, w.frozen? ⟨b, j, none⟩ = false) ∧ b < w.heap.size := ⟨by simpa using h.h 0 x rfl, h.free, h.lt⟩
end Go.Proofs.YtpfhjdmgkckjfaaGreatDoor
