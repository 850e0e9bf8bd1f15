/- The iterator over the sites of a torus: what it hands back, and what it hands to a loop's body.
Conditions: those written at each theorem. -/
import Derived.RangeFuncNested
import Derived.RangeFuncBound
import Derived.RangeFuncCalls
import Derived.RangeFuncLeaves
import Derived.Shelf.Abstract
import Derived.Shelf.RegionOpen
import Derived.WalkKit
import Derived.OwnWalkIn
import Derived.TacticsInMore
import Derived.LoopNIn
import Derived.LoopIn
import Derived.Test.YtkgihmhehkaocaaGreatPTorA
import Derived.Test.YtkgihmhehkaocaaGreatPCopyC
import Derived.Test.YtkgihmhehkaocaaGreatPAlongC
import Derived.Test.YtkgihmhehkaocaaGreatPRegB
import Derived.Test.YtkgihmhehkaocaaGreatPLtA
namespace Go.Proofs.YtkgihmhehkaocaaGreat
set_option linter.unusedVariables false
set_option linter.unusedSimpArgs false
set_option maxRecDepth 1000000
open Go.RowKit Go.Shelf
open Tm
attribute [local go_sem] Oper.semAt_some

/-- a block lies as it lay -/
def KB (B : Nat) (W W' : World) : Prop := W'.heap[B]? = W.heap[B]?
theorem KB.trans {B : Nat} {X Y Z : World} (h : KB B X Y) (k : KB B Y Z) : KB B X Z := Eq.trans k h
theorem KB.below {B m : Nat} {X Y : World} (h : Below m X Y) (hB : B < m) : KB B X Y := h.block B hB
theorem KB.cell {B : Nat} {X Y : World} (h : KB B X Y) (o : Nat) : Y.cell? ⟨B, o, none⟩ = X.cell? ⟨B, o, none⟩ := World.cell?_of_block (w := X) (a := ⟨B, o, none⟩) h
theorem KB.put {B : Nat} (w : World) (hB : B < w.heap.size) (W : World) (l : Nat) (o o' : Obj) (hl : w.heap.size ≤ l) (_ : W.heap[l]? = some o) (_ : o.isCells = false) (_ : o.isWalk = false) : KB B W (W.putObj l o') :=
  World.putObj_heap_other (by omega)

end Go.Proofs.YtkgihmhehkaocaaGreat

/- What a round of the plaquettes' inner loop keeps.
Conditions: those written at each theorem. -/
namespace Go.Proofs.YtkgihmhehkaocaaGreat
set_option linter.unusedVariables false
set_option linter.unusedSimpArgs false
set_option maxRecDepth 1000000
open Go.RowKit Go.Shelf
open Um Tm

theorem row_apart {W : World} {base e size k B : Nat} {t : TypeId} {v : Value} {cs : Array Value} {r : Nat × Nat} {xs : List Value} (h : W.ownsRow base e size v k xs) (hB : W.heap[B]? = some (.cells cs t r)) (ht : t ≠ e) : some B ≠ v.ownBlock := by
  rcases h.2 with ⟨rfl, _⟩ | ⟨g, cap', cur, rfl, _, hgg, _⟩
  · simp [Value.ownBlock]
  · intro e'
    simp [Value.ownBlock] at e'
    subst e'
    rw [hB] at hgg
    simp at hgg
    exact ht hgg.2.1

/-- what lies between two rounds -/
structure PS (w : World) (B5 : Nat) (F : Array Value) (T : Array Value) (W : World) (v : Value) (m : Nat) (cs : List Value) : Prop where
  hv : Boxed W B5 23 v
  row : W.ownsRow w.heap.size 55 5 v m cs
  b1 : Boxed W (w.heap.size + 1) 23 (.slice none 0 0)
  b2 : Boxed W (w.heap.size + 1 + 1) 28 (.int .i64 0)
  f : W.heap[w.heap.size]? = some (.cells F 25 (0, 0))
  p : W.heap[B5 + 1]? = some (.cells T 22 (0, 0))

theorem PS.step {w W w5 w6 : World} {B5 k m cp : Nat} {F T : Array Value} {ao : Option Addr} {cs news : List Value} {v6 : Value} {o1 o2 : Obj} (h : PS w B5 F T W (.slice ao m cp) k cs) (hlt : w.heap.size + 1 + 1 < B5) (hb5 : Below W.heap.size W w5)
    (hg : ((w5.alloc o1).alloc o2).grownBy w6 (Value.slice ao m cp).ownBlock) (hown : w6.ownsRow w.heap.size 55 5 v6 (k + 1) (cs ++ news)) :
    PS w B5 F T (w6.setCell ⟨B5, 0, none⟩ v6) v6 (k + 1) (cs ++ news) ∧ (∀ B, KeepsFrom B W (w6.setCell ⟨B5, 0, none⟩ v6)) ∧ KB (B5 + 1) W (w6.setCell ⟨B5, 0, none⟩ v6) ∧ (Below w.heap.size w W → Below w.heap.size w (w6.setCell ⟨B5, 0, none⟩ v6)) := by
  have s5 := hb5.size
  have l5 := h.hv.lt
  have keep6 : ∀ B, B < W.heap.size → some B ≠ (Value.slice ao m cp).ownBlock → w6.heap[B]? = W.heap[B]? := fun B hB hne =>
    (hg.block B (by simp; omega) hne).trans ((Below.heap_alloc _ o2 B (by simp; omega)).trans ((Below.heap_alloc w5 o1 B (by omega)).trans (hb5.block B hB)))
  have keep : ∀ B, B < W.heap.size → B ≠ B5 → some B ≠ (Value.slice ao m cp).ownBlock → (w6.setCell ⟨B5, 0, none⟩ v6).heap[B]? = W.heap[B]? := fun B hB hn hne =>
    (Below.heap_setCell w6 ⟨B5, 0, none⟩ v6 B hn).trans (keep6 B hB hne)
  have hl : ∀ {B : Nat} {o : Obj}, W.heap[B]? = some o → B < W.heap.size := fun e => (Array.getElem?_eq_some_iff.1 e).1
  have hv6 : Boxed w6 B5 23 (.slice ao m cp) := (keep6 B5 l5 (row_apart h.row h.hv (by decide))).trans h.hv
  have kp := keep (B5 + 1) (hl h.p) (by omega) (row_apart h.row h.p (by decide))
  refine ⟨⟨?_, hown.kept (grownBy_setCell' w6 B5 v6) (.inr (Ne.symm (row_apart hown hv6 (by decide)))), (keep _ h.b1.lt (by omega) (row_apart h.row h.b1 (by decide))).trans h.b1, (keep _ h.b2.lt (by omega) (row_apart h.row h.b2 (by decide))).trans h.b2, (keep _ (hl h.f) (by omega) (row_apart h.row h.f (by decide))).trans h.f, kp.trans h.p⟩, ?_, kp, ?_⟩
  · exact hv6.set v6
  · refine fun B => ⟨?_, fun j o _ hj ho => (keep j (hl hj) (fun e => ?_) (fun e => ?_)).trans hj⟩
    · have := hg.size
      simp [World.setCell] at this ⊢
      omega
    · subst e
      rw [show W.heap[j]? = _ from h.hv] at hj
      cases hj
      cases ho
    · rcases h.row.2 with ⟨e', _⟩ | ⟨g, cap', cur, e', _, hgg, _⟩
      · rw [e'] at e
        cases e
      · rw [e'] at e
        simp [Value.ownBlock] at e
        subst e
        rw [hgg] at hj
        cases hj
        cases ho
  · intro hB
    have b5 : Below w.heap.size w w5 := hB.trans (hb5.mono hB.size)
    have sb := b5.size
    refine Below.setCell (((b5.alloc sb o1).alloc (by simp; omega) o2).grown hg (by simp; omega) (fun j e => ?_)) (p := ⟨B5, 0, none⟩) (by show w.heap.size ≤ B5; omega) v6
    rcases h.row.2 with ⟨e', _⟩ | ⟨g, cap', cur, e', hb', _⟩
    · rw [e'] at e
      cases e
    · rw [e'] at e
      simp [Value.ownBlock] at e
      omega

theorem PS.kept {w W Y : World} {B5 m : Nat} {F T : Array Value} {v : Value} {cs : List Value} {r : Option Nat} (h : PS w B5 F T W v m cs) (hg : W.grownBy Y r) (hr : ∀ q, r = some q → ∃ o : Obj, W.heap[q]? = some o ∧ o.isCells = false) : PS w B5 F T Y v m cs := by
  refine ⟨(grownBy_keeps_cells hg hr h.hv rfl).trans h.hv, h.row.kept hg ?_, (grownBy_keeps_cells hg hr h.b1 rfl).trans h.b1, (grownBy_keeps_cells hg hr h.b2 rfl).trans h.b2, (grownBy_keeps_cells hg hr h.f rfl).trans h.f, (grownBy_keeps_cells hg hr h.p rfl).trans h.p⟩
  rcases h.row.2 with ⟨e', _⟩ | ⟨g, cap', cur, e', _, hgg, _⟩
  · left; rw [e']; rfl
  · right
    intro e
    obtain ⟨o, ho, hc⟩ := hr g (by rw [← e, e']; rfl)
    rw [hgg] at ho
    cases ho
    cases hc
theorem PS.own {α : Type} (w : World) (B5 : Nat) (F T : Array Value) (m : α → Nat) (cs : α → List Value) : Own (fun (s : α) W => ∃ v, PS w B5 F T W v (m s) (cs s)) :=
  fun _ _ _ _ ⟨v, h⟩ hg hr => ⟨v, h.kept hg hr⟩
theorem PS.cell {w W : World} {B5 m : Nat} {F T : Array Value} {v u : Value} {cs : List Value} (h : PS w B5 F T W v m cs) (o : Nat) (ho : F[o]? = some u) : W.cell? ⟨w.heap.size, o, none⟩ = some u := by
  simp [World.cell?, h.f, ho]
end Go.Proofs.YtkgihmhehkaocaaGreat

/- The plaquettes of a field, as the program makes them.
Conditions: those written at each theorem. -/
namespace Go.Proofs.YtkgihmhehkaocaaGreat
set_option linter.unusedVariables false
set_option linter.unusedSimpArgs false
set_option maxRecDepth 1000000
open Go.RowKit Go.Shelf
open Um Tm
attribute [local go_sem] Oper.semAt_some

theorem Boxed.below {W W' : World} {m B : Nat} {t : TypeId} {v : Value} (h : Boxed W B t v) (hb : Below m W W') (hB : B < m) : Boxed W' B t v := (hb.block B hB).trans h

/-- the units of all plaquettes, in their order: each site's three -/
def plq (a b c : Int) (L : List Q) (s : Int) : List Q := [al a b c L s [1, 2, -1, -2], al a b c L s [1, 3, -1, -3], al a b c L s [2, 3, -2, -3]]
def plqs (a b c : Int) (L : List Q) (l : List Nat) : List Q := l.flatMap fun (s : Nat) => plq a b c L (s : Int)

end Go.Proofs.YtkgihmhehkaocaaGreat

/- The plaquettes of a field, as the program makes them: what it answers to a good field and to a bad one.
Conditions: those written at each theorem. -/
namespace Go.Proofs.YtkgihmhehkaocaaGreat
set_option linter.unusedVariables false
set_option linter.unusedSimpArgs false
set_option maxRecDepth 1000000
open Go.RowKit
open Um Tm

end Go.Proofs.YtkgihmhehkaocaaGreat

/- The plaquettes of a field, as the document's answers make them.
Conditions: those written at each theorem. -/
namespace Go.Proofs.YtkgihmhehkaocaaGreat
set_option linter.unusedVariables false
set_option linter.unusedSimpArgs false
set_option maxRecDepth 1000000
open Go.RowKit
open Um Tm

/-- the path of a plaquette -/
def pth (n : Int) : List Int := if n = 0 then [1, 2, -1, -2] else if n = 1 then [1, 3, -1, -3] else [2, 3, -2, -3]
/-- the units along the plaquettes, by their number -/
def pq (a b c : Int) (L : List Q) (i : Nat) : Q := al a b c L ((i : Int) / 3) (pth ((i : Int) % 3))
def pqs (a b c : Int) (L : List Q) (k : Nat) : List Q := (List.range k).map (pq a b c L)
end Go.Proofs.YtkgihmhehkaocaaGreat
