/- What lies between two rounds of a loop that fills the links of a field: known blocks, and the links that are there.
Conditions: those written at each theorem. -/
import Derived.Test.YtmmkhkkmgjighaaPlaces
import Derived.Test.YtmmkhkkmgjighaaCopyC
import Derived.Test.YtmmkhkkmgjighaaLinkC
import Derived.Test.YtmmkhkkmgjighaaTurnM
namespace Go.Proofs.Ytmmkhkkmgjighaa
set_option linter.unusedVariables false
set_option linter.unusedSimpArgs false
set_option maxRecDepth 1000000
open Go.RowKit Go.Shelf
open Um Tm

theorem ko_below {W X : World} (hb : Below W.heap.size W X) : KeepsOthers W X := ⟨hb.size, fun k o hk _ => (hb.block k (Array.getElem?_eq_some_iff.1 hk).1).trans hk⟩
theorem LBox.obj {w : World} {g : Nat} {M : List Q} (k : LBox w g M) (hM : 0 < M.length) : ∃ o : Obj, w.heap[g]? = some o ∧ o.isCells = true := by
  obtain ⟨h0, -⟩ := k.h 0 _ (List.getElem?_eq_getElem hM)
  exact cells_of_cell h0

/-- known blocks, and the links of a field in a block of its own -/
structure MS (K : List (Nat × Array Value × TypeId)) (g : Nat) (W : World) (G : List Q) : Prop where
  k : ∀ b cs t, (b, cs, t) ∈ K → W.heap[b]? = some (.cells cs t (0, 0)) ∧ b ≠ g
  l : LBox W g G
  n : 0 < G.length
theorem MS.below {K : List (Nat × Array Value × TypeId)} {g : Nat} {W X : World} {G : List Q} (h : MS K g W G) (hb : Below W.heap.size W X) : MS K g X G :=
  ⟨fun b cs t hm => ⟨(hb.block b (Array.getElem?_eq_some_iff.1 (h.k b cs t hm).1).1).trans (h.k b cs t hm).1, (h.k b cs t hm).2⟩, h.l.later hb, h.n⟩
theorem MS.grown {K : List (Nat × Array Value × TypeId)} {g : Nat} {W X : World} {G : List Q} {row : Option Nat} (h : MS K g W G) (hg : W.grownBy X row) (hr : some g ≠ row) (hK : ∀ b cs t, (b, cs, t) ∈ K → some b ≠ row) : MS K g X G :=
  ⟨fun b cs t hm => ⟨(hg.block b (Array.getElem?_eq_some_iff.1 (h.k b cs t hm).1).1 (hK b cs t hm)).trans (h.k b cs t hm).1, (h.k b cs t hm).2⟩, h.l.grown hg hr, h.n⟩
theorem MS.put {K : List (Nat × Array Value × TypeId)} {g : Nat} {W : World} {G : List Q} (h : MS K g W G) (i : Nat) (hi : i < G.length) (x : Q) : MS K g (W.setCells g (i * 5) (uc x)) (G.set i x) :=
  ⟨fun b cs t hm => ⟨((grown_setCells g (uc x) (i * 5) W).block b (Array.getElem?_eq_some_iff.1 (h.k b cs t hm).1).1 (by have := (h.k b cs t hm).2; simp; exact this)).trans (h.k b cs t hm).1, (h.k b cs t hm).2⟩, h.l.put i hi x, by rw [List.length_set]; exact h.n⟩
theorem MS.cell {K : List (Nat × Array Value × TypeId)} {g : Nat} {W : World} {G : List Q} (h : MS K g W G) {b : Nat} {cs : Array Value} {t : TypeId} (hm : (b, cs, t) ∈ K) (o : Nat) {v : Value} (ho : cs[o]? = some v) : W.cell? ⟨b, o, none⟩ = some v := by
  simp [World.cell?, (h.k b cs t hm).1, ho]
theorem MS.lt {K : List (Nat × Array Value × TypeId)} {g : Nat} {W : World} {G : List Q} (h : MS K g W G) {b : Nat} {cs : Array Value} {t : TypeId} (hm : (b, cs, t) ∈ K) : b < W.heap.size := (Array.getElem?_eq_some_iff.1 (h.k b cs t hm).1).1
theorem MS.free {K : List (Nat × Array Value × TypeId)} {g : Nat} {W : World} {G : List Q} (h : MS K g W G) {b : Nat} {cs : Array Value} {t : TypeId} (hm : (b, cs, t) ∈ K) (j : Nat) : W.frozen? ⟨b, j, none⟩ = false := by
  simp [World.frozen?, (h.k b cs t hm).1]
theorem MS.kept {K : List (Nat × Array Value × TypeId)} {g : Nat} {W X : World} {G : List Q} {row : Option Nat} (h : MS K g W G) (hg : W.grownBy X row) (hr : ∀ r, row = some r → ∃ o : Obj, W.heap[r]? = some o ∧ o.isCells = false) : MS K g X G := by
  refine h.grown hg (fun e => ?_) (fun b cs t hm e => ?_)
  · obtain ⟨o, ho, hc⟩ := hr g e.symm
    obtain ⟨o', ho', hc'⟩ := h.l.obj h.n
    rw [ho'] at ho
    cases ho
    rw [hc'] at hc
    cases hc
  · obtain ⟨o, ho, hc⟩ := hr b e.symm
    rw [(h.k b cs t hm).1] at ho
    cases ho
    cases hc

/-- a box of three numbers that may be written -/
structure PB (W : World) (B : Nat) (p q r : Int) : Prop where
  c0 : W.cell? ⟨B, 0, none⟩ = some (.int .i64 p)
  c1 : W.cell? ⟨B, 1, none⟩ = some (.int .i64 q)
  c2 : W.cell? ⟨B, 2, none⟩ = some (.int .i64 r)
  fr : ∀ j, W.frozen? ⟨B, j, none⟩ = false
  lt : B < W.heap.size
theorem PB.grown {W X : World} {B : Nat} {p q r : Int} {row : Option Nat} (h : PB W B p q r) (hg : W.grownBy X row) (hr : some B ≠ row) : PB X B p q r :=
  ⟨hg.cell h.c0 hr, hg.cell h.c1 hr, hg.cell h.c2 hr, fun j => (World.frozen?_of_block (a := ⟨B, j, none⟩) (hg.block B h.lt hr)).trans (h.fr j), Nat.lt_of_lt_of_le h.lt hg.size⟩
theorem PB.below {W X : World} {B : Nat} {p q r : Int} (h : PB W B p q r) (hb : Below W.heap.size W X) : PB X B p q r := h.grown (grown_of hb none) (by simp)
theorem PB.set0 {W : World} {B : Nat} {p q r : Int} (h : PB W B p q r) (x : Int) : PB (W.setCell ⟨B, 0, none⟩ (.int .i64 x)) B x q r :=
  ⟨World.cell?_setCell_same _ _ _ h.c0, (World.cell?_setCell_other _ _ _ _ (by simp)).trans h.c1, (World.cell?_setCell_other _ _ _ _ (by simp)).trans h.c2, fun j => by rw [World.frozen?_setCell]; exact h.fr j, by simp [World.setCell]; exact h.lt⟩
theorem PB.set1 {W : World} {B : Nat} {p q r : Int} (h : PB W B p q r) (x : Int) : PB (W.setCell ⟨B, 1, none⟩ (.int .i64 x)) B p x r :=
  ⟨(World.cell?_setCell_other _ _ _ _ (by simp)).trans h.c0, World.cell?_setCell_same _ _ _ h.c1, (World.cell?_setCell_other _ _ _ _ (by simp)).trans h.c2, fun j => by rw [World.frozen?_setCell]; exact h.fr j, by simp [World.setCell]; exact h.lt⟩
theorem PB.set2 {W : World} {B : Nat} {p q r : Int} (h : PB W B p q r) (x : Int) : PB (W.setCell ⟨B, 2, none⟩ (.int .i64 x)) B p q x :=
  ⟨(World.cell?_setCell_other _ _ _ _ (by simp)).trans h.c0, (World.cell?_setCell_other _ _ _ _ (by simp)).trans h.c1, World.cell?_setCell_same _ _ _ h.c2, fun j => by rw [World.frozen?_setCell]; exact h.fr j, by simp [World.setCell]; exact h.lt⟩
theorem PB.kept {W X : World} {B : Nat} {p q r : Int} {row : Option Nat} (h : PB W B p q r) (hg : W.grownBy X row) (hr : ∀ r, row = some r → ∃ o : Obj, W.heap[r]? = some o ∧ o.isCells = false) : PB X B p q r := by
  refine h.grown hg (fun e => ?_)
  obtain ⟨o, ho, hc⟩ := hr B e.symm
  obtain ⟨o', ho', hc'⟩ := cells_of_cell h.c0
  rw [ho'] at ho
  cases ho
  rw [hc'] at hc
  cases hc
theorem PB.new (W : World) (p q r : Int) (t : TypeId) : PB (W.alloc (.cells #[.int .i64 p, .int .i64 q, .int .i64 r] t)) W.heap.size p q r :=
  ⟨by simp [go_sem], by simp [go_sem], by simp [go_sem], fun j => by simp [go_sem], by simp⟩

/-- what a round has kept so far -/
structure ST (w W : World) (K : List (Nat × Array Value × TypeId)) (g : Nat) (X : World) (G : List Q) : Prop where
  m : MS K g X G
  o : KeepsOthers W X
  b : Below w.heap.size w X
theorem ST.below {w W X Y : World} {K : List (Nat × Array Value × TypeId)} {g : Nat} {G : List Q} (h : ST w W K g X G) (hb : Below X.heap.size X Y) : ST w W K g Y G :=
  ⟨h.m.below hb, h.o.trans (ko_below hb), h.b.trans (hb.mono h.b.size)⟩
theorem ST.put {w W X : World} {K : List (Nat × Array Value × TypeId)} {g : Nat} {G : List Q} (h : ST w W K g X G) (hg : w.heap.size ≤ g) (i : Nat) (hi : i < G.length) (x : Q) : ST w W K g (X.setCells g (i * 5) (uc x)) (G.set i x) :=
  ⟨h.m.put i hi x, h.o.trans (KeepsOthers.of_grownBy (grown_setCells g (uc x) (i * 5) X) (fun j o e ho => by
      cases e
      obtain ⟨o', ho', hc⟩ := h.m.l.obj h.m.n
      rw [ho'] at ho
      cases ho
      exact hc)), h.b.grown (grown_setCells g (uc x) (i * 5) X) h.b.size (fun j e => by cases e; exact hg)⟩
theorem ST.setCell {w W X : World} {K : List (Nat × Array Value × TypeId)} {g : Nat} {G : List Q} (h : ST w W K g X G) (B o : Nat) (hB : w.heap.size ≤ B) (hg : B ≠ g) (hK : ∀ b cs t, (b, cs, t) ∈ K → b ≠ B) (v : Value) : ST w W K g (X.setCell ⟨B, o, none⟩ v) G :=
  ⟨h.m.grown (grown_setCell X ⟨B, o, none⟩ v) (by simp; exact fun e => hg e.symm) (fun b cs t hm => by simp; exact hK b cs t hm), h.o.trans (KeepsOthers.setCell _ _ _), h.b.setCell (p := ⟨B, o, none⟩) hB v⟩
end Go.Proofs.Ytmmkhkkmgjighaa
