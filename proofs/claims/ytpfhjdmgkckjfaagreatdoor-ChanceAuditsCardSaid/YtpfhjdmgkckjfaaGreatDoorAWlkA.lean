/- Blocks of a few cells that lie as they were laid, whatever is made behind them.
Conditions: those written at each theorem. -/
import Derived.Test.YtpfhjdmgkckjfaaGreatDoorADraws
import Derived.Test.YtpfhjdmgkckjfaaGreatDoorAShelf
namespace Go.Proofs.YtpfhjdmgkckjfaaGreatDoor
set_option linter.unusedVariables false
set_option linter.unusedSimpArgs false
set_option maxRecDepth 1000000
open Go.RowKit

theorem ba1 {w : World} {o : Obj} : Below w.heap.size w (w.alloc o) := (Below.refl _ _).alloc (Nat.le_refl _) o
theorem ba2 {w : World} {o p : Obj} : Below w.heap.size w ((w.alloc o).alloc p) := ba1.trans (ba1.mono (by simp))
theorem ba3 {w : World} {o p q : Obj} : Below w.heap.size w (((w.alloc o).alloc p).alloc q) := ba2.trans (ba1.mono (by simp; omega))
theorem bel1 {w w' : World} {o : Obj} (h : Below (w.alloc o).heap.size (w.alloc o) w') : Below w.heap.size w w' := ba1.trans (h.mono (by simp))
theorem bel2 {w w' : World} {o p : Obj} (h : Below ((w.alloc o).alloc p).heap.size ((w.alloc o).alloc p) w') : Below w.heap.size w w' := ba2.trans (h.mono (by simp; omega))
theorem bel3 {w w' : World} {o p q : Obj} (h : Below (((w.alloc o).alloc p).alloc q).heap.size (((w.alloc o).alloc p).alloc q) w') : Below w.heap.size w w' := ba3.trans (h.mono (by simp; omega))
structure C3 (w : World) (b : Nat) (v0 v1 v2 : Value) : Prop where
  c0 : w.cell? ⟨b, 0, none⟩ = some v0
  c1 : w.cell? ⟨b, 1, none⟩ = some v1
  c2 : w.cell? ⟨b, 2, none⟩ = some v2
  free : ∀ j, w.frozen? ⟨b, j, none⟩ = false
  lt : b < w.heap.size
theorem C3.later {w w1 : World} {b : Nat} {v0 v1 v2 : Value} (h : C3 w b v0 v1 v2) (hb : Below w.heap.size w w1) : C3 w1 b v0 v1 v2 :=
  ⟨(hb.cell h.lt).trans h.c0, (hb.cell h.lt).trans h.c1, (hb.cell h.lt).trans h.c2, fun j => (hb.frozen (p := ⟨b, j, none⟩) h.lt).trans (h.free j), Nat.lt_of_lt_of_le h.lt hb.size⟩
theorem C3.far {w w1 : World} {b : Nat} {v0 v1 v2 : Value} {row : Option Nat} (k : C3 w b v0 v1 v2) (hg : w.grownBy w1 row) (hne : some b ≠ row) : C3 w1 b v0 v1 v2 :=
  ⟨hg.cell k.c0 hne, hg.cell k.c1 hne, hg.cell k.c2 hne, fun j => (World.frozen?_of_block (a := ⟨b, j, none⟩) (hg.block b k.lt hne)).trans (k.free j), Nat.lt_of_lt_of_le k.lt hg.size⟩
theorem FW.set4 {w : World} {b : Nat} {x y z : Int} {v : Value} (k : FW w b x y z v) (x' y' z' : Int) (v' : Value) : FW ((((w.setCell ⟨b, 0, none⟩ (.int .i64 x')).setCell ⟨b, 1, none⟩ (.int .i64 y')).setCell ⟨b, 2, none⟩ (.int .i64 z')).setCell ⟨b, 3, none⟩ v') b x' y' z' v' := by
  have h0 := World.cell?_setCell_same w ⟨b, 0, none⟩ (.int .i64 x') k.c0
  have h1 := World.cell?_setCell_same (w.setCell ⟨b, 0, none⟩ (.int .i64 x')) ⟨b, 1, none⟩ (.int .i64 y') ((World.cell?_setCell_other _ _ _ _ (by simp)).trans k.c1)
  have h2 := World.cell?_setCell_same ((w.setCell ⟨b, 0, none⟩ (.int .i64 x')).setCell ⟨b, 1, none⟩ (.int .i64 y')) ⟨b, 2, none⟩ (.int .i64 z') ((World.cell?_setCell_other _ _ _ _ (by simp)).trans ((World.cell?_setCell_other _ _ _ _ (by simp)).trans k.c2))
  have h3 := World.cell?_setCell_same (((w.setCell ⟨b, 0, none⟩ (.int .i64 x')).setCell ⟨b, 1, none⟩ (.int .i64 y')).setCell ⟨b, 2, none⟩ (.int .i64 z')) ⟨b, 3, none⟩ v' ((World.cell?_setCell_other _ _ _ _ (by simp)).trans ((World.cell?_setCell_other _ _ _ _ (by simp)).trans ((World.cell?_setCell_other _ _ _ _ (by simp)).trans k.c3)))
  exact ⟨(World.cell?_setCell_other _ _ _ _ (by simp)).trans ((World.cell?_setCell_other _ _ _ _ (by simp)).trans ((World.cell?_setCell_other _ _ _ _ (by simp)).trans h0)), (World.cell?_setCell_other _ _ _ _ (by simp)).trans ((World.cell?_setCell_other _ _ _ _ (by simp)).trans h1), (World.cell?_setCell_other _ _ _ _ (by simp)).trans h2, h3, fun j => by simp only [World.frozen?_setCell]; exact k.free j, by simp [World.setCell]; exact k.lt⟩
theorem grown4 {w : World} (b : Nat) (u0 u1 u2 u3 : Value) : w.grownBy ((((w.setCell ⟨b, 0, none⟩ u0).setCell ⟨b, 1, none⟩ u1).setCell ⟨b, 2, none⟩ u2).setCell ⟨b, 3, none⟩ u3) (some b) := grown_setCells b [u0, u1, u2, u3] 0 w
theorem FW.n1 {w : World} {x y z : Int} {v : Value} {T : TypeId} : FW (w.alloc (.cells #[.int .i64 x, .int .i64 y, .int .i64 z, v] T)) w.heap.size x y z v := ⟨by simp [go_sem], by simp [go_sem], by simp [go_sem], by simp [go_sem], fun j => by simp [go_sem], by simp <;> omega⟩
theorem FW.n2a {w : World} {x y z : Int} {v : Value} {T : TypeId} {o : Obj} : FW ((w.alloc (.cells #[.int .i64 x, .int .i64 y, .int .i64 z, v] T)).alloc o) w.heap.size x y z v := ⟨by simp [go_sem], by simp [go_sem], by simp [go_sem], by simp [go_sem], fun j => by simp [go_sem], by simp <;> omega⟩
theorem FW.n2b {w : World} {x y z : Int} {v : Value} {T : TypeId} {o : Obj} : FW ((w.alloc o).alloc (.cells #[.int .i64 x, .int .i64 y, .int .i64 z, v] T)) (w.heap.size + 1) x y z v := ⟨by simp [go_sem], by simp [go_sem], by simp [go_sem], by simp [go_sem], fun j => by simp [go_sem], by simp <;> omega⟩
theorem FW.n3a {w : World} {x y z : Int} {v : Value} {T : TypeId} {o p : Obj} : FW (((w.alloc (.cells #[.int .i64 x, .int .i64 y, .int .i64 z, v] T)).alloc o).alloc p) w.heap.size x y z v := ⟨by simp [go_sem], by simp [go_sem], by simp [go_sem], by simp [go_sem], fun j => by simp [go_sem], by simp <;> omega⟩
theorem FW.n3b {w : World} {x y z : Int} {v : Value} {T : TypeId} {o p : Obj} : FW (((w.alloc o).alloc (.cells #[.int .i64 x, .int .i64 y, .int .i64 z, v] T)).alloc p) (w.heap.size + 1) x y z v := ⟨by simp [go_sem], by simp [go_sem], by simp [go_sem], by simp [go_sem], fun j => by simp [go_sem], by simp <;> omega⟩
theorem FW.n3c {w : World} {x y z : Int} {v : Value} {T : TypeId} {o p : Obj} : FW (((w.alloc o).alloc p).alloc (.cells #[.int .i64 x, .int .i64 y, .int .i64 z, v] T)) (w.heap.size + 2) x y z v := ⟨by simp [go_sem], by simp [go_sem], by simp [go_sem], by simp [go_sem], fun j => by simp [go_sem], by simp <;> omega⟩
theorem C3.n1 {w : World} {v0 v1 v2 : Value} {T : TypeId} : C3 (w.alloc (.cells #[v0, v1, v2] T)) w.heap.size v0 v1 v2 := ⟨by simp [go_sem], by simp [go_sem], by simp [go_sem], fun j => by simp [go_sem], by simp <;> omega⟩
theorem C3.n2a {w : World} {v0 v1 v2 : Value} {T : TypeId} {o : Obj} : C3 ((w.alloc (.cells #[v0, v1, v2] T)).alloc o) w.heap.size v0 v1 v2 := ⟨by simp [go_sem], by simp [go_sem], by simp [go_sem], fun j => by simp [go_sem], by simp <;> omega⟩
theorem C3.n2b {w : World} {v0 v1 v2 : Value} {T : TypeId} {o : Obj} : C3 ((w.alloc o).alloc (.cells #[v0, v1, v2] T)) (w.heap.size + 1) v0 v1 v2 := ⟨by simp [go_sem], by simp [go_sem], by simp [go_sem], fun j => by simp [go_sem], by simp <;> omega⟩
theorem C3.n3a {w : World} {v0 v1 v2 : Value} {T : TypeId} {o p : Obj} : C3 (((w.alloc (.cells #[v0, v1, v2] T)).alloc o).alloc p) w.heap.size v0 v1 v2 := ⟨by simp [go_sem], by simp [go_sem], by simp [go_sem], fun j => by simp [go_sem], by simp <;> omega⟩
theorem C3.n3b {w : World} {v0 v1 v2 : Value} {T : TypeId} {o p : Obj} : C3 (((w.alloc o).alloc (.cells #[v0, v1, v2] T)).alloc p) (w.heap.size + 1) v0 v1 v2 := ⟨by simp [go_sem], by simp [go_sem], by simp [go_sem], fun j => by simp [go_sem], by simp <;> omega⟩
theorem C3.n3c {w : World} {v0 v1 v2 : Value} {T : TypeId} {o p : Obj} : C3 (((w.alloc o).alloc p).alloc (.cells #[v0, v1, v2] T)) (w.heap.size + 2) v0 v1 v2 := ⟨by simp [go_sem], by simp [go_sem], by simp [go_sem], fun j => by simp [go_sem], by simp <;> omega⟩
end Go.Proofs.YtpfhjdmgkckjfaaGreatDoor

/- Blocks of a few cells that lie as they were laid, whatever is made behind them.
Conditions: those written at each theorem. -/
namespace Go.Proofs.YtpfhjdmgkckjfaaGreatDoor
set_option linter.unusedVariables false
set_option linter.unusedSimpArgs false
set_option maxRecDepth 1000000
open Go.RowKit

structure C1 (w : World) (b : Nat) (v0 : Value) : Prop where
  c0 : w.cell? ⟨b, 0, none⟩ = some v0
  free : ∀ j, w.frozen? ⟨b, j, none⟩ = false
  lt : b < w.heap.size
theorem C1.later {w w1 : World} {b : Nat} {v0 : Value} (h : C1 w b v0) (hb : Below w.heap.size w w1) : C1 w1 b v0 :=
  ⟨(hb.cell h.lt).trans h.c0, fun j => (hb.frozen (p := ⟨b, j, none⟩) h.lt).trans (h.free j), Nat.lt_of_lt_of_le h.lt hb.size⟩
structure C2 (w : World) (b : Nat) (v0 v1 : Value) : Prop where
  c0 : w.cell? ⟨b, 0, none⟩ = some v0
  c1 : w.cell? ⟨b, 1, none⟩ = some v1
  free : ∀ j, w.frozen? ⟨b, j, none⟩ = false
  lt : b < w.heap.size
theorem C2.later {w w1 : World} {b : Nat} {v0 v1 : Value} (h : C2 w b v0 v1) (hb : Below w.heap.size w w1) : C2 w1 b v0 v1 :=
  ⟨(hb.cell h.lt).trans h.c0, (hb.cell h.lt).trans h.c1, fun j => (hb.frozen (p := ⟨b, j, none⟩) h.lt).trans (h.free j), Nat.lt_of_lt_of_le h.lt hb.size⟩
structure C4 (w : World) (b : Nat) (v0 v1 v2 v3 : Value) : Prop where
  c0 : w.cell? ⟨b, 0, none⟩ = some v0
  c1 : w.cell? ⟨b, 1, none⟩ = some v1
  c2 : w.cell? ⟨b, 2, none⟩ = some v2
  c3 : w.cell? ⟨b, 3, none⟩ = some v3
  free : ∀ j, w.frozen? ⟨b, j, none⟩ = false
  lt : b < w.heap.size
theorem C4.later {w w1 : World} {b : Nat} {v0 v1 v2 v3 : Value} (h : C4 w b v0 v1 v2 v3) (hb : Below w.heap.size w w1) : C4 w1 b v0 v1 v2 v3 :=
  ⟨(hb.cell h.lt).trans h.c0, (hb.cell h.lt).trans h.c1, (hb.cell h.lt).trans h.c2, (hb.cell h.lt).trans h.c3, fun j => (hb.frozen (p := ⟨b, j, none⟩) h.lt).trans (h.free j), Nat.lt_of_lt_of_le h.lt hb.size⟩
structure C5 (w : World) (b : Nat) (v0 v1 v2 v3 v4 : Value) : Prop where
  c0 : w.cell? ⟨b, 0, none⟩ = some v0
  c1 : w.cell? ⟨b, 1, none⟩ = some v1
  c2 : w.cell? ⟨b, 2, none⟩ = some v2
  c3 : w.cell? ⟨b, 3, none⟩ = some v3
  c4 : w.cell? ⟨b, 4, none⟩ = some v4
  free : ∀ j, w.frozen? ⟨b, j, none⟩ = false
  lt : b < w.heap.size
theorem C5.later {w w1 : World} {b : Nat} {v0 v1 v2 v3 v4 : Value} (h : C5 w b v0 v1 v2 v3 v4) (hb : Below w.heap.size w w1) : C5 w1 b v0 v1 v2 v3 v4 :=
  ⟨(hb.cell h.lt).trans h.c0, (hb.cell h.lt).trans h.c1, (hb.cell h.lt).trans h.c2, (hb.cell h.lt).trans h.c3, (hb.cell h.lt).trans h.c4, fun j => (hb.frozen (p := ⟨b, j, none⟩) h.lt).trans (h.free j), Nat.lt_of_lt_of_le h.lt hb.size⟩
structure C6 (w : World) (b : Nat) (v0 v1 v2 v3 v4 v5 : Value) : Prop where
  c0 : w.cell? ⟨b, 0, none⟩ = some v0
  c1 : w.cell? ⟨b, 1, none⟩ = some v1
  c2 : w.cell? ⟨b, 2, none⟩ = some v2
  c3 : w.cell? ⟨b, 3, none⟩ = some v3
  c4 : w.cell? ⟨b, 4, none⟩ = some v4
  c5 : w.cell? ⟨b, 5, none⟩ = some v5
  free : ∀ j, w.frozen? ⟨b, j, none⟩ = false
  lt : b < w.heap.size
theorem C6.later {w w1 : World} {b : Nat} {v0 v1 v2 v3 v4 v5 : Value} (h : C6 w b v0 v1 v2 v3 v4 v5) (hb : Below w.heap.size w w1) : C6 w1 b v0 v1 v2 v3 v4 v5 :=
  ⟨(hb.cell h.lt).trans h.c0, (hb.cell h.lt).trans h.c1, (hb.cell h.lt).trans h.c2, (hb.cell h.lt).trans h.c3, (hb.cell h.lt).trans h.c4, (hb.cell h.lt).trans h.c5, fun j => (hb.frozen (p := ⟨b, j, none⟩) h.lt).trans (h.free j), Nat.lt_of_lt_of_le h.lt hb.size⟩
theorem C1.n1 {w : World} {v0 : Value} {T : TypeId} : C1 (w.alloc (.cells #[v0] T)) w.heap.size v0 := ⟨by simp [go_sem], fun j => by simp [go_sem], by simp <;> omega⟩
theorem C1.n2a {w : World} {v0 : Value} {T : TypeId} {o : Obj} : C1 ((w.alloc (.cells #[v0] T)).alloc o) w.heap.size v0 := ⟨by simp [go_sem], fun j => by simp [go_sem], by simp <;> omega⟩
theorem C1.n2b {w : World} {v0 : Value} {T : TypeId} {o : Obj} : C1 ((w.alloc o).alloc (.cells #[v0] T)) (w.heap.size + 1) v0 := ⟨by simp [go_sem], fun j => by simp [go_sem], by simp <;> omega⟩
theorem C1.n3a {w : World} {v0 : Value} {T : TypeId} {o p : Obj} : C1 (((w.alloc (.cells #[v0] T)).alloc o).alloc p) w.heap.size v0 := ⟨by simp [go_sem], fun j => by simp [go_sem], by simp <;> omega⟩
theorem C1.n3b {w : World} {v0 : Value} {T : TypeId} {o p : Obj} : C1 (((w.alloc o).alloc (.cells #[v0] T)).alloc p) (w.heap.size + 1) v0 := ⟨by simp [go_sem], fun j => by simp [go_sem], by simp <;> omega⟩
theorem C1.n3c {w : World} {v0 : Value} {T : TypeId} {o p : Obj} : C1 (((w.alloc o).alloc p).alloc (.cells #[v0] T)) (w.heap.size + 2) v0 := ⟨by simp [go_sem], fun j => by simp [go_sem], by simp <;> omega⟩
theorem C2.n1 {w : World} {v0 v1 : Value} {T : TypeId} : C2 (w.alloc (.cells #[v0, v1] T)) w.heap.size v0 v1 := ⟨by simp [go_sem], by simp [go_sem], fun j => by simp [go_sem], by simp <;> omega⟩
theorem C2.n2a {w : World} {v0 v1 : Value} {T : TypeId} {o : Obj} : C2 ((w.alloc (.cells #[v0, v1] T)).alloc o) w.heap.size v0 v1 := ⟨by simp [go_sem], by simp [go_sem], fun j => by simp [go_sem], by simp <;> omega⟩
theorem C2.n2b {w : World} {v0 v1 : Value} {T : TypeId} {o : Obj} : C2 ((w.alloc o).alloc (.cells #[v0, v1] T)) (w.heap.size + 1) v0 v1 := ⟨by simp [go_sem], by simp [go_sem], fun j => by simp [go_sem], by simp <;> omega⟩
theorem C2.n3a {w : World} {v0 v1 : Value} {T : TypeId} {o p : Obj} : C2 (((w.alloc (.cells #[v0, v1] T)).alloc o).alloc p) w.heap.size v0 v1 := ⟨by simp [go_sem], by simp [go_sem], fun j => by simp [go_sem], by simp <;> omega⟩
theorem C2.n3b {w : World} {v0 v1 : Value} {T : TypeId} {o p : Obj} : C2 (((w.alloc o).alloc (.cells #[v0, v1] T)).alloc p) (w.heap.size + 1) v0 v1 := ⟨by simp [go_sem], by simp [go_sem], fun j => by simp [go_sem], by simp <;> omega⟩
theorem C2.n3c {w : World} {v0 v1 : Value} {T : TypeId} {o p : Obj} : C2 (((w.alloc o).alloc p).alloc (.cells #[v0, v1] T)) (w.heap.size + 2) v0 v1 := ⟨by simp [go_sem], by simp [go_sem], fun j => by simp [go_sem], by simp <;> omega⟩
theorem C4.n1 {w : World} {v0 v1 v2 v3 : Value} {T : TypeId} : C4 (w.alloc (.cells #[v0, v1, v2, v3] T)) w.heap.size v0 v1 v2 v3 := ⟨by simp [go_sem], by simp [go_sem], by simp [go_sem], by simp [go_sem], fun j => by simp [go_sem], by simp <;> omega⟩
theorem C4.n2a {w : World} {v0 v1 v2 v3 : Value} {T : TypeId} {o : Obj} : C4 ((w.alloc (.cells #[v0, v1, v2, v3] T)).alloc o) w.heap.size v0 v1 v2 v3 := ⟨by simp [go_sem], by simp [go_sem], by simp [go_sem], by simp [go_sem], fun j => by simp [go_sem], by simp <;> omega⟩
theorem C4.n2b {w : World} {v0 v1 v2 v3 : Value} {T : TypeId} {o : Obj} : C4 ((w.alloc o).alloc (.cells #[v0, v1, v2, v3] T)) (w.heap.size + 1) v0 v1 v2 v3 := ⟨by simp [go_sem], by simp [go_sem], by simp [go_sem], by simp [go_sem], fun j => by simp [go_sem], by simp <;> omega⟩
theorem C4.n3a {w : World} {v0 v1 v2 v3 : Value} {T : TypeId} {o p : Obj} : C4 (((w.alloc (.cells #[v0, v1, v2, v3] T)).alloc o).alloc p) w.heap.size v0 v1 v2 v3 := ⟨by simp [go_sem], by simp [go_sem], by simp [go_sem], by simp [go_sem], fun j => by simp [go_sem], by simp <;> omega⟩
theorem C4.n3b {w : World} {v0 v1 v2 v3 : Value} {T : TypeId} {o p : Obj} : C4 (((w.alloc o).alloc (.cells #[v0, v1, v2, v3] T)).alloc p) (w.heap.size + 1) v0 v1 v2 v3 := ⟨by simp [go_sem], by simp [go_sem], by simp [go_sem], by simp [go_sem], fun j => by simp [go_sem], by simp <;> omega⟩
theorem C4.n3c {w : World} {v0 v1 v2 v3 : Value} {T : TypeId} {o p : Obj} : C4 (((w.alloc o).alloc p).alloc (.cells #[v0, v1, v2, v3] T)) (w.heap.size + 2) v0 v1 v2 v3 := ⟨by simp [go_sem], by simp [go_sem], by simp [go_sem], by simp [go_sem], fun j => by simp [go_sem], by simp <;> omega⟩
theorem C5.n1 {w : World} {v0 v1 v2 v3 v4 : Value} {T : TypeId} : C5 (w.alloc (.cells #[v0, v1, v2, v3, v4] T)) w.heap.size v0 v1 v2 v3 v4 := ⟨by simp [go_sem], by simp [go_sem], by simp [go_sem], by simp [go_sem], by simp [go_sem], fun j => by simp [go_sem], by simp <;> omega⟩
theorem C5.n2a {w : World} {v0 v1 v2 v3 v4 : Value} {T : TypeId} {o : Obj} : C5 ((w.alloc (.cells #[v0, v1, v2, v3, v4] T)).alloc o) w.heap.size v0 v1 v2 v3 v4 := ⟨by simp [go_sem], by simp [go_sem], by simp [go_sem], by simp [go_sem], by simp [go_sem], fun j => by simp [go_sem], by simp <;> omega⟩
theorem C5.n2b {w : World} {v0 v1 v2 v3 v4 : Value} {T : TypeId} {o : Obj} : C5 ((w.alloc o).alloc (.cells #[v0, v1, v2, v3, v4] T)) (w.heap.size + 1) v0 v1 v2 v3 v4 := ⟨by simp [go_sem], by simp [go_sem], by simp [go_sem], by simp [go_sem], by simp [go_sem], fun j => by simp [go_sem], by simp <;> omega⟩
theorem C5.n3a {w : World} {v0 v1 v2 v3 v4 : Value} {T : TypeId} {o p : Obj} : C5 (((w.alloc (.cells #[v0, v1, v2, v3, v4] T)).alloc o).alloc p) w.heap.size v0 v1 v2 v3 v4 := ⟨by simp [go_sem], by simp [go_sem], by simp [go_sem], by simp [go_sem], by simp [go_sem], fun j => by simp [go_sem], by simp <;> omega⟩
theorem C5.n3b {w : World} {v0 v1 v2 v3 v4 : Value} {T : TypeId} {o p : Obj} : C5 (((w.alloc o).alloc (.cells #[v0, v1, v2, v3, v4] T)).alloc p) (w.heap.size + 1) v0 v1 v2 v3 v4 := ⟨by simp [go_sem], by simp [go_sem], by simp [go_sem], by simp [go_sem], by simp [go_sem], fun j => by simp [go_sem], by simp <;> omega⟩
theorem C5.n3c {w : World} {v0 v1 v2 v3 v4 : Value} {T : TypeId} {o p : Obj} : C5 (((w.alloc o).alloc p).alloc (.cells #[v0, v1, v2, v3, v4] T)) (w.heap.size + 2) v0 v1 v2 v3 v4 := ⟨by simp [go_sem], by simp [go_sem], by simp [go_sem], by simp [go_sem], by simp [go_sem], fun j => by simp [go_sem], by simp <;> omega⟩
theorem C6.n1 {w : World} {v0 v1 v2 v3 v4 v5 : Value} {T : TypeId} : C6 (w.alloc (.cells #[v0, v1, v2, v3, v4, v5] T)) w.heap.size v0 v1 v2 v3 v4 v5 := ⟨by simp [go_sem], by simp [go_sem], by simp [go_sem], by simp [go_sem], by simp [go_sem], by simp [go_sem], fun j => by simp [go_sem], by simp <;> omega⟩
theorem C6.n2a {w : World} {v0 v1 v2 v3 v4 v5 : Value} {T : TypeId} {o : Obj} : C6 ((w.alloc (.cells #[v0, v1, v2, v3, v4, v5] T)).alloc o) w.heap.size v0 v1 v2 v3 v4 v5 := ⟨by simp [go_sem], by simp [go_sem], by simp [go_sem], by simp [go_sem], by simp [go_sem], by simp [go_sem], fun j => by simp [go_sem], by simp <;> omega⟩
theorem C6.n2b {w : World} {v0 v1 v2 v3 v4 v5 : Value} {T : TypeId} {o : Obj} : C6 ((w.alloc o).alloc (.cells #[v0, v1, v2, v3, v4, v5] T)) (w.heap.size + 1) v0 v1 v2 v3 v4 v5 := ⟨by simp [go_sem], by simp [go_sem], by simp [go_sem], by simp [go_sem], by simp [go_sem], by simp [go_sem], fun j => by simp [go_sem], by simp <;> omega⟩
theorem C6.n3a {w : World} {v0 v1 v2 v3 v4 v5 : Value} {T : TypeId} {o p : Obj} : C6 (((w.alloc (.cells #[v0, v1, v2, v3, v4, v5] T)).alloc o).alloc p) w.heap.size v0 v1 v2 v3 v4 v5 := ⟨by simp [go_sem], by simp [go_sem], by simp [go_sem], by simp [go_sem], by simp [go_sem], by simp [go_sem], fun j => by simp [go_sem], by simp <;> omega⟩
theorem C6.n3b {w : World} {v0 v1 v2 v3 v4 v5 : Value} {T : TypeId} {o p : Obj} : C6 (((w.alloc o).alloc (.cells #[v0, v1, v2, v3, v4, v5] T)).alloc p) (w.heap.size + 1) v0 v1 v2 v3 v4 v5 := ⟨by simp [go_sem], by simp [go_sem], by simp [go_sem], by simp [go_sem], by simp [go_sem], by simp [go_sem], fun j => by simp [go_sem], by simp <;> omega⟩
theorem C6.n3c {w : World} {v0 v1 v2 v3 v4 v5 : Value} {T : TypeId} {o p : Obj} : C6 (((w.alloc o).alloc p).alloc (.cells #[v0, v1, v2, v3, v4, v5] T)) (w.heap.size + 2) v0 v1 v2 v3 v4 v5 := ⟨by simp [go_sem], by simp [go_sem], by simp [go_sem], by simp [go_sem], by simp [go_sem], by simp [go_sem], fun j => by simp [go_sem], by simp <;> omega⟩

end Go.Proofs.YtpfhjdmgkckjfaaGreatDoor
