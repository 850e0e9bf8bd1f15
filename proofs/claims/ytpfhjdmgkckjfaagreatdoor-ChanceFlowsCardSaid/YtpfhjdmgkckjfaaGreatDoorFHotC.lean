/- A link of a field, as the program and the document's answers read it.
Conditions: the list lies in memory as it is written at each theorem. -/
import Derived.Test.YtpfhjdmgkckjfaaGreatDoorFLBox
import Derived.Test.YtpfhjdmgkckjfaaGreatDoorFMathA
import Derived.Test.YtpfhjdmgkckjfaaGreatDoorFPathA
import Derived.Test.YtpfhjdmgkckjfaaGreatDoorFRegB
import Derived.Test.YtpfhjdmgkckjfaaGreatDoorFMid
import Derived.Test.YtpfhjdmgkckjfaaGreatDoorFFieldC
import Derived.Test.YtpfhjdmgkckjfaaGreatDoorFWlkA
import Derived.Test.YtpfhjdmgkckjfaaGreatDoorFQuatB
import Derived.Test.YtpfhjdmgkckjfaaGreatDoorFCopyC
import Derived.Test.YtpfhjdmgkckjfaaGreatDoorFChoM
import Derived.Test.YtpfhjdmgkckjfaaGreatDoorFSmall
import Derived.Test.YtpfhjdmgkckjfaaGreatDoorFSortC
namespace Go.Proofs.YtpfhjdmgkckjfaaGreatDoor
set_option linter.unusedVariables false
set_option linter.unusedSimpArgs false
set_option maxRecDepth 1000000
open Go.RowKit
open Um Tm

/-- the error of a field, a site and a direction -/
def lnR (a b c : Int) (L : List Q) (s d r : Int) : Prop := (fldR a b c L r ∧ r ≠ 0) ∨ (fldR a b c L 0 ∧ ¬ (0 ≤ s ∧ s < a * b * c) ∧ r = 4) ∨ (fldR a b c L 0 ∧ 0 ≤ s ∧ s < a * b * c ∧ ¬ (0 ≤ d ∧ d ≤ 2) ∧ r = 1) ∨ (fldR a b c L 0 ∧ 0 ≤ s ∧ s < a * b * c ∧ 0 ≤ d ∧ d ≤ 2 ∧ r = 0)
end Go.Proofs.YtpfhjdmgkckjfaaGreatDoor

namespace Go.Proofs.YtpfhjdmgkckjfaaGreatDoor
set_option linter.unusedVariables false
set_option linter.unusedSimpArgs false
set_option maxRecDepth 1000000
open Go.RowKit
open Um Tm

theorem lies_re {W : World} {b off : Nat} {L : List Q} (h : Lies W b off L) (d : Nat) (os : Array Obj) : Lies (Sort.grow (redrawn W d) os) b off L := fun i x hx => by
  have f := h i x hx
  have g : ∀ a : Addr, ∀ v : Value, W.cell? a = some v → (Sort.grow (redrawn W d) os).cell? a = some v := fun a v hv => by rw [Tail.cell_re W d os a (World.block_lt_of_cell? W a hv)]; exact hv
  exact ⟨g _ _ f.1, g _ _ f.2.1, g _ _ f.2.2.1, g _ _ f.2.2.2.1, g _ _ f.2.2.2.2⟩
theorem Lies.atP {w : World} {b off p : Nat} {L : List Q} (h : Lies w b off L) {x : Q} (hx : L[p]? = some x) : w.cell? ⟨b, off + p * 5, none⟩ = some (.int .i64 x.a) ∧ w.cell? ⟨b, off + p * 5 + 1, none⟩ = some (.int .i64 x.b) ∧ w.cell? ⟨b, off + p * 5 + 2, none⟩ = some (.int .i64 x.c) ∧ w.cell? ⟨b, off + p * 5 + 3, none⟩ = some (.int .i64 x.d) ∧ w.cell? ⟨b, off + p * 5 + 4, none⟩ = some (.int .i64 x.n) := h p x hx

/-- the error of a field, a site and a path -/
def asR (a b c : Int) (L : List Q) (s : Int) (l : List Int) (r : Int) : Prop := (fldR a b c L r ∧ r ≠ 0) ∨ (fldR a b c L 0 ∧ wkR a b c s l r)
end Go.Proofs.YtpfhjdmgkckjfaaGreatDoor

namespace Go.Proofs.YtpfhjdmgkckjfaaGreatDoor
set_option linter.unusedVariables false
set_option linter.unusedSimpArgs false
set_option maxRecDepth 1000000
open Go.RowKit
open Um Tm

/-- the error of a field and a list of units, one at each site -/
def gaR (a b c : Int) (L G : List Q) (r : Int) : Prop := (fldR a b c L r ∧ r ≠ 0) ∨ (fldR a b c L 0 ∧ 3 * G.length ≠ L.length ∧ r = 1) ∨ (fldR a b c L 0 ∧ 3 * G.length = L.length ∧ LinksR G r)
end Go.Proofs.YtpfhjdmgkckjfaaGreatDoor

namespace Go.Proofs.YtpfhjdmgkckjfaaGreatDoor
set_option linter.unusedVariables false
set_option linter.unusedSimpArgs false
set_option maxRecDepth 1000000
open Go.RowKit
open Um Tm

set_option maxHeartbeats 400000 in
theorem refBar_any (x : Q) (w : World) (h : V x) (h5 : x.n ≤ 5) : Calls Tryz.prog 71 #[.agg #[.int .i64 x.a, .int .i64 x.b, .int .i64 x.c, .int .i64 x.d, .int .i64 x.n]] w fun e w' => e = .returned (.agg #[.int .i64 (bar x).a, .int .i64 (bar x).b, .int .i64 (bar x).c, .int .i64 (bar x).d, .int .i64 (bar x).n]) ∧ Below w.heap.size w w' := by
  have i := V.in h
  have e1 : IntKind.i64.wrap (-x.b) = -x.b := IntWalk.i64_in _ (by have := i.b; omega)
  have e2 : IntKind.i64.wrap (-x.c) = -x.c := IntWalk.i64_in _ (by have := i.c; omega)
  have e3 : IntKind.i64.wrap (-x.d) = -x.d := IntWalk.i64_in _ (by have := i.d; omega)
  obtain ⟨ib1, ib2⟩ := i.b
  obtain ⟨ic1, ic2⟩ := i.c
  obtain ⟨id1, id2⟩ := i.d
  clear h i
  go_enter Tryz.func71, Tryz.ntmps71
  go_wp2
  refine bodyPost_ret (v := .agg #[.int .i64 (bar x).a, .int .i64 (bar x).b, .int .i64 (bar x).c, .int .i64 (bar x).d, .int .i64 (bar x).n]) ?_ rfl ⟨rfl, ?_⟩
  · simp [results, Tryz.results71, go_sem, bar, e1, e2, e3]
  · repeat (first | (with_reducible exact Below.refl _ _) | (with_reducible refine Below.setCell ?_ ?_ _) | (with_reducible refine Below.drew ?_) | (with_reducible refine Below.alloc ?_ ?_ _) | omega | (simp <;> omega))
end Go.Proofs.YtpfhjdmgkckjfaaGreatDoor

namespace Go.Proofs.YtpfhjdmgkckjfaaGreatDoor
set_option linter.unusedVariables false
set_option linter.unusedSimpArgs false
set_option maxRecDepth 1000000
open Go.RowKit
open Um Tm Cm

/-- the seed behind k draws -/
def advN (s : Int) : Nat → Int
  | 0 => s
  | k + 1 => adv (advN s k)
/-- the units that k draws give -/
def uns (s : Int) : Nat → List Q
  | 0 => []
  | k + 1 => uns s k ++ [small (drw (advN s k) 24)]
/-- a generator in its box, to be read and written -/
structure GBox (w : World) (B : Nat) (s : Int) : Prop where
  c : w.cell? ⟨B, 0, none⟩ = some (.int .i64 s)
  f : w.frozen? ⟨B, 0, none⟩ = false
  lt : B < w.heap.size
theorem GBox.later {w w1 : World} {B : Nat} {s : Int} (h : GBox w B s) (hb : Below w.heap.size w w1) : GBox w1 B s :=
  ⟨(hb.cell h.lt).trans h.c, (hb.frozen (p := ⟨B, 0, none⟩) h.lt).trans h.f, Nat.lt_of_lt_of_le h.lt hb.size⟩
theorem GBox.grown {w w1 : World} {B : Nat} {s : Int} {row : Option Nat} (h : GBox w B s) (hg : w.grownBy w1 row) (hne : some B ≠ row) : GBox w1 B s :=
  ⟨hg.cell h.c hne, (World.frozen?_of_block (a := ⟨B, 0, none⟩) (hg.block B h.lt hne)).trans h.f, Nat.lt_of_lt_of_le h.lt hg.size⟩
theorem GBox.set {w : World} {B : Nat} {s : Int} (h : GBox w B s) (t : Int) : GBox (w.setCell ⟨B, 0, none⟩ (.int .i64 t)) B t :=
  ⟨World.cell?_setCell_same _ _ _ h.c, by rw [World.frozen?_setCell]; exact h.f, by simp [World.setCell]; exact h.lt⟩

def RetU (m : Nat) (L : List Q) (e : Ending) (w' : World) : Prop := ∃ g k : Nat, e = .returned (.tuple #[.slice (some ⟨g, 0, none⟩) L.length k, .int .i64 0]) ∧ Lies w' g 0 L ∧ m ≤ g
end Go.Proofs.YtpfhjdmgkckjfaaGreatDoor
