/- The place of the first number that is not 0, as the document's answers find it (great seat).
Conditions: none. -/
import Derived.Test.YtkgihmhehkaocaaGreatRows
import Derived.Test.YtkgihmhehkaocaaGreatChecked
import Derived.WalkKit
import Derived.WalkSpells
import Derived.WalkLawsBesides
import Derived.WalkMore
import Derived.Scope
import Derived.ScopeJumps
import Derived.Lib.Hide
import Derived.BigQuiet
import Derived.Deep.DeepFit
import Derived.Test.YtkgihmhehkaocaaGreatRGauC
import Derived.Test.YtkgihmhehkaocaaGreatRIBox
import Derived.Test.YtkgihmhehkaocaaGreatRTopA
import Derived.Test.YtkgihmhehkaocaaGreatRGauF
import Derived.Maps.AppendAt
import Derived.Test.YtkgihmhehkaocaaGreatRGauG
import Derived.Test.YtkgihmhehkaocaaGreatRGauE
import Derived.Test.YtkgihmhehkaocaaGreatRGauD
import Derived.Test.YtkgihmhehkaocaaGreatRHkM
import Derived.JoinedOf
import Derived.KernelRfl
import Derived.Test.YtkgihmhehkaocaaGreatRInts
import Derived.Test.YtkgihmhehkaocaaGreatRLinksC
import Derived.Test.YtkgihmhehkaocaaGreatRRows5
namespace Go.Proofs.YtkgihmhehkaocaaGreat
set_option linter.unusedVariables false
set_option linter.unusedSimpArgs false
set_option maxRecDepth 1000000
open Go.RowKit

def el4 (a b c d : Int) (k : Nat) : Int := if k = 0 then a else if k = 1 then b else if k = 2 then c else d
def fst4 (a b c d : Int) : Nat := if a ≠ 0 then 0 else if b ≠ 0 then 1 else if c ≠ 0 then 2 else if d ≠ 0 then 3 else 4
end Go.Proofs.YtkgihmhehkaocaaGreat

/- A row divided by the greatest common divisor of its numbers, as the document's answers make it (great seat).
Conditions: the bounds written at each theorem. -/
namespace Go.Proofs.YtkgihmhehkaocaaGreat
set_option linter.unusedVariables false
set_option linter.unusedSimpArgs false
set_option maxRecDepth 1000000
open Go.RowKit
open Um Tm

end Go.Proofs.YtkgihmhehkaocaaGreat

/- Bounds of rows that are reduced by one another: mathematics, no Go.
Conditions: those written at each theorem. -/
namespace Go.Proofs.YtkgihmhehkaocaaGreat
set_option linter.unusedVariables false
set_option linter.unusedSimpArgs false
set_option maxRecDepth 1000000
open Um Tm

/-- how large the i-th row may be -/
def bn (i : Nat) : Int := if i = 0 then 8 else if i = 1 then 128 else if i = 2 then 32768 else 1
/-- how large a row is that has been reduced by i rows -/
def rb (i : Nat) : Int := if i = 0 then 8 else if i = 1 then 128 else if i = 2 then 32768 else if i = 3 then 2147483648 else 4294967296
/-- the rows' bounds -/
def RBd (R : List Q) : Prop := ∀ i r, R[i]? = some r → B4 r (bn i)
/-- what is reduced, before it is divided -/
def rdv (row r : Q) : Q := ⟨r.a * cmp (fstq row) row - row.a * cmp (fstq row) r, r.b * cmp (fstq row) row - row.b * cmp (fstq row) r, r.c * cmp (fstq row) row - row.c * cmp (fstq row) r, r.d * cmp (fstq row) row - row.d * cmp (fstq row) r, 0⟩
end Go.Proofs.YtkgihmhehkaocaaGreat

/- A row reduced by rows, as the document's answers make it (great seat).
Conditions: the bounds written at each theorem. -/
namespace Go.Proofs.YtkgihmhehkaocaaGreat
set_option linter.unusedVariables false
set_option linter.unusedSimpArgs false
set_option maxRecDepth 1000000
open Go.RowKit
open Um Tm

end Go.Proofs.YtkgihmhehkaocaaGreat

/- The rows of the document's equations for q * x = y * q: mathematics, no Go.
Conditions: those written at each theorem. -/
namespace Go.Proofs.YtkgihmhehkaocaaGreat
set_option linter.unusedVariables false
set_option linter.unusedSimpArgs false
set_option maxRecDepth 1000000
open Um Tm

/-- the coordinates, as units -/
def u1 (i : Nat) : Q := ⟨(un i).a, (un i).b, (un i).c, (un i).d, 1⟩
def dE (x y : Q) (k i : Nat) : Int := cmp k (mul (u1 i) x) * y.n - cmp k (mul y (u1 i)) * x.n
def drow (x y : Q) (k : Nat) : Q := ⟨dE x y k 0, dE x y k 1, dE x y k 2, dE x y k 3, 0⟩
/-- the rows of all pairs -/
def drE (X Y : List Q) (j : Nat) : Q := drow (lk X ((j / 4 : Nat) : Int)) (lk Y ((j / 4 : Nat) : Int)) (j % 4)
def crD (x y : Q) (i k : Nat) : List Int := (List.range 16).map fun t => if t % 4 < i ∨ (t % 4 = i ∧ t / 4 < k) then dE x y (t / 4) (t % 4) else 0
end Go.Proofs.YtkgihmhehkaocaaGreat

/- The number of independent solutions, as the document's answers reckon it (great seat).
Conditions: the units are small, as it is written at each theorem. -/
namespace Go.Proofs.YtkgihmhehkaocaaGreat
set_option linter.unusedVariables false
set_option linter.unusedSimpArgs false
set_option maxRecDepth 1000000
open Go.RowKit
open Um Tm

def bas4 : List Q := [u1 0, u1 1, u1 2, u1 3]
end Go.Proofs.YtkgihmhehkaocaaGreat

/- Freedom and Equivalent, as the document's answers reckon them (great seat).
Conditions: the fields lie in memory as it is written at each theorem. -/
namespace Go.Proofs.YtkgihmhehkaocaaGreat
set_option linter.unusedVariables false
set_option linter.unusedSimpArgs false
set_option maxRecDepth 1000000
open Go.RowKit
open Um Tm

end Go.Proofs.YtkgihmhehkaocaaGreat

/- The same unit at each site, and which lists have small numbers, as the program and the law find it.
Conditions: those written at each theorem. -/
namespace Go.Proofs.YtkgihmhehkaocaaGreat
set_option linter.unusedVariables false
set_option linter.unusedSimpArgs false
set_option maxRecDepth 1000000
open Go.RowKit
open Um Tm

/-! ### small numbers -/
/-- all N are 1 or 2 -/
def N12L (G : List Q) : Prop := ∀ (i : Nat) (x : Q), G[i]? = some x → 1 ≤ x.n ∧ x.n ≤ 2
end Go.Proofs.YtkgihmhehkaocaaGreat

/- Closed facts about the whole program, which each statement's frame asks: each evaluated once.
Conditions: none. -/
namespace Go.Proofs.YtkgihmhehkaocaaGreat
set_option linter.unusedVariables false
set_option linter.unusedSimpArgs false
set_option maxRecDepth 1000000
open Go Go.Proofs

theorem band {a b : Bool} (ha : a = true) (hb : b = true) : (a && b) = true := by rw [ha, hb]; rfl
theorem jf1 : (laidOutB Tryz.prog) = true := by kernel_rfl
theorem jf2 : (mapsRowed Tryz.prog) = true := by kernel_rfl
theorem jf6 : ((Tryz.prog.stops == [])) = true := by kernel_rfl
theorem jf8 : ((Tryz.prog.stopKnobs == [])) = true := by kernel_rfl
theorem jf24 : (Tryz.prog.stopsHeard) = true := by kernel_rfl
theorem jf25 : (Tryz.prog.mayEnter) = true := by kernel_rfl
theorem jf26 : (false == Tryz.prog.liftsFinal) = true := by kernel_rfl
theorem jf27 : (Tryz.prog.make == some Make.cut) = true := by kernel_rfl
end Go.Proofs.YtkgihmhehkaocaaGreat

/- What the laws of chapter 2 share: fields and paths as arguments, lists that are read within a drawn region, long fields.
Conditions: those written at each theorem. -/
namespace Go.Proofs.YtkgihmhehkaocaaGreat
set_option linter.unusedVariables false
set_option linter.unusedSimpArgs false
set_option maxRecDepth 1000000
open Go.ChangeShapes Go.WideShapes Go.ChangeAt Go.RowKit
open Um

section
open Go.ChangeShapes Go.WideShapes Go.ChangeAt Go.RowKit Go.Joins Go.Deep
variable {H : Type} {enc : TypeId × Value → H} {w : World} {base : Nat} {spare : Nat → Bool} {held : Bool}
theorem cellsF : Tryz.prog.cellsOf 25 = 4 := by kernel_rfl
theorem cellsA3 : Tryz.prog.cellsOf 22 = 3 := by kernel_rfl
theorem cellsUs : Tryz.prog.cellsOf 23 = 1 := by kernel_rfl
theorem open_field {r : Reach} {b0 : Nat} {v : Value} {d : DataW H} {p : List MemPlace} (hv : Value.okWide Tryz.prog w r b0 25 v) (h : DataW.Trod enc Tryz.prog w base spare held 25 v d p) : ∃ (x y z : Int) (ao : Option Addr) (L : List Q) (cap : Nat), v = .agg #[.int .i64 x, .int .i64 y, .int .i64 z, .slice ao L.length cap] ∧ L.length ≤ maxLen ∧ LiesO w ao L := by
  obtain ⟨cs, rfl, hsz⟩ := okWide_struct Tryz.underlying25 hv
  obtain ⟨ls⟩ := cs
  match ls, hsz.trans cellsF with
  | [c0, c1, c2, c3], _ =>
    obtain ⟨fuel, hf⟩ := h
    obtain ⟨xs, n, _, _, _, hlen, hg⟩ := DataW.trod_struct Tryz.underlying25 hf
    match xs, hlen with
    | [y0, y1], _ =>
      have g0' : DataW.trod enc Tryz.prog w base spare held n 22 [c0, c1, c2] = some y0 := by simpa [Value.cells, cellsA3] using hg 0 _ rfl
      have g1' : DataW.trod enc Tryz.prog w base spare held n 23 [c3] = some y1 := by simpa [Value.cells, cellsUs] using hg 1 _ rfl
      obtain ⟨ao, L, cap, e3, hl, hm⟩ := trod_units g1'
      obtain ⟨zs, n', _, _, _, hlen', hg'⟩ := DataW.trod_array Tryz.underlying22 g0'
      match zs, hlen' with
      | [z0, z1, z2], _ =>
        obtain ⟨a, e0, _, _⟩ := DataW.trod_int Tryz.underlying3 (show DataW.trod enc Tryz.prog w base spare held n' 3 [c0] = some z0 by simpa [Value.cells, cells3] using hg' 0 (by omega))
        obtain ⟨b, e1, _, _⟩ := DataW.trod_int Tryz.underlying3 (show DataW.trod enc Tryz.prog w base spare held n' 3 [c1] = some z1 by simpa [Value.cells, cells3] using hg' 1 (by omega))
        obtain ⟨c, e2, _, _⟩ := DataW.trod_int Tryz.underlying3 (show DataW.trod enc Tryz.prog w base spare held n' 3 [c2] = some z2 by simpa [Value.cells, cells3] using hg' 2 (by omega))
        simp at e0 e1 e2 e3
        subst e0 e1 e2 e3
        exact ⟨a, b, c, ao, L, cap, rfl, hl, hm⟩
end
section
open Go.ChangeShapes Go.WideShapes Go.ChangeAt Go.RowKit Go.Joins Go.Deep
variable {H : Type} {enc : TypeId × Value → H} {w : World} {base : Nat} {spare : Nat → Bool} {held : Bool}
end

end Go.Proofs.YtkgihmhehkaocaaGreat
