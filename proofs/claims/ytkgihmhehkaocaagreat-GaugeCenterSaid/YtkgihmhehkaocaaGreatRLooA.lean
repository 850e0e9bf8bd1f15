/- Rows of structures in memory, read through a listing of their cells; terms of sums of loops as rows.
Conditions: those written at each theorem. -/
import Derived.Test.YtkgihmhehkaocaaGreatRLoM
import Derived.Test.YtkgihmhehkaocaaGreatRInts
import Derived.Test.YtkgihmhehkaocaaGreatRLBox
import Derived.Test.YtkgihmhehkaocaaGreatRPathA
import Derived.RangeFuncRecord
import Derived.Lib.AppendZerosOnto
import Derived.Lib.SlFresh
import Derived.Test.YtkgihmhehkaocaaGreatRRegB
import Derived.Deep.RegionHeld3
namespace Go.Proofs.YtkgihmhehkaocaaGreat
set_option linter.unusedVariables false
set_option linter.unusedSimpArgs false
set_option maxRecDepth 1000000
open Go.RowKit
open Um Tm Lm

section
variable {α : Type}
/-- a row of structures of z cells each -/
def RowsAt (z : Nat) (enc : α → List Value) (w : World) (b off : Nat) (l : List α) : Prop := ∀ (i : Nat) (x : α), l[i]? = some x → ∀ (j : Nat) (v : Value), (enc x)[j]? = some v → w.cell? ⟨b, off + i * z + j, none⟩ = some v
def RowsO (z : Nat) (enc : α → List Value) (w : World) (ao : Option Addr) (l : List α) : Prop := l = [] ∨ ∃ b off, ao = some ⟨b, off, none⟩ ∧ RowsAt z enc w b off l
/-- .. in a block that is no older than B -/
def RowsN (z : Nat) (enc : α → List Value) (w : World) (B : Nat) (ao : Option Addr) (l : List α) : Prop := l = [] ∨ ∃ b off, ao = some ⟨b, off, none⟩ ∧ B ≤ b ∧ RowsAt z enc w b off l
variable {z : Nat} {enc : α → List Value} {w w1 : World} {b off B : Nat} {ao : Option Addr} {l : List α}
theorem RowsAt.later (h : RowsAt z enc w b off l) (hb : Below w.heap.size w w1) : RowsAt z enc w1 b off l := fun i x hx j v hv => by
  have f := h i x hx j v hv
  rw [hb.cell (World.block_lt_of_cell? w _ f)]
  exact f
theorem RowsO.later (h : RowsO z enc w ao l) (hb : Below w.heap.size w w1) : RowsO z enc w1 ao l := by
  rcases h with h | ⟨b, off, h, hl⟩
  · exact .inl h
  · exact .inr ⟨b, off, h, hl.later hb⟩
theorem RowsN.o (h : RowsN z enc w B ao l) : RowsO z enc w ao l := by
  rcases h with h | ⟨b, off, h, -, hl⟩
  · exact .inl h
  · exact .inr ⟨b, off, h, hl⟩
theorem RowsN.later (h : RowsN z enc w B ao l) (hb : Below w.heap.size w w1) : RowsN z enc w1 B ao l := by
  rcases h with h | ⟨b, off, h, hB, hl⟩
  · exact .inl h
  · exact .inr ⟨b, off, h, hB, hl.later hb⟩
theorem RowsN.le {C : Nat} (h : RowsN z enc w B ao l) (hC : C ≤ B) : RowsN z enc w C ao l := by
  rcases h with h | ⟨b, off, h, hB, hl⟩
  · exact .inl h
  · exact .inr ⟨b, off, h, Nat.le_trans hC hB, hl⟩
theorem LiesNI.grown {w w1 : World} {B g : Nat} {ao : Option Addr} {l : List Int} (h : LiesNI w B ao l) (hg : w.grownBy w1 (some g)) (hlt : g < B) : LiesNI w1 B ao l := by
  by_cases h0 : l = []
  · exact .inl h0
  · rcases h with h | ⟨b, off, rfl, hB, hf, h⟩
    · exact .inl h
    · exact .inr ⟨b, off, rfl, hB, fun j => (World.frozen?_of_block (a := ⟨b, j, none⟩) (hg.block b (lies_block h h0) (by simp; omega))).trans (hf j), fun i x hx => hg.cell (h i x hx) (by simp; omega)⟩
theorem two_cells {w : World} {b : Nat} {vs : List Value} {v0 v1 : Value} (hv : vs = [v0, v1]) (h0 : w.cell? ⟨b, 0, none⟩ = some v0) (h1 : w.cell? ⟨b, 1, none⟩ = some v1) : ∀ j u, vs[j]? = some u → w.cell? (Addr.add ⟨b, 0, none⟩ j) = some u := by
  subst hv
  intro j u hj
  match j, hj with
  | 0, hj => simp at hj; subst hj; exact h0
  | 1, hj => simp at hj; subst hj; exact h1
  | n + 2, hj => simp at hj
end

/-- a term as it lies in memory -/
structure E where
  c : Int
  p : List Int
  a : Option Addr
  k : Nat
def ec (e : E) : List Value := [.int .i64 e.c, .slice e.a e.p.length e.k]
def tm (l : List E) : List Trm := l.map fun e => (e.c, e.p)
/-- the paths of terms lie in memory -/
def EO (w : World) (l : List E) : Prop := ∀ e ∈ l, LiesOI w e.a e.p
def EN (w : World) (B : Nat) (l : List E) : Prop := ∀ e ∈ l, LiesNI w B e.a e.p
theorem EO.later {w w1 : World} {l : List E} (h : EO w l) (hb : Below w.heap.size w w1) : EO w1 l := fun e he => (h e he).later hb
theorem EN.later {w w1 : World} {B : Nat} {l : List E} (h : EN w B l) (hb : Below w.heap.size w w1) : EN w1 B l := fun e he => (h e he).later hb
theorem EN.o {w : World} {B : Nat} {l : List E} (h : EN w B l) : EO w l := fun e he => (h e he).o
theorem EN.le {w : World} {B C : Nat} {l : List E} (h : EN w B l) (hC : C ≤ B) : EN w C l := fun e he => (h e he).le hC
/-- a sum of loops in memory -/
structure Trs (w : World) (ao : Option Addr) (l : List E) : Prop where
  r : RowsO 2 ec w ao l
  p : EO w l
theorem Trs.later {w w1 : World} {ao : Option Addr} {l : List E} (h : Trs w ao l) (hb : Below w.heap.size w w1) : Trs w1 ao l := ⟨h.r.later hb, h.p.later hb⟩
structure TrsN (w : World) (B : Nat) (ao : Option Addr) (l : List E) : Prop where
  r : RowsN 2 ec w B ao l
  p : EN w B l
theorem TrsN.later {w w1 : World} {B : Nat} {ao : Option Addr} {l : List E} (h : TrsN w B ao l) (hb : Below w.heap.size w w1) : TrsN w1 B ao l := ⟨h.r.later hb, h.p.later hb⟩
theorem TrsN.o {w : World} {B : Nat} {ao : Option Addr} {l : List E} (h : TrsN w B ao l) : Trs w ao l := ⟨h.r.o, h.p.o⟩
theorem TrsN.le {w : World} {B C : Nat} {ao : Option Addr} {l : List E} (h : TrsN w B ao l) (hC : C ≤ B) : TrsN w C ao l := ⟨h.r.le hC, h.p.le hC⟩
/-- a term on the way to a plain form: its path, and the path from its end -/
structure T3 where
  c : Int
  p : List Int
  a : Option Addr
  k : Nat
  b : Option Addr
  m : Nat
def tc (e : T3) : List Value := [.int .i64 e.c, .slice e.a e.p.length e.k, .slice e.b (opp e.p).length e.m]
def tm3 (l : List T3) : List Trm := l.map fun e => (e.c, e.p)
def T3N (w : World) (B : Nat) (l : List T3) : Prop := ∀ e ∈ l, LiesNI w B e.a e.p ∧ LiesNI w B e.b (opp e.p) ∧ e.p.length ≤ e.k ∧ (opp e.p).length ≤ e.m
theorem T3N.later {w w1 : World} {B : Nat} {l : List T3} (h : T3N w B l) (hb : Below w.heap.size w w1) : T3N w1 B l := fun e he => ⟨(h e he).1.later hb, (h e he).2.1.later hb, (h e he).2.2⟩
theorem T3N.le {w : World} {B C : Nat} {l : List T3} (h : T3N w B l) (hC : C ≤ B) : T3N w C l := fun e he => ⟨(h e he).1.le hC, (h e he).2.1.le hC, (h e he).2.2⟩
theorem T3N.grown {w w1 : World} {B g : Nat} {l : List T3} (h : T3N w B l) (hg : w.grownBy w1 (some g)) (hlt : g < B) : T3N w1 B l := fun e he => ⟨(h e he).1.grown hg hlt, (h e he).2.1.grown hg hlt, (h e he).2.2⟩
structure Tr3 (w : World) (B : Nat) (ao : Option Addr) (l : List T3) : Prop where
  r : RowsN 3 tc w B ao l
  p : T3N w B l
theorem Tr3.later {w w1 : World} {B : Nat} {ao : Option Addr} {l : List T3} (h : Tr3 w B ao l) (hb : Below w.heap.size w w1) : Tr3 w1 B ao l := ⟨h.r.later hb, h.p.later hb⟩
theorem Tr3.le {w : World} {B C : Nat} {ao : Option Addr} {l : List T3} (h : Tr3 w B ao l) (hC : C ≤ B) : Tr3 w C ao l := ⟨h.r.le hC, h.p.le hC⟩
/-! ### the errors of sums of loops -/
instance (t : Int) : Decidable (IsStep t) := by unfold IsStep; infer_instance
def pe (l : List Int) : Int := if 8 < l.length then 3 else if ∀ t ∈ l, IsStep t then 0 else 1
def okC (c : Int) : Prop := -1000 ≤ c ∧ c ≤ 1000
instance (c : Int) : Decidable (okC c) := by unfold okC; infer_instance
def te (t : Trm) : Int := if okC t.1 then pe t.2 else 3
def tes : List Trm → Int
  | [] => 0
  | t :: r => if te t = 0 then tes r else te t
def vT (l : List Trm) : Int := if 40 < l.length then 3 else tes l
end Go.Proofs.YtkgihmhehkaocaaGreat

/- Paths that are compared, and the plain one of a path and the path from its end, as package loop makes them.
Conditions: those written at each theorem. -/
namespace Go.Proofs.YtkgihmhehkaocaaGreat
set_option linter.unusedVariables false
set_option linter.unusedSimpArgs false
set_option maxRecDepth 1000000
open Go.RowKit
open Um Tm Lm

/-- a list of ints lies where it lay when a block of other things is written -/
theorem LiesOI.other {W X : World} {ao : Option Addr} {l : List Int} {B : Nat} (h : LiesOI W ao l) (hg : W.grownBy X (some B)) (hne : ∀ (o : Nat) (x : Int), W.cell? ⟨B, o, none⟩ ≠ some (.int .i64 x)) : LiesOI X ao l := by
  rcases h with h | ⟨b, off, rfl, h⟩
  · exact .inl h
  · by_cases hl : l = []
    · exact .inl hl
    · have hpos : 0 < l.length := List.length_pos_iff.2 hl
      have hb : b ≠ B := by
        rintro rfl
        exact hne _ _ (h 0 _ (List.getElem?_eq_getElem hpos))
      exact .inr ⟨b, off, rfl, fun i x hx => hg.cell (h i x hx) (by simp; exact hb)⟩
theorem LiesNI.other {W X : World} {C : Nat} {ao : Option Addr} {l : List Int} {B : Nat} (h : LiesNI W C ao l) (hg : W.grownBy X (some B)) (hne : ∀ (o : Nat) (x : Int), W.cell? ⟨B, o, none⟩ ≠ some (.int .i64 x)) : LiesNI X C ao l := by
  rcases h with h | ⟨b, off, rfl, hC, hf, h⟩
  · exact .inl h
  · by_cases hl : l = []
    · exact .inl hl
    · have hpos : 0 < l.length := List.length_pos_iff.2 hl
      have hb : b ≠ B := by
        rintro rfl
        exact hne _ _ (h 0 _ (List.getElem?_eq_getElem hpos))
      exact .inr ⟨b, off, rfl, hC, fun j => (World.frozen?_of_block (a := ⟨b, j, none⟩) (hg.block b (lies_block h hl) (by simp; exact hb))).trans (hf j), fun i x hx => hg.cell (h i x hx) (by simp; exact hb)⟩
end Go.Proofs.YtkgihmhehkaocaaGreat

/- Lists of numbers one behind the other, in new memory, as slices.Concat makes them.
Conditions: those written at each theorem. -/
namespace Go.Proofs.YtkgihmhehkaocaaGreat
set_option linter.unusedVariables false
set_option linter.unusedSimpArgs false
set_option maxRecDepth 1000000
open Go.RowKit
open Um Tm

theorem ints_one (l : List Int) : ∀ u ∈ l.map vi, u.oneCell' = true := fun u hu => by
  obtain ⟨x, _, rfl⟩ := List.mem_map.1 hu
  rfl

end Go.Proofs.YtkgihmhehkaocaaGreat

/- Sums of loops are examined, as the program does.
Conditions: those written at each theorem. -/
namespace Go.Proofs.YtkgihmhehkaocaaGreat
set_option linter.unusedVariables false
set_option linter.unusedSimpArgs false
set_option maxRecDepth 1000000
open Go.RowKit
open Um Tm Lm

end Go.Proofs.YtkgihmhehkaocaaGreat

/- Two reduced paths are joined, as the program does.
Conditions: those written at each theorem. -/
namespace Go.Proofs.YtkgihmhehkaocaaGreat
set_option linter.unusedVariables false
set_option linter.unusedSimpArgs false
set_option maxRecDepth 1000000
open Go.RowKit
open Um Tm Lm

end Go.Proofs.YtkgihmhehkaocaaGreat

/- Sums of loops are read, as the program does.
Conditions: those written at each theorem. -/
namespace Go.Proofs.YtkgihmhehkaocaaGreat
set_option linter.unusedVariables false
set_option linter.unusedSimpArgs false
set_option maxRecDepth 1000000
open Go.RowKit
open Um Tm Lm

def rdT (l : List Trm) : List Trm := l.map fun t => (t.1, red t.2)
end Go.Proofs.YtkgihmhehkaocaaGreat
