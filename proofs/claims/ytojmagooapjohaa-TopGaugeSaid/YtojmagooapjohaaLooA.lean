/- Rows of structures in memory, read through a listing of their cells; terms of sums of loops as rows.
Conditions: those written at each theorem. -/
import Derived.Test.YtojmagooapjohaaLoM
import Derived.Test.YtojmagooapjohaaInts
import Derived.Test.YtojmagooapjohaaLBox
import Derived.Test.YtojmagooapjohaaPathA
import Derived.RangeFuncRecord
import Derived.Lib.AppendZerosOnto
import Derived.Lib.SlFresh
import Derived.Test.YtojmagooapjohaaRegB
import Derived.Deep.RegionHeld3
namespace Go.Proofs.Ytojmagooapjohaa
set_option linter.unusedVariables false
set_option linter.unusedSimpArgs false
set_option maxRecDepth 1000000
open Go.RowKit
open Um Tm Lm

section
variable {α : Type}
/-- a row of structures of z cells each -/
def RowsAt (z : Nat) (enc : α → List Value) (w : World) (b off : Nat) (l : List α) : Prop := ∀ (i : Nat) (x : α), l[i]? = some x → ∀ (j : Nat) (v : Value), (enc x)[j]? = some v → w.cell? ⟨b, off + i * z + j, none⟩ = some v
def RowsO (z : Nat) (enc : α → List Value) (w : World) (ao : Option Addr) (l : List α) : Prop := l = [] ∨ ∃ b off, ao = some ⟨b, off, none⟩ ∧ RowsAt z enc w b off l
/-- .. in a block that is no older than B -/
def RowsN (z : Nat) (enc : α → List Value) (w : World) (B : Nat) (ao : Option Addr) (l : List α) : Prop := l = [] ∨ ∃ b off, ao = some ⟨b, off, none⟩ ∧ B ≤ b ∧ RowsAt z enc w b off l
variable {z : Nat} {enc : α → List Value} {w w1 : World} {b off B : Nat} {ao : Option Addr} {l : List α}
theorem RowsAt.later (h : RowsAt z enc w b off l) (hb : Below w.heap.size w w1) : RowsAt z enc w1 b off l := fun i x hx j v hv => by
  have f := h i x hx j v hv
  rw [hb.cell (World.block_lt_of_cell? w _ f)]
  exact f
theorem RowsO.later (h : RowsO z enc w ao l) (hb : Below w.heap.size w w1) : RowsO z enc w1 ao l := by
  rcases h with h | ⟨b, off, h, hl⟩
  · exact .inl h
  · exact .inr ⟨b, off, h, hl.later hb⟩
theorem RowsN.o (h : RowsN z enc w B ao l) : RowsO z enc w ao l := by
  rcases h with h | ⟨b, off, h, -, hl⟩
  · exact .inl h
  · exact .inr ⟨b, off, h, hl⟩
theorem RowsN.later (h : RowsN z enc w B ao l) (hb : Below w.heap.size w w1) : RowsN z enc w1 B ao l := by
  rcases h with h | ⟨b, off, h, hB, hl⟩
  · exact .inl h
  · exact .inr ⟨b, off, h, hB, hl.later hb⟩
theorem RowsN.le {C : Nat} (h : RowsN z enc w B ao l) (hC : C ≤ B) : RowsN z enc w C ao l := by
  rcases h with h | ⟨b, off, h, hB, hl⟩
  · exact .inl h
  · exact .inr ⟨b, off, h, Nat.le_trans hC hB, hl⟩
theorem owned_rows {base : Nat} {T : TypeId} {g cap : Nat} (hz : ∀ x, (enc x).length = z) (h : w.ownsRow base T z (.slice (some ⟨g, 0, none⟩) l.length cap) l.length (l.flatMap enc)) : RowsAt z enc w g 0 l := fun i x hx j v hv => by
  have hi : i < l.length := (List.getElem?_eq_some_iff.1 hx).1
  have hj : j < z := by have := (List.getElem?_eq_some_iff.1 hv).1; rwa [hz] at this
  have hm : i * z + j < l.length * z := by
    have : (i + 1) * z ≤ l.length * z := Nat.mul_le_mul_right z hi
    rw [Nat.succ_mul] at this
    omega
  rw [Nat.zero_add, h.cellAt (i * z + j) hm, flat_get enc z hz l i x hx j hj, hv]
theorem owned_rowsN {base : Nat} {T : TypeId} {v : Value} (hz : ∀ x, (enc x).length = z) (h : w.ownsRow base T z v l.length (l.flatMap enc)) : ∃ ao cap, v = .slice ao l.length cap ∧ RowsN z enc w base ao l ∧ l.length ≤ cap := by
  rcases h.2 with ⟨rfl, h0⟩ | ⟨g, cap, cur, rfl, hg, _, hnc, _⟩
  · exact ⟨none, 0, by rw [h0], .inl (List.length_eq_zero_iff.1 h0), by omega⟩
  · exact ⟨_, cap, rfl, .inr ⟨g, 0, rfl, hg, owned_rows hz h⟩, hnc⟩
theorem LiesNI.grown {w w1 : World} {B g : Nat} {ao : Option Addr} {l : List Int} (h : LiesNI w B ao l) (hg : w.grownBy w1 (some g)) (hlt : g < B) : LiesNI w1 B ao l := by
  by_cases h0 : l = []
  · exact .inl h0
  · rcases h with h | ⟨b, off, rfl, hB, hf, h⟩
    · exact .inl h
    · exact .inr ⟨b, off, rfl, hB, fun j => (World.frozen?_of_block (a := ⟨b, j, none⟩) (hg.block b (lies_block h h0) (by simp; omega))).trans (hf j), fun i x hx => hg.cell (h i x hx) (by simp; omega)⟩
theorem two_cells {w : World} {b : Nat} {vs : List Value} {v0 v1 : Value} (hv : vs = [v0, v1]) (h0 : w.cell? ⟨b, 0, none⟩ = some v0) (h1 : w.cell? ⟨b, 1, none⟩ = some v1) : ∀ j u, vs[j]? = some u → w.cell? (Addr.add ⟨b, 0, none⟩ j) = some u := by
  subst hv
  intro j u hj
  match j, hj with
  | 0, hj => simp at hj; subst hj; exact h0
  | 1, hj => simp at hj; subst hj; exact h1
  | n + 2, hj => simp at hj
theorem three_cells {w : World} {b : Nat} {vs : List Value} {v0 v1 v2 : Value} (hv : vs = [v0, v1, v2]) (h0 : w.cell? ⟨b, 0, none⟩ = some v0) (h1 : w.cell? ⟨b, 1, none⟩ = some v1) (h2 : w.cell? ⟨b, 2, none⟩ = some v2) : ∀ j u, vs[j]? = some u → w.cell? (Addr.add ⟨b, 0, none⟩ j) = some u := by
  subst hv
  intro j u hj
  match j, hj with
  | 0, hj => simp at hj; subst hj; exact h0
  | 1, hj => simp at hj; subst hj; exact h1
  | 2, hj => simp at hj; subst hj; exact h2
  | n + 3, hj => simp at hj
/-- what is appended, read as cells of one block -/
theorem cells_at {g : Nat} {xs : List Value} (h : ∀ j v, xs[j]? = some v → w.cell? ⟨g, j, none⟩ = some v) : ∀ j u, xs[j]? = some u → w.cell? (Addr.add ⟨g, 0, none⟩ j) = some u := fun j u hj => by
  have e : Addr.add ⟨g, 0, none⟩ j = ⟨g, j, none⟩ := by
    unfold Addr.add
    split
    · rename_i h; subst h; rfl
    · rw [Nat.zero_add]
  rw [e]
  exact h j u hj
end

/-- a term as it lies in memory -/
structure E where
  c : Int
  p : List Int
  a : Option Addr
  k : Nat
def ec (e : E) : List Value := [.int .i64 e.c, .slice e.a e.p.length e.k]
theorem ec_len (e : E) : (ec e).length = 2 := rfl
def tm (l : List E) : List Trm := l.map fun e => (e.c, e.p)
theorem tm_len (l : List E) : (tm l).length = l.length := by simp [tm]
theorem ec_one (e : E) : ∀ u ∈ ec e, u.oneCell' = true := fun u hu => by
  simp only [ec, List.mem_cons, List.not_mem_nil, or_false] at hu
  rcases hu with rfl | rfl <;> rfl
/-- the paths of terms lie in memory -/
def EO (w : World) (l : List E) : Prop := ∀ e ∈ l, LiesOI w e.a e.p
def EN (w : World) (B : Nat) (l : List E) : Prop := ∀ e ∈ l, LiesNI w B e.a e.p
theorem EO.later {w w1 : World} {l : List E} (h : EO w l) (hb : Below w.heap.size w w1) : EO w1 l := fun e he => (h e he).later hb
theorem EN.later {w w1 : World} {B : Nat} {l : List E} (h : EN w B l) (hb : Below w.heap.size w w1) : EN w1 B l := fun e he => (h e he).later hb
theorem EN.o {w : World} {B : Nat} {l : List E} (h : EN w B l) : EO w l := fun e he => (h e he).o
theorem EN.le {w : World} {B C : Nat} {l : List E} (h : EN w B l) (hC : C ≤ B) : EN w C l := fun e he => (h e he).le hC
/-- a sum of loops in memory -/
structure Trs (w : World) (ao : Option Addr) (l : List E) : Prop where
  r : RowsO 2 ec w ao l
  p : EO w l
theorem Trs.later {w w1 : World} {ao : Option Addr} {l : List E} (h : Trs w ao l) (hb : Below w.heap.size w w1) : Trs w1 ao l := ⟨h.r.later hb, h.p.later hb⟩
structure TrsN (w : World) (B : Nat) (ao : Option Addr) (l : List E) : Prop where
  r : RowsN 2 ec w B ao l
  p : EN w B l
theorem TrsN.later {w w1 : World} {B : Nat} {ao : Option Addr} {l : List E} (h : TrsN w B ao l) (hb : Below w.heap.size w w1) : TrsN w1 B ao l := ⟨h.r.later hb, h.p.later hb⟩
theorem TrsN.o {w : World} {B : Nat} {ao : Option Addr} {l : List E} (h : TrsN w B ao l) : Trs w ao l := ⟨h.r.o, h.p.o⟩
theorem TrsN.le {w : World} {B C : Nat} {ao : Option Addr} {l : List E} (h : TrsN w B ao l) (hC : C ≤ B) : TrsN w C ao l := ⟨h.r.le hC, h.p.le hC⟩
theorem Trs.at_ {w : World} {ao : Option Addr} {l : List E} (h : Trs w ao l) {k : Nat} (hk : k < l.length) : ∃ b off, ao = some ⟨b, off, none⟩ ∧ w.cell? ⟨b, off + k * 2, none⟩ = some (.int .i64 l[k].c) ∧ w.cell? ⟨b, off + k * 2 + 1, none⟩ = some (.slice l[k].a l[k].p.length l[k].k) ∧ LiesOI w l[k].a l[k].p := by
  rcases h.r with h0 | ⟨b, off, rfl, hr⟩
  · subst h0; simp at hk
  · have hx : l[k]? = some l[k] := List.getElem?_eq_getElem hk
    exact ⟨b, off, rfl, hr k _ hx 0 _ rfl, hr k _ hx 1 _ rfl, h.p _ (List.getElem_mem hk)⟩

/-- a term on the way to a plain form: its path, and the path from its end -/
structure T3 where
  c : Int
  p : List Int
  a : Option Addr
  k : Nat
  b : Option Addr
  m : Nat
def tc (e : T3) : List Value := [.int .i64 e.c, .slice e.a e.p.length e.k, .slice e.b (opp e.p).length e.m]
theorem tc_len (e : T3) : (tc e).length = 3 := rfl
theorem tc_one (e : T3) : ∀ u ∈ tc e, u.oneCell' = true := fun u hu => by
  simp only [tc, List.mem_cons, List.not_mem_nil, or_false] at hu
  rcases hu with rfl | rfl | rfl <;> rfl
def tm3 (l : List T3) : List Trm := l.map fun e => (e.c, e.p)
theorem tm3_len (l : List T3) : (tm3 l).length = l.length := by simp [tm3]
def T3N (w : World) (B : Nat) (l : List T3) : Prop := ∀ e ∈ l, LiesNI w B e.a e.p ∧ LiesNI w B e.b (opp e.p) ∧ e.p.length ≤ e.k ∧ (opp e.p).length ≤ e.m
theorem T3N.later {w w1 : World} {B : Nat} {l : List T3} (h : T3N w B l) (hb : Below w.heap.size w w1) : T3N w1 B l := fun e he => ⟨(h e he).1.later hb, (h e he).2.1.later hb, (h e he).2.2⟩
theorem T3N.le {w : World} {B C : Nat} {l : List T3} (h : T3N w B l) (hC : C ≤ B) : T3N w C l := fun e he => ⟨(h e he).1.le hC, (h e he).2.1.le hC, (h e he).2.2⟩
theorem T3N.grown {w w1 : World} {B g : Nat} {l : List T3} (h : T3N w B l) (hg : w.grownBy w1 (some g)) (hlt : g < B) : T3N w1 B l := fun e he => ⟨(h e he).1.grown hg hlt, (h e he).2.1.grown hg hlt, (h e he).2.2⟩
theorem T3N.snoc {w : World} {B : Nat} {l : List T3} {x : T3} (h : T3N w B l) (hx : LiesNI w B x.a x.p ∧ LiesNI w B x.b (opp x.p) ∧ x.p.length ≤ x.k ∧ (opp x.p).length ≤ x.m) : T3N w B (l ++ [x]) := fun e he => by
  rcases List.mem_append.1 he with h' | h'
  · exact h e h'
  · rw [List.mem_singleton] at h'
    subst h'
    exact hx
structure Tr3 (w : World) (B : Nat) (ao : Option Addr) (l : List T3) : Prop where
  r : RowsN 3 tc w B ao l
  p : T3N w B l
theorem Tr3.later {w w1 : World} {B : Nat} {ao : Option Addr} {l : List T3} (h : Tr3 w B ao l) (hb : Below w.heap.size w w1) : Tr3 w1 B ao l := ⟨h.r.later hb, h.p.later hb⟩
theorem Tr3.le {w : World} {B C : Nat} {ao : Option Addr} {l : List T3} (h : Tr3 w B ao l) (hC : C ≤ B) : Tr3 w C ao l := ⟨h.r.le hC, h.p.le hC⟩
theorem Tr3.at_ {w : World} {B : Nat} {ao : Option Addr} {l : List T3} (h : Tr3 w B ao l) {k : Nat} (hk : k < l.length) : ∃ b off, ao = some ⟨b, off, none⟩ ∧ w.cell? ⟨b, off + k * 3, none⟩ = some (.int .i64 l[k].c) ∧ w.cell? ⟨b, off + k * 3 + 1, none⟩ = some (.slice l[k].a l[k].p.length l[k].k) ∧ w.cell? ⟨b, off + k * 3 + 2, none⟩ = some (.slice l[k].b (opp l[k].p).length l[k].m) ∧ LiesNI w B l[k].a l[k].p ∧ LiesNI w B l[k].b (opp l[k].p) ∧ l[k].p.length ≤ l[k].k ∧ (opp l[k].p).length ≤ l[k].m := by
  rcases h.r with h0 | ⟨b, off, rfl, -, hr⟩
  · subst h0; simp at hk
  · have hx : l[k]? = some l[k] := List.getElem?_eq_getElem hk
    exact ⟨b, off, rfl, hr k _ hx 0 _ rfl, hr k _ hx 1 _ rfl, hr k _ hx 2 _ rfl, h.p _ (List.getElem_mem hk)⟩

/-! ### the errors of sums of loops -/
instance (t : Int) : Decidable (IsStep t) := by unfold IsStep; infer_instance
def pe (l : List Int) : Int := if 8 < l.length then 3 else if ∀ t ∈ l, IsStep t then 0 else 1
theorem pe_R (l : List Int) : pathR l (pe l) := by
  unfold pe
  split
  · exact .inl ⟨by assumption, rfl⟩
  · split
    · exact .inr (.inr ⟨by omega, by assumption, rfl⟩)
    · rename_i h
      exact .inr (.inl ⟨by omega, by simpa using h, rfl⟩)
theorem pe_ok {l : List Int} (h : pe l = 0) : l.length ≤ 8 ∧ ∀ t ∈ l, IsStep t := by
  unfold pe at h
  split at h
  · omega
  · split at h
    · exact ⟨by omega, by assumption⟩
    · omega
theorem pe_zero {l : List Int} (h8 : l.length ≤ 8) (hs : ∀ t ∈ l, IsStep t) : pe l = 0 := by
  unfold pe
  rw [if_neg (by omega), if_pos hs]
def okC (c : Int) : Prop := -1000 ≤ c ∧ c ≤ 1000
instance (c : Int) : Decidable (okC c) := by unfold okC; infer_instance
def te (t : Trm) : Int := if okC t.1 then pe t.2 else 3
def tes : List Trm → Int
  | [] => 0
  | t :: r => if te t = 0 then tes r else te t
def vT (l : List Trm) : Int := if 40 < l.length then 3 else tes l
theorem tes_drop (l : List Trm) (k : Nat) (hk : k < l.length) : tes (l.drop k) = if te l[k] = 0 then tes (l.drop (k + 1)) else te l[k] := by
  rw [List.drop_eq_getElem_cons hk]
  rfl
theorem tes_ok {l : List Trm} (h : tes l = 0) : ∀ t ∈ l, te t = 0 := by
  induction l with
  | nil => simp
  | cons x r ih =>
    simp only [tes] at h
    split at h
    · intro t ht
      rcases List.mem_cons.1 ht with rfl | e
      · assumption
      · exact ih h t e
    · omega
theorem vT_ok {l : List Trm} (h : vT l = 0) : l.length ≤ 40 ∧ ∀ t ∈ l, okC t.1 ∧ t.2.length ≤ 8 ∧ ∀ s ∈ t.2, IsStep s := by
  unfold vT at h
  split at h
  · omega
  · refine ⟨by omega, fun t ht => ?_⟩
    have := tes_ok h t ht
    unfold te at this
    split at this
    · exact ⟨by assumption, pe_ok this⟩
    · omega
end Go.Proofs.Ytojmagooapjohaa

/- Paths that are compared, and the plain one of a path and the path from its end, as package loop makes them.
Conditions: those written at each theorem. -/
namespace Go.Proofs.Ytojmagooapjohaa
set_option linter.unusedVariables false
set_option linter.unusedSimpArgs false
set_option maxRecDepth 1000000
open Go.RowKit
open Um Tm Lm

theorem cmpL_drop (l m : List Int) (k : Nat) (h1 : k < l.length) (h2 : k < m.length) : cmpL (l.drop k) (m.drop k) = if cmpI l[k] m[k] = 0 then cmpL (l.drop (k + 1)) (m.drop (k + 1)) else cmpI l[k] m[k] := by
  rw [List.drop_eq_getElem_cons h1, List.drop_eq_getElem_cons h2]
  rfl
theorem cmpL_over (l m : List Int) (k : Nat) (h1 : k < l.length) (h2 : m.length ≤ k) : cmpL (l.drop k) (m.drop k) = 1 := by
  rw [List.drop_eq_getElem_cons h1, List.drop_eq_nil_of_le h2]
  rfl
theorem cmpL_end (l m : List Int) (k : Nat) (h1 : l.length ≤ k) : cmpL (l.drop k) (m.drop k) = if k < m.length then -1 else 0 := by
  rw [List.drop_eq_nil_of_le h1]
  split
  · rename_i h
    rw [List.drop_eq_getElem_cons h]
    rfl
  · rename_i h
    rw [List.drop_eq_nil_of_le (by omega)]
    rfl

/-- a list of ints lies where it lay when a block of other things is written -/
theorem LiesOI.other {W X : World} {ao : Option Addr} {l : List Int} {B : Nat} (h : LiesOI W ao l) (hg : W.grownBy X (some B)) (hne : ∀ (o : Nat) (x : Int), W.cell? ⟨B, o, none⟩ ≠ some (.int .i64 x)) : LiesOI X ao l := by
  rcases h with h | ⟨b, off, rfl, h⟩
  · exact .inl h
  · by_cases hl : l = []
    · exact .inl hl
    · have hpos : 0 < l.length := List.length_pos_iff.2 hl
      have hb : b ≠ B := by
        rintro rfl
        exact hne _ _ (h 0 _ (List.getElem?_eq_getElem hpos))
      exact .inr ⟨b, off, rfl, fun i x hx => hg.cell (h i x hx) (by simp; exact hb)⟩
theorem LiesNI.other {W X : World} {C : Nat} {ao : Option Addr} {l : List Int} {B : Nat} (h : LiesNI W C ao l) (hg : W.grownBy X (some B)) (hne : ∀ (o : Nat) (x : Int), W.cell? ⟨B, o, none⟩ ≠ some (.int .i64 x)) : LiesNI X C ao l := by
  rcases h with h | ⟨b, off, rfl, hC, hf, h⟩
  · exact .inl h
  · by_cases hl : l = []
    · exact .inl hl
    · have hpos : 0 < l.length := List.length_pos_iff.2 hl
      have hb : b ≠ B := by
        rintro rfl
        exact hne _ _ (h 0 _ (List.getElem?_eq_getElem hpos))
      exact .inr ⟨b, off, rfl, hC, fun j => (World.frozen?_of_block (a := ⟨b, j, none⟩) (hg.block b (lies_block h hl) (by simp; exact hb))).trans (hf j), fun i x hx => hg.cell (h i x hx) (by simp; exact hb)⟩
theorem two_slices {W : World} {B : Nat} {T : TypeId} {a1 a2 : Option Addr} {n1 n2 c1 c2 : Nat} (h : W.heap[B]? = some (.cells #[.slice a1 n1 c1, .slice a2 n2 c2] T (0, 0))) (o : Nat) (x : Int) : W.cell? ⟨B, o, none⟩ ≠ some (.int .i64 x) := by
  intro e
  simp only [World.cell?, h] at e
  match o, e with
  | 0, e => simp at e
  | 1, e => simp at e
  | n + 2, e => simp at e
end Go.Proofs.Ytojmagooapjohaa

/- Lists of numbers one behind the other, in new memory, as slices.Concat makes them.
Conditions: those written at each theorem. -/
namespace Go.Proofs.Ytojmagooapjohaa
set_option linter.unusedVariables false
set_option linter.unusedSimpArgs false
set_option maxRecDepth 1000000
open Go.RowKit
open Um Tm

theorem run_append_none_cap {P : Program} {w : World} (base : Nat) (t ty e : TypeId) (i : TypeInfo) (size c : Nat) (ht : P.underlying t = some (.slice e)) (hi : P.info? e = some i)
    (v : Value) (n : Nat) (xs : List Value) (hown : w.ownsRow base e size v n xs) :
    (Builtin.append_ #[t, t] ty #[v, .slice none 0 c]).run P w = .ok v w := by
  rcases hown.2 with ⟨rfl, rfl⟩ | ⟨g, cap, cur, rfl, _, _, hnc, _⟩
  · simp [Builtin.append_, run_underlying ht, sizeOf, typeInfo, hi, Builtin.lenOf, Builtin.firstCells]
  · simp [Builtin.append_, run_underlying ht, sizeOf, typeInfo, hi, Builtin.lenOf, Builtin.firstCells, hnc, storeCells]

theorem ints_at {w : World} {b off : Nat} {l : List Int} (h : LiesI w b off l) : ∀ j u, (l.map vi)[j]? = some u → w.cell? (Addr.add ⟨b, off, none⟩ j) = some u := fun j u hj => by
  rw [List.getElem?_map] at hj
  cases hx : l[j]? with
  | none => rw [hx] at hj; cases hj
  | some x =>
    rw [hx] at hj
    cases hj
    have ea : Addr.add ⟨b, off, none⟩ j = ⟨b, off + j, none⟩ := by
      unfold Addr.add
      split
      · rename_i h; subst h; rfl
      · rfl
    rw [ea]
    exact h j x hx
theorem ints_one (l : List Int) : ∀ u ∈ l.map vi, u.oneCell' = true := fun u hu => by
  obtain ⟨x, _, rfl⟩ := List.mem_map.1 hu
  rfl

/-- a list of numbers, wherever it lies, is appended to one of the call's own -/
theorem run_append_ints (w : World) (ty : TypeId) (base : Nat) (v : Value) (n : Nat) (xs : List Value) (ao : Option Addr) (c : Nat) (l : List Int) (hown : w.ownsRow base 3 1 v n xs) (h : LiesOI w ao l) (hb : base ≤ w.heap.size) (hn : n + l.length ≤ 1000000) :
    ∃ v' w', (Builtin.append_ #[43, 43] ty #[v, .slice ao l.length c]).run Try.prog w = .ok v' w' ∧ w'.ownsRow base 3 1 v' (n + l.length) (xs ++ l.map vi) ∧ w.grownBy w' v.ownBlock := by
  obtain ⟨i0, hi, hz0, hz1, hz2⟩ := info_parts infoI
  have some_ : ∀ a : Addr, (∀ j u, (l.map vi)[j]? = some u → w.cell? (a.add j) = some u) → ∃ v' w', (Builtin.append_ #[43, 43] ty #[v, .slice (some a) l.length c]).run Try.prog w = .ok v' w' ∧ w'.ownsRow base 3 1 v' (n + l.length) (xs ++ l.map vi) ∧ w.grownBy w' v.ownBlock := fun a hat => by
    obtain ⟨v', w', h1, h2, h3, -⟩ := run_append_own w base 43 ty 3 i0 _ 1 8 Try.underlying43 hi hz0 hz1 hz2 rfl (by decide) v n xs hown a l.length c (l.map vi) (by simp) hat (ints_one l) (by unfold maxLen; omega) (by omega) hb
    exact ⟨v', w', h1, h2, h3⟩
  rcases h with rfl | ⟨b, off, rfl, h⟩
  · cases ao with
    | none => exact ⟨v, w, run_append_none_cap base _ ty _ i0 1 c Try.underlying43 hi v n xs hown, by simpa using hown, ⟨rfl, rfl, rfl, Nat.le_refl _, fun _ _ _ => rfl⟩⟩
    | some a => exact some_ a (fun j u hj => by simp at hj)
  · exact some_ _ (ints_at h)

end Go.Proofs.Ytojmagooapjohaa

/- Sums of loops are examined, as the program does.
Conditions: those written at each theorem. -/
namespace Go.Proofs.Ytojmagooapjohaa
set_option linter.unusedVariables false
set_option linter.unusedSimpArgs false
set_option maxRecDepth 1000000
open Go.RowKit
open Um Tm Lm

end Go.Proofs.Ytojmagooapjohaa

/- Two reduced paths are joined, as the program does.
Conditions: those written at each theorem. -/
namespace Go.Proofs.Ytojmagooapjohaa
set_option linter.unusedVariables false
set_option linter.unusedSimpArgs false
set_option maxRecDepth 1000000
open Go.RowKit
open Um Tm Lm

theorem cell_keep {W W' : World} {p : Addr} {v : Value} (hb : Below W.heap.size W W') (h : W.cell? p = some v) : W'.cell? p = some v := by
  rw [hb.cell (World.block_lt_of_cell? W _ h)]
  exact h
theorem cell_far2 {W : World} {p1 p2 q : Addr} {a b v : Value} (h : W.cell? q = some v) (h1 : q.block ≠ p1.block) (h2 : q.block ≠ p2.block) : ((W.setCell p1 a).setCell p2 b).cell? q = some v :=
  (grown_setCell _ p2 b).cell ((grown_setCell W p1 a).cell h (by simpa using h1)) (by simpa using h2)
theorem lies_take {w : World} {a : Option Addr} {p : List Int} (h : LiesOI w a p) (m : Nat) : LiesOI w a (p.take m) := by
  rcases h with h | ⟨b, o, rfl, h⟩
  · exact .inl (by rw [h]; simp)
  · refine .inr ⟨b, o, rfl, fun i x hx => h i x ?_⟩
    rw [List.getElem?_take] at hx
    split at hx
    · exact hx
    · cases hx
theorem lies_drop1 {w : World} {b o : Nat} {q : List Int} (h : LiesOI w (some ⟨b, o, none⟩) q) (k : Nat) : LiesOI w (some ⟨b, o + k, none⟩) (q.drop k) := by
  rcases h with h | ⟨b', o', e, h⟩
  · exact .inl (by rw [h]; simp)
  · simp only [Option.some.injEq, Addr.mk.injEq, and_true] at e
    obtain ⟨rfl, rfl⟩ := e
    refine .inr ⟨b, o + k, rfl, fun i x hx => ?_⟩
    rw [List.getElem?_drop] at hx
    rw [Nat.add_assoc]
    exact h (k + i) x hx
theorem lies_drop {w : World} {a : Option Addr} {q : List Int} (h : LiesOI w a q) {k c : Nat} (hc : q.length ≤ c) : LiesOI w (if c = k then a else Option.map (fun x => x.add k) a) (q.drop k) := by
  split
  · rename_i e
    exact .inl (List.drop_eq_nil_of_le (by omega))
  · rcases h with h | ⟨b, o, rfl, h⟩
    · exact .inl (by rw [h]; simp)
    · have ea : Addr.add ⟨b, o, none⟩ k = ⟨b, o + k, none⟩ := by
        unfold Addr.add
        split
        · rename_i h; subst h; rfl
        · rfl
      refine .inr ⟨b, o + k, by rw [Option.map_some, ea], fun i x hx => ?_⟩
      rw [List.getElem?_drop] at hx
      rw [Nat.add_assoc]
      exact h (k + i) x hx

end Go.Proofs.Ytojmagooapjohaa

/- Sums of loops are read, as the program does.
Conditions: those written at each theorem. -/
namespace Go.Proofs.Ytojmagooapjohaa
set_option linter.unusedVariables false
set_option linter.unusedSimpArgs false
set_option maxRecDepth 1000000
open Go.RowKit
open Um Tm Lm

def rdT (l : List Trm) : List Trm := l.map fun t => (t.1, red t.2)
theorem rdT_take (l : List Trm) (k : Nat) (hk : k < l.length) : rdT (l.take (k + 1)) = rdT (l.take k) ++ [(l[k].1, red l[k].2)] := by
  unfold rdT
  rw [List.take_succ_eq_append_getElem hk, List.map_append]
  rfl
theorem tm3_snoc (l : List T3) (x : T3) : tm3 (l ++ [x]) = tm3 l ++ [(x.c, x.p)] := by simp [tm3]

end Go.Proofs.Ytojmagooapjohaa
