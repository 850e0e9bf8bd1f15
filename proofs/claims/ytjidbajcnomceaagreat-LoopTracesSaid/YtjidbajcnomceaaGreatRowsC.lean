/- Rows of structures in memory, read through a listing of their cells; terms of sums of loops as rows.
Conditions: those written at each theorem. -/
import Derived.Test.YtjidbajcnomceaaGreatLoopM
import Derived.Test.YtjidbajcnomceaaGreatInts
import Derived.Test.YtjidbajcnomceaaGreatLBox
namespace Go.Proofs.YtjidbajcnomceaaGreat
set_option linter.unusedVariables false
set_option linter.unusedSimpArgs false
set_option maxRecDepth 1000000
open Go.RowKit
open Um Tm Lm

section
variable {α : Type}
/-- a row of structures of z cells each -/
def RowsAt (z : Nat) (enc : α → List Value) (w : World) (b off : Nat) (l : List α) : Prop := ∀ (i : Nat) (x : α), l[i]? = some x → ∀ (j : Nat) (v : Value), (enc x)[j]? = some v → w.cell? ⟨b, off + i * z + j, none⟩ = some v
def RowsO (z : Nat) (enc : α → List Value) (w : World) (ao : Option Addr) (l : List α) : Prop := l = [] ∨ ∃ b off, ao = some ⟨b, off, none⟩ ∧ RowsAt z enc w b off l
/-- .. in a block that is no older than B -/
def RowsN (z : Nat) (enc : α → List Value) (w : World) (B : Nat) (ao : Option Addr) (l : List α) : Prop := l = [] ∨ ∃ b off, ao = some ⟨b, off, none⟩ ∧ B ≤ b ∧ RowsAt z enc w b off l
variable {z : Nat} {enc : α → List Value} {w w1 : World} {b off B : Nat} {ao : Option Addr} {l : List α}
theorem RowsAt.later (h : RowsAt z enc w b off l) (hb : Below w.heap.size w w1) : RowsAt z enc w1 b off l := fun i x hx j v hv => by
  have f := h i x hx j v hv
  rw [hb.cell (World.block_lt_of_cell? w _ f)]
  exact f
theorem RowsO.later (h : RowsO z enc w ao l) (hb : Below w.heap.size w w1) : RowsO z enc w1 ao l := by
  rcases h with h | ⟨b, off, h, hl⟩
  · exact .inl h
  · exact .inr ⟨b, off, h, hl.later hb⟩
theorem RowsN.o (h : RowsN z enc w B ao l) : RowsO z enc w ao l := by
  rcases h with h | ⟨b, off, h, -, hl⟩
  · exact .inl h
  · exact .inr ⟨b, off, h, hl⟩
theorem RowsN.later (h : RowsN z enc w B ao l) (hb : Below w.heap.size w w1) : RowsN z enc w1 B ao l := by
  rcases h with h | ⟨b, off, h, hB, hl⟩
  · exact .inl h
  · exact .inr ⟨b, off, h, hB, hl.later hb⟩
theorem RowsN.le {C : Nat} (h : RowsN z enc w B ao l) (hC : C ≤ B) : RowsN z enc w C ao l := by
  rcases h with h | ⟨b, off, h, hB, hl⟩
  · exact .inl h
  · exact .inr ⟨b, off, h, Nat.le_trans hC hB, hl⟩
theorem owned_rows {base : Nat} {T : TypeId} {g cap : Nat} (hz : ∀ x, (enc x).length = z) (h : w.ownsRow base T z (.slice (some ⟨g, 0, none⟩) l.length cap) l.length (l.flatMap enc)) : RowsAt z enc w g 0 l := fun i x hx j v hv => by
  have hi : i < l.length := (List.getElem?_eq_some_iff.1 hx).1
  have hj : j < z := by have := (List.getElem?_eq_some_iff.1 hv).1; rwa [hz] at this
  have hm : i * z + j < l.length * z := by
    have : (i + 1) * z ≤ l.length * z := Nat.mul_le_mul_right z hi
    rw [Nat.succ_mul] at this
    omega
  rw [Nat.zero_add, h.cellAt (i * z + j) hm, flat_get enc z hz l i x hx j hj, hv]
theorem owned_rowsN {base : Nat} {T : TypeId} {v : Value} (hz : ∀ x, (enc x).length = z) (h : w.ownsRow base T z v l.length (l.flatMap enc)) : ∃ ao cap, v = .slice ao l.length cap ∧ RowsN z enc w base ao l ∧ l.length ≤ cap := by
  rcases h.2 with ⟨rfl, h0⟩ | ⟨g, cap, cur, rfl, hg, _, hnc, _⟩
  · exact ⟨none, 0, by rw [h0], .inl (List.length_eq_zero_iff.1 h0), by omega⟩
  · exact ⟨_, cap, rfl, .inr ⟨g, 0, rfl, hg, owned_rows hz h⟩, hnc⟩
theorem LiesNI.grown {w w1 : World} {B g : Nat} {ao : Option Addr} {l : List Int} (h : LiesNI w B ao l) (hg : w.grownBy w1 (some g)) (hlt : g < B) : LiesNI w1 B ao l := by
  by_cases h0 : l = []
  · exact .inl h0
  · rcases h with h | ⟨b, off, rfl, hB, hf, h⟩
    · exact .inl h
    · exact .inr ⟨b, off, rfl, hB, fun j => (World.frozen?_of_block (a := ⟨b, j, none⟩) (hg.block b (lies_block h h0) (by simp; omega))).trans (hf j), fun i x hx => hg.cell (h i x hx) (by simp; omega)⟩
theorem two_cells {w : World} {b : Nat} {vs : List Value} {v0 v1 : Value} (hv : vs = [v0, v1]) (h0 : w.cell? ⟨b, 0, none⟩ = some v0) (h1 : w.cell? ⟨b, 1, none⟩ = some v1) : ∀ j u, vs[j]? = some u → w.cell? (Addr.add ⟨b, 0, none⟩ j) = some u := by
  subst hv
  intro j u hj
  match j, hj with
  | 0, hj => simp at hj; subst hj; exact h0
  | 1, hj => simp at hj; subst hj; exact h1
  | n + 2, hj => simp at hj
theorem three_cells {w : World} {b : Nat} {vs : List Value} {v0 v1 v2 : Value} (hv : vs = [v0, v1, v2]) (h0 : w.cell? ⟨b, 0, none⟩ = some v0) (h1 : w.cell? ⟨b, 1, none⟩ = some v1) (h2 : w.cell? ⟨b, 2, none⟩ = some v2) : ∀ j u, vs[j]? = some u → w.cell? (Addr.add ⟨b, 0, none⟩ j) = some u := by
  subst hv
  intro j u hj
  match j, hj with
  | 0, hj => simp at hj; subst hj; exact h0
  | 1, hj => simp at hj; subst hj; exact h1
  | 2, hj => simp at hj; subst hj; exact h2
  | n + 3, hj => simp at hj
/-- what is appended, read as cells of one block -/
theorem cells_at {g : Nat} {xs : List Value} (h : ∀ j v, xs[j]? = some v → w.cell? ⟨g, j, none⟩ = some v) : ∀ j u, xs[j]? = some u → w.cell? (Addr.add ⟨g, 0, none⟩ j) = some u := fun j u hj => by
  have e : Addr.add ⟨g, 0, none⟩ j = ⟨g, j, none⟩ := by
    unfold Addr.add
    split
    · rename_i h; subst h; rfl
    · rw [Nat.zero_add]
  rw [e]
  exact h j u hj
end

/-- a term as it lies in memory -/
structure E where
  c : Int
  p : List Int
  a : Option Addr
  k : Nat
def ec (e : E) : List Value := [.int .i64 e.c, .slice e.a e.p.length e.k]
theorem ec_len (e : E) : (ec e).length = 2 := rfl
def tm (l : List E) : List Trm := l.map fun e => (e.c, e.p)
theorem tm_len (l : List E) : (tm l).length = l.length := by simp [tm]
theorem ec_one (e : E) : ∀ u ∈ ec e, u.oneCell' = true := fun u hu => by
  simp only [ec, List.mem_cons, List.not_mem_nil, or_false] at hu
  rcases hu with rfl | rfl <;> rfl
/-- the paths of terms lie in memory -/
def EO (w : World) (l : List E) : Prop := ∀ e ∈ l, LiesOI w e.a e.p
def EN (w : World) (B : Nat) (l : List E) : Prop := ∀ e ∈ l, LiesNI w B e.a e.p
theorem EO.later {w w1 : World} {l : List E} (h : EO w l) (hb : Below w.heap.size w w1) : EO w1 l := fun e he => (h e he).later hb
theorem EN.later {w w1 : World} {B : Nat} {l : List E} (h : EN w B l) (hb : Below w.heap.size w w1) : EN w1 B l := fun e he => (h e he).later hb
theorem EN.o {w : World} {B : Nat} {l : List E} (h : EN w B l) : EO w l := fun e he => (h e he).o
theorem EN.le {w : World} {B C : Nat} {l : List E} (h : EN w B l) (hC : C ≤ B) : EN w C l := fun e he => (h e he).le hC
/-- a sum of loops in memory -/
structure Trs (w : World) (ao : Option Addr) (l : List E) : Prop where
  r : RowsO 2 ec w ao l
  p : EO w l
theorem Trs.later {w w1 : World} {ao : Option Addr} {l : List E} (h : Trs w ao l) (hb : Below w.heap.size w w1) : Trs w1 ao l := ⟨h.r.later hb, h.p.later hb⟩
structure TrsN (w : World) (B : Nat) (ao : Option Addr) (l : List E) : Prop where
  r : RowsN 2 ec w B ao l
  p : EN w B l
theorem TrsN.later {w w1 : World} {B : Nat} {ao : Option Addr} {l : List E} (h : TrsN w B ao l) (hb : Below w.heap.size w w1) : TrsN w1 B ao l := ⟨h.r.later hb, h.p.later hb⟩
theorem TrsN.o {w : World} {B : Nat} {ao : Option Addr} {l : List E} (h : TrsN w B ao l) : Trs w ao l := ⟨h.r.o, h.p.o⟩
theorem TrsN.le {w : World} {B C : Nat} {ao : Option Addr} {l : List E} (h : TrsN w B ao l) (hC : C ≤ B) : TrsN w C ao l := ⟨h.r.le hC, h.p.le hC⟩
theorem Trs.at_ {w : World} {ao : Option Addr} {l : List E} (h : Trs w ao l) {k : Nat} (hk : k < l.length) : ∃ b off, ao = some ⟨b, off, none⟩ ∧ w.cell? ⟨b, off + k * 2, none⟩ = some (.int .i64 l[k].c) ∧ w.cell? ⟨b, off + k * 2 + 1, none⟩ = some (.slice l[k].a l[k].p.length l[k].k) ∧ LiesOI w l[k].a l[k].p := by
  rcases h.r with h0 | ⟨b, off, rfl, hr⟩
  · subst h0; simp at hk
  · have hx : l[k]? = some l[k] := List.getElem?_eq_getElem hk
    exact ⟨b, off, rfl, hr k _ hx 0 _ rfl, hr k _ hx 1 _ rfl, h.p _ (List.getElem_mem hk)⟩

/-- a term on the way to a plain form: its path, and the path from its end -/
structure T3 where
  c : Int
  p : List Int
  a : Option Addr
  k : Nat
  b : Option Addr
  m : Nat
def tc (e : T3) : List Value := [.int .i64 e.c, .slice e.a e.p.length e.k, .slice e.b (opp e.p).length e.m]
theorem tc_len (e : T3) : (tc e).length = 3 := rfl
theorem tc_one (e : T3) : ∀ u ∈ tc e, u.oneCell' = true := fun u hu => by
  simp only [tc, List.mem_cons, List.not_mem_nil, or_false] at hu
  rcases hu with rfl | rfl | rfl <;> rfl
def tm3 (l : List T3) : List Trm := l.map fun e => (e.c, e.p)
theorem tm3_len (l : List T3) : (tm3 l).length = l.length := by simp [tm3]
def T3N (w : World) (B : Nat) (l : List T3) : Prop := ∀ e ∈ l, LiesNI w B e.a e.p ∧ LiesNI w B e.b (opp e.p) ∧ e.p.length ≤ e.k ∧ (opp e.p).length ≤ e.m
theorem T3N.later {w w1 : World} {B : Nat} {l : List T3} (h : T3N w B l) (hb : Below w.heap.size w w1) : T3N w1 B l := fun e he => ⟨(h e he).1.later hb, (h e he).2.1.later hb, (h e he).2.2⟩
theorem T3N.le {w : World} {B C : Nat} {l : List T3} (h : T3N w B l) (hC : C ≤ B) : T3N w C l := fun e he => ⟨(h e he).1.le hC, (h e he).2.1.le hC, (h e he).2.2⟩
theorem T3N.grown {w w1 : World} {B g : Nat} {l : List T3} (h : T3N w B l) (hg : w.grownBy w1 (some g)) (hlt : g < B) : T3N w1 B l := fun e he => ⟨(h e he).1.grown hg hlt, (h e he).2.1.grown hg hlt, (h e he).2.2⟩
theorem T3N.snoc {w : World} {B : Nat} {l : List T3} {x : T3} (h : T3N w B l) (hx : LiesNI w B x.a x.p ∧ LiesNI w B x.b (opp x.p) ∧ x.p.length ≤ x.k ∧ (opp x.p).length ≤ x.m) : T3N w B (l ++ [x]) := fun e he => by
  rcases List.mem_append.1 he with h' | h'
  · exact h e h'
  · rw [List.mem_singleton] at h'
    subst h'
    exact hx
structure Tr3 (w : World) (B : Nat) (ao : Option Addr) (l : List T3) : Prop where
  r : RowsN 3 tc w B ao l
  p : T3N w B l
theorem Tr3.later {w w1 : World} {B : Nat} {ao : Option Addr} {l : List T3} (h : Tr3 w B ao l) (hb : Below w.heap.size w w1) : Tr3 w1 B ao l := ⟨h.r.later hb, h.p.later hb⟩
theorem Tr3.le {w : World} {B C : Nat} {ao : Option Addr} {l : List T3} (h : Tr3 w B ao l) (hC : C ≤ B) : Tr3 w C ao l := ⟨h.r.le hC, h.p.le hC⟩
theorem Tr3.at_ {w : World} {B : Nat} {ao : Option Addr} {l : List T3} (h : Tr3 w B ao l) {k : Nat} (hk : k < l.length) : ∃ b off, ao = some ⟨b, off, none⟩ ∧ w.cell? ⟨b, off + k * 3, none⟩ = some (.int .i64 l[k].c) ∧ w.cell? ⟨b, off + k * 3 + 1, none⟩ = some (.slice l[k].a l[k].p.length l[k].k) ∧ w.cell? ⟨b, off + k * 3 + 2, none⟩ = some (.slice l[k].b (opp l[k].p).length l[k].m) ∧ LiesNI w B l[k].a l[k].p ∧ LiesNI w B l[k].b (opp l[k].p) ∧ l[k].p.length ≤ l[k].k ∧ (opp l[k].p).length ≤ l[k].m := by
  rcases h.r with h0 | ⟨b, off, rfl, -, hr⟩
  · subst h0; simp at hk
  · have hx : l[k]? = some l[k] := List.getElem?_eq_getElem hk
    exact ⟨b, off, rfl, hr k _ hx 0 _ rfl, hr k _ hx 1 _ rfl, hr k _ hx 2 _ rfl, h.p _ (List.getElem_mem hk)⟩

/-! ### the errors of sums of loops -/
instance (t : Int) : Decidable (IsStep t) := by unfold IsStep; infer_instance
def pe (l : List Int) : Int := if 8 < l.length then 3 else if ∀ t ∈ l, IsStep t then 0 else 1
theorem pe_R (l : List Int) : pathR l (pe l) := by
  unfold pe
  split
  · exact .inl ⟨by assumption, rfl⟩
  · split
    · exact .inr (.inr ⟨by omega, by assumption, rfl⟩)
    · rename_i h
      exact .inr (.inl ⟨by omega, by simpa using h, rfl⟩)
theorem pe_ok {l : List Int} (h : pe l = 0) : l.length ≤ 8 ∧ ∀ t ∈ l, IsStep t := by
  unfold pe at h
  split at h
  · omega
  · split at h
    · exact ⟨by omega, by assumption⟩
    · omega
theorem pe_zero {l : List Int} (h8 : l.length ≤ 8) (hs : ∀ t ∈ l, IsStep t) : pe l = 0 := by
  unfold pe
  rw [if_neg (by omega), if_pos hs]
def okC (c : Int) : Prop := -1000 ≤ c ∧ c ≤ 1000
instance (c : Int) : Decidable (okC c) := by unfold okC; infer_instance
def te (t : Trm) : Int := if okC t.1 then pe t.2 else 3
def tes : List Trm → Int
  | [] => 0
  | t :: r => if te t = 0 then tes r else te t
def vT (l : List Trm) : Int := if 40 < l.length then 3 else tes l
theorem tes_drop (l : List Trm) (k : Nat) (hk : k < l.length) : tes (l.drop k) = if te l[k] = 0 then tes (l.drop (k + 1)) else te l[k] := by
  rw [List.drop_eq_getElem_cons hk]
  rfl
theorem tes_ok {l : List Trm} (h : tes l = 0) : ∀ t ∈ l, te t = 0 := by
  induction l with
  | nil => simp
  | cons x r ih =>
    simp only [tes] at h
    split at h
    · intro t ht
      rcases List.mem_cons.1 ht with rfl | e
      · assumption
      · exact ih h t e
    · omega
theorem vT_ok {l : List Trm} (h : vT l = 0) : l.length ≤ 40 ∧ ∀ t ∈ l, okC t.1 ∧ t.2.length ≤ 8 ∧ ∀ s ∈ t.2, IsStep s := by
  unfold vT at h
  split at h
  · omega
  · refine ⟨by omega, fun t ht => ?_⟩
    have := tes_ok h t ht
    unfold te at this
    split at this
    · exact ⟨by assumption, pe_ok this⟩
    · omega
end Go.Proofs.YtjidbajcnomceaaGreat
