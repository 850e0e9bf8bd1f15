/- Rows of structures in memory, read through a listing of their cells; terms of sums of loops as rows.
Conditions: those written at each theorem. -/
import Derived.Test.YtjidbajcnomceaaGreatLoM
import Derived.Test.YtjidbajcnomceaaGreatInts
import Derived.Test.YtjidbajcnomceaaGreatLBox
import Derived.Test.YtjidbajcnomceaaGreatPathA
import Derived.RangeFuncRecord
import Derived.Lib.AppendZerosOnto
import Derived.Lib.SlFresh
import Derived.Test.YtjidbajcnomceaaGreatRegB
import Derived.Deep.RegionHeld3
namespace Go.Proofs.YtjidbajcnomceaaGreat
set_option linter.unusedVariables false
set_option linter.unusedSimpArgs false
set_option maxRecDepth 1000000
open Go.RowKit
open Um Tm Lm

section
variable {α : Type}
/-- a row of structures of z cells each -/
def RowsAt (z : Nat) (enc : α → List Value) (w : World) (b off : Nat) (l : List α) : Prop := ∀ (i : Nat) (x : α), l[i]? = some x → ∀ (j : Nat) (v : Value), (enc x)[j]? = some v → w.cell? ⟨b, off + i * z + j, none⟩ = some v
def RowsO (z : Nat) (enc : α → List Value) (w : World) (ao : Option Addr) (l : List α) : Prop := l = [] ∨ ∃ b off, ao = some ⟨b, off, none⟩ ∧ RowsAt z enc w b off l
/-- .. in a block that is no older than B -/
def RowsN (z : Nat) (enc : α → List Value) (w : World) (B : Nat) (ao : Option Addr) (l : List α) : Prop := l = [] ∨ ∃ b off, ao = some ⟨b, off, none⟩ ∧ B ≤ b ∧ RowsAt z enc w b off l
variable {z : Nat} {enc : α → List Value} {w w1 : World} {b off B : Nat} {ao : Option Addr} {l : List α}
theorem RowsAt.later (h : RowsAt z enc w b off l) (hb : Below w.heap.size w w1) : RowsAt z enc w1 b off l := fun i x hx j v hv => by
  have f := h i x hx j v hv
  rw [hb.cell (World.block_lt_of_cell? w _ f)]
  exact f
theorem RowsO.later (h : RowsO z enc w ao l) (hb : Below w.heap.size w w1) : RowsO z enc w1 ao l := by
  rcases h with h | ⟨b, off, h, hl⟩
  · exact .inl h
  · exact .inr ⟨b, off, h, hl.later hb⟩
theorem RowsN.o (h : RowsN z enc w B ao l) : RowsO z enc w ao l := by
  rcases h with h | ⟨b, off, h, -, hl⟩
  · exact .inl h
  · exact .inr ⟨b, off, h, hl⟩
theorem RowsN.later (h : RowsN z enc w B ao l) (hb : Below w.heap.size w w1) : RowsN z enc w1 B ao l := by
  rcases h with h | ⟨b, off, h, hB, hl⟩
  · exact .inl h
  · exact .inr ⟨b, off, h, hB, hl.later hb⟩
theorem RowsN.le {C : Nat} (h : RowsN z enc w B ao l) (hC : C ≤ B) : RowsN z enc w C ao l := by
  rcases h with h | ⟨b, off, h, hB, hl⟩
  · exact .inl h
  · exact .inr ⟨b, off, h, Nat.le_trans hC hB, hl⟩
theorem owned_rows {base : Nat} {T : TypeId} {g cap : Nat} (hz : ∀ x, (enc x).length = z) (h : w.ownsRow base T z (.slice (some ⟨g, 0, none⟩) l.length cap) l.length (l.flatMap enc)) : RowsAt z enc w g 0 l := fun i x hx j v hv => by
  have hi : i < l.length := (List.getElem?_eq_some_iff.1 hx).1
  have hj : j < z := by have := (List.getElem?_eq_some_iff.1 hv).1; rwa [hz] at this
  have hm : i * z + j < l.length * z := by
    have : (i + 1) * z ≤ l.length * z := Nat.mul_le_mul_right z hi
    rw [Nat.succ_mul] at this
    omega
  rw [Nat.zero_add, h.cellAt (i * z + j) hm, flat_get enc z hz l i x hx j hj, hv]
theorem owned_rowsN {base : Nat} {T : TypeId} {v : Value} (hz : ∀ x, (enc x).length = z) (h : w.ownsRow base T z v l.length (l.flatMap enc)) : ∃ ao cap, v = .slice ao l.length cap ∧ RowsN z enc w base ao l ∧ l.length ≤ cap := by
  rcases h.2 with ⟨rfl, h0⟩ | ⟨g, cap, cur, rfl, hg, _, hnc, _⟩
  · exact ⟨none, 0, by rw [h0], .inl (List.length_eq_zero_iff.1 h0), by omega⟩
  · exact ⟨_, cap, rfl, .inr ⟨g, 0, rfl, hg, owned_rows hz h⟩, hnc⟩
theorem LiesNI.grown {w w1 : World} {B g : Nat} {ao : Option Addr} {l : List Int} (h : LiesNI w B ao l) (hg : w.grownBy w1 (some g)) (hlt : g < B) : LiesNI w1 B ao l := by
  by_cases h0 : l = []
  · exact .inl h0
  · rcases h with h | ⟨b, off, rfl, hB, hf, h⟩
    · exact .inl h
    · exact .inr ⟨b, off, rfl, hB, fun j => (World.frozen?_of_block (a := ⟨b, j, none⟩) (hg.block b (lies_block h h0) (by simp; omega))).trans (hf j), fun i x hx => hg.cell (h i x hx) (by simp; omega)⟩
theorem two_cells {w : World} {b : Nat} {vs : List Value} {v0 v1 : Value} (hv : vs = [v0, v1]) (h0 : w.cell? ⟨b, 0, none⟩ = some v0) (h1 : w.cell? ⟨b, 1, none⟩ = some v1) : ∀ j u, vs[j]? = some u → w.cell? (Addr.add ⟨b, 0, none⟩ j) = some u := by
  subst hv
  intro j u hj
  match j, hj with
  | 0, hj => simp at hj; subst hj; exact h0
  | 1, hj => simp at hj; subst hj; exact h1
  | n + 2, hj => simp at hj
theorem three_cells {w : World} {b : Nat} {vs : List Value} {v0 v1 v2 : Value} (hv : vs = [v0, v1, v2]) (h0 : w.cell? ⟨b, 0, none⟩ = some v0) (h1 : w.cell? ⟨b, 1, none⟩ = some v1) (h2 : w.cell? ⟨b, 2, none⟩ = some v2) : ∀ j u, vs[j]? = some u → w.cell? (Addr.add ⟨b, 0, none⟩ j) = some u := by
  subst hv
  intro j u hj
  match j, hj with
  | 0, hj => simp at hj; subst hj; exact h0
  | 1, hj => simp at hj; subst hj; exact h1
  | 2, hj => simp at hj; subst hj; exact h2
  | n + 3, hj => simp at hj
/-- what is appended, read as cells of one block -/
theorem cells_at {g : Nat} {xs : List Value} (h : ∀ j v, xs[j]? = some v → w.cell? ⟨g, j, none⟩ = some v) : ∀ j u, xs[j]? = some u → w.cell? (Addr.add ⟨g, 0, none⟩ j) = some u := fun j u hj => by
  have e : Addr.add ⟨g, 0, none⟩ j = ⟨g, j, none⟩ := by
    unfold Addr.add
    split
    · rename_i h; subst h; rfl
    · rw [Nat.zero_add]
  rw [e]
  exact h j u hj
end

/-- a term as it lies in memory -/
structure E where
  c : Int
  p : List Int
  a : Option Addr
  k : Nat
def ec (e : E) : List Value := [.int .i64 e.c, .slice e.a e.p.length e.k]
theorem ec_len (e : E) : (ec e).length = 2 := rfl
def tm (l : List E) : List Trm := l.map fun e => (e.c, e.p)
theorem tm_len (l : List E) : (tm l).length = l.length := by simp [tm]
theorem ec_one (e : E) : ∀ u ∈ ec e, u.oneCell' = true := fun u hu => by
  simp only [ec, List.mem_cons, List.not_mem_nil, or_false] at hu
  rcases hu with rfl | rfl <;> rfl
/-- the paths of terms lie in memory -/
def EO (w : World) (l : List E) : Prop := ∀ e ∈ l, LiesOI w e.a e.p
def EN (w : World) (B : Nat) (l : List E) : Prop := ∀ e ∈ l, LiesNI w B e.a e.p
theorem EO.later {w w1 : World} {l : List E} (h : EO w l) (hb : Below w.heap.size w w1) : EO w1 l := fun e he => (h e he).later hb
theorem EN.later {w w1 : World} {B : Nat} {l : List E} (h : EN w B l) (hb : Below w.heap.size w w1) : EN w1 B l := fun e he => (h e he).later hb
theorem EN.o {w : World} {B : Nat} {l : List E} (h : EN w B l) : EO w l := fun e he => (h e he).o
theorem EN.le {w : World} {B C : Nat} {l : List E} (h : EN w B l) (hC : C ≤ B) : EN w C l := fun e he => (h e he).le hC
/-- a sum of loops in memory -/
structure Trs (w : World) (ao : Option Addr) (l : List E) : Prop where
  r : RowsO 2 ec w ao l
  p : EO w l
theorem Trs.later {w w1 : World} {ao : Option Addr} {l : List E} (h : Trs w ao l) (hb : Below w.heap.size w w1) : Trs w1 ao l := ⟨h.r.later hb, h.p.later hb⟩
structure TrsN (w : World) (B : Nat) (ao : Option Addr) (l : List E) : Prop where
  r : RowsN 2 ec w B ao l
  p : EN w B l
theorem TrsN.later {w w1 : World} {B : Nat} {ao : Option Addr} {l : List E} (h : TrsN w B ao l) (hb : Below w.heap.size w w1) : TrsN w1 B ao l := ⟨h.r.later hb, h.p.later hb⟩
theorem TrsN.o {w : World} {B : Nat} {ao : Option Addr} {l : List E} (h : TrsN w B ao l) : Trs w ao l := ⟨h.r.o, h.p.o⟩
theorem TrsN.le {w : World} {B C : Nat} {ao : Option Addr} {l : List E} (h : TrsN w B ao l) (hC : C ≤ B) : TrsN w C ao l := ⟨h.r.le hC, h.p.le hC⟩
theorem Trs.at_ {w : World} {ao : Option Addr} {l : List E} (h : Trs w ao l) {k : Nat} (hk : k < l.length) : ∃ b off, ao = some ⟨b, off, none⟩ ∧ w.cell? ⟨b, off + k * 2, none⟩ = some (.int .i64 l[k].c) ∧ w.cell? ⟨b, off + k * 2 + 1, none⟩ = some (.slice l[k].a l[k].p.length l[k].k) ∧ LiesOI w l[k].a l[k].p := by
  rcases h.r with h0 | ⟨b, off, rfl, hr⟩
  · subst h0; simp at hk
  · have hx : l[k]? = some l[k] := List.getElem?_eq_getElem hk
    exact ⟨b, off, rfl, hr k _ hx 0 _ rfl, hr k _ hx 1 _ rfl, h.p _ (List.getElem_mem hk)⟩

/-- a term on the way to a plain form: its path, and the path from its end -/
structure T3 where
  c : Int
  p : List Int
  a : Option Addr
  k : Nat
  b : Option Addr
  m : Nat
def tc (e : T3) : List Value := [.int .i64 e.c, .slice e.a e.p.length e.k, .slice e.b (opp e.p).length e.m]
theorem tc_len (e : T3) : (tc e).length = 3 := rfl
theorem tc_one (e : T3) : ∀ u ∈ tc e, u.oneCell' = true := fun u hu => by
  simp only [tc, List.mem_cons, List.not_mem_nil, or_false] at hu
  rcases hu with rfl | rfl | rfl <;> rfl
def tm3 (l : List T3) : List Trm := l.map fun e => (e.c, e.p)
theorem tm3_len (l : List T3) : (tm3 l).length = l.length := by simp [tm3]
def T3N (w : World) (B : Nat) (l : List T3) : Prop := ∀ e ∈ l, LiesNI w B e.a e.p ∧ LiesNI w B e.b (opp e.p) ∧ e.p.length ≤ e.k ∧ (opp e.p).length ≤ e.m
theorem T3N.later {w w1 : World} {B : Nat} {l : List T3} (h : T3N w B l) (hb : Below w.heap.size w w1) : T3N w1 B l := fun e he => ⟨(h e he).1.later hb, (h e he).2.1.later hb, (h e he).2.2⟩
theorem T3N.le {w : World} {B C : Nat} {l : List T3} (h : T3N w B l) (hC : C ≤ B) : T3N w C l := fun e he => ⟨(h e he).1.le hC, (h e he).2.1.le hC, (h e he).2.2⟩
theorem T3N.grown {w w1 : World} {B g : Nat} {l : List T3} (h : T3N w B l) (hg : w.grownBy w1 (some g)) (hlt : g < B) : T3N w1 B l := fun e he => ⟨(h e he).1.grown hg hlt, (h e he).2.1.grown hg hlt, (h e he).2.2⟩
theorem T3N.snoc {w : World} {B : Nat} {l : List T3} {x : T3} (h : T3N w B l) (hx : LiesNI w B x.a x.p ∧ LiesNI w B x.b (opp x.p) ∧ x.p.length ≤ x.k ∧ (opp x.p).length ≤ x.m) : T3N w B (l ++ [x]) := fun e he => by
  rcases List.mem_append.1 he with h' | h'
  · exact h e h'
  · rw [List.mem_singleton] at h'
    subst h'
    exact hx
structure Tr3 (w : World) (B : Nat) (ao : Option Addr) (l : List T3) : Prop where
  r : RowsN 3 tc w B ao l
  p : T3N w B l
theorem Tr3.later {w w1 : World} {B : Nat} {ao : Option Addr} {l : List T3} (h : Tr3 w B ao l) (hb : Below w.heap.size w w1) : Tr3 w1 B ao l := ⟨h.r.later hb, h.p.later hb⟩
theorem Tr3.le {w : World} {B C : Nat} {ao : Option Addr} {l : List T3} (h : Tr3 w B ao l) (hC : C ≤ B) : Tr3 w C ao l := ⟨h.r.le hC, h.p.le hC⟩
theorem Tr3.at_ {w : World} {B : Nat} {ao : Option Addr} {l : List T3} (h : Tr3 w B ao l) {k : Nat} (hk : k < l.length) : ∃ b off, ao = some ⟨b, off, none⟩ ∧ w.cell? ⟨b, off + k * 3, none⟩ = some (.int .i64 l[k].c) ∧ w.cell? ⟨b, off + k * 3 + 1, none⟩ = some (.slice l[k].a l[k].p.length l[k].k) ∧ w.cell? ⟨b, off + k * 3 + 2, none⟩ = some (.slice l[k].b (opp l[k].p).length l[k].m) ∧ LiesNI w B l[k].a l[k].p ∧ LiesNI w B l[k].b (opp l[k].p) ∧ l[k].p.length ≤ l[k].k ∧ (opp l[k].p).length ≤ l[k].m := by
  rcases h.r with h0 | ⟨b, off, rfl, -, hr⟩
  · subst h0; simp at hk
  · have hx : l[k]? = some l[k] := List.getElem?_eq_getElem hk
    exact ⟨b, off, rfl, hr k _ hx 0 _ rfl, hr k _ hx 1 _ rfl, hr k _ hx 2 _ rfl, h.p _ (List.getElem_mem hk)⟩

/-! ### the errors of sums of loops -/
instance (t : Int) : Decidable (IsStep t) := by unfold IsStep; infer_instance
def pe (l : List Int) : Int := if 8 < l.length then 3 else if ∀ t ∈ l, IsStep t then 0 else 1
theorem pe_R (l : List Int) : pathR l (pe l) := by
  unfold pe
  split
  · exact .inl ⟨by assumption, rfl⟩
  · split
    · exact .inr (.inr ⟨by omega, by assumption, rfl⟩)
    · rename_i h
      exact .inr (.inl ⟨by omega, by simpa using h, rfl⟩)
theorem pe_ok {l : List Int} (h : pe l = 0) : l.length ≤ 8 ∧ ∀ t ∈ l, IsStep t := by
  unfold pe at h
  split at h
  · omega
  · split at h
    · exact ⟨by omega, by assumption⟩
    · omega
theorem pe_zero {l : List Int} (h8 : l.length ≤ 8) (hs : ∀ t ∈ l, IsStep t) : pe l = 0 := by
  unfold pe
  rw [if_neg (by omega), if_pos hs]
def okC (c : Int) : Prop := -1000 ≤ c ∧ c ≤ 1000
instance (c : Int) : Decidable (okC c) := by unfold okC; infer_instance
def te (t : Trm) : Int := if okC t.1 then pe t.2 else 3
def tes : List Trm → Int
  | [] => 0
  | t :: r => if te t = 0 then tes r else te t
def vT (l : List Trm) : Int := if 40 < l.length then 3 else tes l
theorem tes_drop (l : List Trm) (k : Nat) (hk : k < l.length) : tes (l.drop k) = if te l[k] = 0 then tes (l.drop (k + 1)) else te l[k] := by
  rw [List.drop_eq_getElem_cons hk]
  rfl
theorem tes_ok {l : List Trm} (h : tes l = 0) : ∀ t ∈ l, te t = 0 := by
  induction l with
  | nil => simp
  | cons x r ih =>
    simp only [tes] at h
    split at h
    · intro t ht
      rcases List.mem_cons.1 ht with rfl | e
      · assumption
      · exact ih h t e
    · omega
theorem vT_ok {l : List Trm} (h : vT l = 0) : l.length ≤ 40 ∧ ∀ t ∈ l, okC t.1 ∧ t.2.length ≤ 8 ∧ ∀ s ∈ t.2, IsStep s := by
  unfold vT at h
  split at h
  · omega
  · refine ⟨by omega, fun t ht => ?_⟩
    have := tes_ok h t ht
    unfold te at this
    split at this
    · exact ⟨by assumption, pe_ok this⟩
    · omega
end Go.Proofs.YtjidbajcnomceaaGreat

/- Paths that are compared, and the plain one of a path and the path from its end, as package loop makes them.
Conditions: those written at each theorem. -/
namespace Go.Proofs.YtjidbajcnomceaaGreat
set_option linter.unusedVariables false
set_option linter.unusedSimpArgs false
set_option maxRecDepth 1000000
open Go.RowKit
open Um Tm Lm

theorem isNaN_any (x : Int) (w : World) : Calls Tryz.prog 156 #[.int .i64 x] w fun e w' => e = .returned (.bool false) ∧ Below w.heap.size w w' := by
  go_enter Tryz.func156, Tryz.ntmps156
  go_wp2
  go_ret
  exact ⟨by simp, by repeat (first | (with_reducible exact Below.refl _ _) | (with_reducible refine Below.setCell ?_ ?_ _) | (with_reducible refine Below.drew ?_) | (with_reducible refine Below.alloc ?_ ?_ _) | omega | (simp <;> omega))⟩
theorem cmpInt_any (x y : Int) (w : World) : Calls Tryz.prog 136 #[.int .i64 x, .int .i64 y] w fun e w' => e = .returned (.int .i64 (cmpI x y)) ∧ Below w.heap.size w w' := by
  have c1 := fun (x : Int) (W : World) => isNaN_any x W
  unfold cmpI
  by_cases h1 : x < y
  · rw [if_pos h1]
    go_enter Tryz.func136, Tryz.ntmps136
    go_wp2_with (first | ((with_reducible refine (c1 x _).mono ?_); rintro e w1 ⟨rfl, hw1⟩) | ((with_reducible refine (c1 y _).mono ?_); rintro e w2 ⟨rfl, hw2⟩))
    go_ret
    exact ⟨rfl, by repeat (first | (with_reducible exact Below.refl _ _) | (with_reducible refine Below.setCell ?_ ?_ _) | (with_reducible refine Below.drew ?_) | (with_reducible refine Below.alloc ?_ ?_ _) | (with_reducible refine Below.trans ?_ (Below.mono hw2 ?_)) | (with_reducible refine Below.trans ?_ (Below.mono hw1 ?_)) | (with_reducible exact hw2.size) | (with_reducible exact hw1.size) | omega | (simp <;> omega) | (simp <;> (have s := hw2.size; omega)) | (simp <;> (have s := hw1.size; omega)) | (have s0 := hw2.size; (try simp at s0); have s1 := hw1.size; (try simp at s1); (try simp); omega))⟩
  · rw [if_neg h1]
    by_cases h2 : y < x
    · rw [if_pos h2]
      go_enter Tryz.func136, Tryz.ntmps136
      go_wp2_with (first | ((with_reducible refine (c1 x _).mono ?_); rintro e w1 ⟨rfl, hw1⟩) | ((with_reducible refine (c1 y _).mono ?_); rintro e w2 ⟨rfl, hw2⟩))
      go_ret
      exact ⟨rfl, by repeat (first | (with_reducible exact Below.refl _ _) | (with_reducible refine Below.setCell ?_ ?_ _) | (with_reducible refine Below.drew ?_) | (with_reducible refine Below.alloc ?_ ?_ _) | (with_reducible refine Below.trans ?_ (Below.mono hw2 ?_)) | (with_reducible refine Below.trans ?_ (Below.mono hw1 ?_)) | (with_reducible exact hw2.size) | (with_reducible exact hw1.size) | omega | (simp <;> omega) | (simp <;> (have s := hw2.size; omega)) | (simp <;> (have s := hw1.size; omega)) | (have s0 := hw2.size; (try simp at s0); have s1 := hw1.size; (try simp at s1); (try simp); omega))⟩
    · rw [if_neg h2]
      go_enter Tryz.func136, Tryz.ntmps136
      go_wp2_with (first | ((with_reducible refine (c1 x _).mono ?_); clear c1; have c1 := fun (W : World) => isNaN_any y W; rintro e w1 ⟨rfl, hw1⟩) | ((with_reducible refine (c1 _).mono ?_); rintro e w2 ⟨rfl, hw2⟩))
      go_ret
      exact ⟨rfl, by repeat (first | (with_reducible exact Below.refl _ _) | (with_reducible refine Below.setCell ?_ ?_ _) | (with_reducible refine Below.drew ?_) | (with_reducible refine Below.alloc ?_ ?_ _) | (with_reducible refine Below.trans ?_ (Below.mono hw2 ?_)) | (with_reducible refine Below.trans ?_ (Below.mono hw1 ?_)) | (with_reducible exact hw2.size) | (with_reducible exact hw1.size) | omega | (simp <;> omega) | (simp <;> (have s := hw2.size; omega)) | (simp <;> (have s := hw1.size; omega)) | (have s0 := hw2.size; (try simp at s0); have s1 := hw1.size; (try simp at s1); (try simp); omega))⟩

theorem cmpL_drop (l m : List Int) (k : Nat) (h1 : k < l.length) (h2 : k < m.length) : cmpL (l.drop k) (m.drop k) = if cmpI l[k] m[k] = 0 then cmpL (l.drop (k + 1)) (m.drop (k + 1)) else cmpI l[k] m[k] := by
  rw [List.drop_eq_getElem_cons h1, List.drop_eq_getElem_cons h2]
  rfl
theorem cmpL_over (l m : List Int) (k : Nat) (h1 : k < l.length) (h2 : m.length ≤ k) : cmpL (l.drop k) (m.drop k) = 1 := by
  rw [List.drop_eq_getElem_cons h1, List.drop_eq_nil_of_le h2]
  rfl
theorem cmpL_end (l m : List Int) (k : Nat) (h1 : l.length ≤ k) : cmpL (l.drop k) (m.drop k) = if k < m.length then -1 else 0 := by
  rw [List.drop_eq_nil_of_le h1]
  split
  · rename_i h
    rw [List.drop_eq_getElem_cons h]
    rfl
  · rename_i h
    rw [List.drop_eq_nil_of_le (by omega)]
    rfl

set_option maxHeartbeats 1600000 in
theorem compare_any (a1 a2 : Option Addr) (c1 c2 : Nat) (l m : List Int) (w : World) (h1 : LiesOI w a1 l) (h2 : LiesOI w a2 m) (n1 : l.length ≤ 1000000) (n2 : m.length ≤ 1000000) : Calls Tryz.prog 115 #[.slice a1 l.length c1, .slice a2 m.length c2] w fun e w' => e = .returned (.int .i64 (cmpL l m)) ∧ Below w.heap.size w w' := by
  have cC := cmpInt_any
  have H1 := Lib.hid h1
  have H2 := Lib.hid h2
  have hr := cmpL_rng l m
  obtain ⟨r, hR⟩ : ∃ r, r = cmpL l m := ⟨_, rfl⟩
  rw [← hR] at hr ⊢
  have HR0 : Hid (r = cmpL (l.drop 0) (m.drop 0)) := Lib.hid (by simpa using hR)
  clear h1 h2 hR hr
  go_enter Tryz.func115, Tryz.ntmps115
  go_wp2
  go_loopw [11] (fun q wr => ∃ k : Nat, k ≤ l.length ∧ k ≤ m.length ∧ q = .int .i64 k ∧ Hid (r = cmpL (l.drop k) (m.drop k)) ∧ Below w.heap.size w wr) (fun q _ => l.length - (intOf q).toNat)
  case atStart => exact ⟨0, by omega, by omega, rfl, HR0, Below.refl _ _⟩
  case round =>
    obtain ⟨k, k1, k2, rfl, HR, hb⟩ := hrel
    clear HR0
    by_cases hlt : k < l.length
    · have i1 : (k : Int) < (l.length : Int) := by omega
      have hx : l[k]? = some l[k] := List.getElem?_eq_getElem hlt
      obtain ⟨b1, o1, rfl, hl1⟩ : ∃ b o, a1 = some ⟨b, o, none⟩ ∧ LiesI w b o l := by
        rcases H1.out with h | h
        · subst h; simp at hlt
        · exact h
      have x0 := hl1.later hb k _ hx
      by_cases hlt2 : k < m.length
      · have i2 : ¬ (m.length : Int) ≤ (k : Int) := by omega
        have i3 : (k : Int) < (m.length : Int) := by omega
        have hy : m[k]? = some m[k] := List.getElem?_eq_getElem hlt2
        obtain ⟨b2, o2, rfl, hl2⟩ : ∃ b o, a2 = some ⟨b, o, none⟩ ∧ LiesI w b o m := by
          rcases H2.out with h | h
          · subst h; simp at hlt2
          · exact h
        have y0 := hl2.later hb k _ hy
        have hd := cmpL_drop l m k hlt hlt2
        generalize l[k] = x at *
        generalize m[k] = y at *
        have HD := Lib.hid hd
        clear hl1 hl2 hd hx hy
        by_cases hc : cmpI x y = 0
        · have HC := Lib.hid hc
          have cC' := fun W : World => cC x y W
          rw [hc] at cC'
          clear hc cC
          go_wp2_with ((with_reducible refine (cC' _).mono ?_); rintro e w1 ⟨rfl, hw1⟩)
          go_roundw
          case rel => exact ⟨k + 1, by omega, by omega, by go_num, Lib.hid (by rw [HR.out, HD.out, if_pos HC.out]), by repeat (first | (with_reducible exact Below.refl _ _) | (with_reducible refine Below.setCell ?_ ?_ _) | (with_reducible refine Below.drew ?_) | (with_reducible refine Below.alloc ?_ ?_ _) | (with_reducible refine Below.trans ?_ (Below.mono hw1 ?_)) | (with_reducible refine Below.trans ?_ (Below.mono hb ?_)) | (with_reducible exact hw1.size) | (with_reducible exact hb.size) | omega | (simp <;> omega) | (simp <;> (have s := hw1.size; omega)) | (simp <;> (have s := hb.size; omega)) | (have s0 := hw1.size; (try simp at s0); have s1 := hb.size; (try simp at s1); (try simp); omega))⟩
          case measure => simp [intOf]; omega
        · have hrng := cmpI_rng x y
          have e2 : r = cmpI x y := by rw [HR.out, HD.out, if_neg hc]
          have cC' := fun W : World => cC x y W
          rw [← e2] at cC' hrng hc
          have q1 : (r != 0) = true := by simpa using hc
          clear e2 hrng hc cC
          go_wp2_with ((with_reducible refine (cC' _).mono ?_); rintro e w1 ⟨rfl, hw1⟩)
          go_ret
          exact ⟨rfl, by repeat (first | (with_reducible exact Below.refl _ _) | (with_reducible refine Below.setCell ?_ ?_ _) | (with_reducible refine Below.drew ?_) | (with_reducible refine Below.alloc ?_ ?_ _) | (with_reducible refine Below.trans ?_ (Below.mono hw1 ?_)) | (with_reducible refine Below.trans ?_ (Below.mono hb ?_)) | (with_reducible exact hw1.size) | (with_reducible exact hb.size) | omega | (simp <;> omega) | (simp <;> (have s := hw1.size; omega)) | (simp <;> (have s := hb.size; omega)) | (have s0 := hw1.size; (try simp at s0); have s1 := hb.size; (try simp at s1); (try simp); omega))⟩
      · have i2 : (m.length : Int) ≤ (k : Int) := by omega
        have e2 : r = 1 := by rw [HR.out]; exact cmpL_over l m k hlt (by omega)
        subst e2
        clear hl1 hx
        go_wp2
        go_ret
        exact ⟨rfl, hb⟩
    · obtain rfl : k = l.length := by omega
      by_cases hlt2 : l.length < m.length
      · have e2 : r = -1 := by rw [HR.out, cmpL_end l m _ (Nat.le_refl _), if_pos hlt2]
        subst e2
        go_wp2
        go_ret
        exact ⟨rfl, hb⟩
      · have e2 : r = 0 := by rw [HR.out, cmpL_end l m _ (Nat.le_refl _), if_neg hlt2]
        subst e2
        go_wp2
        go_ret
        exact ⟨rfl, hb⟩

theorem first_any (B : Nat) (a1 a2 : Option Addr) (c1 c2 : Nat) (l m : List Int) (w : World) (h1 : LiesNI w B a1 l) (h2 : LiesNI w B a2 m) (p1 : l.length ≤ c1) (p2 : m.length ≤ c2) (n1 : l.length ≤ 1000000) (n2 : m.length ≤ 1000000) : Calls Tryz.prog 133 #[.slice a1 l.length c1, .slice a2 m.length c2] w fun e w' => ∃ ao c, e = .returned (.slice ao (mnL l m).length c) ∧ LiesNI w' B ao (mnL l m) ∧ (mnL l m).length ≤ c ∧ Below w.heap.size w w' := by
  have cC := fun W (h1 : LiesOI W a1 l) (h2 : LiesOI W a2 m) => compare_any a1 a2 c1 c2 l m W h1 h2 n1 n2
  have H1 := Lib.hid h1
  have H2 := Lib.hid h2
  have hr := cmpL_rng l m
  unfold mnL
  by_cases hc : cmpL l m ≤ 0
  · simp only [if_pos hc]
    generalize cmpL l m = r at *
    clear h1 h2
    go_enter Tryz.func133, Tryz.ntmps133
    go_wp2_with ((with_reducible refine (cC _ H1.out.o H2.out.o).mono ?_); rintro e w1 ⟨rfl, hw1⟩)
    go_ret
    exact ⟨a1, c1, rfl, H1.out.later hw1, p1, by repeat (first | (with_reducible exact Below.refl _ _) | (with_reducible refine Below.setCell ?_ ?_ _) | (with_reducible refine Below.drew ?_) | (with_reducible refine Below.alloc ?_ ?_ _) | (with_reducible refine Below.trans ?_ (Below.mono hw1 ?_)) | (with_reducible exact hw1.size) | omega | (simp <;> omega) | (simp <;> (have s := hw1.size; omega)) | (have s0 := hw1.size; (try simp at s0); (try simp); omega))⟩
  · simp only [if_neg hc]
    have hc' : 0 < cmpL l m := by omega
    generalize cmpL l m = r at *
    clear h1 h2 hc
    go_enter Tryz.func133, Tryz.ntmps133
    go_wp2_with ((with_reducible refine (cC _ H1.out.o H2.out.o).mono ?_); rintro e w1 ⟨rfl, hw1⟩)
    go_ret
    exact ⟨a2, c2, rfl, H2.out.later hw1, p2, by repeat (first | (with_reducible exact Below.refl _ _) | (with_reducible refine Below.setCell ?_ ?_ _) | (with_reducible refine Below.drew ?_) | (with_reducible refine Below.alloc ?_ ?_ _) | (with_reducible refine Below.trans ?_ (Below.mono hw1 ?_)) | (with_reducible exact hw1.size) | omega | (simp <;> omega) | (simp <;> (have s := hw1.size; omega)) | (have s0 := hw1.size; (try simp at s0); (try simp); omega))⟩

theorem plainW_any (B : Nat) (a1 a2 : Option Addr) (c1 c2 : Nat) (l m : List Int) (w : World) (h1 : LiesNI w B a1 l) (h2 : LiesNI w B a2 m) (p1 : l.length ≤ c1) (p2 : m.length ≤ c2) (n1 : l.length ≤ 1000000) (n2 : m.length ≤ 1000000) : Calls Tryz.prog 112 #[.agg #[.slice a1 l.length c1, .slice a2 m.length c2]] w fun e w' => ∃ ao c, e = .returned (.slice ao (mnL l m).length c) ∧ LiesNI w' B ao (mnL l m) ∧ (mnL l m).length ≤ c ∧ Below w.heap.size w w' := by
  have cC := fun W (h1 : LiesNI W B a1 l) (h2 : LiesNI W B a2 m) => first_any B a1 a2 c1 c2 l m W h1 h2 p1 p2 n1 n2
  have H1 := Lib.hid h1
  have H2 := Lib.hid h2
  clear h1 h2
  go_enter Tryz.func112, Tryz.ntmps112
  go_wp2_with ((with_reducible refine (cC _ (H1.out.later (by repeat (first | (with_reducible exact Below.refl _ _) | (with_reducible refine Below.setCell ?_ ?_ _) | (with_reducible refine Below.drew ?_) | (with_reducible refine Below.alloc ?_ ?_ _) | omega | (simp <;> omega)))) (H2.out.later (by repeat (first | (with_reducible exact Below.refl _ _) | (with_reducible refine Below.setCell ?_ ?_ _) | (with_reducible refine Below.drew ?_) | (with_reducible refine Below.alloc ?_ ?_ _) | omega | (simp <;> omega))))).mono ?_); rintro e w1 ⟨ao, c, rfl, hl, n3, hw1⟩; have HL := Lib.hid hl; clear hl)
  go_ret
  exact ⟨ao, c, rfl, HL.out, n3, by repeat (first | (with_reducible exact Below.refl _ _) | (with_reducible refine Below.setCell ?_ ?_ _) | (with_reducible refine Below.drew ?_) | (with_reducible refine Below.alloc ?_ ?_ _) | (with_reducible refine Below.trans ?_ (Below.mono hw1 ?_)) | (with_reducible exact hw1.size) | omega | (simp <;> omega) | (simp <;> (have s := hw1.size; omega)) | (have s0 := hw1.size; (try simp at s0); (try simp); omega))⟩

/-- a list of ints lies where it lay when a block of other things is written -/
theorem LiesOI.other {W X : World} {ao : Option Addr} {l : List Int} {B : Nat} (h : LiesOI W ao l) (hg : W.grownBy X (some B)) (hne : ∀ (o : Nat) (x : Int), W.cell? ⟨B, o, none⟩ ≠ some (.int .i64 x)) : LiesOI X ao l := by
  rcases h with h | ⟨b, off, rfl, h⟩
  · exact .inl h
  · by_cases hl : l = []
    · exact .inl hl
    · have hpos : 0 < l.length := List.length_pos_iff.2 hl
      have hb : b ≠ B := by
        rintro rfl
        exact hne _ _ (h 0 _ (List.getElem?_eq_getElem hpos))
      exact .inr ⟨b, off, rfl, fun i x hx => hg.cell (h i x hx) (by simp; exact hb)⟩
theorem LiesNI.other {W X : World} {C : Nat} {ao : Option Addr} {l : List Int} {B : Nat} (h : LiesNI W C ao l) (hg : W.grownBy X (some B)) (hne : ∀ (o : Nat) (x : Int), W.cell? ⟨B, o, none⟩ ≠ some (.int .i64 x)) : LiesNI X C ao l := by
  rcases h with h | ⟨b, off, rfl, hC, hf, h⟩
  · exact .inl h
  · by_cases hl : l = []
    · exact .inl hl
    · have hpos : 0 < l.length := List.length_pos_iff.2 hl
      have hb : b ≠ B := by
        rintro rfl
        exact hne _ _ (h 0 _ (List.getElem?_eq_getElem hpos))
      exact .inr ⟨b, off, rfl, hC, fun j => (World.frozen?_of_block (a := ⟨b, j, none⟩) (hg.block b (lies_block h hl) (by simp; exact hb))).trans (hf j), fun i x hx => hg.cell (h i x hx) (by simp; exact hb)⟩
theorem two_slices {W : World} {B : Nat} {T : TypeId} {a1 a2 : Option Addr} {n1 n2 c1 c2 : Nat} (h : W.heap[B]? = some (.cells #[.slice a1 n1 c1, .slice a2 n2 c2] T (0, 0))) (o : Nat) (x : Int) : W.cell? ⟨B, o, none⟩ ≠ some (.int .i64 x) := by
  intro e
  simp only [World.cell?, h] at e
  match o, e with
  | 0, e => simp at e
  | 1, e => simp at e
  | n + 2, e => simp at e
theorem turnedW_any (a1 a2 : Option Addr) (n1 n2 c1 c2 : Nat) (w : World) : Calls Tryz.prog 86 #[.agg #[.slice a1 n1 c1, .slice a2 n2 c2]] w fun e w' => e = .returned (.agg #[.slice a2 n2 c2, .slice a1 n1 c1]) ∧ Below w.heap.size w w' := by
  go_enter Tryz.func86, Tryz.ntmps86
  go_wp2
  refine bodyPost_ret (v := .agg #[.slice a2 n2 c2, .slice a1 n1 c1]) ?_ rfl ⟨rfl, ?_⟩
  · simp [results, Tryz.results86, go_sem]
  · repeat (first | (with_reducible exact Below.refl _ _) | (with_reducible refine Below.setCell ?_ ?_ _) | (with_reducible refine Below.drew ?_) | (with_reducible refine Below.alloc ?_ ?_ _) | omega | (simp <;> omega))

set_option maxHeartbeats 800000 in
theorem walkOf_ok (ao : Option Addr) (cap : Nat) (l : List Int) (w : World) (h : LiesOI w ao l) (hs : ∀ t ∈ l, IsStep t) (h8 : l.length ≤ 8) : Calls Tryz.prog 132 #[.slice ao l.length cap] w fun e w' => ∃ a1 a2 c1 c2, e = .returned (.tuple #[.agg #[.slice a1 (red l).length c1, .slice a2 (opp (red l)).length c2], .int .i64 0]) ∧ LiesNI w' w.heap.size a1 (red l) ∧ LiesNI w' w.heap.size a2 (opp (red l)) ∧ (red l).length ≤ c1 ∧ (opp (red l)).length ≤ c2 ∧ Below w.heap.size w w' := by
  have cR := fun W (h : LiesOI W ao l) => reduce_new ao cap l W h hs h8
  have cB := fun a c W (h : LiesOI W a (red l)) => back_new a c (red l) W h (red_steps hs) (Nat.le_trans (red_len l) h8)
  have H := Lib.hid h
  clear h
  go_enter Tryz.func132, Tryz.ntmps132
  go_wp2_with (first
    | ((with_reducible refine (cR _ (H.out.later (by repeat (first | (with_reducible exact Below.refl _ _) | (with_reducible refine Below.setCell ?_ ?_ _) | (with_reducible refine Below.drew ?_) | (with_reducible refine Below.alloc ?_ ?_ _) | omega | (simp <;> omega))))).mono ?_); clear cR; rintro e w1 ⟨a1, c1, rfl, hl1, n1, hw1⟩; have H1 := Lib.hid hl1; clear hl1; have hc1 := Tail.cells hw1; have zw10 := Nat.lt_of_lt_of_le (n := w.heap.size) (by simp <;> omega) hw1.size)
    | ((with_reducible refine (cB _ _ _ H1.out.o).mono ?_); clear cB; rintro e w2 ⟨a2, c2, rfl, hl2, n2, hw2⟩; have H2 := Lib.hid hl2; clear hl2; have hc2 := Tail.cells hw2; have y1 := Nat.lt_of_lt_of_le zw10 hw2.size))
  have hblk : w2.heap[w.heap.size]? = some (.cells #[.slice none 0 0, .slice none 0 0] 117 (0, 0)) := (hw2.block _ (by omega)).trans ((hw1.block _ (by simp)).trans (World.alloc_heap_new w _))
  have gX := grown_setCells (w.heap.size) [.slice a1 (red l).length c1, .slice a2 (opp (red l)).length c2] 0 w2
  have hB : Below w.heap.size w w2 := by repeat (first | (with_reducible exact Below.refl _ _) | (with_reducible refine Below.setCell ?_ ?_ _) | (with_reducible refine Below.drew ?_) | (with_reducible refine Below.alloc ?_ ?_ _) | (with_reducible refine Below.trans ?_ (Below.mono hw2 ?_)) | (with_reducible refine Below.trans ?_ (Below.mono hw1 ?_)) | (with_reducible exact hw2.size) | (with_reducible exact hw1.size) | omega | (simp <;> omega) | (simp <;> (have s := hw2.size; omega)) | (simp <;> (have s := hw1.size; omega)) | (have s0 := hw2.size; (try simp at s0); have s1 := hw1.size; (try simp at s1); (try simp); omega))
  refine bodyPost_ret (v := .tuple #[.agg #[.slice a1 (red l).length c1, .slice a2 (opp (red l)).length c2], .int .i64 0]) ?_ rfl ⟨a1, a2, c1, c2, rfl, ?_, ?_, n1, n2, ?_⟩
  · simp [results, Tryz.results132, go_sem, hc1, hc2, zw10, y1]
  · exact ((H1.out.le (by simp <;> omega)).later hw2).other gX (two_slices hblk)
  · exact (H2.out.le (by have := hw1.size; simp at this; omega)).other gX (two_slices hblk)
  · exact hB.grown gX hB.size (fun j e => by cases e; omega)

theorem walkOf_bad (ao : Option Addr) (cap : Nat) (l : List Int) (r : Int) (w : World) (h : LiesOI w ao l) (hr : pathR l r) (h0 : r ≠ 0) (hlen : l.length ≤ 1000000) : Calls Tryz.prog 132 #[.slice ao l.length cap] w fun e w' => e = .returned (.tuple #[.agg #[.slice none 0 0, .slice none 0 0], .int .i64 r]) ∧ Below w.heap.size w w' := by
  have cR := fun W (h : LiesOI W ao l) => reduce_bad ao cap l r W h hr h0 hlen
  have q1 : (r == 0) = false := by simpa using h0
  have q2 : (r != 0) = true := by simpa using h0
  have H := Lib.hid h
  clear h hr h0
  go_enter Tryz.func132, Tryz.ntmps132
  go_wp2_with ((with_reducible refine (cR _ (H.out.later (by repeat (first | (with_reducible exact Below.refl _ _) | (with_reducible refine Below.setCell ?_ ?_ _) | (with_reducible refine Below.drew ?_) | (with_reducible refine Below.alloc ?_ ?_ _) | omega | (simp <;> omega))))).mono ?_); clear cR; rintro e w1 ⟨rfl, hw1⟩; have hc1 := Tail.cells hw1; have zw10 := Nat.lt_of_lt_of_le (n := w.heap.size) (by simp <;> omega) hw1.size)
  refine bodyPost_ret (v := .tuple #[.agg #[.slice none 0 0, .slice none 0 0], .int .i64 r]) ?_ rfl ⟨rfl, ?_⟩
  · simp [results, Tryz.results132, go_sem, hc1, zw10]
  · repeat (first | (with_reducible exact Below.refl _ _) | (with_reducible refine Below.setCell ?_ ?_ _) | (with_reducible refine Below.drew ?_) | (with_reducible refine Below.alloc ?_ ?_ _) | (with_reducible refine Below.trans ?_ (Below.mono hw1 ?_)) | (with_reducible exact hw1.size) | omega | (simp <;> omega) | (simp <;> (have s := hw1.size; omega)) | (have s0 := hw1.size; (try simp at s0); (try simp); omega))

end Go.Proofs.YtjidbajcnomceaaGreat

/- Lists of numbers one behind the other, in new memory, as slices.Concat makes them.
Conditions: those written at each theorem. -/
namespace Go.Proofs.YtjidbajcnomceaaGreat
set_option linter.unusedVariables false
set_option linter.unusedSimpArgs false
set_option maxRecDepth 1000000
open Go.RowKit
open Um Tm

theorem run_append_none_cap {P : Program} {w : World} (base : Nat) (t ty e : TypeId) (i : TypeInfo) (size c : Nat) (ht : P.underlying t = some (.slice e)) (hi : P.info? e = some i)
    (v : Value) (n : Nat) (xs : List Value) (hown : w.ownsRow base e size v n xs) :
    (Builtin.append_ #[t, t] ty #[v, .slice none 0 c]).run P w = .ok v w := by
  rcases hown.2 with ⟨rfl, rfl⟩ | ⟨g, cap, cur, rfl, _, _, hnc, _⟩
  · simp [Builtin.append_, run_underlying ht, sizeOf, typeInfo, hi, Builtin.lenOf, Builtin.firstCells]
  · simp [Builtin.append_, run_underlying ht, sizeOf, typeInfo, hi, Builtin.lenOf, Builtin.firstCells, hnc, storeCells]

theorem ints_at {w : World} {b off : Nat} {l : List Int} (h : LiesI w b off l) : ∀ j u, (l.map vi)[j]? = some u → w.cell? (Addr.add ⟨b, off, none⟩ j) = some u := fun j u hj => by
  rw [List.getElem?_map] at hj
  cases hx : l[j]? with
  | none => rw [hx] at hj; cases hj
  | some x =>
    rw [hx] at hj
    cases hj
    have ea : Addr.add ⟨b, off, none⟩ j = ⟨b, off + j, none⟩ := by
      unfold Addr.add
      split
      · rename_i h; subst h; rfl
      · rfl
    rw [ea]
    exact h j x hx
theorem ints_one (l : List Int) : ∀ u ∈ l.map vi, u.oneCell' = true := fun u hu => by
  obtain ⟨x, _, rfl⟩ := List.mem_map.1 hu
  rfl

/-- a list of numbers, wherever it lies, is appended to one of the call's own -/
theorem run_append_ints (w : World) (ty : TypeId) (base : Nat) (v : Value) (n : Nat) (xs : List Value) (ao : Option Addr) (c : Nat) (l : List Int) (hown : w.ownsRow base 3 1 v n xs) (h : LiesOI w ao l) (hb : base ≤ w.heap.size) (hn : n + l.length ≤ 1000000) :
    ∃ v' w', (Builtin.append_ #[26, 26] ty #[v, .slice ao l.length c]).run Tryz.prog w = .ok v' w' ∧ w'.ownsRow base 3 1 v' (n + l.length) (xs ++ l.map vi) ∧ w.grownBy w' v.ownBlock := by
  obtain ⟨i0, hi, hz0, hz1, hz2⟩ := info_parts infoI
  have some_ : ∀ a : Addr, (∀ j u, (l.map vi)[j]? = some u → w.cell? (a.add j) = some u) → ∃ v' w', (Builtin.append_ #[26, 26] ty #[v, .slice (some a) l.length c]).run Tryz.prog w = .ok v' w' ∧ w'.ownsRow base 3 1 v' (n + l.length) (xs ++ l.map vi) ∧ w.grownBy w' v.ownBlock := fun a hat => by
    obtain ⟨v', w', h1, h2, h3, -⟩ := run_append_own w base 26 ty 3 i0 _ 1 8 Tryz.underlying26 hi hz0 hz1 hz2 rfl (by decide) v n xs hown a l.length c (l.map vi) (by simp) hat (ints_one l) (by unfold maxLen; omega) (by omega) hb
    exact ⟨v', w', h1, h2, h3⟩
  rcases h with rfl | ⟨b, off, rfl, h⟩
  · cases ao with
    | none => exact ⟨v, w, run_append_none_cap base _ ty _ i0 1 c Tryz.underlying26 hi v n xs hown, by simpa using hown, ⟨rfl, rfl, rfl, Nat.le_refl _, fun _ _ _ => rfl⟩⟩
    | some a => exact some_ a (fun j u hj => by simp at hj)
  · exact some_ _ (ints_at h)

set_option maxHeartbeats 1600000 in
theorem growI_nil (n : Nat) (w : World) (h0 : 0 < n) (h : n ≤ 1000000) : Calls Tryz.prog 72 #[.slice none 0 0, .int .i64 (n : Int)] w fun e w' => ∃ v, e = .returned v ∧ w'.ownsRow w.heap.size 3 1 v 0 [] ∧ Below w.heap.size w w' := by
  obtain ⟨i0, hi, hz0, hz1, hz2⟩ := info_parts infoI
  have hold : (Builtin.firstCells i0.size 0 (.slice none 0 0)).run Tryz.prog w.drew = .ok (([] : List Value)).toArray w.drew := by simp [Builtin.firstCells]
  have hrz : ∀ ty, (Builtin.append_ #[26, 3] ty #[.slice none 0 0, .int .i64 (n : Int)]).run Tryz.prog w = .ok (.slice (some ⟨w.heap.size, 0, none⟩) n (grownCap w n 0 3)) (w.drew.alloc (.cells (([] : List Value).toArray ++ Builtin.zeroCells (Value.int .i64 0).cells n ++ Builtin.zeroCells (Value.int .i64 0).cells (grownCap w n 0 3 - n)) 3)) := fun ty => by
    have hfit : Builtin.nextslicecap n 0 * i0.bytes ≤ 281474976710656 := growslice_fits (by omega) (by rw [hz2]; omega)
    have := Lib.run_append_grow_zeros w 26 3 ty 3 i0 _ .i64 .i64 Tryz.underlying26 Tryz.underlying3 hi hz0 none 0 0 [] hold n h0 (by rw [hz1]; decide) (by omega) (by omega) (by rw [hz2]; omega) (by rw [Nat.zero_add]; exact hfit)
    rw [Nat.zero_add] at this
    exact this
  have hGn : n ≤ grownCap w n 0 3 := grownCap_ge w _ _ _
  have hGm : grownCap w n 0 3 ≤ maxLen := grownCap_le_maxLen w n 0 3 (by unfold maxLen; omega)
  have zc : ∀ k, (Builtin.zeroCells (Value.int .i64 0).cells k).size = k := fun k => by simp [Builtin.zeroCells, Value.cells]
  generalize grownCap w n 0 3 = G at *
  have hsz : (([] : List Value).toArray ++ Builtin.zeroCells (Value.int .i64 0).cells n ++ Builtin.zeroCells (Value.int .i64 0).cells (G - n)).size = G * 1 := by
    rw [Array.size_append, Array.size_append, zc, zc]
    simp
    omega
  generalize (([] : List Value).toArray ++ Builtin.zeroCells (Value.int .i64 0).cells n ++ Builtin.zeroCells (Value.int .i64 0).cells (G - n)) = CS at *
  have own := World.ownsRow_made (base := w.heap.size) (e := 3) (size := 1) w.drew CS G (by simp) hGm hsz
  have hpos : (0 : Int) < (n : Int) := by omega
  have HO := Lib.hid own
  have hG63 : G ≤ 9223372036854775807 := by unfold maxLen at hGm; omega
  clear hold hsz own hGm zc
  go_enter Tryz.func72, Tryz.ntmps72
  go_wp2_with (at_builtin; refine Lib.wpList_append_run _ rfl _ _ _ _ rfl _ _ rfl rfl _ _ (hrz _) ?_)
  go_ret
  exact ⟨_, rfl, HO.out, by repeat (first | (with_reducible exact Below.refl _ _) | (with_reducible refine Below.setCell ?_ ?_ _) | (with_reducible refine Below.drew ?_) | (with_reducible refine Below.alloc ?_ ?_ _) | omega | (simp <;> omega))⟩
theorem growI_zero (w : World) : Calls Tryz.prog 72 #[.slice none 0 0, .int .i64 0] w fun e w' => e = .returned (.slice none 0 0) ∧ Below w.heap.size w w' := by
  go_enter Tryz.func72, Tryz.ntmps72
  go_wp2
  go_ret
  exact ⟨rfl, by repeat (first | (with_reducible exact Below.refl _ _) | (with_reducible refine Below.setCell ?_ ?_ _) | (with_reducible refine Below.drew ?_) | (with_reducible refine Below.alloc ?_ ?_ _) | omega | (simp <;> omega))⟩
theorem growI_any (n : Nat) (w : World) (h : n ≤ 1000000) : Calls Tryz.prog 72 #[.slice none 0 0, .int .i64 (n : Int)] w fun e w' => ∃ v, e = .returned v ∧ w'.ownsRow w.heap.size 3 1 v 0 [] ∧ Below w.heap.size w w' := by
  by_cases h0 : 0 < n
  · exact growI_nil n w h0 h
  · obtain rfl : n = 0 := by omega
    exact (growI_zero w).mono fun e w' ⟨he, hb⟩ => ⟨_, he, World.ownsRow_nil _ _ _ _, hb⟩

set_option maxHeartbeats 3200000 in
theorem concat2_any (g : Nat) (a1 a2 : Option Addr) (c1 c2 : Nat) (l m : List Int) (w : World) (g0 : w.cell? ⟨g, 0, none⟩ = some (.slice a1 l.length c1)) (g1 : w.cell? ⟨g, 1, none⟩ = some (.slice a2 m.length c2)) (h1 : LiesOI w a1 l) (h2 : LiesOI w a2 m) (n1 : l.length ≤ 100000) (n2 : m.length ≤ 100000) :
    Calls Tryz.prog 44 #[.slice (some ⟨g, 0, none⟩) 2 2] w fun e w' => ∃ ao c, e = .returned (.slice ao (l ++ m).length c) ∧ LiesNI w' w.heap.size ao (l ++ m) ∧ (l ++ m).length ≤ c ∧ Below w.heap.size w w' := by
  have cG : ∀ W : World, Calls Tryz.prog 72 #[.slice none 0 0, .int .i64 ((l.length : Int) + (m.length : Int))] W fun e w' => ∃ v, e = .returned v ∧ w'.ownsRow W.heap.size 3 1 v 0 [] ∧ Below W.heap.size W w' := fun W => by
    have := growI_any (l.length + m.length) W (by omega)
    rwa [Int.natCast_add] at this
  have H1 := Lib.hid h1
  have H2 := Lib.hid h2
  have gl : g < w.heap.size := World.block_lt_of_cell? w _ g0
  have p1 : (0 : Int) ≤ (l.length : Int) := by omega
  have p2 : (0 : Int) ≤ (m.length : Int) := by omega
  have q1 : (l.length : Int) ≤ 100000 := by omega
  have q2 : (m.length : Int) ≤ 100000 := by omega
  have hpos : (0 : Int) ≤ (l.length : Int) + (m.length : Int) := by omega
  clear h1 h2
  go_enter Tryz.func44, Tryz.ntmps44
  go_wp2
  refine wp_loop_rounds 3 ?_
  rw [rounds_succ]
  go_wp2
  rw [rounds_succ]
  go_wp2
  rw [rounds_succ]
  go_wp2_with ((with_reducible refine (cG _).mono ?_); clear cG; rintro e w2 ⟨v0, rfl, hown, hw2⟩)
  have hs2 := hw2.size
  have e0 := (hw2.cell (p := ⟨g, 0, none⟩) gl).trans g0
  have e1 := (hw2.cell (p := ⟨g, 1, none⟩) gl).trans g1
  obtain ⟨v1, X1, hr1, own1, gr1⟩ := run_append_ints w2 26 w.heap.size v0 0 [] a1 c1 l hown (H1.out.later hw2) hs2 (by omega)
  have b1 : Below w.heap.size w X1 := hw2.grown gr1 hs2 (fun j hj => (hown.lt j hj).1)
  obtain ⟨v2, X2, hr2, own2, gr2⟩ := run_append_ints X1 26 w.heap.size v1 (0 + l.length) ([] ++ l.map vi) a2 c2 m own1 (H2.out.later b1) b1.size (by omega)
  have b2 : Below w.heap.size w X2 := b1.grown gr2 b1.size (fun j hj => (own1.lt j hj).1)
  have k1 := (b1.cell (p := ⟨g, 1, none⟩) gl).trans g1
  rw [Nat.zero_add, List.nil_append, ← List.map_append, ← List.length_append] at own2
  obtain ⟨ao, c, rfl, hL, hcap⟩ := owned_liesNI own2
  have HL := Lib.hid hL
  clear hL own2 own1 hown gr1 gr2 b1 hw2 g0 g1 hs2 H1 H2
  refine wp_loop_rounds 3 ?_
  rw [rounds_succ]
  go_wp2_with (at_builtin; refine Lib.wpList_append_run_sl _ rfl (.tmp 31) (.tmp 32) 26 rfl _ _ rfl rfl hr1 ?_)
  rw [rounds_succ]
  go_wp2_with (at_builtin; refine Lib.wpList_append_run_sl _ rfl (.tmp 31) (.tmp 32) 26 rfl _ _ rfl rfl hr2 ?_)
  rw [rounds_succ]
  go_wp2
  go_ret
  exact ⟨ao, c, by simp, HL.out, hcap, b2⟩
end Go.Proofs.YtjidbajcnomceaaGreat

/- Sums of loops are examined, as the program does.
Conditions: those written at each theorem. -/
namespace Go.Proofs.YtjidbajcnomceaaGreat
set_option linter.unusedVariables false
set_option linter.unusedSimpArgs false
set_option maxRecDepth 1000000
open Go.RowKit
open Um Tm Lm

theorem isCoef_yes (c : Int) (w : World) (h : okC c) : Calls Tryz.prog 81 #[.int .i64 c] w fun e w' => e = .returned (.bool true) ∧ Below w.heap.size w w' := by
  obtain ⟨h1, h2⟩ := h
  go_enter Tryz.func81, Tryz.ntmps81
  go_wp2
  go_ret
  exact ⟨rfl, Below.refl _ _⟩
theorem isCoef_no (c : Int) (w : World) (h : ¬ okC c) : Calls Tryz.prog 81 #[.int .i64 c] w fun e w' => e = .returned (.bool false) ∧ Below w.heap.size w w' := by
  unfold okC at h
  by_cases h1 : -1000 ≤ c
  · have h2 : ¬ c ≤ 1000 := fun e => h ⟨h1, e⟩
    clear h
    go_enter Tryz.func81, Tryz.ntmps81
    go_wp2
    go_ret
    exact ⟨rfl, Below.refl _ _⟩
  · clear h
    go_enter Tryz.func81, Tryz.ntmps81
    go_wp2
    go_ret
    exact ⟨rfl, Below.refl _ _⟩

set_option maxHeartbeats 3200000 in
theorem validateTerms_any (ao : Option Addr) (cap : Nat) (l : List E) (w : World) (h : Trs w ao l) (hl : l.length ≤ 1000000) (hp : ∀ e ∈ l, e.p.length ≤ 1000000) : Calls Tryz.prog 52 #[.slice ao l.length cap] w fun e w' => e = .returned (.int .i64 (vT (tm l))) ∧ Below w.heap.size w w' := by
  have H := Lib.hid h
  have HP := Lib.hid hp
  clear h hp
  by_cases h40 : 40 < l.length
  · have hv : vT (tm l) = 3 := by unfold vT; rw [tm_len, if_pos h40]
    have h41 : (40 : Int) < (l.length : Int) := by omega
    rw [hv]
    clear hv h40
    go_enter Tryz.func52, Tryz.ntmps52
    go_wp2
    go_ret
    exact ⟨rfl, by repeat (first | (with_reducible exact Below.refl _ _) | (with_reducible refine Below.setCell ?_ ?_ _) | (with_reducible refine Below.drew ?_) | (with_reducible refine Below.alloc ?_ ?_ _) | omega | (simp <;> omega))⟩
  · have hv : vT (tm l) = tes (tm l) := by unfold vT; rw [tm_len, if_neg h40]
    rw [hv]
    obtain ⟨r, hR⟩ : ∃ r, r = tes (tm l) := ⟨_, rfl⟩
    rw [← hR]
    have HR0 : Hid (r = tes ((tm l).drop 0)) := Lib.hid (by simpa using hR)
    have h41 : ¬ (40 : Int) < (l.length : Int) := by omega
    clear hv hR h40
    go_enter Tryz.func52, Tryz.ntmps52
    go_wp2
    go_loopw [4, 5, 6, 12] (fun _ _ _ q wr => ∃ k : Nat, k ≤ l.length ∧ q = .int .i64 k ∧ Hid (r = tes ((tm l).drop k)) ∧ Below w.heap.size w wr) (fun _ _ _ q _ => l.length - (intOf q).toNat)
    case atStart => exact ⟨0, by omega, rfl, HR0, Below.refl _ _⟩
    case round =>
      obtain ⟨k, hk, rfl, HR, hb⟩ := hrel
      clear HR0
      by_cases hlt : k < l.length
      · have i1 : (k : Int) < (l.length : Int) := by omega
        obtain ⟨b, off, rfl, x0, x1, hpl⟩ := (H.out.later hb).at_ hlt
        have hd := tes_drop (tm l) k (by rw [tm_len]; exact hlt)
        have hg : (tm l)[k]'(by rw [tm_len]; exact hlt) = (l[k].c, l[k].p) := by simp [tm]
        rw [hg] at hd
        have hpe := HP.out _ (List.getElem_mem hlt)
        clear hg
        generalize l[k] = x at *
        obtain ⟨c, p, pa, pk⟩ := x
        simp only at *
        have HD := Lib.hid hd
        have HL := Lib.hid hpl
        clear hd hpl
        by_cases hc : okC c
        · have cC := fun W => isCoef_yes c W hc
          by_cases hpp : pe p = 0
          · have hx := pe_ok hpp
            have cR := fun W h => reduce_new pa pk p W h hx.2 hx.1
            have HN : Hid (r = tes ((tm l).drop (k + 1))) := Lib.hid (by rw [HR.out, HD.out]; unfold te; rw [if_pos hc, if_pos hpp])
            clear hc hpp hx HD HR
            go_wp2_with (first
              | ((with_reducible refine (cC _).mono ?_); clear cC; rintro e w1 ⟨rfl, hw1⟩; have hc1 := Tail.cells hw1; have z1 := Nat.lt_of_lt_of_le (n := wr.heap.size) (by simp) hw1.size)
              | ((with_reducible refine (cR _ (HL.out.later (by repeat (first | (with_reducible exact Below.refl _ _) | (with_reducible refine Below.setCell ?_ ?_ _) | (with_reducible refine Below.drew ?_) | (with_reducible refine Below.alloc ?_ ?_ _) | (with_reducible refine Below.trans ?_ (Below.mono hw1 ?_)) | (with_reducible exact hw1.size) | omega | (simp <;> omega) | (simp <;> (have s := hw1.size; omega)) | (have s0 := hw1.size; (try simp at s0); (try simp); omega))))).mono ?_); clear cR; rintro e w2 ⟨a2, c2, rfl, -, -, hw2⟩))
            go_roundw
            case rel => exact ⟨k + 1, by omega, by go_num, HN, by repeat (first | (with_reducible exact Below.refl _ _) | (with_reducible refine Below.setCell ?_ ?_ _) | (with_reducible refine Below.drew ?_) | (with_reducible refine Below.alloc ?_ ?_ _) | (with_reducible refine Below.trans ?_ (Below.mono hw2 ?_)) | (with_reducible refine Below.trans ?_ (Below.mono hw1 ?_)) | (with_reducible refine Below.trans ?_ (Below.mono hb ?_)) | (with_reducible exact hw2.size) | (with_reducible exact hw1.size) | (with_reducible exact hb.size) | omega | (simp <;> omega) | (simp <;> (have s := hw2.size; omega)) | (simp <;> (have s := hw1.size; omega)) | (simp <;> (have s := hb.size; omega)) | (have s0 := hw2.size; (try simp at s0); have s1 := hw1.size; (try simp at s1); have s2 := hb.size; (try simp at s2); (try simp); omega))⟩
            case measure => simp [intOf]; omega
          · have cR := fun W h => reduce_bad pa pk p (pe p) W h (pe_R p) hpp hpe
            have HN : r = pe p := by rw [HR.out, HD.out]; unfold te; rw [if_pos hc, if_neg hpp]
            rw [← HN] at cR hpp
            have q1 : (r != 0) = true := by simpa using hpp
            clear hc hpp HD HR HN
            go_wp2_with (first
              | ((with_reducible refine (cC _).mono ?_); clear cC; rintro e w1 ⟨rfl, hw1⟩; have hc1 := Tail.cells hw1; have z1 := Nat.lt_of_lt_of_le (n := wr.heap.size) (by simp) hw1.size)
              | ((with_reducible refine (cR _ (HL.out.later (by repeat (first | (with_reducible exact Below.refl _ _) | (with_reducible refine Below.setCell ?_ ?_ _) | (with_reducible refine Below.drew ?_) | (with_reducible refine Below.alloc ?_ ?_ _) | (with_reducible refine Below.trans ?_ (Below.mono hw1 ?_)) | (with_reducible exact hw1.size) | omega | (simp <;> omega) | (simp <;> (have s := hw1.size; omega)) | (have s0 := hw1.size; (try simp at s0); (try simp); omega))))).mono ?_); clear cR; rintro e w2 ⟨rfl, hw2⟩))
            go_ret
            exact ⟨rfl, by repeat (first | (with_reducible exact Below.refl _ _) | (with_reducible refine Below.setCell ?_ ?_ _) | (with_reducible refine Below.drew ?_) | (with_reducible refine Below.alloc ?_ ?_ _) | (with_reducible refine Below.trans ?_ (Below.mono hw2 ?_)) | (with_reducible refine Below.trans ?_ (Below.mono hw1 ?_)) | (with_reducible refine Below.trans ?_ (Below.mono hb ?_)) | (with_reducible exact hw2.size) | (with_reducible exact hw1.size) | (with_reducible exact hb.size) | omega | (simp <;> omega) | (simp <;> (have s := hw2.size; omega)) | (simp <;> (have s := hw1.size; omega)) | (simp <;> (have s := hb.size; omega)) | (have s0 := hw2.size; (try simp at s0); have s1 := hw1.size; (try simp at s1); have s2 := hb.size; (try simp at s2); (try simp); omega))⟩
        · have cC := fun W => isCoef_no c W hc
          have HN : r = 3 := by rw [HR.out, HD.out]; unfold te; rw [if_neg hc, if_neg (by omega)]
          subst HN
          clear hc HD HR
          go_wp2_with ((with_reducible refine (cC _).mono ?_); clear cC; rintro e w1 ⟨rfl, hw1⟩)
          go_ret
          exact ⟨rfl, by repeat (first | (with_reducible exact Below.refl _ _) | (with_reducible refine Below.setCell ?_ ?_ _) | (with_reducible refine Below.drew ?_) | (with_reducible refine Below.alloc ?_ ?_ _) | (with_reducible refine Below.trans ?_ (Below.mono hw1 ?_)) | (with_reducible refine Below.trans ?_ (Below.mono hb ?_)) | (with_reducible exact hw1.size) | (with_reducible exact hb.size) | omega | (simp <;> omega) | (simp <;> (have s := hw1.size; omega)) | (simp <;> (have s := hb.size; omega)) | (have s0 := hw1.size; (try simp at s0); have s1 := hb.size; (try simp at s1); (try simp); omega))⟩
      · obtain rfl : l.length = k := by omega
        have HN : r = 0 := by rw [HR.out, List.drop_of_length_le (by rw [tm_len]; omega)]; rfl
        subst HN
        clear HR
        go_wp2
        go_ret
        exact ⟨rfl, by repeat (first | (with_reducible exact Below.refl _ _) | (with_reducible refine Below.setCell ?_ ?_ _) | (with_reducible refine Below.drew ?_) | (with_reducible refine Below.alloc ?_ ?_ _) | (with_reducible refine Below.trans ?_ (Below.mono hb ?_)) | (with_reducible exact hb.size) | omega | (simp <;> omega) | (simp <;> (have s := hb.size; omega)) | (have s0 := hb.size; (try simp at s0); (try simp); omega))⟩

/-- what a sum is refused for beyond the limits -/
theorem limited_any (B : Nat) (ao : Option Addr) (cap : Nat) (l : List E) (w : World) (h : TrsN w B ao l) (hl : l.length ≤ 1000000) (hp : ∀ e ∈ l, e.p.length ≤ 1000000) : Calls Tryz.prog 87 #[.slice ao l.length cap] w fun e w' => (if vT (tm l) = 0 then e = .returned (.tuple #[.slice ao l.length cap, .int .i64 0]) else e = .returned (.tuple #[.slice none 0 0, .int .i64 3])) ∧ TrsN w' B ao l ∧ Below w.heap.size w w' := by
  have cV := fun W h => validateTerms_any ao cap l W h hl hp
  have H := Lib.hid h
  clear h hp
  by_cases hv : vT (tm l) = 0
  · simp only [if_pos hv]
    rw [hv] at cV
    clear hv
    go_enter Tryz.func87, Tryz.ntmps87
    go_wp2_with ((with_reducible refine (cV _ H.out.o).mono ?_); clear cV; rintro e w1 ⟨rfl, hw1⟩)
    go_ret2
    exact ⟨rfl, H.out.later hw1, by repeat (first | (with_reducible exact Below.refl _ _) | (with_reducible refine Below.setCell ?_ ?_ _) | (with_reducible refine Below.drew ?_) | (with_reducible refine Below.alloc ?_ ?_ _) | (with_reducible refine Below.trans ?_ (Below.mono hw1 ?_)) | (with_reducible exact hw1.size) | omega | (simp <;> omega) | (simp <;> (have s := hw1.size; omega)) | (have s0 := hw1.size; (try simp at s0); (try simp); omega))⟩
  · simp only [if_neg hv]
    generalize vT (tm l) = r at *
    have q1 : (r != 0) = true := by simpa using hv
    clear hv
    go_enter Tryz.func87, Tryz.ntmps87
    go_wp2_with ((with_reducible refine (cV _ H.out.o).mono ?_); clear cV; rintro e w1 ⟨rfl, hw1⟩)
    go_ret2
    exact ⟨rfl, H.out.later hw1, by repeat (first | (with_reducible exact Below.refl _ _) | (with_reducible refine Below.setCell ?_ ?_ _) | (with_reducible refine Below.drew ?_) | (with_reducible refine Below.alloc ?_ ?_ _) | (with_reducible refine Below.trans ?_ (Below.mono hw1 ?_)) | (with_reducible exact hw1.size) | omega | (simp <;> omega) | (simp <;> (have s := hw1.size; omega)) | (have s0 := hw1.size; (try simp at s0); (try simp); omega))⟩
end Go.Proofs.YtjidbajcnomceaaGreat

/- Two reduced paths are joined, as the program does.
Conditions: those written at each theorem. -/
namespace Go.Proofs.YtjidbajcnomceaaGreat
set_option linter.unusedVariables false
set_option linter.unusedSimpArgs false
set_option maxRecDepth 1000000
open Go.RowKit
open Um Tm Lm

theorem cell_keep {W W' : World} {p : Addr} {v : Value} (hb : Below W.heap.size W W') (h : W.cell? p = some v) : W'.cell? p = some v := by
  rw [hb.cell (World.block_lt_of_cell? W _ h)]
  exact h
theorem cell_far2 {W : World} {p1 p2 q : Addr} {a b v : Value} (h : W.cell? q = some v) (h1 : q.block ≠ p1.block) (h2 : q.block ≠ p2.block) : ((W.setCell p1 a).setCell p2 b).cell? q = some v :=
  (grown_setCell _ p2 b).cell ((grown_setCell W p1 a).cell h (by simpa using h1)) (by simpa using h2)
theorem lies_take {w : World} {a : Option Addr} {p : List Int} (h : LiesOI w a p) (m : Nat) : LiesOI w a (p.take m) := by
  rcases h with h | ⟨b, o, rfl, h⟩
  · exact .inl (by rw [h]; simp)
  · refine .inr ⟨b, o, rfl, fun i x hx => h i x ?_⟩
    rw [List.getElem?_take] at hx
    split at hx
    · exact hx
    · cases hx
theorem lies_drop1 {w : World} {b o : Nat} {q : List Int} (h : LiesOI w (some ⟨b, o, none⟩) q) (k : Nat) : LiesOI w (some ⟨b, o + k, none⟩) (q.drop k) := by
  rcases h with h | ⟨b', o', e, h⟩
  · exact .inl (by rw [h]; simp)
  · simp only [Option.some.injEq, Addr.mk.injEq, and_true] at e
    obtain ⟨rfl, rfl⟩ := e
    refine .inr ⟨b, o + k, rfl, fun i x hx => ?_⟩
    rw [List.getElem?_drop] at hx
    rw [Nat.add_assoc]
    exact h (k + i) x hx
theorem lies_drop {w : World} {a : Option Addr} {q : List Int} (h : LiesOI w a q) {k c : Nat} (hc : q.length ≤ c) : LiesOI w (if c = k then a else Option.map (fun x => x.add k) a) (q.drop k) := by
  split
  · rename_i e
    exact .inl (List.drop_eq_nil_of_le (by omega))
  · rcases h with h | ⟨b, o, rfl, h⟩
    · exact .inl (by rw [h]; simp)
    · have ea : Addr.add ⟨b, o, none⟩ k = ⟨b, o + k, none⟩ := by
        unfold Addr.add
        split
        · rename_i h; subst h; rfl
        · rfl
      refine .inr ⟨b, o + k, by rw [Option.map_some, ea], fun i x hx => ?_⟩
      rw [List.getElem?_drop] at hx
      rw [Nat.add_assoc]
      exact h (k + i) x hx

set_option maxHeartbeats 3200000 in
theorem joined_any (a1 a2 : Option Addr) (c1 c2 : Nat) (p q : List Int) (w : World) (h1 : LiesOI w a1 p) (h2 : LiesOI w a2 q) (s2 : ∀ t ∈ q, IsStep t) (p1 : p.length ≤ c1) (p2 : q.length ≤ c2) (n1 : p.length ≤ 1000) (n2 : q.length ≤ 1000) :
    Calls Tryz.prog 111 #[.slice a1 p.length c1, .slice a2 q.length c2] w fun e w' => ∃ ao c, e = .returned (.slice ao (jnL p q).length c) ∧ LiesNI w' w.heap.size ao (jnL p q) ∧ (jnL p q).length ≤ c ∧ Below w.heap.size w w' := by
  have H1 := Lib.hid h1
  have H2 := Lib.hid h2
  have S2 := Lib.hid s2
  clear h1 h2 s2
  have kc := @Tail.cell_re
  have kc1 : ∀ (W : World) (o : Obj) (d : Nat) (os : Array Obj) (a : Addr), a.block ≤ W.heap.size → (Sort.grow (redrawn (W.alloc o) d) os).cell? a = (W.alloc o).cell? a := fun W o d os a h => Tail.cell_re (W.alloc o) d os a (Nat.lt_of_le_of_lt h (by simp))
  obtain ⟨r, hR⟩ : ∃ r, r = jnL p q := ⟨_, rfl⟩
  rw [← hR]
  have HR0 : Hid (r = (jn (p.reverse.drop 0) (q.drop 0)).reverse) := Lib.hid (by simpa [jnL] using hR)
  clear hR
  go_enter Tryz.func111, Tryz.ntmps111
  go_wp2
  go_loopw [5] (fun i wr => ∃ k : Nat, k ≤ p.length ∧ k ≤ q.length ∧ i = .int .i64 k ∧ Hid (r = (jn (p.reverse.drop k) (q.drop k)).reverse) ∧ Below w.heap.size w wr) (fun i _ => p.length - (intOf i).toNat)
  case atStart => exact ⟨0, by omega, by omega, rfl, HR0, Below.refl _ _⟩
  case round =>
    obtain ⟨k, hk1, hk2, rfl, HR, hb⟩ := hrel
    clear HR0
    by_cases hlt : k < p.length ∧ k < q.length
    · obtain ⟨hp, hq⟩ := hlt
      obtain ⟨b1, o1, rfl, hl1⟩ : ∃ b o, a1 = some ⟨b, o, none⟩ ∧ LiesI w b o p := by
        rcases H1.out with h | h
        · subst h; simp at hp
        · exact h
      obtain ⟨b2, o2, rfl, hl2⟩ : ∃ b o, a2 = some ⟨b, o, none⟩ ∧ LiesI w b o q := by
        rcases H2.out with h | h
        · subst h; simp at hq
        · exact h
      have x0 := hl1.later hb (p.length - 1 - k) _ (List.getElem?_eq_getElem (by omega))
      have y0 := hl2.later hb k _ (List.getElem?_eq_getElem hq)
      have lb1 : b1 < wr.heap.size := World.block_lt_of_cell? wr _ x0
      have lb2 : b2 < wr.heap.size := World.block_lt_of_cell? wr _ y0
      have i1 : (k : Int) < (p.length : Int) := by omega
      have i2 : (k : Int) < (q.length : Int) := by omega
      have im : decide ((k : Int) < min (p.length : Int) (q.length : Int)) = true := by simp; omega
      have hn := jn_step hp hq
      have hm := fun h => @jn_stop p q k (.inr (.inr ⟨hp, hq, h⟩))
      have hst := S2.out _ (List.getElem_mem hq)
      obtain ⟨t0, t1, t2⟩ := hst
      generalize p[p.length - 1 - k] = x at *
      generalize q[k] = y at *
      have HN := Lib.hid hn
      have HM := Lib.hid hm
      clear hl1 hl2 hn hm
      by_cases hxy : x = -y
      · have HN2 : Hid (r = (jn (p.reverse.drop (k + 1)) (q.drop (k + 1))).reverse) := Lib.hid (by rw [HR.out, HN.out hxy])
        subst hxy
        clear HN HR HM
        go_wp2
        refine Tail.region_below (by kernel_rfl) (by kernel_rfl) ?_
        repeat (go_big_quiet_step (fail))
        refine wpQuiet_nil ?_
        intro w1 hw1
        go_wp2
        go_roundw
        case rel => exact ⟨k + 1, by omega, by omega, by go_num, HN2, by repeat (first | (with_reducible exact Below.refl _ _) | (with_reducible refine Below.setCell ?_ ?_ _) | (with_reducible refine Below.drew ?_) | (with_reducible refine Below.alloc ?_ ?_ _) | (with_reducible refine Below.trans ?_ (Below.mono hw1 ?_)) | (with_reducible refine Below.trans ?_ (Below.mono hb ?_)) | (with_reducible exact hw1.size) | (with_reducible exact hb.size) | omega | (simp <;> omega) | (simp <;> (have s := hw1.size; omega)) | (simp <;> (have s := hb.size; omega)) | (have s0 := hw1.size; (try simp at s0); have s1 := hb.size; (try simp at s1); (try simp); omega))⟩
        case measure => simp [intOf]; omega
      · have HN2 : Hid (r = p.take (p.length - k) ++ q.drop k) := Lib.hid (by rw [HR.out, HM.out hxy])
        have hxy' : (x == -y) = false := by simpa using hxy
        clear HN HR HM hxy
        go_wp2
        refine Tail.region_below (by kernel_rfl) (by kernel_rfl) ?_
        repeat (go_big_quiet_step (fail))
        refine wpQuiet_nil ?_
        intro w1 hw1
        go_wp2
        apply Made.region_one 9 (.cells #[.slice (some ⟨b1, o1, none⟩) (p.length - k) c1, .slice (some ⟨b2, o2 + k, none⟩) (q.length - k) (c2 - k)] 26) (fun g => .slice (some ⟨g, 0, none⟩) 2 2) (some 40) (by kernel_rfl) (by kernel_rfl) (by kernel_rfl)
        · intro B hB
          have kc := @Tail.cell_re
          simp only [List.take_succ_cons, List.take_zero]
          repeat (go_big_quiet_step (fail))
          exact wpQuiet_nil rfl
        · refine ⟨_, rfl, rfl, fun W => ⟨rfl, ?_⟩⟩
          simp [execOp, go_sem]
        · intro g W hg hW hx
          show wpList _ _ _ (List.drop 10 _) _ _
          simp only [List.drop_succ_cons, List.drop_zero]
          have g0 := Wide.cell_at hx 0 _ rfl
          have g1 := Wide.cell_at hx 1 _ rfl
          have e1 : (p.take (p.length - k)).length = p.length - k := by simp
          have e2 : (q.drop k).length = q.length - k := by simp
          rw [← e1] at g0
          rw [← e2] at g1
          have hb1 : Below w.heap.size w w1 := by repeat (first | (with_reducible exact Below.refl _ _) | (with_reducible refine Below.setCell ?_ ?_ _) | (with_reducible refine Below.drew ?_) | (with_reducible refine Below.alloc ?_ ?_ _) | (with_reducible refine Below.trans ?_ (Below.mono hw1 ?_)) | (with_reducible refine Below.trans ?_ (Below.mono hb ?_)) | (with_reducible exact hw1.size) | (with_reducible exact hb.size) | omega | (simp <;> omega) | (simp <;> (have s := hw1.size; omega)) | (simp <;> (have s := hb.size; omega)) | (have s0 := hw1.size; (try simp at s0); have s1 := hb.size; (try simp at s1); (try simp); omega))
          have hb2 : Below w.heap.size w W := by repeat (first | (with_reducible exact Below.refl _ _) | (with_reducible refine Below.setCell ?_ ?_ _) | (with_reducible refine Below.drew ?_) | (with_reducible refine Below.alloc ?_ ?_ _) | (with_reducible refine Below.trans ?_ (Below.mono hW ?_)) | (with_reducible refine Below.trans ?_ (Below.mono hb1 ?_)) | (with_reducible exact hW.size) | (with_reducible exact hb1.size) | omega | (simp <;> omega) | (simp <;> (have s := hW.size; omega)) | (simp <;> (have s := hb1.size; omega)) | (have s0 := hW.size; (try simp at s0); have s1 := hb1.size; (try simp at s1); (try simp); omega))
          have cC := concat2_any g _ _ c1 _ (p.take (p.length - k)) (q.drop k) W g0 g1 (lies_take (H1.out.later hb2) _) (lies_drop1 (H2.out.later hb2) k) (by omega) (by omega)
          rw [← HN2.out] at cC
          have HB := Lib.hid hb2
          clear g0 g1 e1 e2 hx hb1 hb2 hW hg
          go_wp2_with ((with_reducible refine cC.mono ?_); rintro e w3 ⟨ao, c, rfl, hL, hcap, hw3⟩)
          go_ret
          have hb2 := HB.out
          exact ⟨ao, c, rfl, hL.le hb2.size, hcap, by repeat (first | (with_reducible exact Below.refl _ _) | (with_reducible refine Below.setCell ?_ ?_ _) | (with_reducible refine Below.drew ?_) | (with_reducible refine Below.alloc ?_ ?_ _) | (with_reducible refine Below.trans ?_ (Below.mono hw3 ?_)) | (with_reducible refine Below.trans ?_ (Below.mono hb2 ?_)) | (with_reducible exact hw3.size) | (with_reducible exact hb2.size) | omega | (simp <;> omega) | (simp <;> (have s := hw3.size; omega)) | (simp <;> (have s := hb2.size; omega)) | (have s0 := hw3.size; (try simp at s0); have s1 := hb2.size; (try simp at s1); (try simp); omega))⟩
    · have HN2 : Hid (r = p.take (p.length - k) ++ q.drop k) := Lib.hid (by rw [HR.out, jn_stop (by omega)])
      have im : decide ((k : Int) < min (p.length : Int) (q.length : Int)) = false := by simp; omega
      clear HR
      go_wp2
      refine Tail.region_below (by kernel_rfl) (by kernel_rfl) ?_
      repeat (go_big_quiet_step (fail))
      refine wpQuiet_nil ?_
      intro w1 hw1
      go_wp2
      apply Made.region_one 9 (.cells #[.slice a1 (p.length - k) c1, .slice (if c2 = k then a2 else Option.map (fun x => x.add k) a2) (q.length - k) (c2 - k)] 26) (fun g => .slice (some ⟨g, 0, none⟩) 2 2) (some 40) (by kernel_rfl) (by kernel_rfl) (by kernel_rfl)
      · intro B hB
        have kc := @Tail.cell_re
        simp only [List.take_succ_cons, List.take_zero]
        repeat (go_big_quiet_step (fail))
        exact wpQuiet_nil rfl
      · refine ⟨_, rfl, rfl, fun W => ⟨rfl, ?_⟩⟩
        simp [execOp, go_sem]
      · intro g W hg hW hx
        show wpList _ _ _ (List.drop 10 _) _ _
        simp only [List.drop_succ_cons, List.drop_zero]
        have g0 := Wide.cell_at hx 0 _ rfl
        have g1 := Wide.cell_at hx 1 _ rfl
        have e1 : (p.take (p.length - k)).length = p.length - k := by simp
        have e2 : (q.drop k).length = q.length - k := by simp
        rw [← e1] at g0
        rw [← e2] at g1
        have hb1 : Below w.heap.size w w1 := by repeat (first | (with_reducible exact Below.refl _ _) | (with_reducible refine Below.setCell ?_ ?_ _) | (with_reducible refine Below.drew ?_) | (with_reducible refine Below.alloc ?_ ?_ _) | (with_reducible refine Below.trans ?_ (Below.mono hw1 ?_)) | (with_reducible refine Below.trans ?_ (Below.mono hb ?_)) | (with_reducible exact hw1.size) | (with_reducible exact hb.size) | omega | (simp <;> omega) | (simp <;> (have s := hw1.size; omega)) | (simp <;> (have s := hb.size; omega)) | (have s0 := hw1.size; (try simp at s0); have s1 := hb.size; (try simp at s1); (try simp); omega))
        have hb2 : Below w.heap.size w W := by repeat (first | (with_reducible exact Below.refl _ _) | (with_reducible refine Below.setCell ?_ ?_ _) | (with_reducible refine Below.drew ?_) | (with_reducible refine Below.alloc ?_ ?_ _) | (with_reducible refine Below.trans ?_ (Below.mono hW ?_)) | (with_reducible refine Below.trans ?_ (Below.mono hb1 ?_)) | (with_reducible exact hW.size) | (with_reducible exact hb1.size) | omega | (simp <;> omega) | (simp <;> (have s := hW.size; omega)) | (simp <;> (have s := hb1.size; omega)) | (have s0 := hW.size; (try simp at s0); have s1 := hb1.size; (try simp at s1); (try simp); omega))
        have cC := concat2_any g a1 _ c1 _ (p.take (p.length - k)) (q.drop k) W g0 g1 (lies_take (H1.out.later hb2) _) (lies_drop (H2.out.later hb2) p2) (by omega) (by omega)
        rw [← HN2.out] at cC
        have HB := Lib.hid hb2
        clear g0 g1 e1 e2 hx hb1 hb2 hW hg
        go_wp2_with ((with_reducible refine cC.mono ?_); rintro e w3 ⟨ao, c, rfl, hL, hcap, hw3⟩)
        all_goals
          go_ret
          have hb2 := HB.out
          exact ⟨ao, c, rfl, hL.le hb2.size, hcap, by repeat (first | (with_reducible exact Below.refl _ _) | (with_reducible refine Below.setCell ?_ ?_ _) | (with_reducible refine Below.drew ?_) | (with_reducible refine Below.alloc ?_ ?_ _) | (with_reducible refine Below.trans ?_ (Below.mono hw3 ?_)) | (with_reducible refine Below.trans ?_ (Below.mono hb2 ?_)) | (with_reducible exact hw3.size) | (with_reducible exact hb2.size) | omega | (simp <;> omega) | (simp <;> (have s := hw3.size; omega)) | (simp <;> (have s := hb2.size; omega)) | (have s0 := hw3.size; (try simp at s0); have s1 := hb2.size; (try simp at s1); (try simp); omega))⟩

set_option maxHeartbeats 3200000 in
theorem thenW_any (a1 b1 a2 b2 : Option Addr) (k1 m1 k2 m2 : Nat) (p p' q q' : List Int) (w : World) (h1 : LiesOI w a1 p) (h2 : LiesOI w b1 p') (h3 : LiesOI w a2 q) (h4 : LiesOI w b2 q') (s1 : ∀ t ∈ q, IsStep t) (s2 : ∀ t ∈ p', IsStep t)
    (l1 : p.length ≤ k1) (l2 : p'.length ≤ m1) (l3 : q.length ≤ k2) (l4 : q'.length ≤ m2) (n1 : p.length ≤ 1000) (n2 : p'.length ≤ 1000) (n3 : q.length ≤ 1000) (n4 : q'.length ≤ 1000) :
    Calls Tryz.prog 85 #[.agg #[.slice a1 p.length k1, .slice b1 p'.length m1], .agg #[.slice a2 q.length k2, .slice b2 q'.length m2]] w fun e w' => ∃ a b k m, e = .returned (.agg #[.slice a (jnL p q).length k, .slice b (jnL q' p').length m]) ∧ LiesNI w' w.heap.size a (jnL p q) ∧ (jnL p q).length ≤ k ∧ LiesNI w' w.heap.size b (jnL q' p') ∧ (jnL q' p').length ≤ m ∧ Below w.heap.size w w' := by
  have c1 := fun W (h1 : LiesOI W a1 p) (h3 : LiesOI W a2 q) => joined_any a1 a2 k1 k2 p q W h1 h3 s1 l1 l3 n1 n3
  have c2 := fun W (h4 : LiesOI W b2 q') (h2 : LiesOI W b1 p') => joined_any b2 b1 m2 m1 q' p' W h4 h2 s2 l4 l2 n4 n2
  have H1 := Lib.hid h1
  have H2 := Lib.hid h2
  have H3 := Lib.hid h3
  have H4 := Lib.hid h4
  clear h1 h2 h3 h4 s1 s2
  go_enter Tryz.func85, Tryz.ntmps85
  go_wp2
  obtain ⟨X0, hX0⟩ : ∃ X, ((w.alloc (.cells #[.slice a1 p.length k1, .slice b1 p'.length m1] 117)).alloc (.cells #[.slice a2 q.length k2, .slice b2 q'.length m2] 117)).alloc (.cells #[.slice none 0 0, .slice none 0 0] 117) = X := ⟨_, rfl⟩
  have b0 : Below w.heap.size w X0 := by rw [← hX0]; repeat (first | (with_reducible exact Below.refl _ _) | (with_reducible refine Below.setCell ?_ ?_ _) | (with_reducible refine Below.drew ?_) | (with_reducible refine Below.alloc ?_ ?_ _) | omega | (simp <;> omega))
  have y0 : X0.cell? ⟨w.heap.size, 0, none⟩ = some (.slice a1 p.length k1) := by rw [← hX0]; simp [go_sem]
  have y1 : X0.cell? ⟨w.heap.size, 1, none⟩ = some (.slice b1 p'.length m1) := by rw [← hX0]; simp [go_sem]
  have y2 : X0.cell? ⟨w.heap.size + 1, 0, none⟩ = some (.slice a2 q.length k2) := by rw [← hX0]; simp [go_sem]
  have y3 : X0.cell? ⟨w.heap.size + 1, 1, none⟩ = some (.slice b2 q'.length m2) := by rw [← hX0]; simp [go_sem]
  have T0 : X0.heap[w.heap.size + 2]? = some (.cells #[.slice none 0 0, .slice none 0 0] 117 (0, 0)) := by
    rw [← hX0]
    refine (congrArg (fun i => (World.heap _)[i]?) ?_).trans (World.alloc_heap_new _ _)
    simp
  have z0 : w.heap.size + 2 < X0.heap.size := by rw [← hX0]; simp
  have y4 : X0.cell? ⟨w.heap.size + 2, 0, none⟩ = some (.slice none 0 0) := by rw [← hX0]; simp [go_sem]
  have y5 : X0.cell? ⟨w.heap.size + 2, 1, none⟩ = some (.slice none 0 0) := by rw [← hX0]; simp [go_sem]
  have f4 : ∀ j, X0.frozen? ⟨w.heap.size + 2, j, none⟩ = false := fun j => by rw [← hX0]; simp [go_sem]
  rw [hX0]
  have HT := Lib.hid T0
  clear hX0 T0
  go_region_held3 (fun w' => w'.cell? ⟨w.heap.size, 0, none⟩ = some (.slice a1 p.length k1) ∧ w'.cell? ⟨w.heap.size, 1, none⟩ = some (.slice b1 p'.length m1) ∧ w'.cell? ⟨w.heap.size + 1, 0, none⟩ = some (.slice a2 q.length k2) ∧ w'.cell? ⟨w.heap.size + 1, 1, none⟩ = some (.slice b2 q'.length m2))
    (first
      | (exact ⟨cell_far2 (cell_keep bX1 y0) (by simp <;> omega) (by simp <;> omega), cell_far2 (cell_keep bX1 y1) (by simp <;> omega) (by simp <;> omega), cell_far2 (cell_keep bX1 y2) (by simp <;> omega) (by simp <;> omega), cell_far2 (cell_keep bX1 y3) (by simp <;> omega) (by simp <;> omega)⟩)
      | (exact ⟨cell_far2 (cell_keep bX2 y0) (by simp <;> omega) (by simp <;> omega), cell_far2 (cell_keep bX2 y1) (by simp <;> omega) (by simp <;> omega), cell_far2 (cell_keep bX2 y2) (by simp <;> omega) (by simp <;> omega), cell_far2 (cell_keep bX2 y3) (by simp <;> omega) (by simp <;> omega)⟩)
      | go_keep
      | ((refine ⟨cell_keep (W := X0) ?_ y0, cell_keep (W := X0) ?_ y1, cell_keep (W := X0) ?_ y2, cell_keep (W := X0) ?_ y3⟩) <;> ((repeat (first | (with_reducible exact Below.refl _ _) | (with_reducible refine Below.setCell ?_ ?_ _) | (with_reducible refine Below.drew ?_) | (with_reducible refine Below.alloc ?_ ?_ _) | (with_reducible refine Below.trans ?_ (Below.mono hw1 ?_)) | (with_reducible exact hw1.size) | omega | (simp <;> omega) | (simp <;> (have s := hw1.size; omega)) | (have s0 := hw1.size; (try simp at s0); (try simp); omega))); done))
      | ((refine ⟨cell_keep (W := X0) ?_ y0, cell_keep (W := X0) ?_ y1, cell_keep (W := X0) ?_ y2, cell_keep (W := X0) ?_ y3⟩) <;> ((repeat (first | (with_reducible exact Below.refl _ _) | (with_reducible refine Below.setCell ?_ ?_ _) | (with_reducible refine Below.drew ?_) | (with_reducible refine Below.alloc ?_ ?_ _) | (with_reducible refine Below.trans ?_ (Below.mono hw2 ?_)) | (with_reducible exact hw2.size) | omega | (simp <;> omega) | (simp <;> (have s := hw2.size; omega)) | (have s0 := hw2.size; (try simp at s0); (try simp); omega))); done))
      | ((refine ⟨cell_keep (W := X0) ?_ y0, cell_keep (W := X0) ?_ y1, cell_keep (W := X0) ?_ y2, cell_keep (W := X0) ?_ y3⟩) <;> ((repeat (first | (with_reducible exact Below.refl _ _) | (with_reducible refine Below.setCell ?_ ?_ _) | (with_reducible refine Below.drew ?_) | (with_reducible refine Below.alloc ?_ ?_ _) | (with_reducible refine Below.trans ?_ (Below.mono hw2 ?_)) | (with_reducible refine Below.trans ?_ (Below.mono hw1 ?_)) | (with_reducible exact hw2.size) | (with_reducible exact hw1.size) | omega | (simp <;> omega) | (simp <;> (have s := hw2.size; omega)) | (simp <;> (have s := hw1.size; omega)) | (have s0 := hw2.size; (try simp at s0); have s1 := hw1.size; (try simp at s1); (try simp); omega))); done))
      | ((refine ⟨cell_keep (W := X0) ?_ y0, cell_keep (W := X0) ?_ y1, cell_keep (W := X0) ?_ y2, cell_keep (W := X0) ?_ y3⟩) <;> ((repeat (first | (with_reducible exact Below.refl _ _) | (with_reducible refine Below.setCell ?_ ?_ _) | (with_reducible refine Below.drew ?_) | (with_reducible refine Below.alloc ?_ ?_ _) | (with_reducible refine Below.trans ?_ (Below.mono hw1 ?_)) | (with_reducible refine Below.trans ?_ (Below.mono hw2 ?_)) | (with_reducible exact hw1.size) | (with_reducible exact hw2.size) | omega | (simp <;> omega) | (simp <;> (have s := hw1.size; omega)) | (simp <;> (have s := hw2.size; omega)) | (have s0 := hw1.size; (try simp at s0); have s1 := hw2.size; (try simp at s1); (try simp); omega))); done)))
    ((first
      | ((with_reducible refine (c1 _ ?_ ?_).mono ?_); (focus (refine H1.out.later ?_; (repeat (first | (with_reducible exact Below.refl _ _) | (with_reducible refine Below.setCell ?_ ?_ _) | (with_reducible refine Below.drew ?_) | (with_reducible refine Below.alloc ?_ ?_ _) | (with_reducible refine Below.trans ?_ (Below.mono hw2 ?_)) | (with_reducible refine Below.trans ?_ (Below.mono b0 ?_)) | (with_reducible exact hw2.size) | (with_reducible exact b0.size) | omega | (simp <;> omega) | (simp <;> (have s := hw2.size; omega)) | (simp <;> (have s := b0.size; omega)) | (have s0 := hw2.size; (try simp at s0); have s1 := b0.size; (try simp at s1); (try simp); omega))); done)); (focus (refine H3.out.later ?_; (repeat (first | (with_reducible exact Below.refl _ _) | (with_reducible refine Below.setCell ?_ ?_ _) | (with_reducible refine Below.drew ?_) | (with_reducible refine Below.alloc ?_ ?_ _) | (with_reducible refine Below.trans ?_ (Below.mono hw2 ?_)) | (with_reducible refine Below.trans ?_ (Below.mono b0 ?_)) | (with_reducible exact hw2.size) | (with_reducible exact b0.size) | omega | (simp <;> omega) | (simp <;> (have s := hw2.size; omega)) | (simp <;> (have s := b0.size; omega)) | (have s0 := hw2.size; (try simp at s0); have s1 := b0.size; (try simp at s1); (try simp); omega))); done)); rintro e w1 ⟨ao1, e1, rfl, hl1, hk1, hw1⟩; have HL1 := Lib.hid hl1; clear hl1; have bX1 : Below X0.heap.size X0 w1 := (by repeat (first | (with_reducible exact Below.refl _ _) | (with_reducible refine Below.setCell ?_ ?_ _) | (with_reducible refine Below.drew ?_) | (with_reducible refine Below.alloc ?_ ?_ _) | (with_reducible refine Below.trans ?_ (Below.mono hw1 ?_)) | (with_reducible refine Below.trans ?_ (Below.mono hw2 ?_)) | (with_reducible exact hw1.size) | (with_reducible exact hw2.size) | omega | (simp <;> omega) | (simp <;> (have s := hw1.size; omega)) | (simp <;> (have s := hw2.size; omega)) | (have s0 := hw1.size; (try simp at s0); have s1 := hw2.size; (try simp at s1); (try simp); omega))); have k01 := cell_keep bX1 y4; have k11 := cell_keep bX1 y5; have kf1 := fun j => (bX1.frozen (p := ⟨w.heap.size + 2, j, none⟩) z0).trans (f4 j); have kl1 := Nat.lt_of_lt_of_le z0 bX1.size)
      | ((with_reducible refine (c2 _ ?_ ?_).mono ?_); (focus (refine H4.out.later ?_; (repeat (first | (with_reducible exact Below.refl _ _) | (with_reducible refine Below.setCell ?_ ?_ _) | (with_reducible refine Below.drew ?_) | (with_reducible refine Below.alloc ?_ ?_ _) | (with_reducible refine Below.trans ?_ (Below.mono hw1 ?_)) | (with_reducible refine Below.trans ?_ (Below.mono b0 ?_)) | (with_reducible exact hw1.size) | (with_reducible exact b0.size) | omega | (simp <;> omega) | (simp <;> (have s := hw1.size; omega)) | (simp <;> (have s := b0.size; omega)) | (have s0 := hw1.size; (try simp at s0); have s1 := b0.size; (try simp at s1); (try simp); omega))); done)); (focus (refine H2.out.later ?_; (repeat (first | (with_reducible exact Below.refl _ _) | (with_reducible refine Below.setCell ?_ ?_ _) | (with_reducible refine Below.drew ?_) | (with_reducible refine Below.alloc ?_ ?_ _) | (with_reducible refine Below.trans ?_ (Below.mono hw1 ?_)) | (with_reducible refine Below.trans ?_ (Below.mono b0 ?_)) | (with_reducible exact hw1.size) | (with_reducible exact b0.size) | omega | (simp <;> omega) | (simp <;> (have s := hw1.size; omega)) | (simp <;> (have s := b0.size; omega)) | (have s0 := hw1.size; (try simp at s0); have s1 := b0.size; (try simp at s1); (try simp); omega))); done)); rintro e w2 ⟨ao2, e2, rfl, hl2, hk2, hw2⟩; have HL2 := Lib.hid hl2; clear hl2; have bX2 : Below X0.heap.size X0 w2 := (by repeat (first | (with_reducible exact Below.refl _ _) | (with_reducible refine Below.setCell ?_ ?_ _) | (with_reducible refine Below.drew ?_) | (with_reducible refine Below.alloc ?_ ?_ _) | (with_reducible refine Below.trans ?_ (Below.mono hw1 ?_)) | (with_reducible refine Below.trans ?_ (Below.mono hw2 ?_)) | (with_reducible exact hw1.size) | (with_reducible exact hw2.size) | omega | (simp <;> omega) | (simp <;> (have s := hw1.size; omega)) | (simp <;> (have s := hw2.size; omega)) | (have s0 := hw1.size; (try simp at s0); have s1 := hw2.size; (try simp at s1); (try simp); omega))); have k02 := cell_keep bX2 y4; have k12 := cell_keep bX2 y5; have kf2 := fun j => (bX2.frozen (p := ⟨w.heap.size + 2, j, none⟩) z0).trans (f4 j); have kl2 := Nat.lt_of_lt_of_le z0 bX2.size)))
  · have hb2 := (bX2.block _ z0).trans HT.out
    have gX := grown_setCells (w.heap.size + 2) [.slice ao1 (jnL p q).length e1, .slice ao2 (jnL q' p').length e2] 0 w2
    have hB : Below w.heap.size w w2 := by repeat (first | (with_reducible exact Below.refl _ _) | (with_reducible refine Below.setCell ?_ ?_ _) | (with_reducible refine Below.drew ?_) | (with_reducible refine Below.alloc ?_ ?_ _) | (with_reducible refine Below.trans ?_ (Below.mono bX2 ?_)) | (with_reducible refine Below.trans ?_ (Below.mono b0 ?_)) | (with_reducible exact bX2.size) | (with_reducible exact b0.size) | omega | (simp <;> omega) | (simp <;> (have s := bX2.size; omega)) | (simp <;> (have s := b0.size; omega)) | (have s0 := bX2.size; (try simp at s0); have s1 := b0.size; (try simp at s1); (try simp); omega))
    go_wp2
    refine bodyPost_ret (v := .agg #[.slice ao1 (jnL p q).length e1, .slice ao2 (jnL q' p').length e2]) ?_ rfl ⟨ao1, ao2, e1, e2, rfl, ?_, hk1, ?_, hk2, ?_⟩
    · simp [results, Tryz.results85, go_sem, k02, k12]
    · exact ((HL1.out.le (show w.heap.size ≤ X0.drew.heap.size from b0.size)).later hw2).other gX (two_slices hb2)
    · exact (HL2.out.le (by have := b0.size; have := bX1.size; omega)).other gX (two_slices hb2)
    · exact hB.grown gX hB.size (fun j e => by cases e; omega)
end Go.Proofs.YtjidbajcnomceaaGreat

/- Sums of loops are read, as the program does.
Conditions: those written at each theorem. -/
namespace Go.Proofs.YtjidbajcnomceaaGreat
set_option linter.unusedVariables false
set_option linter.unusedSimpArgs false
set_option maxRecDepth 1000000
open Go.RowKit
open Um Tm Lm

theorem info3T : (Tryz.prog.info? 119).map (fun i => (i.zero, i.size, i.bytes)) = some (some (.agg #[.int .i64 0, .slice none 0 0, .slice none 0 0]), 3, 56) := by kernel_rfl
def rdT (l : List Trm) : List Trm := l.map fun t => (t.1, red t.2)
theorem rdT_take (l : List Trm) (k : Nat) (hk : k < l.length) : rdT (l.take (k + 1)) = rdT (l.take k) ++ [(l[k].1, red l[k].2)] := by
  unfold rdT
  rw [List.take_succ_eq_append_getElem hk, List.map_append]
  rfl
theorem tm3_snoc (l : List T3) (x : T3) : tm3 (l ++ [x]) = tm3 l ++ [(x.c, x.p)] := by simp [tm3]

set_option maxHeartbeats 6400000 in
theorem read_own (ao : Option Addr) (cap : Nat) (l : List E) (w : World) (h : Trs w ao l) (hv : vT (tm l) = 0) :
    Calls Tryz.prog 110 #[.slice ao l.length cap] w fun e w' => ∃ g c, ∃ ts : List T3, e = .returned (.tuple #[.slice (some ⟨g, 0, none⟩) ts.length c, .int .i64 0]) ∧ w'.ownsRow g 119 3 (.slice (some ⟨g, 0, none⟩) ts.length c) ts.length (ts.flatMap tc) ∧ w.heap.size ≤ g ∧ T3N w' (g + 1) ts ∧ tm3 ts = rdT (tm l) ∧ Below w.heap.size w w' := by
  have hok := vT_ok hv
  have hl : l.length ≤ 40 := by have := hok.1; rwa [tm_len] at this
  have hpl : ∀ e ∈ l, e.p.length ≤ 8 ∧ ∀ s ∈ e.p, IsStep s := fun e he => (hok.2 (e.c, e.p) (List.mem_map.2 ⟨e, he, rfl⟩)).2
  have cV := fun W h => validateTerms_any ao cap l W h (by omega) (fun e he => by have := (hpl e he).1; omega)
  rw [hv] at cV
  obtain ⟨i0, hi, hz0, hz1, hz2⟩ := info_parts info3T
  have hl2 : l.length ≤ maxLen := by unfold maxLen; omega
  have hl3 : i0.bytes * l.length ≤ 281474976710656 := by rw [hz2]; omega
  have H := Lib.hid h
  have HP := Lib.hid hpl
  clear h hv hok hpl
  go_enter Tryz.func110, Tryz.ntmps110
  go_wp2_with (first
    | ((with_reducible refine (cV _ (H.out.later (by repeat (first | (with_reducible exact Below.refl _ _) | (with_reducible refine Below.setCell ?_ ?_ _) | (with_reducible refine Below.drew ?_) | (with_reducible refine Below.alloc ?_ ?_ _) | omega | (simp <;> omega))))).mono ?_); clear cV; rintro e w1 ⟨rfl, hw1⟩; have s1 := hw1.size)
    | (at_make; refine wpList_make_own _ rfl _ _ 113 rfl w1.heap.size 119 i0 _ 3 Tryz.underlying113 hi hz0 hz1 _ _ _ l.length rfl rfl rfl hl3 hl2 (Nat.le_refl _) ?_; intro w2 hown hgrow))
  have hb2 : Below w.heap.size w w2 := hw1.grown hgrow (by omega) (by simp)
  have s2 := hgrow.size
  have s3 : w1.heap.size + 1 ≤ w2.heap.size := by
    have := (hown.lt w1.heap.size rfl).2
    omega
  clear hgrow hw1
  generalize w1.heap.size = g at *
  go_loopw [5, 7, 8, 9, 20] (fun f _ _ _ q wr => ∃ (k : Nat) (ts : List T3), k ≤ l.length ∧ q = .int .i64 k ∧ ts.length = k ∧ f = .slice (some ⟨g, 0, none⟩) k l.length ∧ Hid (wr.ownsRow g 119 3 (.slice (some ⟨g, 0, none⟩) k l.length) k (ts.flatMap tc)) ∧ Hid (T3N wr (g + 1) ts) ∧ Hid (tm3 ts = rdT ((tm l).take k)) ∧ Below w.heap.size w wr ∧ g + 1 ≤ wr.heap.size) (fun _ _ _ _ q _ => l.length - (intOf q).toNat)
  case atStart => exact ⟨0, [], by omega, rfl, rfl, rfl, Lib.hid hown, Lib.hid (fun e he => by simp at he), Lib.hid rfl, hb2, s3⟩
  case round =>
    obtain ⟨k, ts, hk, rfl, htl, rfl, HO, HT, HE, hb, hgs⟩ := hrel
    have HTL := Lib.hid htl
    clear hown hb2 s2 s3 htl
    have hbs := hb.size
    by_cases hlt : k < l.length
    · have i1 : (k : Int) < (l.length : Int) := by omega
      obtain ⟨b, off, rfl, x0, x1, hpl⟩ := (H.out.later hb).at_ hlt
      have hpp := HP.out _ (List.getElem_mem hlt)
      have hnext := rdT_take (tm l) k (by rw [tm_len]; exact hlt)
      have hg : (tm l)[k]'(by rw [tm_len]; exact hlt) = (l[k].c, l[k].p) := by simp [tm]
      rw [hg] at hnext
      clear hg
      generalize l[k] = x at *
      obtain ⟨c, p, pa, pk⟩ := x
      simp only at *
      have HN := Lib.hid hnext
      have HL := Lib.hid hpl
      have HPP := Lib.hid hpp.2
      have h8 := hpp.1
      have cW := fun W h => walkOf_ok pa pk p W h HPP.out h8
      clear hnext hpl hpp
      go_wp2_with (first
        | (((with_reducible refine (cW _ (HL.out.later (by repeat (first | (with_reducible exact Below.refl _ _) | (with_reducible refine Below.setCell ?_ ?_ _) | (with_reducible refine Below.drew ?_) | (with_reducible refine Below.alloc ?_ ?_ _) | omega | (simp <;> omega))))).mono ?_); clear cW; rintro e w3 ⟨a1, a2, c1, c2, rfl, hl1, hl2', hn1, hn2, hw3⟩)
           have z3 := Nat.lt_of_lt_of_le (n := wr.heap.size) (by simp) hw3.size
           have hc3 := Tail.cells hw3
           have hb3 : Below w.heap.size w w3 := (by repeat (first | (with_reducible exact Below.refl _ _) | (with_reducible refine Below.setCell ?_ ?_ _) | (with_reducible refine Below.drew ?_) | (with_reducible refine Below.alloc ?_ ?_ _) | (with_reducible refine Below.trans ?_ (Below.mono hw3 ?_)) | (with_reducible refine Below.trans ?_ (Below.mono hb ?_)) | (with_reducible exact hw3.size) | (with_reducible exact hb.size) | omega | (simp <;> omega) | (simp <;> (have s := hw3.size; omega)) | (simp <;> (have s := hb.size; omega)) | (have s0 := hw3.size; (try simp at s0); have s1 := hb.size; (try simp at s1); (try simp); omega)))
           have HO3 := Lib.hid (owned_later (HO.out.alloc _) hw3)
           have HT3 := Lib.hid ((HT.out.later (w1 := wr.alloc _) (by repeat (first | (with_reducible exact Below.refl _ _) | (with_reducible refine Below.setCell ?_ ?_ _) | (with_reducible refine Below.drew ?_) | (with_reducible refine Below.alloc ?_ ?_ _) | omega | (simp <;> omega)))).later hw3)
           have HL1 : Hid (LiesNI w3 (g + 1) a1 (red p)) := Lib.hid (hl1.le (by simp; omega))
           have HL2 : Hid (LiesNI w3 (g + 1) a2 (opp (red p))) := Lib.hid (hl2'.le (by simp; omega))
           have hs3 := hb3.size
           have hgs3 : g + 1 ≤ w3.heap.size := (by omega)
           clear HO HT hl1 hl2' hw3 hb hbs)
        | (at_builtin; refine wpList_append_fits _ rfl (.tmp 33) (.tmp 38) 113 rfl g 119 i0 3 Tryz.underlying113 hi hz1 g k l.length (ts.flatMap tc) rfl ((HO3.out.alloc _).alloc _) ⟨w3.heap.size + 1, 0, none⟩ 1 1 (tc ⟨c, red p, a1, c1, a2, c2⟩) rfl rfl (three_cells rfl (by simp [go_sem]) (by simp [go_sem]) (by simp [go_sem])) (tc_one _) (by omega) ?_; intro w4 hown4 hgrow4))
      have ho : w4.ownsRow g 119 3 (.slice (some ⟨g, 0, none⟩) (k + 1) l.length) (k + 1) ((ts ++ [(⟨c, red p, a1, c1, a2, c2⟩ : T3)]).flatMap tc) := by
        rw [List.flatMap_append]
        simpa using hown4
      have b34 : Below w3.heap.size w3 ((w3.alloc (.cells #[.slice a1 (red p).length c1, .slice a2 (opp (red p)).length c2] 117)).alloc (.cells #[.int .i64 c, .slice a1 (red p).length c1, .slice a2 (opp (red p)).length c2] 119)) := by repeat (first | (with_reducible exact Below.refl _ _) | (with_reducible refine Below.setCell ?_ ?_ _) | (with_reducible refine Below.drew ?_) | (with_reducible refine Below.alloc ?_ ?_ _) | omega | (simp <;> omega))
      have hT4 : T3N w4 (g + 1) (ts ++ [(⟨c, red p, a1, c1, a2, c2⟩ : T3)]) := T3N.snoc ((HT3.out.later b34).grown hgrow4 (by omega)) ⟨(HL1.out.later b34).grown hgrow4 (by omega), (HL2.out.later b34).grown hgrow4 (by omega), hn1, hn2⟩
      have hE4 : tm3 (ts ++ [(⟨c, red p, a1, c1, a2, c2⟩ : T3)]) = rdT ((tm l).take (k + 1)) := by rw [tm3_snoc, HE.out, HN.out]
      have hb4 : Below w.heap.size w w4 := Below.grown (by repeat (first | (with_reducible exact Below.refl _ _) | (with_reducible refine Below.setCell ?_ ?_ _) | (with_reducible refine Below.drew ?_) | (with_reducible refine Below.alloc ?_ ?_ _) | (with_reducible refine Below.trans ?_ (Below.mono hb3 ?_)) | (with_reducible exact hb3.size) | omega | (simp <;> omega) | (simp <;> (have s := hb3.size; omega)) | (have s0 := hb3.size; (try simp at s0); (try simp); omega))) hgrow4 (by simp; omega) (fun j hj => by simp at hj; omega)
      have s4 := hgrow4.size
      simp at s4
      have HO4 := Lib.hid ho
      have HT4 := Lib.hid hT4
      have HE4 := Lib.hid hE4
      clear hown4 hgrow4 ho hT4 hE4 HO3 HT3 HL1 HL2 b34 hb3 HE HN
      go_wp2
      exact ⟨⟨k + 1, _, by omega, by go_num, by simp [HTL.out], rfl, HO4, HT4, HE4, hb4, by omega⟩, by simp [intOf]; omega⟩
    · obtain rfl : l.length = k := by omega
      have hE : tm3 ts = rdT (tm l) := by have := HE.out; rwa [List.take_of_length_le (by rw [tm_len]; omega)] at this
      have HE2 := Lib.hid hE
      have ho : wr.ownsRow g 119 3 (.slice (some ⟨g, 0, none⟩) ts.length l.length) ts.length (ts.flatMap tc) := by
        rw [HTL.out]
        exact HO.out
      have HR := Lib.hid ho
      clear HE hE ho HO
      go_wp2
      go_ret2
      exact ⟨g, l.length, ts, by rw [HTL.out]; rfl, HR.out, by omega, HT.out, HE2.out, hb⟩
theorem read_ok (ao : Option Addr) (cap : Nat) (l : List E) (w : World) (h : Trs w ao l) (hv : vT (tm l) = 0) :
    Calls Tryz.prog 110 #[.slice ao l.length cap] w fun e w' => ∃ a c, ∃ ts : List T3, e = .returned (.tuple #[.slice a ts.length c, .int .i64 0]) ∧ Tr3 w' w.heap.size a ts ∧ tm3 ts = rdT (tm l) ∧ Below w.heap.size w w' :=
  (read_own ao cap l w h hv).mono fun e w' ⟨g, c, ts, he, ho, hg, ht, hr, hb⟩ => ⟨some ⟨g, 0, none⟩, c, ts, he, ⟨.inr ⟨g, 0, rfl, hg, owned_rows tc_len ho⟩, ht.le (by omega)⟩, hr, hb⟩
set_option maxHeartbeats 1600000 in
theorem read_bad (ao : Option Addr) (cap : Nat) (l : List E) (w : World) (h : Trs w ao l) (hv : vT (tm l) ≠ 0) (hl : l.length ≤ 1000000) (hp : ∀ e ∈ l, e.p.length ≤ 1000000) :
    Calls Tryz.prog 110 #[.slice ao l.length cap] w fun e w' => e = .returned (.tuple #[.slice none 0 0, .int .i64 (vT (tm l))]) ∧ Below w.heap.size w w' := by
  have cV := fun W h => validateTerms_any ao cap l W h hl hp
  generalize vT (tm l) = r at *
  have q1 : (r != 0) = true := by simpa using hv
  have H := Lib.hid h
  clear h hv hp
  go_enter Tryz.func110, Tryz.ntmps110
  go_wp2_with ((with_reducible refine (cV _ (H.out.later (by repeat (first | (with_reducible exact Below.refl _ _) | (with_reducible refine Below.setCell ?_ ?_ _) | (with_reducible refine Below.drew ?_) | (with_reducible refine Below.alloc ?_ ?_ _) | omega | (simp <;> omega))))).mono ?_); clear cV; rintro e w1 ⟨rfl, hw1⟩)
  go_ret2
  exact ⟨rfl, by repeat (first | (with_reducible exact Below.refl _ _) | (with_reducible refine Below.setCell ?_ ?_ _) | (with_reducible refine Below.drew ?_) | (with_reducible refine Below.alloc ?_ ?_ _) | (with_reducible refine Below.trans ?_ (Below.mono hw1 ?_)) | (with_reducible exact hw1.size) | omega | (simp <;> omega) | (simp <;> (have s := hw1.size; omega)) | (have s0 := hw1.size; (try simp at s0); (try simp); omega))⟩

set_option maxHeartbeats 1600000 in
theorem readBoth_ok (ao bo : Option Addr) (ca cb : Nat) (l m : List E) (w : World) (h : Trs w ao l) (h2 : Trs w bo m) (hv : vT (tm l) = 0) (hv2 : vT (tm m) = 0) :
    Calls Tryz.prog 84 #[.slice ao l.length ca, .slice bo m.length cb] w fun e w' => ∃ a c b d, ∃ ts us : List T3, e = .returned (.tuple #[.slice a ts.length c, .slice b us.length d, .int .i64 0]) ∧ Tr3 w' w.heap.size a ts ∧ Tr3 w' w.heap.size b us ∧ tm3 ts = rdT (tm l) ∧ tm3 us = rdT (tm m) ∧ Below w.heap.size w w' := by
  have c1 := fun W h => read_ok ao ca l W h hv
  have c2 := fun W h => read_ok bo cb m W h hv2
  have H := Lib.hid h
  have H2 := Lib.hid h2
  clear h h2 hv hv2
  go_enter Tryz.func84, Tryz.ntmps84
  go_wp2_with (fail)
  refine (c1 _ (H.out.later (by repeat (first | (with_reducible exact Below.refl _ _) | (with_reducible refine Below.setCell ?_ ?_ _) | (with_reducible refine Below.drew ?_) | (with_reducible refine Below.alloc ?_ ?_ _) | omega | (simp <;> omega))))).mono ?_
  rintro e w1 ⟨a, c, ts, rfl, ht, he, hw1⟩
  have HT := Lib.hid ht
  have HE := Lib.hid he
  clear ht he c1
  go_wp2_with (fail)
  refine (c2 _ (H2.out.later (by repeat (first | (with_reducible exact Below.refl _ _) | (with_reducible refine Below.setCell ?_ ?_ _) | (with_reducible refine Below.drew ?_) | (with_reducible refine Below.alloc ?_ ?_ _) | (with_reducible refine Below.trans ?_ (Below.mono hw1 ?_)) | (with_reducible exact hw1.size) | omega | (simp <;> omega) | (simp <;> (have s := hw1.size; omega)) | (have s0 := hw1.size; (try simp at s0); (try simp); omega))))).mono ?_
  rintro e w2 ⟨b, d, us, rfl, hu, he2, hw2⟩
  have HU := Lib.hid hu
  have HE2 := Lib.hid he2
  clear hu he2 c2
  go_wp2_with (fail)
  refine bodyPost_ret (v := .tuple #[.slice a ts.length c, .slice b us.length d, .int .i64 0]) ?_ rfl ⟨a, c, b, d, ts, us, rfl, (HT.out.le ?_).later hw2, HU.out.le ?_, HE.out, HE2.out, ?_⟩
  · simp [results, Tryz.results84, go_sem]
  · exact Nat.le_refl _
  · exact hw1.size
  · repeat (first | (with_reducible exact Below.refl _ _) | (with_reducible refine Below.setCell ?_ ?_ _) | (with_reducible refine Below.drew ?_) | (with_reducible refine Below.alloc ?_ ?_ _) | (with_reducible refine Below.trans ?_ (Below.mono hw2 ?_)) | (with_reducible refine Below.trans ?_ (Below.mono hw1 ?_)) | (with_reducible exact hw2.size) | (with_reducible exact hw1.size) | omega | (simp <;> omega) | (simp <;> (have s := hw2.size; omega)) | (simp <;> (have s := hw1.size; omega)) | (have s0 := hw2.size; (try simp at s0); have s1 := hw1.size; (try simp at s1); (try simp); omega))
set_option maxHeartbeats 1600000 in
theorem readBoth_bad (ao bo : Option Addr) (ca cb : Nat) (l m : List E) (r : Int) (w : World) (h : Trs w ao l) (h2 : Trs w bo m) (hr : r = if vT (tm l) = 0 then vT (tm m) else vT (tm l)) (h0 : r ≠ 0) (hl : l.length ≤ 1000000) (hp : ∀ e ∈ l, e.p.length ≤ 1000000) (hm : m.length ≤ 1000000) (hq : ∀ e ∈ m, e.p.length ≤ 1000000) :
    Calls Tryz.prog 84 #[.slice ao l.length ca, .slice bo m.length cb] w fun e w' => e = .returned (.tuple #[.slice none 0 0, .slice none 0 0, .int .i64 r]) ∧ Below w.heap.size w w' := by
  have q1 : (r != 0) = true := by simpa using h0
  by_cases hv : vT (tm l) = 0
  · rw [if_pos hv] at hr
    have c1 := fun W h => read_ok ao ca l W h hv
    have c2 := fun W h => read_bad bo cb m W h (by rw [← hr]; exact h0) hm hq
    rw [← hr] at c2
    have H := Lib.hid h
    have H2 := Lib.hid h2
    clear h h2 hv hr h0 hp hq
    go_enter Tryz.func84, Tryz.ntmps84
    go_wp2_with (fail)
    refine (c1 _ (H.out.later (by repeat (first | (with_reducible exact Below.refl _ _) | (with_reducible refine Below.setCell ?_ ?_ _) | (with_reducible refine Below.drew ?_) | (with_reducible refine Below.alloc ?_ ?_ _) | omega | (simp <;> omega))))).mono ?_
    rintro e w1 ⟨a, c, ts, rfl, -, -, hw1⟩
    clear c1
    go_wp2_with (fail)
    refine (c2 _ (H2.out.later (by repeat (first | (with_reducible exact Below.refl _ _) | (with_reducible refine Below.setCell ?_ ?_ _) | (with_reducible refine Below.drew ?_) | (with_reducible refine Below.alloc ?_ ?_ _) | (with_reducible refine Below.trans ?_ (Below.mono hw1 ?_)) | (with_reducible exact hw1.size) | omega | (simp <;> omega) | (simp <;> (have s := hw1.size; omega)) | (have s0 := hw1.size; (try simp at s0); (try simp); omega))))).mono ?_
    rintro e w2 ⟨rfl, hw2⟩
    clear c2
    go_wp2_with (fail)
    refine bodyPost_ret (v := .tuple #[.slice none 0 0, .slice none 0 0, .int .i64 r]) ?_ rfl ⟨rfl, ?_⟩
    · simp [results, Tryz.results84, go_sem]
    · repeat (first | (with_reducible exact Below.refl _ _) | (with_reducible refine Below.setCell ?_ ?_ _) | (with_reducible refine Below.drew ?_) | (with_reducible refine Below.alloc ?_ ?_ _) | (with_reducible refine Below.trans ?_ (Below.mono hw2 ?_)) | (with_reducible refine Below.trans ?_ (Below.mono hw1 ?_)) | (with_reducible exact hw2.size) | (with_reducible exact hw1.size) | omega | (simp <;> omega) | (simp <;> (have s := hw2.size; omega)) | (simp <;> (have s := hw1.size; omega)) | (have s0 := hw2.size; (try simp at s0); have s1 := hw1.size; (try simp at s1); (try simp); omega))
  · rw [if_neg hv] at hr
    have c1 := fun W h => read_bad ao ca l W h hv hl hp
    rw [← hr] at c1
    have H := Lib.hid h
    clear h h2 hv hr h0 hp hq
    go_enter Tryz.func84, Tryz.ntmps84
    go_wp2_with (fail)
    refine (c1 _ (H.out.later (by repeat (first | (with_reducible exact Below.refl _ _) | (with_reducible refine Below.setCell ?_ ?_ _) | (with_reducible refine Below.drew ?_) | (with_reducible refine Below.alloc ?_ ?_ _) | omega | (simp <;> omega))))).mono ?_
    rintro e w1 ⟨rfl, hw1⟩
    clear c1
    go_wp2_with (fail)
    refine bodyPost_ret (v := .tuple #[.slice none 0 0, .slice none 0 0, .int .i64 r]) ?_ rfl ⟨rfl, ?_⟩
    · simp [results, Tryz.results84, go_sem]
    · repeat (first | (with_reducible exact Below.refl _ _) | (with_reducible refine Below.setCell ?_ ?_ _) | (with_reducible refine Below.drew ?_) | (with_reducible refine Below.alloc ?_ ?_ _) | (with_reducible refine Below.trans ?_ (Below.mono hw1 ?_)) | (with_reducible exact hw1.size) | omega | (simp <;> omega) | (simp <;> (have s := hw1.size; omega)) | (have s0 := hw1.size; (try simp at s0); (try simp); omega))
end Go.Proofs.YtjidbajcnomceaaGreat
