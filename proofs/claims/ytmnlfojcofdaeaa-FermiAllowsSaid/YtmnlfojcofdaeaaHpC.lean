/- The arms of a hopping in memory: a row of arms for each site, in a table.
Conditions: those written at each theorem. -/
import Derived.Test.YtmnlfojcofdaeaaMulV
import Derived.Test.YtmnlfojcofdaeaaFpM
namespace Go.Proofs.Ytmnlfojcofdaeaa
set_option linter.unusedVariables false
set_option linter.unusedSimpArgs false
set_option maxRecDepth 1000000
open Go.RowKit
open Um Tm Fm

/-- the cells of an arm -/
def a5 (x : Arm) : List Value := [vi x.frm, vi x.q.w.a, vi x.q.w.b, vi x.q.w.c, vi x.q.w.d]
def av (A : List Arm) : List Value := A.flatMap a5
theorem av_nil : av [] = [] := rfl
theorem av_snoc (A : List Arm) (x : Arm) : av (A ++ [x]) = av A ++ a5 x := by simp [av]
theorem av_at : ∀ {A : List Arm} {j : Nat} {x : Arm}, A[j]? = some x → (av A)[j * 5]? = some (vi x.frm) ∧ (av A)[j * 5 + 1]? = some (vi x.q.w.a) ∧ (av A)[j * 5 + 2]? = some (vi x.q.w.b) ∧ (av A)[j * 5 + 3]? = some (vi x.q.w.c) ∧ (av A)[j * 5 + 4]? = some (vi x.q.w.d)
  | [], j, x, h => by simp at h
  | y :: A, 0, x, h => by simp at h; subst h; simp [av, a5]
  | y :: A, j + 1, x, h => by
    have k := av_at (A := A) (j := j) (x := x) (by simpa using h)
    have e : ∀ m, (av (y :: A))[(j + 1) * 5 + m]? = (av A)[j * 5 + m]? := fun m => by
      rw [show (j + 1) * 5 + m = (j * 5 + m) + 1 + 1 + 1 + 1 + 1 by omega]
      simp [av, a5]
    refine ⟨(e 0).trans k.1, (e 1).trans k.2.1, (e 2).trans k.2.2.1, (e 3).trans k.2.2.2.1, (e 4).trans k.2.2.2.2⟩
theorem infoA : (Try.prog.info? 112).map (fun i => (i.zero, i.size, i.bytes)) = some (some (.agg #[.int .i64 0, .int .i64 0, .int .i64 0, .int .i64 0, .int .i64 0]), 5, 40) := by kernel_rfl
theorem a5_ones (x : Arm) : ∀ u ∈ a5 x, u.oneCell' = true := fun u hu => by
  simp [a5] at hu
  rcases hu with rfl | rfl | rfl | rfl | rfl <;> rfl
/-- a table of rows of arms that a call has made from the block base on -/
structure Hp (w : World) (base g n : Nat) (vs : Nat → Value) (R : Nat → List Arm) : Prop where
  cell : ∀ s, s < n → w.cell? ⟨g, s, none⟩ = some (vs s)
  own : ∀ s, s < n → w.ownsRow base 112 5 (vs s) (R s).length (av (R s))
  far : ∀ s, s < n → (vs s).ownBlock ≠ some g
  apart : ∀ s t, s < n → t < n → s ≠ t → (vs s).ownBlock = none ∨ (vs s).ownBlock ≠ (vs t).ownBlock
  free : ∀ j, w.frozen? ⟨g, j, none⟩ = false
  lt : g < w.heap.size
theorem Hp.later {w w1 : World} {base g n : Nat} {vs : Nat → Value} {R : Nat → List Arm} (h : Hp w base g n vs R) (hb : Below w.heap.size w w1) : Hp w1 base g n vs R where
  cell s hs := (hb.cell (p := ⟨g, s, none⟩) h.lt).trans (h.cell s hs)
  own s hs := (h.own s hs).kept (row := none) (grown_below hb) (by cases (vs s).ownBlock <;> simp)
  far := h.far
  apart := h.apart
  free j := (hb.frozen (p := ⟨g, j, none⟩) h.lt).trans (h.free j)
  lt := Nat.lt_of_lt_of_le h.lt hb.size
/-- a write to another block than the table and its rows -/
theorem Hp.other {w w1 : World} {base g n b : Nat} {vs : Nat → Value} {R : Nat → List Arm} (h : Hp w base g n vs R) (hg : w.grownBy w1 (some b)) (hne : g ≠ b) (hr : ∀ s, s < n → (vs s).ownBlock ≠ some b) : Hp w1 base g n vs R where
  cell s hs := hg.cell (h.cell s hs) (by simp; exact hne)
  own s hs := (h.own s hs).kept hg (.inr (hr s hs))
  far := h.far
  apart := h.apart
  free j := (World.frozen?_of_block (a := ⟨g, j, none⟩) (hg.block g h.lt (by simp; exact hne))).trans (h.free j)
  lt := Nat.lt_of_lt_of_le h.lt hg.size
def upd {α : Type} (f : Nat → α) (s : Nat) (v : α) : Nat → α := fun i => if i = s then v else f i
theorem upd_same {α : Type} (f : Nat → α) (s : Nat) (v : α) : upd f s v s = v := if_pos rfl
theorem upd_other {α : Type} (f : Nat → α) {s t : Nat} (v : α) (h : t ≠ s) : upd f s v t = f t := if_neg h
/-- an arm is appended to a row, and the row is put into the table -/
theorem Hp.push {w w2 : World} {base g n s k cap : Nat} {vs : Nat → Value} {R : Nat → List Arm} {x : Arm} (h : Hp w base g n vs R) (hs : s < n)
    (hown : w2.ownsRow base 112 5 (.slice (some ⟨k, 0, none⟩) ((R s).length + 1) cap) ((R s).length + 1) (av (R s) ++ a5 x)) (hgr : w.grownBy w2 (vs s).ownBlock) (H : Nat) (hH : w.heap.size = H) (hat : (vs s).ownBlock = some k ∨ k = H) :
    Hp (w2.setCell ⟨g, s, none⟩ (.slice (some ⟨k, 0, none⟩) ((R s).length + 1) cap)) base g n (upd vs s (.slice (some ⟨k, 0, none⟩) ((R s).length + 1) cap)) (upd R s (R s ++ [x])) := by
  subst hH
  have hkg : k ≠ g := by
    rcases hat with h1 | h1
    · exact fun e => h.far s hs (by rw [h1, e])
    · have := h.lt; omega
  have hg2 : w2.heap[g]? = w.heap[g]? := hgr.block g h.lt (fun e => h.far s hs e.symm)
  have hset := grown_setCell w2 ⟨g, s, none⟩ (.slice (some ⟨k, 0, none⟩) ((R s).length + 1) cap)
  have hblk : (Value.slice (some ⟨k, 0, none⟩) ((R s).length + 1) cap).ownBlock = some k := rfl
  have hkt : ∀ t, t < n → t ≠ s → (vs t).ownBlock ≠ some k := fun t ht hne e => by
    rcases hat with h1 | h1
    · rcases h.apart t s ht hs hne with h2 | h2
      · rw [h2] at e; cases e
      · exact h2 (by rw [e, h1])
    · have := (h.own t ht).lt k e
      omega
  constructor
  · intro t ht
    by_cases he : t = s
    · subst he
      rw [upd_same]
      exact World.cell?_setCell_same _ _ _ ((World.cell?_of_block (a := ⟨g, t, none⟩) hg2).trans (h.cell t ht))
    · rw [upd_other _ _ he, World.cell?_setCell_other _ _ _ _ (by simp <;> omega)]
      exact (World.cell?_of_block (a := ⟨g, t, none⟩) hg2).trans (h.cell t ht)
  · intro t ht
    by_cases he : t = s
    · subst he
      rw [upd_same, upd_same, av_snoc, List.length_append]
      exact hown.kept hset (.inr (by rw [hblk]; simp; exact hkg))
    · rw [upd_other _ _ he, upd_other _ _ he]
      refine ((h.own t ht).kept hgr ?_).kept hset (.inr (h.far t ht))
      rcases h.apart t s ht hs he with h2 | h2
      · exact .inl h2
      · exact .inr h2
  · intro t ht
    by_cases he : t = s
    · subst he; rw [upd_same, hblk]; simp; exact hkg
    · rw [upd_other _ _ he]; exact h.far t ht
  · intro t u ht hu hne
    by_cases h1 : t = s
    · subst h1
      have : u ≠ t := fun e => hne e.symm
      rw [upd_same, upd_other _ _ this, hblk]
      exact .inr (fun e => hkt u hu this e.symm)
    · rw [upd_other _ _ h1]
      by_cases h2 : u = s
      · subst h2
        rw [upd_same, hblk]
        exact .inr (hkt t ht h1)
      · rw [upd_other _ _ h2]; exact h.apart t u ht hu hne
  · intro j
    rw [World.frozen?_setCell]
    exact (World.frozen?_of_block (a := ⟨g, j, none⟩) hg2).trans (h.free j)
  · simp [World.setCell]
    exact Nat.lt_of_lt_of_le h.lt hgr.size
/-- what a row looks like -/
theorem Hp.form {w : World} {base g n s : Nat} {vs : Nat → Value} {R : Nat → List Arm} (h : Hp w base g n vs R) (hs : s < n) : ∃ ao cap, vs s = .slice ao (R s).length cap ∧ ∀ j x, (R s)[j]? = some x → ∃ b, ao = some ⟨b, 0, none⟩ ∧ w.cell? ⟨b, j * 5, none⟩ = some (.int .i64 x.frm) ∧ w.cell? ⟨b, j * 5 + 1, none⟩ = some (.int .i64 x.q.w.a) ∧ w.cell? ⟨b, j * 5 + 2, none⟩ = some (.int .i64 x.q.w.b) ∧ w.cell? ⟨b, j * 5 + 3, none⟩ = some (.int .i64 x.q.w.c) ∧ w.cell? ⟨b, j * 5 + 4, none⟩ = some (.int .i64 x.q.w.d) := by
  have ho := h.own s hs
  rcases ho.2 with ⟨h1, h2⟩ | ⟨b, cap, cur, h1, -⟩
  · refine ⟨none, 0, by rw [h1, h2], fun j x hx => ?_⟩
    have : j < (R s).length := (List.getElem?_eq_some_iff.1 hx).1
    omega
  · refine ⟨some ⟨b, 0, none⟩, cap, h1, fun j x hx => ⟨b, rfl, ?_⟩⟩
    rw [h1] at ho
    have hj : j < (R s).length := (List.getElem?_eq_some_iff.1 hx).1
    obtain ⟨k0, k1, k2, k3, k4⟩ := av_at hx
    exact ⟨(ho.cellAt _ (by omega)).trans k0, (ho.cellAt _ (by omega)).trans k1, (ho.cellAt _ (by omega)).trans k2, (ho.cellAt _ (by omega)).trans k3, (ho.cellAt _ (by omega)).trans k4⟩
end Go.Proofs.Ytmnlfojcofdaeaa
