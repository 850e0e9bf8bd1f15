/- When a path is closed, as the document's answers find it.
Conditions: the list lies in memory as it is written at each theorem. -/
import Derived.Test.YtjidbajcnomceaaGreatPathA
namespace Go.Proofs.YtjidbajcnomceaaGreat
set_option linter.unusedVariables false
set_option linter.unusedSimpArgs false
set_option maxRecDepth 1000000
open Go.RowKit
open Tm

structure SBox (w : World) (b : Nat) (x y z : Int) : Prop where
  c0 : w.cell? ⟨b, 0, none⟩ = some (.int .i64 x)
  c1 : w.cell? ⟨b, 1, none⟩ = some (.int .i64 y)
  c2 : w.cell? ⟨b, 2, none⟩ = some (.int .i64 z)
  free : ∀ j, w.frozen? ⟨b, j, none⟩ = false
  lt : b < w.heap.size
theorem setCell_grown3 (w : World) (p : Addr) (v : Value) : w.grownBy (w.setCell p v) (some p.block) :=
  ⟨rfl, rfl, rfl, by simp [World.setCell], fun k _ hk => heap_setCell_other w p k v (fun e => hk (by simp [e]))⟩

theorem clo_cases (a b c : Int) (l : List Int) (q : Bool) (hq : (Clo a b c l ∧ q = true) ∨ (¬ Clo a b c l ∧ q = false)) :
    ((((sm 1 l).tmod a == 0) = true) ∧ (((sm 2 l).tmod b == 0) = true) ∧ (((sm 3 l).tmod c == 0) = true) ∧ q = true) ∨ ((((sm 1 l).tmod a == 0) = false) ∧ q = false) ∨ ((((sm 1 l).tmod a == 0) = true) ∧ (((sm 2 l).tmod b == 0) = false) ∧ q = false) ∨ ((((sm 1 l).tmod a == 0) = true) ∧ (((sm 2 l).tmod b == 0) = true) ∧ (((sm 3 l).tmod c == 0) = false) ∧ q = false) := by
  have h : ∀ x n : Int, (x.tmod n == 0) = true ↔ n ∣ x := fun x n => by
    rw [beq_iff_eq]
    exact ⟨Int.dvd_of_tmod_eq_zero, Int.tmod_eq_zero_of_dvd⟩
  have f : ∀ x n : Int, ¬ n ∣ x → (x.tmod n == 0) = false := fun x n hn => by
    cases hb : (x.tmod n == 0)
    · rfl
    · exact absurd ((h x n).1 hb) hn
  by_cases h1 : a ∣ sm 1 l
  · by_cases h2 : b ∣ sm 2 l
    · by_cases h3 : c ∣ sm 3 l
      · refine .inl ⟨(h _ _).2 h1, (h _ _).2 h2, (h _ _).2 h3, ?_⟩
        rcases hq with ⟨_, h⟩ | ⟨hn, _⟩
        · exact h
        · exact absurd ⟨h1, h2, h3⟩ hn
      · refine .inr (.inr (.inr ⟨(h _ _).2 h1, (h _ _).2 h2, f _ _ h3, ?_⟩))
        rcases hq with ⟨hn, _⟩ | ⟨_, h⟩
        · exact absurd hn.2.2 h3
        · exact h
    · refine .inr (.inr (.inl ⟨(h _ _).2 h1, f _ _ h2, ?_⟩))
      rcases hq with ⟨hn, _⟩ | ⟨_, h⟩
      · exact absurd hn.2.1 h2
      · exact h
  · refine .inr (.inl ⟨f _ _ h1, ?_⟩)
    rcases hq with ⟨hn, _⟩ | ⟨_, h⟩
    · exact absurd hn.1 h1
    · exact h

set_option maxHeartbeats 3200000 in
theorem refClosed_some (a b c : Int) (q : Bool) (ba off cap : Nat) (l : List Int) (w : World) (hz : Sz a b c) (h : LiesI w ba off l) (hs : ∀ t ∈ l, IsStep t) (h8 : l.length ≤ 8) (hq : (Clo a b c l ∧ q = true) ∨ (¬ Clo a b c l ∧ q = false)) : Calls Tryz.prog 33 #[.agg #[.int .i64 a, .int .i64 b, .int .i64 c], .slice (some ⟨ba, off, none⟩) l.length cap] w fun e w' => e = .returned (.bool q) ∧ Below w.heap.size w w' := by
  have H := Lib.hid h
  have HS := Lib.hid hs
  have HC := Lib.hid (clo_cases a b c l q hq)
  obtain ⟨a1, a4, b1, b4, c1, c4, -⟩ := hz
  have a0 : (a == 0) = false := by simp; omega
  have b0 : (b == 0) = false := by simp; omega
  have c0 : (c == 0) = false := by simp; omega
  clear h hs hq
  go_enter Tryz.func33, Tryz.ntmps33
  go_wp2
  have hbx : ABox ((w.alloc (.cells #[.int .i64 a, .int .i64 b, .int .i64 c] 22)).alloc (.cells #[.int .i64 0, .int .i64 0, .int .i64 0] 22)) w.heap.size a b c := ⟨by simp [go_sem], by simp [go_sem], by simp [go_sem], by simp <;> omega⟩
  have hsb : SBox ((w.alloc (.cells #[.int .i64 a, .int .i64 b, .int .i64 c] 22)).alloc (.cells #[.int .i64 0, .int .i64 0, .int .i64 0] 22)) (w.heap.size + 1) 0 0 0 := ⟨by simp [go_sem], by simp [go_sem], by simp [go_sem], fun j => by simp [go_sem], by simp⟩
  have hB : Below w.heap.size w ((w.alloc (.cells #[.int .i64 a, .int .i64 b, .int .i64 c] 22)).alloc (.cells #[.int .i64 0, .int .i64 0, .int .i64 0] 22)) := by repeat (first | (with_reducible exact Below.refl _ _) | (with_reducible refine Below.setCell ?_ ?_ _) | (with_reducible refine Below.drew ?_) | (with_reducible refine Below.alloc ?_ ?_ _) | omega | (simp <;> omega))
  go_loopw [6] (fun q wr => ∃ (k : Nat) (x y z : Int), k ≤ l.length ∧ q = .int .i64 k ∧ Hid (x = sm 1 (l.take k)) ∧ Hid (y = sm 2 (l.take k)) ∧ Hid (z = sm 3 (l.take k)) ∧ ABox wr w.heap.size a b c ∧ SBox wr (w.heap.size + 1) x y z ∧ Below w.heap.size w wr) (fun q _ => l.length - (intOf q).toNat)
  case atStart => exact ⟨0, 0, 0, 0, by omega, rfl, Lib.hid rfl, Lib.hid rfl, Lib.hid rfl, hbx, hsb, hB⟩
  case round =>
    obtain ⟨k, x, y, z, hk, rfl, X1, X2, X3, hbx1, hsb1, hb⟩ := hrel
    clear hbx hsb hB
    have hbs := hb.size
    obtain ⟨s0, s1, s2, sf, sl⟩ := hsb1
    have n1 := sm_bnd 1 l k hk
    have n2 := sm_bnd 2 l k hk
    have n3 := sm_bnd 3 l k hk
    rw [← X1.out] at n1
    rw [← X2.out] at n2
    rw [← X3.out] at n3
    obtain ⟨n1a, n1b⟩ := n1
    obtain ⟨n2a, n2b⟩ := n2
    obtain ⟨n3a, n3b⟩ := n3
    by_cases hlt : k < l.length
    · have x1 := H.out.later hb k _ (List.getElem?_eq_getElem hlt)
      have ht := HS.out _ (List.getElem_mem hlt)
      have e1 := sm_take 1 l k hlt
      have e2 := sm_take 2 l k hlt
      have e3 := sm_take 3 l k hlt
      have hlb := hbx1.lt
      generalize l[k] = t at *
      rcases step_six ht with rfl | rfl | rfl | rfl | rfl | rfl
      · have F1 : Hid (x + 1 = sm 1 (l.take (k + 1))) := Lib.hid (by rw [e1, ← X1.out]; simp [dlt, Int.sub_eq_add_neg])
        have F2 : Hid (y = sm 2 (l.take (k + 1))) := Lib.hid (by rw [e2, ← X2.out]; simp [dlt])
        have F3 : Hid (z = sm 3 (l.take (k + 1))) := Lib.hid (by rw [e3, ← X3.out]; simp [dlt])
        clear e1 e2 e3 ht
        go_wp2
        exact ⟨⟨k + 1, _, _, _, by omega, by go_num, F1, F2, F3, hbx1.grown (setCell_grown3 _ _ _) (by simp), ⟨by simp [go_sem, s0, s1, s2], by simp [go_sem, s0, s1, s2], by simp [go_sem, s0, s1, s2], fun j => by simp [sf], by simp [World.setCell]; exact sl⟩, by repeat (first | (with_reducible exact Below.refl _ _) | (with_reducible refine Below.setCell ?_ ?_ _) | (with_reducible refine Below.drew ?_) | (with_reducible refine Below.alloc ?_ ?_ _) | (with_reducible refine Below.trans ?_ (Below.mono hb ?_)) | (with_reducible exact hb.size) | omega | (simp <;> omega) | (simp <;> (have s := hb.size; omega)) | (have s0 := hb.size; (try simp at s0); (try simp); omega))⟩, by simp [intOf]; omega⟩
      · have F1 : Hid (x = sm 1 (l.take (k + 1))) := Lib.hid (by rw [e1, ← X1.out]; simp [dlt])
        have F2 : Hid (y + 1 = sm 2 (l.take (k + 1))) := Lib.hid (by rw [e2, ← X2.out]; simp [dlt, Int.sub_eq_add_neg])
        have F3 : Hid (z = sm 3 (l.take (k + 1))) := Lib.hid (by rw [e3, ← X3.out]; simp [dlt])
        clear e1 e2 e3 ht
        go_wp2
        exact ⟨⟨k + 1, _, _, _, by omega, by go_num, F1, F2, F3, hbx1.grown (setCell_grown3 _ _ _) (by simp), ⟨by simp [go_sem, s0, s1, s2], by simp [go_sem, s0, s1, s2], by simp [go_sem, s0, s1, s2], fun j => by simp [sf], by simp [World.setCell]; exact sl⟩, by repeat (first | (with_reducible exact Below.refl _ _) | (with_reducible refine Below.setCell ?_ ?_ _) | (with_reducible refine Below.drew ?_) | (with_reducible refine Below.alloc ?_ ?_ _) | (with_reducible refine Below.trans ?_ (Below.mono hb ?_)) | (with_reducible exact hb.size) | omega | (simp <;> omega) | (simp <;> (have s := hb.size; omega)) | (have s0 := hb.size; (try simp at s0); (try simp); omega))⟩, by simp [intOf]; omega⟩
      · have F1 : Hid (x = sm 1 (l.take (k + 1))) := Lib.hid (by rw [e1, ← X1.out]; simp [dlt])
        have F2 : Hid (y = sm 2 (l.take (k + 1))) := Lib.hid (by rw [e2, ← X2.out]; simp [dlt])
        have F3 : Hid (z + 1 = sm 3 (l.take (k + 1))) := Lib.hid (by rw [e3, ← X3.out]; simp [dlt, Int.sub_eq_add_neg])
        clear e1 e2 e3 ht
        go_wp2
        exact ⟨⟨k + 1, _, _, _, by omega, by go_num, F1, F2, F3, hbx1.grown (setCell_grown3 _ _ _) (by simp), ⟨by simp [go_sem, s0, s1, s2], by simp [go_sem, s0, s1, s2], by simp [go_sem, s0, s1, s2], fun j => by simp [sf], by simp [World.setCell]; exact sl⟩, by repeat (first | (with_reducible exact Below.refl _ _) | (with_reducible refine Below.setCell ?_ ?_ _) | (with_reducible refine Below.drew ?_) | (with_reducible refine Below.alloc ?_ ?_ _) | (with_reducible refine Below.trans ?_ (Below.mono hb ?_)) | (with_reducible exact hb.size) | omega | (simp <;> omega) | (simp <;> (have s := hb.size; omega)) | (have s0 := hb.size; (try simp at s0); (try simp); omega))⟩, by simp [intOf]; omega⟩
      · have F1 : Hid (x - 1 = sm 1 (l.take (k + 1))) := Lib.hid (by rw [e1, ← X1.out]; simp [dlt, Int.sub_eq_add_neg])
        have F2 : Hid (y = sm 2 (l.take (k + 1))) := Lib.hid (by rw [e2, ← X2.out]; simp [dlt])
        have F3 : Hid (z = sm 3 (l.take (k + 1))) := Lib.hid (by rw [e3, ← X3.out]; simp [dlt])
        clear e1 e2 e3 ht
        go_wp2
        exact ⟨⟨k + 1, _, _, _, by omega, by go_num, F1, F2, F3, hbx1.grown (setCell_grown3 _ _ _) (by simp), ⟨by simp [go_sem, s0, s1, s2], by simp [go_sem, s0, s1, s2], by simp [go_sem, s0, s1, s2], fun j => by simp [sf], by simp [World.setCell]; exact sl⟩, by repeat (first | (with_reducible exact Below.refl _ _) | (with_reducible refine Below.setCell ?_ ?_ _) | (with_reducible refine Below.drew ?_) | (with_reducible refine Below.alloc ?_ ?_ _) | (with_reducible refine Below.trans ?_ (Below.mono hb ?_)) | (with_reducible exact hb.size) | omega | (simp <;> omega) | (simp <;> (have s := hb.size; omega)) | (have s0 := hb.size; (try simp at s0); (try simp); omega))⟩, by simp [intOf]; omega⟩
      · have F1 : Hid (x = sm 1 (l.take (k + 1))) := Lib.hid (by rw [e1, ← X1.out]; simp [dlt])
        have F2 : Hid (y - 1 = sm 2 (l.take (k + 1))) := Lib.hid (by rw [e2, ← X2.out]; simp [dlt, Int.sub_eq_add_neg])
        have F3 : Hid (z = sm 3 (l.take (k + 1))) := Lib.hid (by rw [e3, ← X3.out]; simp [dlt])
        clear e1 e2 e3 ht
        go_wp2
        exact ⟨⟨k + 1, _, _, _, by omega, by go_num, F1, F2, F3, hbx1.grown (setCell_grown3 _ _ _) (by simp), ⟨by simp [go_sem, s0, s1, s2], by simp [go_sem, s0, s1, s2], by simp [go_sem, s0, s1, s2], fun j => by simp [sf], by simp [World.setCell]; exact sl⟩, by repeat (first | (with_reducible exact Below.refl _ _) | (with_reducible refine Below.setCell ?_ ?_ _) | (with_reducible refine Below.drew ?_) | (with_reducible refine Below.alloc ?_ ?_ _) | (with_reducible refine Below.trans ?_ (Below.mono hb ?_)) | (with_reducible exact hb.size) | omega | (simp <;> omega) | (simp <;> (have s := hb.size; omega)) | (have s0 := hb.size; (try simp at s0); (try simp); omega))⟩, by simp [intOf]; omega⟩
      · have F1 : Hid (x = sm 1 (l.take (k + 1))) := Lib.hid (by rw [e1, ← X1.out]; simp [dlt])
        have F2 : Hid (y = sm 2 (l.take (k + 1))) := Lib.hid (by rw [e2, ← X2.out]; simp [dlt])
        have F3 : Hid (z - 1 = sm 3 (l.take (k + 1))) := Lib.hid (by rw [e3, ← X3.out]; simp [dlt, Int.sub_eq_add_neg])
        clear e1 e2 e3 ht
        go_wp2
        exact ⟨⟨k + 1, _, _, _, by omega, by go_num, F1, F2, F3, hbx1.grown (setCell_grown3 _ _ _) (by simp), ⟨by simp [go_sem, s0, s1, s2], by simp [go_sem, s0, s1, s2], by simp [go_sem, s0, s1, s2], fun j => by simp [sf], by simp [World.setCell]; exact sl⟩, by repeat (first | (with_reducible exact Below.refl _ _) | (with_reducible refine Below.setCell ?_ ?_ _) | (with_reducible refine Below.drew ?_) | (with_reducible refine Below.alloc ?_ ?_ _) | (with_reducible refine Below.trans ?_ (Below.mono hb ?_)) | (with_reducible exact hb.size) | omega | (simp <;> omega) | (simp <;> (have s := hb.size; omega)) | (have s0 := hb.size; (try simp at s0); (try simp); omega))⟩, by simp [intOf]; omega⟩
    · obtain rfl : k = l.length := by omega
      have hc := HC.out
      have Y1 : x = sm 1 l := by have := X1.out; rwa [List.take_length] at this
      have Y2 : y = sm 2 l := by have := X2.out; rwa [List.take_length] at this
      have Y3 : z = sm 3 l := by have := X3.out; rwa [List.take_length] at this
      rw [← Y1, ← Y2, ← Y3] at hc
      obtain ⟨d0, d1, d2, dl⟩ := hbx1
      clear Y1 Y2 Y3 X1 X2 X3 HC
      rcases hc with ⟨g1, g2, g3, rfl⟩ | ⟨g1, rfl⟩ | ⟨g1, g2, rfl⟩ | ⟨g1, g2, g3, rfl⟩
      all_goals
        go_wp2
        go_ret
        exact ⟨rfl, hb⟩
end Go.Proofs.YtjidbajcnomceaaGreat
