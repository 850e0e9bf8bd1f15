/- The sign of a site by the document's answers; the vectors of one point, as the program and the document's answers make them.
Conditions: none. -/
import Derived.Test.YtmnlfojcofdaeaaFermB
namespace Go.Proofs.Ytmnlfojcofdaeaa
set_option linter.unusedVariables false
set_option linter.unusedSimpArgs false
set_option maxRecDepth 1000000
open Go.RowKit
open Um Tm Fm

set_option maxHeartbeats 1600000 in
theorem refSignO_any (a b c s d r er : Int) (w : World) (h : signR a b c s d r er) : Calls Try.prog 25 #[.agg #[.int .i64 a, .int .i64 b, .int .i64 c], .int .i64 s, .int .i64 d] w fun e w' => e = .returned (.tuple #[.int .i64 r, .int .i64 er]) ∧ Below w.heap.size w w' := by
  rcases h with ⟨h, rfl, rfl⟩ | ⟨h, hs, rfl, rfl⟩ | ⟨h, h0, h1, hd, rfl, rfl⟩ | ⟨h, h0, h1, d0, d2, rfl, rfl⟩
  · have c1 := fun W : World => refSizes_any a b c 1 W (.inr ⟨h, rfl⟩)
    clear h
    go_enter Try.func25, Try.ntmps25
    go_wp2_with ((with_reducible refine (c1 _).mono ?_); rintro e w1 ⟨rfl, hw1⟩)
    go_ret2
    exact ⟨rfl, by repeat (first | (with_reducible exact Below.refl _ _) | (with_reducible refine Below.setCell ?_ ?_ _) | (with_reducible refine Below.drew ?_) | (with_reducible refine Below.alloc ?_ ?_ _) | (with_reducible refine Below.trans ?_ (Below.mono hw1 ?_)) | (with_reducible exact hw1.size) | omega | (simp <;> omega) | (simp <;> (have s := hw1.size; omega)) | (have s0 := hw1.size; (try simp at s0); (try simp); omega))⟩
  all_goals
    have c1 := fun W : World => refSizes_any a b c 0 W (.inl ⟨h, rfl⟩)
    obtain ⟨p1, p2, p3, p5⟩ := mul_rng h.a1 h.a4 h.b1 h.b4 h.c1 h.c4
    have p4 := h.p
    have e1 : IntKind.i64.wrap (a * b) = a * b := IntWalk.i64_in _ (by omega)
    have e2 : IntKind.i64.wrap (a * b * c) = a * b * c := IntWalk.i64_in _ (by omega)
  · have c2 := fun W : World => within7_any s 0 (a * b * c - 1) W false (.inr ⟨by omega, rfl⟩)
    clear h hs
    go_enter Try.func25, Try.ntmps25
    go_wp2_with (first | ((with_reducible refine (c1 _).mono ?_); clear c1; rintro e w1 ⟨rfl, hw1⟩; have hc1 := Tail.cells hw1; have zw10 := Nat.lt_of_lt_of_le (n := w.heap.size) (by simp <;> omega) hw1.size) | ((with_reducible refine (c2 _).mono ?_); clear c2; rintro e w2 ⟨rfl, rfl⟩))
    go_ret2
    exact ⟨rfl, by repeat (first | (with_reducible exact Below.refl _ _) | (with_reducible refine Below.setCell ?_ ?_ _) | (with_reducible refine Below.drew ?_) | (with_reducible refine Below.alloc ?_ ?_ _) | (with_reducible refine Below.trans ?_ (Below.mono hw1 ?_)) | (with_reducible exact hw1.size) | omega | (simp <;> omega) | (simp <;> (have s := hw1.size; omega)) | (have s0 := hw1.size; (try simp at s0); (try simp); omega))⟩
  · have c2 := fun W : World => within7_any s 0 (a * b * c - 1) W true (.inl ⟨h0, by omega, rfl⟩)
    have c3 := fun W : World => within7_any d 0 2 W false (.inr ⟨hd, rfl⟩)
    clear h h0 h1 hd
    go_enter Try.func25, Try.ntmps25
    go_wp2_with (first | ((with_reducible refine (c1 _).mono ?_); clear c1; rintro e w1 ⟨rfl, hw1⟩; have hc1 := Tail.cells hw1; have zw10 := Nat.lt_of_lt_of_le (n := w.heap.size) (by simp <;> omega) hw1.size) | ((with_reducible refine (c2 _).mono ?_); clear c2; rintro e w2 ⟨rfl, rfl⟩) | ((with_reducible refine (c3 _).mono ?_); clear c3; rintro e w3 ⟨rfl, rfl⟩))
    go_ret2
    exact ⟨rfl, by repeat (first | (with_reducible exact Below.refl _ _) | (with_reducible refine Below.setCell ?_ ?_ _) | (with_reducible refine Below.drew ?_) | (with_reducible refine Below.alloc ?_ ?_ _) | (with_reducible refine Below.trans ?_ (Below.mono hw1 ?_)) | (with_reducible exact hw1.size) | omega | (simp <;> omega) | (simp <;> (have s := hw1.size; omega)) | (have s0 := hw1.size; (try simp at s0); (try simp); omega))⟩
  · have c2 := fun W : World => within7_any s 0 (a * b * c - 1) W true (.inl ⟨h0, by omega, rfl⟩)
    have c3 := fun W : World => within7_any d 0 2 W true (.inl ⟨d0, d2, rfl⟩)
    have c4 := fun W : World => sign7_any a b c s d W h h0 h1 d0 d2
    generalize sg3 a b d s = r at *
    clear h h0 h1 d0 d2
    go_enter Try.func25, Try.ntmps25
    go_wp2_with (first | ((with_reducible refine (c1 _).mono ?_); clear c1; rintro e w1 ⟨rfl, hw1⟩; have hc1 := Tail.cells hw1; have zw10 := Nat.lt_of_lt_of_le (n := w.heap.size) (by simp <;> omega) hw1.size) | ((with_reducible refine (c2 _).mono ?_); clear c2; rintro e w2 ⟨rfl, rfl⟩) | ((with_reducible refine (c3 _).mono ?_); clear c3; rintro e w3 ⟨rfl, rfl⟩) | ((with_reducible refine (c4 _).mono ?_); clear c4; rintro e w4 ⟨rfl, hw4⟩))
    go_ret2
    exact ⟨rfl, by repeat (first | (with_reducible exact Below.refl _ _) | (with_reducible refine Below.setCell ?_ ?_ _) | (with_reducible refine Below.drew ?_) | (with_reducible refine Below.alloc ?_ ?_ _) | (with_reducible refine Below.trans ?_ (Below.mono hw4 ?_)) | (with_reducible refine Below.trans ?_ (Below.mono hw1 ?_)) | (with_reducible exact hw4.size) | (with_reducible exact hw1.size) | omega | (simp <;> omega) | (simp <;> (have s := hw4.size; omega)) | (simp <;> (have s := hw1.size; omega)) | (have s0 := hw4.size; (try simp at s0); have s1 := hw1.size; (try simp at s1); (try simp); omega))⟩
/-- the error of a point -/
def ptR (a b c s p er : Int) : Prop := (¬ Sz a b c ∧ er = 1) ∨ (Sz a b c ∧ ¬ (0 ≤ s ∧ s < a * b * c) ∧ er = 4) ∨ (Sz a b c ∧ 0 ≤ s ∧ s < a * b * c ∧ ¬ (0 ≤ p ∧ p ≤ 3) ∧ er = 1) ∨ (Sz a b c ∧ 0 ≤ s ∧ s < a * b * c ∧ 0 ≤ p ∧ p ≤ 3 ∧ er = 0)
theorem ptR_ex (a b c s p : Int) : ∃ er, ptR a b c s p er := by
  by_cases h : Sz a b c
  · by_cases h1 : 0 ≤ s ∧ s < a * b * c
    · by_cases h2 : 0 ≤ p ∧ p ≤ 3
      · exact ⟨_, .inr (.inr (.inr ⟨h, h1.1, h1.2, h2.1, h2.2, rfl⟩))⟩
      · exact ⟨_, .inr (.inr (.inl ⟨h, h1.1, h1.2, h2, rfl⟩))⟩
    · exact ⟨_, .inr (.inl ⟨h, h1, rfl⟩)⟩
  · exact ⟨_, .inl ⟨h, rfl⟩⟩
set_option maxHeartbeats 1600000 in
theorem point_bad (a b c s p er : Int) (w : World) (h : ptR a b c s p er) (hne : er ≠ 0) : Calls Try.prog 26 #[.agg #[.int .i64 a, .int .i64 b, .int .i64 c], .int .i64 s, .int .i64 p] w fun e w' => e = .returned (.tuple #[.slice none 0 0, .int .i64 er]) ∧ Below w.heap.size w w' := by
  rcases h with ⟨h, rfl⟩ | ⟨h, hs, rfl⟩ | ⟨h, h0, h1, hd, rfl⟩ | ⟨h, h0, h1, d0, d2, rfl⟩
  · have c1 := fun W : World => place_any a b c s _ _ _ 1 W (.inl ⟨h, rfl, rfl, rfl, rfl⟩)
    clear h hne
    go_enter Try.func26, Try.ntmps26
    go_wp2_with ((with_reducible refine (c1 _).mono ?_); rintro e w1 ⟨rfl, hw1⟩)
    go_ret2
    exact ⟨rfl, by repeat (first | (with_reducible exact Below.refl _ _) | (with_reducible refine Below.setCell ?_ ?_ _) | (with_reducible refine Below.drew ?_) | (with_reducible refine Below.alloc ?_ ?_ _) | (with_reducible refine Below.trans ?_ (Below.mono hw1 ?_)) | (with_reducible exact hw1.size) | omega | (simp <;> omega) | (simp <;> (have s := hw1.size; omega)) | (have s0 := hw1.size; (try simp at s0); (try simp); omega))⟩
  · have c1 := fun W : World => place_any a b c s _ _ _ 4 W (.inr (.inl ⟨h, hs, rfl, rfl, rfl, rfl⟩))
    clear h hs hne
    go_enter Try.func26, Try.ntmps26
    go_wp2_with ((with_reducible refine (c1 _).mono ?_); rintro e w1 ⟨rfl, hw1⟩)
    go_ret2
    exact ⟨rfl, by repeat (first | (with_reducible exact Below.refl _ _) | (with_reducible refine Below.setCell ?_ ?_ _) | (with_reducible refine Below.drew ?_) | (with_reducible refine Below.alloc ?_ ?_ _) | (with_reducible refine Below.trans ?_ (Below.mono hw1 ?_)) | (with_reducible exact hw1.size) | omega | (simp <;> omega) | (simp <;> (have s := hw1.size; omega)) | (have s0 := hw1.size; (try simp at s0); (try simp); omega))⟩
  · have c1 := fun W : World => place_any a b c s _ _ _ 0 W (.inr (.inr ⟨h, h0, h1, rfl, rfl, rfl, rfl⟩))
    clear h h0 h1 hne
    generalize s % a = x at *
    generalize s / a % b = y at *
    generalize s / a / b = z at *
    by_cases hd0 : p < 0
    · clear hd
      go_enter Try.func26, Try.ntmps26
      go_wp2_with ((with_reducible refine (c1 _).mono ?_); rintro e w1 ⟨rfl, hw1⟩)
      go_ret2
      exact ⟨rfl, by repeat (first | (with_reducible exact Below.refl _ _) | (with_reducible refine Below.setCell ?_ ?_ _) | (with_reducible refine Below.drew ?_) | (with_reducible refine Below.alloc ?_ ?_ _) | (with_reducible refine Below.trans ?_ (Below.mono hw1 ?_)) | (with_reducible exact hw1.size) | omega | (simp <;> omega) | (simp <;> (have s := hw1.size; omega)) | (have s0 := hw1.size; (try simp at s0); (try simp); omega))⟩
    · have hd3 : p ≥ 4 := by omega
      clear hd
      go_enter Try.func26, Try.ntmps26
      go_wp2_with ((with_reducible refine (c1 _).mono ?_); rintro e w1 ⟨rfl, hw1⟩)
      go_ret2
      exact ⟨rfl, by repeat (first | (with_reducible exact Below.refl _ _) | (with_reducible refine Below.setCell ?_ ?_ _) | (with_reducible refine Below.drew ?_) | (with_reducible refine Below.alloc ?_ ?_ _) | (with_reducible refine Below.trans ?_ (Below.mono hw1 ?_)) | (with_reducible exact hw1.size) | omega | (simp <;> omega) | (simp <;> (have s := hw1.size; omega)) | (have s0 := hw1.size; (try simp at s0); (try simp); omega))⟩
  · exact absurd rfl hne
set_option maxHeartbeats 1600000 in
theorem refPoint_bad (a b c s p er : Int) (w : World) (h : ptR a b c s p er) (hne : er ≠ 0) : Calls Try.prog 27 #[.agg #[.int .i64 a, .int .i64 b, .int .i64 c], .int .i64 s, .int .i64 p] w fun e w' => e = .returned (.tuple #[.slice none 0 0, .int .i64 er]) ∧ Below w.heap.size w w' := by
  rcases h with ⟨h, rfl⟩ | ⟨h, hs, rfl⟩ | ⟨h, h0, h1, hd, rfl⟩ | ⟨h, h0, h1, d0, d2, rfl⟩
  · have c1 := fun W : World => refSizes_any a b c 1 W (.inr ⟨h, rfl⟩)
    clear h hne
    go_enter Try.func27, Try.ntmps27
    go_wp2_with ((with_reducible refine (c1 _).mono ?_); rintro e w1 ⟨rfl, hw1⟩)
    go_ret2
    exact ⟨rfl, by repeat (first | (with_reducible exact Below.refl _ _) | (with_reducible refine Below.setCell ?_ ?_ _) | (with_reducible refine Below.drew ?_) | (with_reducible refine Below.alloc ?_ ?_ _) | (with_reducible refine Below.trans ?_ (Below.mono hw1 ?_)) | (with_reducible exact hw1.size) | omega | (simp <;> omega) | (simp <;> (have s := hw1.size; omega)) | (have s0 := hw1.size; (try simp at s0); (try simp); omega))⟩
  rotate_left 2
  · exact absurd rfl hne
  all_goals
    have c1 := fun W : World => refSizes_any a b c 0 W (.inl ⟨h, rfl⟩)
    obtain ⟨p1, p2, p3, p5⟩ := mul_rng h.a1 h.a4 h.b1 h.b4 h.c1 h.c4
    have p4 := h.p
    have e1 : IntKind.i64.wrap (a * b) = a * b := IntWalk.i64_in _ (by omega)
    have e2 : IntKind.i64.wrap (a * b * c) = a * b * c := IntWalk.i64_in _ (by omega)
  · have c2 := fun W : World => within7_any s 0 (a * b * c - 1) W false (.inr ⟨by omega, rfl⟩)
    clear h hs hne
    go_enter Try.func27, Try.ntmps27
    go_wp2_with (first | ((with_reducible refine (c1 _).mono ?_); clear c1; rintro e w1 ⟨rfl, hw1⟩; have hc1 := Tail.cells hw1; have zw10 := Nat.lt_of_lt_of_le (n := w.heap.size) (by simp <;> omega) hw1.size) | ((with_reducible refine (c2 _).mono ?_); clear c2; rintro e w2 ⟨rfl, rfl⟩))
    go_ret2
    exact ⟨rfl, by repeat (first | (with_reducible exact Below.refl _ _) | (with_reducible refine Below.setCell ?_ ?_ _) | (with_reducible refine Below.drew ?_) | (with_reducible refine Below.alloc ?_ ?_ _) | (with_reducible refine Below.trans ?_ (Below.mono hw1 ?_)) | (with_reducible exact hw1.size) | omega | (simp <;> omega) | (simp <;> (have s := hw1.size; omega)) | (have s0 := hw1.size; (try simp at s0); (try simp); omega))⟩
  · have c2 := fun W : World => within7_any s 0 (a * b * c - 1) W true (.inl ⟨h0, by omega, rfl⟩)
    have c3 := fun W : World => within7_any p 0 3 W false (.inr ⟨hd, rfl⟩)
    clear h h0 h1 hd hne
    go_enter Try.func27, Try.ntmps27
    go_wp2_with (first | ((with_reducible refine (c1 _).mono ?_); clear c1; rintro e w1 ⟨rfl, hw1⟩; have hc1 := Tail.cells hw1; have zw10 := Nat.lt_of_lt_of_le (n := w.heap.size) (by simp <;> omega) hw1.size) | ((with_reducible refine (c2 _).mono ?_); clear c2; rintro e w2 ⟨rfl, rfl⟩) | ((with_reducible refine (c3 _).mono ?_); clear c3; rintro e w3 ⟨rfl, rfl⟩))
    go_ret2
    exact ⟨rfl, by repeat (first | (with_reducible exact Below.refl _ _) | (with_reducible refine Below.setCell ?_ ?_ _) | (with_reducible refine Below.drew ?_) | (with_reducible refine Below.alloc ?_ ?_ _) | (with_reducible refine Below.trans ?_ (Below.mono hw1 ?_)) | (with_reducible exact hw1.size) | omega | (simp <;> omega) | (simp <;> (have s := hw1.size; omega)) | (have s0 := hw1.size; (try simp at s0); (try simp); omega))⟩
theorem pt_ex (n s p : Nat) (hs : s < n) (hp : p < 4) : ∃ P : List Sp, P.length = n ∧ fl P = (fl (List.replicate n zs)).set (s * 4 + p) 1048576 := by
  obtain ⟨P, h1, h2⟩ := fl_ex n ((fl (List.replicate n zs)).set (s * 4 + p) 1048576) (by rw [List.length_set, fl_len, List.length_replicate])
  exact ⟨P, h1, h2⟩
theorem pt_arr (n i : Nat) (x : Int) : (madeCells sz.toArray (n * 4)).setIfInBounds i (.int .i64 x) = (((fl (List.replicate n zs)).set i x).map vi).toArray := by
  have h0 : madeCells sz.toArray (n * 4) = ((fl (List.replicate n zs)).map vi).toArray := by
    refine Array.ext_getElem? fun j => ?_
    by_cases hj : j < n * 4
    · rw [made_sz n j hj, fl_repl]
      simp [hj]
    · have e1 : (madeCells sz.toArray (n * 4))[j]? = none := Array.getElem?_eq_none (by simp [madeCells]; omega)
      have e2 : ((fl (List.replicate n zs)).map vi).toArray[j]? = none := Array.getElem?_eq_none (by simp [fl_len]; omega)
      rw [e1, e2]
  rw [h0, List.setIfInBounds_toArray, List.map_set]
  rfl
theorem pt_box (w : World) (n i : Nat) (x : Int) (T : TypeId) (l : List Int) (hl : l = (fl (List.replicate n zs)).set i x) : IBox (w.alloc (.cells ((madeCells sz.toArray (n * 4)).setIfInBounds i (.int .i64 x)) T)) w.heap.size l := by
  subst hl
  rw [pt_arr]
  exact IBox.whole (heap_alloc_new _ _)
set_option maxHeartbeats 1600000 in
theorem point_ok (a b c : Int) (n s p : Nat) (P : List Sp) (w : World) (h : Sz a b c) (hn : (n : Int) = a * b * c) (hs : s < n) (hp : p < 4) (hP : fl P = (fl (List.replicate n zs)).set (s * 4 + p) 1048576) : Calls Try.prog 26 #[.agg #[.int .i64 a, .int .i64 b, .int .i64 c], .int .i64 s, .int .i64 p] w fun e w' => (∃ g k : Nat, e = .returned (.tuple #[.slice (some ⟨g, 0, none⟩) n k, .int .i64 0]) ∧ IBox w' g (fl P)) ∧ Below w.heap.size w w' := by
  have c1 := fun W : World => place_any a b c s _ _ _ 0 W (.inr (.inr ⟨h, by omega, by omega, rfl, rfl, rfl, rfl⟩))
  have c2 := fun W : World => sites_any a b c (a * b * c) 0 W (.inr ⟨h, rfl, rfl⟩)
  have p4 := h.p
  rw [← hn] at c2
  have n16 : n ≤ 16 := by omega
  have mk := fun (W : World) => makeS W n n rfl (by omega)
  have HP := Lib.hid hP
  have hll : s * 4 + p < n * 4 := by omega
  have hsz : (madeCells sz.toArray (n * 4)).size = n * 4 := by simp [madeCells]
  have hcl : ∀ W : World, (W.alloc (.cells (madeCells sz.toArray (n * 4)) 64)).cell? ⟨W.heap.size, s * 4 + p, none⟩ = some (.int .i64 0) := fun W => by
    rw [cell_of_row _ _ _ _ _ _ (heap_alloc_new W _)]
    exact made_sz n _ hll
  have i1 : (s : Int) < (n : Int) := by omega
  have i2 : (p : Int) < 4 := by omega
  have q1 : ¬ (p : Int) < 0 := by omega
  have q2 : ¬ (p : Int) ≥ 4 := by omega
  clear h hn hP p4
  generalize (s : Int) % a = x at *
  generalize (s : Int) / a % b = y at *
  generalize (s : Int) / a / b = z at *
  go_enter Try.func26, Try.ntmps26
  go_wp2_with (first | ((with_reducible refine (c1 _).mono ?_); clear c1; rintro e w1 ⟨rfl, hw1⟩; have hc1 := Tail.cells hw1; have zw10 := Nat.lt_of_lt_of_le (n := w.heap.size) (by simp <;> omega) hw1.size) | ((with_reducible refine (c2 _).mono ?_); clear c2; rintro e w2 ⟨rfl, hw2⟩))
  go_ret2
  exact ⟨⟨w2.heap.size, n, rfl, pt_box _ _ _ _ _ _ HP.out⟩, by repeat (first | (with_reducible exact Below.refl _ _) | (with_reducible refine Below.setCell ?_ ?_ _) | (with_reducible refine Below.drew ?_) | (with_reducible refine Below.alloc ?_ ?_ _) | (with_reducible refine Below.trans ?_ (Below.mono hw2 ?_)) | (with_reducible refine Below.trans ?_ (Below.mono hw1 ?_)) | (with_reducible exact hw2.size) | (with_reducible exact hw1.size) | omega | (simp <;> omega) | (simp <;> (have s := hw2.size; omega)) | (simp <;> (have s := hw1.size; omega)) | (have s0 := hw2.size; (try simp at s0); have s1 := hw1.size; (try simp at s1); (try simp); omega))⟩
set_option maxHeartbeats 1600000 in
theorem refPoint_ok (a b c : Int) (n s p : Nat) (P : List Sp) (w : World) (h : Sz a b c) (hn : (n : Int) = a * b * c) (hs : s < n) (hp : p < 4) (hP : fl P = (fl (List.replicate n zs)).set (s * 4 + p) 1048576) : Calls Try.prog 27 #[.agg #[.int .i64 a, .int .i64 b, .int .i64 c], .int .i64 s, .int .i64 p] w fun e w' => (∃ g k : Nat, e = .returned (.tuple #[.slice (some ⟨g, 0, none⟩) n k, .int .i64 0]) ∧ IBox w' g (fl P)) ∧ Below w.heap.size w w' := by
  have c1 := fun W : World => refSizes_any a b c 0 W (.inl ⟨h, rfl⟩)
  have c2 := fun W : World => within7_any s 0 ((n : Int) - 1) W true (.inl ⟨by omega, by omega, rfl⟩)
  have c3 := fun W : World => within7_any p 0 3 W true (.inl ⟨by omega, by omega, rfl⟩)
  obtain ⟨p1, p2, p3, p5⟩ := mul_rng h.a1 h.a4 h.b1 h.b4 h.c1 h.c4
  have p4 := h.p
  have n16 : n ≤ 16 := by omega
  have hn' : a * b * c = (n : Int) := hn.symm
  have mk := fun (W : World) => makeS W n n rfl (by omega)
  have HP := Lib.hid hP
  have hll : s * 4 + p < n * 4 := by omega
  have hsz : (madeCells sz.toArray (n * 4)).size = n * 4 := by simp [madeCells]
  have hcl : ∀ W : World, (W.alloc (.cells (madeCells sz.toArray (n * 4)) 64)).cell? ⟨W.heap.size, s * 4 + p, none⟩ = some (.int .i64 0) := fun W => by
    rw [cell_of_row _ _ _ _ _ _ (heap_alloc_new W _)]
    exact made_sz n _ hll
  have i1 : (s : Int) < (n : Int) := by omega
  have i2 : (p : Int) < 4 := by omega
  rw [hn'] at p3 p4 p5
  clear h hn hP
  go_enter Try.func27, Try.ntmps27
  go_wp2_with (first | ((with_reducible refine (c1 _).mono ?_); clear c1; rintro e w1 ⟨rfl, hw1⟩; have hc1 := Tail.cells hw1; have zw10 := Nat.lt_of_lt_of_le (n := w.heap.size) (by simp <;> omega) hw1.size) | ((with_reducible refine (c2 _).mono ?_); clear c2; rintro e w2 ⟨rfl, rfl⟩) | ((with_reducible refine (c3 _).mono ?_); clear c3; rintro e w3 ⟨rfl, rfl⟩))
  go_ret2
  exact ⟨⟨w1.heap.size, n, rfl, pt_box _ _ _ _ _ _ HP.out⟩, by repeat (first | (with_reducible exact Below.refl _ _) | (with_reducible refine Below.setCell ?_ ?_ _) | (with_reducible refine Below.drew ?_) | (with_reducible refine Below.alloc ?_ ?_ _) | (with_reducible refine Below.trans ?_ (Below.mono hw1 ?_)) | (with_reducible exact hw1.size) | omega | (simp <;> omega) | (simp <;> (have s := hw1.size; omega)) | (have s0 := hw1.size; (try simp at s0); (try simp); omega))⟩
end Go.Proofs.Ytmnlfojcofdaeaa
