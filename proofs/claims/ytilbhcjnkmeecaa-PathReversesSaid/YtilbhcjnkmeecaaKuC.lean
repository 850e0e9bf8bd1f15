/- The table of products, as the program makes it.
Conditions: those written at each theorem. -/
import Derived.Test.YtilbhcjnkmeecaaKtC
namespace Go.Proofs.Ytilbhcjnkmeecaa
set_option linter.unusedVariables false
set_option linter.unusedSimpArgs false
set_option maxRecDepth 1000000
open Go.RowKit
open Um Tm Cm Km

/-- the table while it is made: k units are there -/
structure PZ (w : World) (b k m : Nat) : Prop where
  un : ∀ i : Nat, i < k → w.cell? ⟨b, i * 5, none⟩ = some (.int .i64 (small i).a) ∧ w.cell? ⟨b, i * 5 + 1, none⟩ = some (.int .i64 (small i).b) ∧ w.cell? ⟨b, i * 5 + 2, none⟩ = some (.int .i64 (small i).c) ∧ w.cell? ⟨b, i * 5 + 3, none⟩ = some (.int .i64 (small i).d) ∧ w.cell? ⟨b, i * 5 + 4, none⟩ = some (.int .i64 (small i).n)
  ux : ∀ j : Nat, j < 144 → ∃ v : Int, w.cell? ⟨b, j, none⟩ = some (.int .i64 v)
  iv : ∀ i : Nat, i < m → w.cell? ⟨b, 120 + i, none⟩ = some (.int .i64 (nm (bar (small i))))
  kn : ∀ j : Nat, j < 576 → w.cell? ⟨b, 144 + j, none⟩ = some (.bool false) ∧ ∃ v : Int, w.cell? ⟨b, 720 + j, none⟩ = some (.int .i64 v)
  free : ∀ j, w.frozen? ⟨b, j, none⟩ = false
  lt : b < w.heap.size
theorem PZ.grown {w w1 : World} {b m n : Nat} {row : Option Nat} (k : PZ w b m n) (hg : w.grownBy w1 row) (hne : some b ≠ row) : PZ w1 b m n :=
  ⟨fun i hi => by
    obtain ⟨h0, h1, h2, h3, h4⟩ := k.un i hi
    exact ⟨hg.cell h0 hne, hg.cell h1 hne, hg.cell h2 hne, hg.cell h3 hne, hg.cell h4 hne⟩,
   fun j hj => by
    obtain ⟨v, h⟩ := k.ux j hj
    exact ⟨v, hg.cell h hne⟩,
   fun i hi => hg.cell (k.iv i hi) hne,
   fun j hj => by
    obtain ⟨h1, v, h2⟩ := k.kn j hj
    exact ⟨hg.cell h1 hne, v, hg.cell h2 hne⟩,
   fun j => (World.frozen?_of_block (a := ⟨b, j, none⟩) (hg.block b k.lt hne)).trans (k.free j), Nat.lt_of_lt_of_le k.lt hg.size⟩
theorem PZ.later {w w1 : World} {b m n : Nat} (k : PZ w b m n) (hb : Below w.heap.size w w1) : PZ w1 b m n := k.grown (row := none) (grown_ofB hb) (by simp)
theorem PZ.done {w : World} {b : Nat} (k : PZ w b 24 24) : PR w b :=
  ⟨k.un, k.iv, fun i j hi hj => by
    obtain ⟨h1, v, h2⟩ := k.kn (i * 24 + j) (by omega)
    exact ⟨false, v, h1, h2, fun h => by simp at h⟩, k.free, k.lt⟩
theorem zeroPr : Try.zeroCells163.toList = List.replicate 144 (.int .i64 0) ++ (List.replicate 576 (.bool false) ++ List.replicate 576 (.int .i64 0)) := by kernel_rfl
theorem PZ.news {w : World} {b : Nat} (h : w.heap[b]? = some (.cells Try.zeroCells163 163 (0, 0))) : PZ w b 0 0 := by
  have c : ∀ i, w.cell? ⟨b, i, none⟩ = (List.replicate 144 (Value.int .i64 0) ++ (List.replicate 576 (Value.bool false) ++ List.replicate 576 (Value.int .i64 0)))[i]? := fun i => by
    simp only [World.cell?, h]
    rw [← Array.getElem?_toList, zeroPr]
    exact if_neg (by simp)
  refine ⟨fun i hi => by omega, fun j hj => ⟨0, ?_⟩, fun i hi => by omega, fun j hj => ⟨?_, 0, ?_⟩, fun j => by simp [World.frozen?, h], (Array.getElem?_eq_some_iff.1 h).1⟩
  · rw [c, List.getElem?_append_left (by simp; omega), List.getElem?_replicate, if_pos hj]
  · rw [c, List.getElem?_append_right (by simp), List.length_replicate, show 144 + j - 144 = j by omega, List.getElem?_append_left (by simp; omega), List.getElem?_replicate, if_pos hj]
  · rw [c, List.getElem?_append_right (by simp; omega), List.length_replicate, List.getElem?_append_right (by simp; omega), List.length_replicate, List.getElem?_replicate, if_pos (by omega)]
/-- a unit is there -/
theorem PZ.row {w : World} {b k : Nat} (h : PZ w b k k) (hk : k < 24) : PZ (w.setCells b (k * 5) (uc (small k))) b (k + 1) k := by
  have hg := grown_setCells b (uc (small k)) (k * 5) w
  have o : ∀ (n : Nat) (x : Value), (n < k * 5 ∨ k * 5 + 5 ≤ n) → w.cell? ⟨b, n, none⟩ = some x → (w.setCells b (k * 5) (uc (small k))).cell? ⟨b, n, none⟩ = some x := fun n x hn hx => by
    rw [World.cell?_setCells_out b (uc (small k)) (k * 5) w _ (fun _ _ => by rw [uc_len]; show n < k * 5 ∨ k * 5 + 5 ≤ n; exact hn)]
    exact hx
  have c := World.cell?_setCells_in b (uc (small k)) (k * 5) w (fun j hj => by
    rw [uc_len] at hj
    obtain ⟨v, hv⟩ := h.ux (k * 5 + j) (by omega)
    rw [hv]; rfl)
  refine ⟨fun i hi => ?_, fun j hj => ?_, fun i hi => o _ _ (by omega) (h.iv i hi), fun j hj => ?_, fun j => by rw [World.frozen?_setCells]; exact h.free j, Nat.lt_of_lt_of_le h.lt hg.size⟩
  · by_cases he : i = k
    · subst he
      exact ⟨c 0 (by simp [uc]), c 1 (by simp [uc]), c 2 (by simp [uc]), c 3 (by simp [uc]), c 4 (by simp [uc])⟩
    · obtain ⟨h0, h1, h2, h3, h4⟩ := h.un i (by omega)
      exact ⟨o _ _ (by omega) h0, o _ _ (by omega) h1, o _ _ (by omega) h2, o _ _ (by omega) h3, o _ _ (by omega) h4⟩
  · by_cases hj2 : j < k * 5 ∨ k * 5 + 5 ≤ j
    · obtain ⟨v, hv⟩ := h.ux j hj
      exact ⟨v, o _ _ hj2 hv⟩
    · obtain ⟨m, rfl⟩ : ∃ m, j = k * 5 + m := ⟨j - k * 5, by omega⟩
      have hm : m = 0 ∨ m = 1 ∨ m = 2 ∨ m = 3 ∨ m = 4 := by omega
      rcases hm with rfl | rfl | rfl | rfl | rfl
      · exact ⟨_, c 0 (by simp [uc])⟩
      · exact ⟨_, c 1 (by simp [uc])⟩
      · exact ⟨_, c 2 (by simp [uc])⟩
      · exact ⟨_, c 3 (by simp [uc])⟩
      · exact ⟨_, c 4 (by simp [uc])⟩
  · obtain ⟨h1, v, h2⟩ := h.kn j hj
    exact ⟨o _ _ (by omega) h1, v, o _ _ (by omega) h2⟩
/-- an inverse's number is there -/
theorem PZ.inv {w : World} {b k : Nat} (h : PZ w b (k + 1) k) (hk : k < 24) : PZ (w.setCell ⟨b, 120 + k, none⟩ (.int .i64 (nm (bar (small k))))) b (k + 1) (k + 1) := by
  have o : ∀ (n : Nat) (x : Value), n ≠ 120 + k → w.cell? ⟨b, n, none⟩ = some x → (w.setCell ⟨b, 120 + k, none⟩ (.int .i64 (nm (bar (small k))))).cell? ⟨b, n, none⟩ = some x := fun n x hn hx => by
    rw [World.cell?_setCell_other _ _ _ _ (by simp <;> omega)]
    exact hx
  have c : (w.setCell ⟨b, 120 + k, none⟩ (.int .i64 (nm (bar (small k))))).cell? ⟨b, 120 + k, none⟩ = some (.int .i64 (nm (bar (small k)))) := by
    obtain ⟨v, hv⟩ := h.ux (120 + k) (by omega)
    exact World.cell?_setCell_same _ _ _ hv
  refine ⟨fun i hi => ?_, fun j hj => ?_, fun i hi => ?_, fun j hj => ?_, fun j => by rw [World.frozen?_setCell]; exact h.free j, by simp [World.setCell]; exact h.lt⟩
  · obtain ⟨h0, h1, h2, h3, h4⟩ := h.un i hi
    exact ⟨o _ _ (by omega) h0, o _ _ (by omega) h1, o _ _ (by omega) h2, o _ _ (by omega) h3, o _ _ (by omega) h4⟩
  · by_cases he : j = 120 + k
    · rw [he]; exact ⟨_, c⟩
    · obtain ⟨v, hv⟩ := h.ux j hj
      exact ⟨v, o _ _ he hv⟩
  · by_cases he : i = k
    · rw [he]; exact c
    · exact o _ _ (by omega) (h.iv i (by omega))
  · obtain ⟨h1, v, h2⟩ := h.kn j hj
    exact ⟨o _ _ (by omega) h1, v, o _ _ (by omega) h2⟩
set_option maxHeartbeats 3200000 in
theorem newProducts_any (w : World) : Calls Try.prog 89 #[] w fun e w' => ∃ g : Nat, e = .returned (.pointer (some ⟨g, 0, none⟩)) ∧ w.heap.size ≤ g ∧ PR w' g ∧ Below w.heap.size w w' := by
  have c1 := fun (k : Nat) (h : k < 24) (W : World) => small_any k W (by omega) (by omega)
  have HC := Lib.hid c1
  clear c1
  have HI := Lib.hid (fun (k : Nat) (h : k < 24) (W : World) => inv_ok (small k) W (small_one k h).V)
  have HN := Lib.hid (fun (k : Nat) (h : k < 24) (W : World) => numberOf_any (bar (small k)) W (small_one k h).bar)
  have kc := @Tail.cell_re
  have kc1 : ∀ (W : World) (o : Obj) (d : Nat) (os : Array Obj) (a : Addr), a.block ≤ W.heap.size → (Sort.grow (redrawn (W.alloc o) d) os).cell? a = (W.alloc o).cell? a := fun W o d os a h => Tail.cell_re (W.alloc o) d os a (Nat.lt_of_le_of_lt h (by simp))
  go_enter Try.func89, Try.ntmps89
  go_wp2
  have P0 := Lib.hid (PZ.news (w := w.alloc (.cells Try.zeroCells163 163)) (heap_alloc_new w _))
  have b0 : Below w.heap.size w (w.alloc (.cells Try.zeroCells163 163)) := by repeat (first | (with_reducible exact Below.refl _ _) | (with_reducible refine Below.setCell ?_ ?_ _) | (with_reducible refine Below.drew ?_) | (with_reducible refine Below.alloc ?_ ?_ _) | omega | (simp <;> omega))
  generalize w.alloc (.cells Try.zeroCells163 163) = W0 at *
  go_loopw [2, 3, 4, 7] (fun _ _ _ q wr => ∃ k : Nat, k ≤ 24 ∧ q = .int .i64 k ∧ Hid (PZ wr w.heap.size k k) ∧ Below w.heap.size w wr) (fun _ _ _ q _ => 24 - (intOf q).toNat)
  case atStart => exact ⟨0, by omega, rfl, P0, b0⟩
  case round =>
    obtain ⟨k, hk, rfl, hP, hb⟩ := hrel
    clear P0 b0
    by_cases hlt : k < 24
    · have i1 : (k : Int) < 24 := by omega
      have c1 := HC.out k hlt
      have c2 := HI.out k hlt
      have c3 := HN.out k hlt
      have lb := hP.out.lt
      obtain ⟨x, hx⟩ : ∃ x, small (k : Int) = x := ⟨_, rfl⟩
      rw [hx] at c1 c2 c3
      have HX := Lib.hid hx
      clear hx
      go_wp2
      go_region_held3 (fun _ => True) (trivial) (((with_reducible refine (c1 _).mono ?_); rintro e w1 ⟨rfl, hw1⟩; have bw1 : Below wr.heap.size wr w1 := ⟨hw1.os, hw1.tape, hw1.output, hw1.size, hw1.block⟩; have P1 := Lib.hid (hP.out.later bw1); obtain ⟨v0, x0⟩ := P1.out.ux (k * 5) (by omega); obtain ⟨v1, x1⟩ := P1.out.ux (k * 5 + 1) (by omega); obtain ⟨v2, x2⟩ := P1.out.ux (k * 5 + 2) (by omega); obtain ⟨v3, x3⟩ := P1.out.ux (k * 5 + 3) (by omega); obtain ⟨v4, x4⟩ := P1.out.ux (k * 5 + 4) (by omega); have f1 := P1.out.free; have l1 := P1.out.lt))
      have P2 : PZ (((((w1.setCell ⟨w.heap.size, k * 5, none⟩ (.int .i64 x.a)).setCell ⟨w.heap.size, k * 5 + 1, none⟩ (.int .i64 x.b)).setCell ⟨w.heap.size, k * 5 + 2, none⟩ (.int .i64 x.c)).setCell ⟨w.heap.size, k * 5 + 3, none⟩ (.int .i64 x.d)).setCell ⟨w.heap.size, k * 5 + 4, none⟩ (.int .i64 x.n)) w.heap.size (k + 1) k := by
        have := P1.out.row hlt
        rw [HX.out] at this
        exact this
      have b2 : Below w.heap.size w (((((w1.setCell ⟨w.heap.size, k * 5, none⟩ (.int .i64 x.a)).setCell ⟨w.heap.size, k * 5 + 1, none⟩ (.int .i64 x.b)).setCell ⟨w.heap.size, k * 5 + 2, none⟩ (.int .i64 x.c)).setCell ⟨w.heap.size, k * 5 + 3, none⟩ (.int .i64 x.d)).setCell ⟨w.heap.size, k * 5 + 4, none⟩ (.int .i64 x.n)) := by repeat (first | (with_reducible exact Below.refl _ _) | (with_reducible refine Below.setCell ?_ ?_ _) | (with_reducible refine Below.drew ?_) | (with_reducible refine Below.alloc ?_ ?_ _) | (with_reducible refine Below.trans ?_ (Below.mono bw1 ?_)) | (with_reducible refine Below.trans ?_ (Below.mono hb ?_)) | (with_reducible exact bw1.size) | (with_reducible exact hb.size) | omega | (simp <;> omega) | (simp <;> (have s := bw1.size; omega)) | (simp <;> (have s := hb.size; omega)) | (have s0 := bw1.size; (try simp at s0); have s1 := hb.size; (try simp at s1); (try simp); omega))
      clear x0 x1 x2 x3 x4 hw1
      generalize ((((w1.setCell ⟨w.heap.size, k * 5, none⟩ (.int .i64 x.a)).setCell ⟨w.heap.size, k * 5 + 1, none⟩ (.int .i64 x.b)).setCell ⟨w.heap.size, k * 5 + 2, none⟩ (.int .i64 x.c)).setCell ⟨w.heap.size, k * 5 + 3, none⟩ (.int .i64 x.d)).setCell ⟨w.heap.size, k * 5 + 4, none⟩ (.int .i64 x.n) = W2 at *
      have y := P2.un k (by omega)
      rw [HX.out] at y
      obtain ⟨y0, y1, y2, y3, y4⟩ := y
      have l2 := P2.lt
      have HP2 := Lib.hid P2
      clear P2 P1 hP l1 f1
      go_wp2_with ((with_reducible refine (c2 _).mono ?_); clear c2; rintro e w3 ⟨rfl, hw3⟩; have hc3 := Tail.cells hw3; have z3 : w.heap.size < w3.heap.size := by have := hw3.size; omega)
      refine Tail.region_tail_below 7 (by kernel_rfl) (by kernel_rfl) ?_
      simp only [List.take_succ_cons, List.take_zero]
      repeat (go_big_quiet_step (first | (with_reducible exact Calls.regrown_of (c3 _))))
      refine wpQuiet_nil ?_
      intro w4 hw4
      have b4 : Below W2.heap.size W2 w4 := by repeat (first | (with_reducible exact Below.refl _ _) | (with_reducible refine Below.setCell ?_ ?_ _) | (with_reducible refine Below.drew ?_) | (with_reducible refine Below.alloc ?_ ?_ _) | (with_reducible refine Below.trans ?_ (Below.mono hw4 ?_)) | (with_reducible refine Below.trans ?_ (Below.mono hw3 ?_)) | (with_reducible exact hw4.size) | (with_reducible exact hw3.size) | omega | (simp <;> omega) | (simp <;> (have s := hw4.size; omega)) | (simp <;> (have s := hw3.size; omega)) | (have s0 := hw4.size; (try simp at s0); have s1 := hw3.size; (try simp at s1); (try simp); omega))
      have P4 := HP2.out.later b4
      obtain ⟨v, x5⟩ := P4.ux (120 + k) (by omega)
      have f4 := P4.free
      have l4 := P4.lt
      have PI := P4.inv hlt
      rw [HX.out] at PI
      have HPI := Lib.hid PI
      clear PI P4
      go_wp2
      exact ⟨⟨k + 1, by omega, by go_num, HPI, by repeat (first | (with_reducible exact Below.refl _ _) | (with_reducible refine Below.setCell ?_ ?_ _) | (with_reducible refine Below.drew ?_) | (with_reducible refine Below.alloc ?_ ?_ _) | (with_reducible refine Below.trans ?_ (Below.mono b4 ?_)) | (with_reducible refine Below.trans ?_ (Below.mono b2 ?_)) | (with_reducible exact b4.size) | (with_reducible exact b2.size) | omega | (simp <;> omega) | (simp <;> (have s := b4.size; omega)) | (simp <;> (have s := b2.size; omega)) | (have s0 := b4.size; (try simp at s0); have s1 := b2.size; (try simp at s1); (try simp); omega))⟩, by simp [intOf]; omega⟩
    · obtain rfl : k = 24 := by omega
      go_wp2
      go_ret
      exact ⟨w.heap.size, rfl, Nat.le_refl _, hP.out.done, hb⟩
end Go.Proofs.Ytilbhcjnkmeecaa
