/- Where the steps from a site lead, as the program keeps them, and a trajectory's beginning.
Conditions: those written at each theorem. -/
import Derived.Test.YtilbhcjnkmeecaaKuC
import Derived.Test.YtilbhcjnkmeecaaTorA
import Derived.Test.YtilbhcjnkmeecaaNumC
namespace Go.Proofs.Ytilbhcjnkmeecaa
set_option linter.unusedVariables false
set_option linter.unusedSimpArgs false
set_option maxRecDepth 1000000
open Go.RowKit
open Um Tm Cm Km

/-- what a list of neighbours holds -/
def nb7 (a b c s : Int) : List Value := [.int .i64 (nx a b c s (-3)), .int .i64 (nx a b c s (-2)), .int .i64 (nx a b c s (-1)), .int .i64 0, .int .i64 (nx a b c s 1), .int .i64 (nx a b c s 2), .int .i64 (nx a b c s 3)]
set_option maxHeartbeats 6400000 in
theorem neigh_any (a b c s : Int) (w : World) (hz : Sz a b c) (h0 : 0 ≤ s) (h1 : s < a * b * c) : Calls Try.prog 90 #[.agg #[.int .i64 a, .int .i64 b, .int .i64 c], .int .i64 s] w fun e w' => e = .returned (.tuple #[.agg (nb7 a b c s).toArray, .int .i64 0]) ∧ Below w.heap.size w w' := by
  have cc := fun (t : Int) (ht : IsStep t) (W : World) => nextO_any a b c s t (nx a b c s t) 0 W (.inr (.inr (.inr ⟨hz, h0, h1, ht, rfl, rfl⟩)))
  have c0 := cc (-3) (by unfold IsStep; decide)
  have c1 := cc (-2) (by unfold IsStep; decide)
  have c2 := cc (-1) (by unfold IsStep; decide)
  have c4 := cc 1 (by unfold IsStep; decide)
  have c5 := cc 2 (by unfold IsStep; decide)
  have c6 := cc 3 (by unfold IsStep; decide)
  clear cc hz h0 h1
  unfold nb7
  generalize nx a b c s (-3) = n0 at *
  generalize nx a b c s (-2) = n1 at *
  generalize nx a b c s (-1) = n2 at *
  generalize nx a b c s 1 = n4 at *
  generalize nx a b c s 2 = n5 at *
  generalize nx a b c s 3 = n6 at *
  go_enter Try.func90, Try.ntmps90
  go_wp2
  refine wp_loop_rounds 8 ?_
  rw [rounds_succ]
  go_wp2_with ((with_reducible refine (c0 _).mono ?_); clear c0; rintro e w1 ⟨rfl, hw1⟩; have hc1 := Tail.cells hw1; have s1 := hw1.size; (try simp at s1); have z1 : w.heap.size < w1.heap.size := (by omega); have y1 : w.heap.size + 1 < w1.heap.size := (by omega); have x1 : w.heap.size + 1 + 1 < w1.heap.size := (by omega); clear s1)
  rw [rounds_succ]
  go_wp2_with ((with_reducible refine (c1 _).mono ?_); clear c1; rintro e w2 ⟨rfl, hw2⟩; have hc2 := Tail.cells hw2; have s2 := hw2.size; (try simp at s2); have z2 : w.heap.size < w2.heap.size := (by omega); have y2 : w.heap.size + 1 < w2.heap.size := (by omega); have x2 : w.heap.size + 1 + 1 < w2.heap.size := (by omega); clear s2)
  rw [rounds_succ]
  go_wp2_with ((with_reducible refine (c2 _).mono ?_); clear c2; rintro e w3 ⟨rfl, hw3⟩; have hc3 := Tail.cells hw3; have s3 := hw3.size; (try simp at s3); have z3 : w.heap.size < w3.heap.size := (by omega); have y3 : w.heap.size + 1 < w3.heap.size := (by omega); have x3 : w.heap.size + 1 + 1 < w3.heap.size := (by omega); clear s3)
  rw [rounds_succ]
  go_wp2
  rw [rounds_succ]
  go_wp2_with ((with_reducible refine (c4 _).mono ?_); clear c4; rintro e w5 ⟨rfl, hw5⟩; have hc5 := Tail.cells hw5; have s5 := hw5.size; (try simp at s5); have z5 : w.heap.size < w5.heap.size := (by omega); have y5 : w.heap.size + 1 < w5.heap.size := (by omega); have x5 : w.heap.size + 1 + 1 < w5.heap.size := (by omega); clear s5)
  rw [rounds_succ]
  go_wp2_with ((with_reducible refine (c5 _).mono ?_); clear c5; rintro e w6 ⟨rfl, hw6⟩; have hc6 := Tail.cells hw6; have s6 := hw6.size; (try simp at s6); have z6 : w.heap.size < w6.heap.size := (by omega); have y6 : w.heap.size + 1 < w6.heap.size := (by omega); have x6 : w.heap.size + 1 + 1 < w6.heap.size := (by omega); clear s6)
  rw [rounds_succ]
  go_wp2_with ((with_reducible refine (c6 _).mono ?_); clear c6; rintro e w7 ⟨rfl, hw7⟩; have hc7 := Tail.cells hw7; have s7 := hw7.size; (try simp at s7); have z7 : w.heap.size < w7.heap.size := (by omega); have y7 : w.heap.size + 1 < w7.heap.size := (by omega); have x7 : w.heap.size + 1 + 1 < w7.heap.size := (by omega); clear s7)
  rw [rounds_succ]
  go_wp2
  have u0 : w7.cell? ⟨w.heap.size + 1, 0, none⟩ = some (.int .i64 0) := by simp [go_sem, hc1, hc2, hc3, hc5, hc6, hc7, y1, x1, y2, x2, y3, x3, y5, x5, y6, x6, y7, x7]
  have u1 : w7.cell? ⟨w.heap.size + 1, 1, none⟩ = some (.int .i64 0) := by simp [go_sem, hc1, hc2, hc3, hc5, hc6, hc7, y1, x1, y2, x2, y3, x3, y5, x5, y6, x6, y7, x7]
  have u2 : w7.cell? ⟨w.heap.size + 1, 2, none⟩ = some (.int .i64 0) := by simp [go_sem, hc1, hc2, hc3, hc5, hc6, hc7, y1, x1, y2, x2, y3, x3, y5, x5, y6, x6, y7, x7]
  have u3 : w7.cell? ⟨w.heap.size + 1, 3, none⟩ = some (.int .i64 0) := by simp [go_sem, hc1, hc2, hc3, hc5, hc6, hc7, y1, x1, y2, x2, y3, x3, y5, x5, y6, x6, y7, x7]
  have u4 : w7.cell? ⟨w.heap.size + 1, 4, none⟩ = some (.int .i64 0) := by simp [go_sem, hc1, hc2, hc3, hc5, hc6, hc7, y1, x1, y2, x2, y3, x3, y5, x5, y6, x6, y7, x7]
  have u5 : w7.cell? ⟨w.heap.size + 1, 5, none⟩ = some (.int .i64 0) := by simp [go_sem, hc1, hc2, hc3, hc5, hc6, hc7, y1, x1, y2, x2, y3, x3, y5, x5, y6, x6, y7, x7]
  have u6 : w7.cell? ⟨w.heap.size + 1, 6, none⟩ = some (.int .i64 0) := by simp [go_sem, hc1, hc2, hc3, hc5, hc6, hc7, y1, x1, y2, x2, y3, x3, y5, x5, y6, x6, y7, x7]
  refine bodyPost_ret (v := .tuple #[.agg #[.int .i64 n0, .int .i64 n1, .int .i64 n2, .int .i64 0, .int .i64 n4, .int .i64 n5, .int .i64 n6], .int .i64 0]) ?_ rfl ⟨rfl, ?_⟩
  · simp [results, Try.results90, go_sem, u0, u1, u2, u3, u4, u5, u6, y7, x7]
  · repeat (first | (with_reducible exact Below.refl _ _) | (with_reducible refine Below.setCell ?_ ?_ _) | (with_reducible refine Below.drew ?_) | (with_reducible refine Below.alloc ?_ ?_ _) | (with_reducible refine Below.trans ?_ (Below.mono hw7 ?_)) | (with_reducible refine Below.trans ?_ (Below.mono hw6 ?_)) | (with_reducible refine Below.trans ?_ (Below.mono hw5 ?_)) | (with_reducible refine Below.trans ?_ (Below.mono hw3 ?_)) | (with_reducible refine Below.trans ?_ (Below.mono hw2 ?_)) | (with_reducible refine Below.trans ?_ (Below.mono hw1 ?_)) | (with_reducible exact hw7.size) | (with_reducible exact hw6.size) | (with_reducible exact hw5.size) | (with_reducible exact hw3.size) | (with_reducible exact hw2.size) | (with_reducible exact hw1.size) | omega | (simp <;> omega) | (simp <;> (have s := hw7.size; omega)) | (simp <;> (have s := hw6.size; omega)) | (simp <;> (have s := hw5.size; omega)) | (simp <;> (have s := hw3.size; omega)) | (simp <;> (have s := hw2.size; omega)) | (simp <;> (have s := hw1.size; omega)) | (have s0 := hw7.size; (try simp at s0); have s1 := hw6.size; (try simp at s1); have s2 := hw5.size; (try simp at s2); have s3 := hw3.size; (try simp at s3); have s4 := hw2.size; (try simp at s4); have s5 := hw1.size; (try simp at s5); (try simp); omega))
theorem owned_IBox {w : World} {base : Nat} {T : TypeId} {g cap : Nat} {l : List Int} (h : w.ownsRow base T 1 (.slice (some ⟨g, 0, none⟩) l.length cap) l.length (l.map vi)) : IBox w g l := by
  refine ⟨owned_liesI h, fun j => ?_, ?_⟩
  all_goals
    rcases h.2 with ⟨h', _⟩ | ⟨g', cap', cur, h', hb, hg, _⟩
    · simp at h'
    · simp only [Value.slice.injEq, Option.some.injEq, Addr.mk.injEq, and_true, true_and] at h'
      obtain ⟨rfl, -⟩ := h'
      first
        | exact (Array.getElem?_eq_some_iff.1 hg).1
        | simp [World.frozen?, hg]
theorem smR_nm {L : List Q} {ns : List Int} (h : smR L ns true) : ns = L.map nm ∧ ∀ x ∈ L, IsS x := by
  rcases h with ⟨-, h1, h2⟩ | ⟨h, -⟩
  · have hS : ∀ x ∈ L, IsS x := fun x hx => by
      obtain ⟨i, hi, rfl⟩ := List.getElem_of_mem hx
      obtain ⟨n, -, hn⟩ := h2 i _ hi (List.getElem?_eq_getElem hi)
      rcases hn with ⟨k, hk, e, -⟩ | ⟨-, -, hb⟩
      · exact ⟨k, hk, e⟩
      · simp at hb
    refine ⟨List.ext_getElem? fun i => ?_, hS⟩
    by_cases hi : i < L.length
    · obtain ⟨n, hn, hr⟩ := h2 i _ hi (List.getElem?_eq_getElem hi)
      have hs := hS _ (List.getElem_mem hi)
      rw [hn, List.getElem?_map, List.getElem?_eq_getElem hi]
      have h3 := numR_nm hs
      rcases hr with ⟨k, hk, e, hm, rfl, -⟩ | ⟨-, -, hb⟩
      · obtain ⟨j, hj, ej, e2⟩ := hs.nmN
        have : k = j := small_inj k hk j hj (by rw [e, e2])
        simp [ej, this]
      · simp at hb
    · rw [List.getElem?_eq_none (by omega), List.getElem?_map, List.getElem?_eq_none (by omega)]
      rfl
  · simp at h
def RetNB (m : Nat) (ns : List Int) (e : Ending) (w' : World) : Prop := ∃ g k : Nat, e = .returned (.tuple #[.slice (some ⟨g, 0, none⟩) ns.length k, .int .i64 0]) ∧ IBox w' g ns ∧ m ≤ g
set_option maxHeartbeats 3200000 in
theorem numbersB_ok (a b c : Int) (ao : Option Addr) (cap : Nat) (L : List Q) (ns : List Int) (w : World) (h : LiesO w ao L) (hr : fldR a b c L 0) (hq : smR L ns true) : Calls Try.prog 62 #[.agg #[.int .i64 a, .int .i64 b, .int .i64 c, .slice ao L.length cap]] w fun e w' => RetNB w.heap.size ns e w' ∧ Below w.heap.size w w' := by
  have hlen := fld_len hr
  obtain ⟨bl, off, rfl, h2⟩ := fld_some hr h
  have c1 : ∀ W : World, LiesO W (some ⟨bl, off, none⟩) L → Calls Try.prog 97 #[.agg #[.int .i64 a, .int .i64 b, .int .i64 c, .slice (some ⟨bl, off, none⟩) L.length cap]] W fun e w' => e = .returned (.int .i64 0) ∧ Below W.heap.size W w' := fun W h => validateF_any a b c 0 _ cap L W h hr (by omega)
  obtain ⟨i0, hi, hz0, hz1, hz2⟩ := info_parts infoI
  have HV := Lib.hid (fldR_ok hr).2.2
  have HO := Lib.hid h
  have H := Lib.hid h2
  have HQ := Lib.hid hq
  have hl2 : L.length ≤ maxLen := by unfold maxLen; omega
  have hl3 : i0.bytes * L.length ≤ 281474976710656 := by rw [hz2]; omega
  clear h h2 hr hq
  go_enter Try.func62, Try.ntmps62
  go_wp2_with (first | ((with_reducible refine (c1 _ (HO.out.later (by repeat (first | (with_reducible exact Below.refl _ _) | (with_reducible refine Below.setCell ?_ ?_ _) | (with_reducible refine Below.drew ?_) | (with_reducible refine Below.alloc ?_ ?_ _) | omega | (simp <;> omega))))).mono ?_); rintro e w1 ⟨rfl, hw1⟩; have s1 := hw1.size; simp at s1; have hc1 := Tail.cells hw1; have z0 := Nat.lt_of_lt_of_le (n := w.heap.size) (by simp) hw1.size) | (at_make; refine wpList_make_own _ rfl _ _ 77 rfl w1.heap.size 3 i0 _ 1 Try.underlying77 hi hz0 hz1 _ _ _ L.length rfl rfl rfl hl3 hl2 (Nat.le_refl _) ?_; intro w2 hown hgrow; have fb3 : w2.cell? ⟨w.heap.size, 3, none⟩ = some (.slice (some ⟨bl, off, none⟩) L.length cap) := hgrow.cell (by simp [go_sem, hc1, z0]) (by simp)))
  have hb2 : Below w.heap.size w w2 := (show Below w.heap.size w w1 by repeat (first | (with_reducible exact Below.refl _ _) | (with_reducible refine Below.setCell ?_ ?_ _) | (with_reducible refine Below.drew ?_) | (with_reducible refine Below.alloc ?_ ?_ _) | (with_reducible refine Below.trans ?_ (Below.mono hw1 ?_)) | (with_reducible exact hw1.size) | omega | (simp <;> omega) | (simp <;> (have s := hw1.size; omega)) | (have s0 := hw1.size; (try simp at s0); (try simp); omega))).grown hgrow (by omega) (by simp)
  have s2 := hgrow.size
  clear hgrow hw1 fb3 hc1 z0 c1
  have HG := Lib.hid (show w.heap.size ≤ w1.heap.size from by omega)
  generalize w1.heap.size = g at *
  go_loopw [5, 7, 8, 9, 10, 23] (fun f _ _ _ _ q wr => ∃ (k : Nat) (ms : List Int), k ≤ L.length ∧ q = .int .i64 k ∧ Hid (Nums L ms k) ∧ f = .slice (some ⟨g, 0, none⟩) k L.length ∧ Hid (wr.ownsRow g 3 1 (.slice (some ⟨g, 0, none⟩) k L.length) k (ms.map vi)) ∧ Below w.heap.size w wr ∧ g ≤ wr.heap.size) (fun _ _ _ _ _ q _ => L.length - (intOf q).toNat)
  case atStart => exact ⟨0, [], by omega, rfl, Lib.hid ⟨rfl, fun i x h => by omega⟩, rfl, Lib.hid hown, hb2, s2⟩
  case round =>
    obtain ⟨k, ms, hk, rfl, hms, rfl, hown1, hb, hgs⟩ := hrel
    clear hown hb2 s2
    have hbs := hb.size
    by_cases hlt : k < L.length
    · have hx : L[k]? = some L[k] := List.getElem?_eq_getElem hlt
      have hvx := (HV.out k _ hx).1
      obtain ⟨l0, l1, l2, l3, l4⟩ := H.out.later hb k _ hx
      obtain ⟨n, bq, hn⟩ := NumR.ex L[k]
      generalize L[k] = x at *
      have c2 := fun W : World => number_ok x n bq W hvx hn
      cases bq with
      | true =>
        have hnext := Lib.hid (nums_snoc hms.out hx hn)
        clear hvx hx hms hn
        go_wp2_with (first | ((with_reducible refine (c2 _).mono ?_); clear c2; rintro e w3 ⟨rfl, hw3⟩; have s3 := hw3.size; simp at s3) | (at_builtin; refine wpList_append_fits _ rfl (.tmp 38) (.tmp 40) 77 rfl g 3 i0 1 Try.underlying77 hi hz1 g k L.length (ms.map vi) rfl ((owned_later (hown1.out.alloc _) hw3).alloc _) ⟨w3.heap.size, 0, none⟩ 1 1 [vi n] rfl rfl (one_cell (by simp [go_sem, vi])) (one_one _) (by omega) ?_; intro w4 hown4 hgrow4))
        have hb3 : Below w.heap.size w w3 := by repeat (first | (with_reducible exact Below.refl _ _) | (with_reducible refine Below.setCell ?_ ?_ _) | (with_reducible refine Below.drew ?_) | (with_reducible refine Below.alloc ?_ ?_ _) | (with_reducible refine Below.trans ?_ (Below.mono hw3 ?_)) | (with_reducible refine Below.trans ?_ (Below.mono hb ?_)) | (with_reducible exact hw3.size) | (with_reducible exact hb.size) | omega | (simp <;> omega) | (simp <;> (have s := hw3.size; omega)) | (simp <;> (have s := hb.size; omega)) | (have s0 := hw3.size; (try simp at s0); have s1 := hb.size; (try simp at s1); (try simp); omega))
        have hb4 := (hb3.alloc hb3.size _).grown hgrow4 (by have := hb3.size; simp; omega) (fun j hj => by simp at hj; omega)
        have s4 := hgrow4.size
        simp at s4
        have ho : w4.ownsRow g 3 1 (.slice (some ⟨g, 0, none⟩) (k + 1) L.length) (k + 1) ((ms ++ [n]).map vi) := by
          rw [List.map_append]
          exact hown4
        clear hown4 hgrow4 hown1 hw3
        go_wp2
        exact ⟨⟨k + 1, ms ++ [n], by omega, by go_num, hnext, rfl, Lib.hid ho, hb4, by omega⟩, by simp [intOf]; omega⟩
      | false =>
        obtain ⟨hq1, hq2⟩ := sm_bad HQ.out hx hn
        have HQ1 := Lib.hid hq1
        clear hvx hx hms hn hq1 hq2 HQ
        go_wp2_with ((with_reducible refine (c2 _).mono ?_); clear c2; rintro e w3 ⟨rfl, hw3⟩)
        go_ret2
        exact absurd HQ1.out (by simp)
    · obtain rfl : k = L.length := by omega
      obtain ⟨hq1, hq2⟩ := sm_end HQ.out hms.out
      have hml := hms.out.1
      have hown' : wr.ownsRow g 3 1 (.slice (some ⟨g, 0, none⟩) ms.length L.length) ms.length (ms.map vi) := by
        rw [hml]
        exact hown1.out
      have hli := owned_IBox hown'
      have HQ1 := Lib.hid hq1
      have HQ2 := Lib.hid hq2
      have HML := Lib.hid hml
      clear hown1 hown' hq1 hq2 hml hms HQ
      go_wp2
      go_ret2
      exact ⟨⟨g, L.length, by rw [HQ2.out, HML.out]; rfl, by rw [HQ2.out]; exact hli, HG.out⟩, hb⟩

set_option maxHeartbeats 1600000 in
theorem resting_bad (a b c r : Int) (ao : Option Addr) (cap : Nat) (L : List Q) (ns : List Int) (w : World) (h : LiesO w ao L) (hr : numsR a b c L ns r) (h0 : r ≠ 0) (hlen : L.length ≤ 1000000) : Calls Try.prog 55 #[.agg #[.int .i64 a, .int .i64 b, .int .i64 c, .slice ao L.length cap]] w fun e w' => e = .returned (.tuple #[.pointer none, .int .i64 r]) ∧ Below w.heap.size w w' := by
  have H := Lib.hid h
  have h0' : (r != 0) = true := by simpa using h0
  have c1 : ∀ W : World, LiesO W ao L → Calls Try.prog 62 #[.agg #[.int .i64 a, .int .i64 b, .int .i64 c, .slice ao L.length cap]] W fun e w' => e = .returned (.tuple #[.slice none 0 0, .int .i64 r]) ∧ Below W.heap.size W w' := fun W h => by
    rcases hr with ⟨h1, h2, rfl⟩ | ⟨h1, ⟨h2, rfl⟩ | ⟨h2, rfl⟩⟩
    · exact numbers_bad a b c r ao cap L W h h1 h2 hlen
    · exact absurd rfl h0
    · refine (numbers_ok a b c ao cap L ns false W h h1 h2).mono fun e w' ⟨k, hw⟩ => ?_
      rcases k with ⟨k, -⟩ | ⟨-, k⟩
      · simp at k
      · exact ⟨k, hw⟩
  clear h hr h0
  go_enter Try.func55, Try.ntmps55
  go_wp2_with ((with_reducible refine (c1 _ (H.out.later (by repeat (first | (with_reducible exact Below.refl _ _) | (with_reducible refine Below.setCell ?_ ?_ _) | (with_reducible refine Below.drew ?_) | (with_reducible refine Below.alloc ?_ ?_ _) | omega | (simp <;> omega))))).mono ?_); rintro e w1 ⟨rfl, hw1⟩)
  go_ret2
  exact ⟨rfl, by repeat (first | (with_reducible exact Below.refl _ _) | (with_reducible refine Below.setCell ?_ ?_ _) | (with_reducible refine Below.drew ?_) | (with_reducible refine Below.alloc ?_ ?_ _) | (with_reducible refine Below.trans ?_ (Below.mono hw1 ?_)) | (with_reducible exact hw1.size) | omega | (simp <;> omega) | (simp <;> (have s := hw1.size; omega)) | (have s0 := hw1.size; (try simp at s0); (try simp); omega))⟩
end Go.Proofs.Ytilbhcjnkmeecaa

