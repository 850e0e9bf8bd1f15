/- The hot field and the noise of a seed, as the document's answers make them.
Conditions: those written at each theorem. -/
import Derived.Test.YthloceljgmmdbaaHotR
namespace Go.Proofs.Ythloceljgmmdbaa
set_option linter.unusedVariables false
set_option linter.unusedSimpArgs false
set_option maxRecDepth 1000000
open Go.RowKit
open Um Tm Cm

def RetU2 (m : Nat) (L : List Q) (t : Int) (e : Ending) (w' : World) : Prop := ∃ g k : Nat, e = .returned (.tuple #[.slice (some ⟨g, 0, none⟩) L.length k, .int .i64 t]) ∧ Lies w' g 0 L ∧ m ≤ g
set_option maxHeartbeats 3200000 in
theorem refUnits_any (n : Nat) (s : Int) (w : World) (hs : IsSeed s) (hn0 : 0 < n) (hn : n ≤ 48) : Calls Try.prog 33 #[.int .i64 n, .int .i64 s] w fun e w' => RetU2 w.heap.size (uns s n) (advN s n) e w' ∧ Below w.heap.size w w' := by
  obtain ⟨i0, hi, hz0, hz1, hz2⟩ := info_parts infoU
  have HS := Lib.hid (fun k => advN_seed hs k)
  have HF := Lib.hid (uns_flat s)
  have HL := Lib.hid (uns_len s)
  have HA := Lib.hid (fun k : Nat => (show advN s (k + 1) = adv (advN s k) from rfl))
  have H0 := Lib.hid (show advN s 0 = s from rfl)
  clear hs
  go_enter Try.func33, Try.ntmps33
  go_wp2
  go_loopw [1, 6, 7, 8, 9] (fun p f q _ _ wr => ∃ (k : Nat) (v : Value), k ≤ n ∧ q = .int .i64 k ∧ p = .int .i64 (advN s k) ∧ v = f ∧ Hid (wr.ownsRow w.heap.size 59 5 v k ((uns s k).flatMap uc)) ∧ Below w.heap.size w wr) (fun _ _ q _ _ _ => n - (intOf q).toNat)
  case atStart => exact ⟨0, _, by omega, rfl, by rw [H0.out], rfl, Lib.hid (World.ownsRow_nil _ _ _ _), Below.refl _ _⟩
  case round =>
    obtain ⟨k, v, hk, rfl, rfl, rfl, hown, hb⟩ := hrel
    have hbs := hb.size
    by_cases hkn : k < n
    · have i1 : (k : Int) < (n : Int) := by omega
      have c1 := fun W => refDrawS_any (advN s k) 24 W (HS.out k) (by omega) (by omega)
      obtain ⟨r1, r2⟩ := drw_rng (s := advN s k) (n := 24) (by omega)
      have c2 := fun W : World => unit5_any (drw (advN s k) 24) W r1 (by omega)
      have hf := HF.out k
      have ha := HA.out k
      rw [← ha] at c1
      have HFK := Lib.hid hf
      clear hf r1 r2 ha
      generalize small (drw (advN s k) 24) = y at *
      generalize drw (advN s k) 24 = d at *
      generalize advN s k = t0 at *
      obtain ⟨t, ht⟩ : ∃ t, advN s (k + 1) = t := ⟨_, rfl⟩
      rw [ht] at c1
      have HT := Lib.hid ht
      clear ht
      go_wp2_with (first | ((with_reducible refine (c1 _).mono ?_); clear c1; rintro e wa ⟨rfl, rfl⟩) | ((with_reducible refine (c2 _).mono ?_); clear c2; rintro e w2 ⟨rfl, hw2⟩) | (at_builtin; refine wpList_append_own _ rfl (.tmp 20) (.tmp 23) 32 rfl w.heap.size 59 i0 _ 5 40 Try.underlying32 hi hz0 hz1 hz2 rfl (by decide) v k ((uns s k).flatMap uc) rfl ((owned_later hown.out hw2).alloc _) ⟨w2.heap.size, 0, none⟩ 1 1 (uc y) rfl rfl (five_cells rfl (by simp [go_sem]) (by simp [go_sem]) (by simp [go_sem]) (by simp [go_sem]) (by simp [go_sem])) (five_one rfl) (by unfold maxLen; omega) (by omega) (by have := hw2.size; simp; omega) ?_; intro v' w4 hown4 hgrow4 _))
      have hfr := owned_from hown.out
      have sz2 : wr.heap.size ≤ w2.heap.size := hw2.size
      have b2 : Below w.heap.size w w2 := by repeat (first | (with_reducible exact Below.refl _ _) | (with_reducible refine Below.setCell ?_ ?_ _) | (with_reducible refine Below.drew ?_) | (with_reducible refine Below.alloc ?_ ?_ _) | (with_reducible refine Below.trans ?_ (Below.mono hw2 ?_)) | (with_reducible refine Below.trans ?_ (Below.mono hb ?_)) | (with_reducible exact hw2.size) | (with_reducible exact hb.size) | omega | (simp <;> omega) | (simp <;> (have s := hw2.size; omega)) | (simp <;> (have s := hb.size; omega)) | (have s0 := hw2.size; (try simp at s0); have s1 := hb.size; (try simp at s1); (try simp); omega))
      have b4 := (b2.alloc (by omega) _).grown hgrow4 (by simp; omega) (fun j hj => by have := hfr j hj; omega)
      have ho : w4.ownsRow w.heap.size 59 5 v' (k + 1) ((uns s (k + 1)).flatMap uc) := by rw [HFK.out]; exact hown4
      clear hown4 hgrow4 hown hw2
      go_wp2
      exact ⟨⟨k + 1, _, by omega, by go_num, by rw [HT.out], rfl, Lib.hid ho, b4⟩, by simp [intOf]; omega⟩
    · obtain rfl : k = n := by omega
      obtain ⟨gv, cv, rfl, hgv⟩ := owned5_some hown.out hn0
      have hli : Lies wr gv 0 (uns s k) := owned_lies (T := 59) (base := w.heap.size) (cap := cv) (by rw [HL.out k]; exact hown.out)
      have HLI := Lib.hid hli
      have HLH := Lib.hid (HL.out k)
      clear hown hli
      go_wp2
      go_ret2
      exact ⟨⟨gv, cv, by rw [HLH.out]; rfl, HLI.out, hgv⟩, hb⟩

theorem prod_eq {a b c : Int} {n : Nat} (hz : Sz a b c) (hn : (n : Int) = a * b * c) : (0 ≤ a * b ∧ a * b ≤ 16) ∧ a * b * c = (n : Int) ∧ n ≤ 16 ∧ 0 < n := by
  obtain ⟨p1, p2, p3, p4⟩ := mul_rng hz.a1 hz.a4 hz.b1 hz.b4 hz.c1 hz.c4
  have := hz.p
  omega
set_option maxHeartbeats 1600000 in
theorem refNoise_ok (a b c s : Int) (n : Nat) (w : World) (hz : Sz a b c) (hn : (n : Int) = a * b * c) (hs : IsSeed s) : Calls Try.prog 17 #[.agg #[.int .i64 a, .int .i64 b, .int .i64 c], .int .i64 s] w fun e w' => RetU3 w.heap.size (uns s n) (advN s n) e w' ∧ Below w.heap.size w w' := by
  obtain ⟨⟨p1, p2⟩, p3, p4, p5⟩ := prod_eq hz hn
  have c1 := fun W : World => refSizes_any a b c 0 W (.inl ⟨hz, rfl⟩)
  have c2 := fun W : World => isSeed_any s W true (.inl ⟨hs, rfl⟩)
  have c3 := fun (W : World) => refUnits_any n s W hs p5 (by omega)
  have a1 := hz.a1
  have a4 := hz.a4
  have q1 : 0 ≤ a * b * c ∧ a * b * c ≤ 16 := by omega
  obtain ⟨q1, q2⟩ := q1
  rw [← p3] at c3
  clear hz hs hn p3 p4 p5
  go_enter Try.func17, Try.ntmps17
  go_wp2_with (first | ((with_reducible refine (c1 _).mono ?_); rintro e w1 ⟨rfl, hw1⟩; have hc1 := Tail.cells hw1; have zw10 := Nat.lt_of_lt_of_le (n := w.heap.size) (by simp <;> omega) hw1.size) | ((with_reducible refine (c2 _).mono ?_); rintro e w2 ⟨rfl, rfl⟩) | ((with_reducible refine (c3 _).mono ?_); rintro e w3 ⟨⟨g, k, rfl, hl, hgm⟩, hw3⟩; have HL := Lib.hid hl; clear hl))
  go_ret3
  exact ⟨⟨g, k, rfl, HL.out, by have := hw1.size; simp at this; omega⟩, by repeat (first | (with_reducible exact Below.refl _ _) | (with_reducible refine Below.setCell ?_ ?_ _) | (with_reducible refine Below.drew ?_) | (with_reducible refine Below.alloc ?_ ?_ _) | (with_reducible refine Below.trans ?_ (Below.mono hw3 ?_)) | (with_reducible refine Below.trans ?_ (Below.mono hw1 ?_)) | (with_reducible exact hw3.size) | (with_reducible exact hw1.size) | omega | (simp <;> omega) | (simp <;> (have s := hw3.size; omega)) | (simp <;> (have s := hw1.size; omega)) | (have s0 := hw3.size; (try simp at s0); have s1 := hw1.size; (try simp at s1); (try simp); omega))⟩
set_option maxHeartbeats 1600000 in
theorem refNoise_bad (a b c s r : Int) (w : World) (h : ssR a b c s r) : Calls Try.prog 17 #[.agg #[.int .i64 a, .int .i64 b, .int .i64 c], .int .i64 s] w fun e w' => e = .returned (.tuple #[.slice none 0 0, .int .i64 0, .int .i64 r]) ∧ Below w.heap.size w w' := by
  rcases h with ⟨hz, rfl⟩ | ⟨hz, hs, rfl⟩
  · have c1 := fun W : World => refSizes_any a b c 1 W (.inr ⟨hz, rfl⟩)
    clear hz
    go_enter Try.func17, Try.ntmps17
    go_wp2_with ((with_reducible refine (c1 _).mono ?_); rintro e w1 ⟨rfl, hw1⟩)
    go_ret3
    exact ⟨rfl, by repeat (first | (with_reducible exact Below.refl _ _) | (with_reducible refine Below.setCell ?_ ?_ _) | (with_reducible refine Below.drew ?_) | (with_reducible refine Below.alloc ?_ ?_ _) | (with_reducible refine Below.trans ?_ (Below.mono hw1 ?_)) | (with_reducible exact hw1.size) | omega | (simp <;> omega) | (simp <;> (have s := hw1.size; omega)) | (have s0 := hw1.size; (try simp at s0); (try simp); omega))⟩
  · have c1 := fun W : World => refSizes_any a b c 0 W (.inl ⟨hz, rfl⟩)
    have c2 := fun W : World => isSeed_any s W false (.inr ⟨hs, rfl⟩)
    clear hz hs
    go_enter Try.func17, Try.ntmps17
    go_wp2_with (first | ((with_reducible refine (c1 _).mono ?_); rintro e w1 ⟨rfl, hw1⟩) | ((with_reducible refine (c2 _).mono ?_); rintro e w2 ⟨rfl, rfl⟩))
    go_ret3
    exact ⟨rfl, by repeat (first | (with_reducible exact Below.refl _ _) | (with_reducible refine Below.setCell ?_ ?_ _) | (with_reducible refine Below.drew ?_) | (with_reducible refine Below.alloc ?_ ?_ _) | (with_reducible refine Below.trans ?_ (Below.mono hw1 ?_)) | (with_reducible exact hw1.size) | omega | (simp <;> omega) | (simp <;> (have s := hw1.size; omega)) | (have s0 := hw1.size; (try simp at s0); (try simp); omega))⟩
set_option maxHeartbeats 1600000 in
theorem refHot_bad (a b c s r : Int) (w : World) (h : ssR a b c s r) : Calls Try.prog 15 #[.agg #[.int .i64 a, .int .i64 b, .int .i64 c], .int .i64 s] w fun e w' => e = .returned (.tuple #[.agg #[.int .i64 0, .int .i64 0, .int .i64 0, .slice none 0 0], .int .i64 0, .int .i64 r]) ∧ Below w.heap.size w w' := by
  rcases h with ⟨hz, rfl⟩ | ⟨hz, hs, rfl⟩
  · have c1 := fun W : World => refSizes_any a b c 1 W (.inr ⟨hz, rfl⟩)
    clear hz
    go_enter Try.func15, Try.ntmps15
    go_wp2_with ((with_reducible refine (c1 _).mono ?_); rintro e w1 ⟨rfl, hw1⟩; have hc1 := Tail.cells hw1; have zw10 := Nat.lt_of_lt_of_le (n := w.heap.size) (by simp <;> omega) hw1.size; have zw11 := Nat.lt_of_lt_of_le (n := w.heap.size + 1) (by simp <;> omega) hw1.size)
    have r2 := (⟨by simp [go_sem], by simp [go_sem], by simp [go_sem], by simp [go_sem], fun j => by simp [go_sem], by simp⟩ : FW ((w.alloc (.cells #[.int .i64 a, .int .i64 b, .int .i64 c] 31)).alloc (.cells #[.int .i64 0, .int .i64 0, .int .i64 0, .slice none 0 0] 34)) (w.heap.size + 1) 0 0 0 (.slice none 0 0)).later hw1
    obtain ⟨d0, d1, d2, d3, df, dl⟩ := r2
    refine bodyPost_ret (v := .tuple #[.agg #[.int .i64 0, .int .i64 0, .int .i64 0, .slice none 0 0], .int .i64 0, .int .i64 1]) ?_ rfl ⟨rfl, ?_⟩
    · simp [results, Try.results15, go_sem, d0, d1, d2, d3, dl]
    · repeat (first | (with_reducible exact Below.refl _ _) | (with_reducible refine Below.setCell ?_ ?_ _) | (with_reducible refine Below.drew ?_) | (with_reducible refine Below.alloc ?_ ?_ _) | (with_reducible refine Below.trans ?_ (Below.mono hw1 ?_)) | (with_reducible exact hw1.size) | omega | (simp <;> omega) | (simp <;> (have s := hw1.size; omega)) | (have s0 := hw1.size; (try simp at s0); (try simp); omega))
  · have c1 := fun W : World => refSizes_any a b c 0 W (.inl ⟨hz, rfl⟩)
    have c2 := fun W : World => isSeed_any s W false (.inr ⟨hs, rfl⟩)
    clear hz hs
    go_enter Try.func15, Try.ntmps15
    go_wp2_with (first | ((with_reducible refine (c1 _).mono ?_); rintro e w1 ⟨rfl, hw1⟩; have hc1 := Tail.cells hw1; have zw10 := Nat.lt_of_lt_of_le (n := w.heap.size) (by simp <;> omega) hw1.size; have zw11 := Nat.lt_of_lt_of_le (n := w.heap.size + 1) (by simp <;> omega) hw1.size) | ((with_reducible refine (c2 _).mono ?_); rintro e w2 ⟨rfl, rfl⟩))
    have r2 := (⟨by simp [go_sem], by simp [go_sem], by simp [go_sem], by simp [go_sem], fun j => by simp [go_sem], by simp⟩ : FW ((w.alloc (.cells #[.int .i64 a, .int .i64 b, .int .i64 c] 31)).alloc (.cells #[.int .i64 0, .int .i64 0, .int .i64 0, .slice none 0 0] 34)) (w.heap.size + 1) 0 0 0 (.slice none 0 0)).later hw1
    obtain ⟨d0, d1, d2, d3, df, dl⟩ := r2
    refine bodyPost_ret (v := .tuple #[.agg #[.int .i64 0, .int .i64 0, .int .i64 0, .slice none 0 0], .int .i64 0, .int .i64 1]) ?_ rfl ⟨rfl, ?_⟩
    · simp [results, Try.results15, go_sem, d0, d1, d2, d3, dl]
    · repeat (first | (with_reducible exact Below.refl _ _) | (with_reducible refine Below.setCell ?_ ?_ _) | (with_reducible refine Below.drew ?_) | (with_reducible refine Below.alloc ?_ ?_ _) | (with_reducible refine Below.trans ?_ (Below.mono hw1 ?_)) | (with_reducible exact hw1.size) | omega | (simp <;> omega) | (simp <;> (have s := hw1.size; omega)) | (have s0 := hw1.size; (try simp at s0); (try simp); omega))
set_option maxHeartbeats 3200000 in
theorem refHot_ok (a b c s : Int) (n : Nat) (w : World) (hz : Sz a b c) (hn : (n : Int) = 3 * (a * b * c)) (hs : IsSeed s) : Calls Try.prog 15 #[.agg #[.int .i64 a, .int .i64 b, .int .i64 c], .int .i64 s] w fun e w' => RetF3 a b c (uns s n) (advN s n) e w' ∧ Below w.heap.size w w' := by
  obtain ⟨p1, p2, p3, p4⟩ := mul_rng hz.a1 hz.a4 hz.b1 hz.b4 hz.c1 hz.c4
  have p5 := hz.p
  have e1 : 3 * a * b * c = (n : Int) := by rw [hn]; simp only [Int.mul_assoc]
  have e2 : 3 * a * b = 3 * (a * b) := Int.mul_assoc _ _ _
  have r1 : 0 ≤ 3 * a * b ∧ 3 * a * b ≤ 48 := by omega
  have r3 : 0 ≤ 3 * a * b * c ∧ 3 * a * b * c ≤ 48 := by omega
  obtain ⟨r1, r2⟩ := r1
  obtain ⟨r3, r4⟩ := r3
  have a1 := hz.a1
  have a4 := hz.a4
  have c1 := fun W : World => refSizes_any a b c 0 W (.inl ⟨hz, rfl⟩)
  have c2 := fun W : World => isSeed_any s W true (.inl ⟨hs, rfl⟩)
  have c3 := fun (W : World) => refUnits_any n s W hs (by omega) (by omega)
  rw [← e1] at c3
  clear hz hs hn p1 p2 p3 p4 p5 e1 e2
  generalize advN s n = t at *
  generalize uns s n = L at *
  go_enter Try.func15, Try.ntmps15
  go_wp2_with (first | ((with_reducible refine (c1 _).mono ?_); clear c1; rintro e w1 ⟨rfl, hw1⟩; have hc1 := Tail.cells hw1; have zw10 := Nat.lt_of_lt_of_le (n := w.heap.size) (by simp <;> omega) hw1.size; have zw11 := Nat.lt_of_lt_of_le (n := w.heap.size + 1) (by simp <;> omega) hw1.size) | ((with_reducible refine (c2 _).mono ?_); clear c2; rintro e w2 ⟨rfl, rfl⟩) | ((with_reducible refine (c3 _).mono ?_); clear c3; rintro e w3 ⟨⟨g, k, rfl, hl, hgm⟩, hw3⟩; have HL2 := Lib.hid hl; clear hl; have F3 := (⟨by simp [go_sem], by simp [go_sem], by simp [go_sem], by simp [go_sem], fun j => by simp [go_sem], by simp⟩ : FW (w1.alloc (.cells #[.int .i64 a, .int .i64 b, .int .i64 c, .slice none 0 0] 34)) w1.heap.size a b c (.slice none 0 0)).later hw3; obtain ⟨f0, f1, f2, f3, ff, fl⟩ := F3; have hs1 : w.heap.size + 2 ≤ w1.heap.size := (by have := hw1.size; simpa using this); have hne : w.heap.size + 1 ≠ w1.heap.size := (by omega); have hne' : w1.heap.size ≠ w.heap.size + 1 := (by omega); have R3 := (((⟨by simp [go_sem], by simp [go_sem], by simp [go_sem], by simp [go_sem], fun j => by simp [go_sem], by simp⟩ : FW ((w.alloc (.cells #[.int .i64 a, .int .i64 b, .int .i64 c] 31)).alloc (.cells #[.int .i64 0, .int .i64 0, .int .i64 0, .slice none 0 0] 34)) (w.heap.size + 1) 0 0 0 (.slice none 0 0)).later hw1).later ((Below.refl _ _).alloc (Nat.le_refl _) (.cells #[.int .i64 a, .int .i64 b, .int .i64 c, .slice none 0 0] 34))).later hw3; obtain ⟨d0, d1, d2, d3, df, dl⟩ := R3))
  have hgm2 : w1.heap.size + 1 ≤ g := by simpa using hgm
  have G1 := grown_setCell w3 ⟨w1.heap.size, 3, none⟩ (.slice (some ⟨g, 0, none⟩) L.length k)
  have G2 := grown_setCells (w.heap.size + 1) [.int .i64 a, .int .i64 b, .int .i64 c, .slice (some ⟨g, 0, none⟩) L.length k] 0 (w3.setCell ⟨w1.heap.size, 3, none⟩ (.slice (some ⟨g, 0, none⟩) L.length k))
  refine bodyPost_ret (v := .tuple #[.agg #[.int .i64 a, .int .i64 b, .int .i64 c, .slice (some ⟨g, 0, none⟩) L.length k], .int .i64 t, .int .i64 0]) ?_ rfl ⟨⟨g, k, rfl, ?_⟩, ?_⟩
  · simp [results, Try.results15, go_sem, d0, d1, d2, d3, dl, hne, hne']
  · intro i x hx
    obtain ⟨h0, h1, h2, h3, h4⟩ := HL2.out i x hx
    have hn1 : some g ≠ some w1.heap.size := by simp; omega
    have hn2 : some g ≠ some (w.heap.size + 1) := by simp; omega
    exact ⟨G2.cell (G1.cell h0 hn1) hn2, G2.cell (G1.cell h1 hn1) hn2, G2.cell (G1.cell h2 hn1) hn2, G2.cell (G1.cell h3 hn1) hn2, G2.cell (G1.cell h4 hn1) hn2⟩
  · repeat (first | (with_reducible exact Below.refl _ _) | (with_reducible refine Below.setCell ?_ ?_ _) | (with_reducible refine Below.drew ?_) | (with_reducible refine Below.alloc ?_ ?_ _) | (with_reducible refine Below.trans ?_ (Below.mono hw3 ?_)) | (with_reducible refine Below.trans ?_ (Below.mono hw1 ?_)) | (with_reducible exact hw3.size) | (with_reducible exact hw1.size) | omega | (simp <;> omega) | (simp <;> (have s := hw3.size; omega)) | (simp <;> (have s := hw1.size; omega)) | (have s0 := hw3.size; (try simp at s0); have s1 := hw1.size; (try simp at s1); (try simp); omega))
end Go.Proofs.Ythloceljgmmdbaa
