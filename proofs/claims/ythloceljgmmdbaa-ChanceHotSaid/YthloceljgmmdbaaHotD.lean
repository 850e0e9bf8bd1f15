/- The hot field and the noise of a seed, as the program makes them.
Conditions: those written at each theorem. -/
import Derived.Test.YthloceljgmmdbaaHotC
namespace Go.Proofs.Ythloceljgmmdbaa
set_option linter.unusedVariables false
set_option linter.unusedSimpArgs false
set_option maxRecDepth 1000000
open Go.RowKit
open Um Tm Cm

def RetU3 (m : Nat) (L : List Q) (t : Int) (e : Ending) (w' : World) : Prop := ∃ g k : Nat, e = .returned (.tuple #[.slice (some ⟨g, 0, none⟩) L.length k, .int .i64 t, .int .i64 0]) ∧ Lies w' g 0 L ∧ m ≤ g
def RetF3 (a b c : Int) (L : List Q) (t : Int) (e : Ending) (w' : World) : Prop := ∃ g k : Nat, e = .returned (.tuple #[.agg #[.int .i64 a, .int .i64 b, .int .i64 c, .slice (some ⟨g, 0, none⟩) L.length k], .int .i64 t, .int .i64 0]) ∧ Lies w' g 0 L
set_option maxHeartbeats 1600000 in
theorem drawn_ok (n : Nat) (s : Int) (w : World) (hs : IsSeed s) (hn0 : 0 < n) (hn : n ≤ 48) : Calls Try.prog 31 #[.int .i64 n, .int .i64 s] w fun e w' => RetU3 w.heap.size (uns s n) (advN s n) e w' ∧ Below w.heap.size w w' := by
  have c1 := fun W : World => checkSeed_any s 0 W (.inl ⟨hs, rfl⟩)
  have c2 := fun (B : Nat) (W : World) hg => chosen_any B n s W hs hn0 hn hg
  have g0 : GBox (w.alloc (.cells #[.int .i64 s] 50)) w.heap.size s := ⟨by simp [go_sem], by simp [go_sem], by simp⟩
  have G0 := Lib.hid g0
  have hmf : ∀ (fn : Fn) (first cap : Array Value) (w : World), (Instr.makeFunc fn first cap).run Try.prog w = .ok (.func fn first cap) w := fun _ _ _ _ => rfl
  clear hs g0
  go_enter Try.func31, Try.ntmps31
  go_wp2_with (first | ((with_reducible refine (c1 _).mono ?_); rintro e w1 ⟨rfl, rfl⟩) | ((with_reducible refine (c2 _ _ G0.out).mono ?_); rintro e w2 ⟨⟨g, k, rfl, hl, hgm⟩, hg2, hw2⟩; have HL := Lib.hid hl; clear hl; obtain ⟨gc, gf, gl⟩ := hg2))
  refine Tail.region_below (by kernel_rfl) (by kernel_rfl) ?_
  have kc := @Tail.cell_re; have kc1 : ∀ (W : World) (o : Obj) (d : Nat) (os : Array Obj) (a : Addr), a.block ≤ W.heap.size → (Sort.grow (redrawn (W.alloc o) d) os).cell? a = (W.alloc o).cell? a := fun W o d os a h => Tail.cell_re (W.alloc o) d os a (Nat.lt_of_le_of_lt h (by simp))
  repeat (go_big_quiet_step (fail))
  refine wpQuiet_nil ?_
  intro w3 hw3
  go_wp2
  go_ret3
  exact ⟨⟨g, k, rfl, HL.out.later hw3, hgm⟩, by repeat (first | (with_reducible exact Below.refl _ _) | (with_reducible refine Below.setCell ?_ ?_ _) | (with_reducible refine Below.drew ?_) | (with_reducible refine Below.alloc ?_ ?_ _) | (with_reducible refine Below.trans ?_ (Below.mono hw3 ?_)) | (with_reducible refine Below.trans ?_ (Below.mono hw2 ?_)) | (with_reducible exact hw3.size) | (with_reducible exact hw2.size) | omega | (simp <;> omega) | (simp <;> (have s := hw3.size; omega)) | (simp <;> (have s := hw2.size; omega)) | (have s0 := hw3.size; (try simp at s0); have s1 := hw2.size; (try simp at s1); (try simp); omega))⟩
set_option maxHeartbeats 800000 in
theorem drawn_bad (n s : Int) (w : World) (hs : ¬ IsSeed s) : Calls Try.prog 31 #[.int .i64 n, .int .i64 s] w fun e w' => e = .returned (.tuple #[.slice none 0 0, .int .i64 0, .int .i64 1]) ∧ Below w.heap.size w w' := by
  have c1 := fun W : World => checkSeed_any s 1 W (.inr ⟨hs, rfl⟩)
  clear hs
  go_enter Try.func31, Try.ntmps31
  go_wp2_with ((with_reducible refine (c1 _).mono ?_); rintro e w1 ⟨rfl, rfl⟩)
  go_ret3
  exact ⟨rfl, Below.refl _ _⟩
theorem sites_ex {a b c : Int} (h : Sz a b c) : ∃ n : Nat, (n : Int) = a * b * c ∧ 0 < n ∧ n ≤ 16 := by
  obtain ⟨-, -, p3, -⟩ := mul_rng h.a1 h.a4 h.b1 h.b4 h.c1 h.c4
  have := h.p
  exact ⟨(a * b * c).toNat, by omega, by omega, by omega⟩
/-- sizes and a seed: the error -/
def ssR (a b c s r : Int) : Prop := (¬ Sz a b c ∧ r = 1) ∨ (Sz a b c ∧ ¬ IsSeed s ∧ r = 1)
set_option maxHeartbeats 1600000 in
theorem noise_ok (a b c s : Int) (n : Nat) (w : World) (hz : Sz a b c) (hn : (n : Int) = a * b * c) (hs : IsSeed s) : Calls Try.prog 16 #[.agg #[.int .i64 a, .int .i64 b, .int .i64 c], .int .i64 s] w fun e w' => RetU3 w.heap.size (uns s n) (advN s n) e w' ∧ Below w.heap.size w w' := by
  obtain ⟨-, -, p3, -⟩ := mul_rng hz.a1 hz.a4 hz.b1 hz.b4 hz.c1 hz.c4
  have p4 := hz.p
  have c1 := fun W : World => sites_any a b c (a * b * c) 0 W (.inr ⟨hz, rfl, rfl⟩)
  have c2 := fun (W : World) => drawn_ok n s W hs (by omega) (by omega)
  rw [← hn] at c1
  clear hz hs hn p3 p4
  go_enter Try.func16, Try.ntmps16
  go_wp2_with (first | ((with_reducible refine (c1 _).mono ?_); rintro e w1 ⟨rfl, hw1⟩) | ((with_reducible refine (c2 _).mono ?_); rintro e w2 ⟨⟨g, k, rfl, hl, hgm⟩, hw2⟩; have HL := Lib.hid hl; clear hl))
  go_ret3
  exact ⟨⟨g, k, rfl, HL.out, by have := hw1.size; simp at this; omega⟩, by repeat (first | (with_reducible exact Below.refl _ _) | (with_reducible refine Below.setCell ?_ ?_ _) | (with_reducible refine Below.drew ?_) | (with_reducible refine Below.alloc ?_ ?_ _) | (with_reducible refine Below.trans ?_ (Below.mono hw2 ?_)) | (with_reducible refine Below.trans ?_ (Below.mono hw1 ?_)) | (with_reducible exact hw2.size) | (with_reducible exact hw1.size) | omega | (simp <;> omega) | (simp <;> (have s := hw2.size; omega)) | (simp <;> (have s := hw1.size; omega)) | (have s0 := hw2.size; (try simp at s0); have s1 := hw1.size; (try simp at s1); (try simp); omega))⟩
set_option maxHeartbeats 1600000 in
theorem noise_bad (a b c s r : Int) (w : World) (h : ssR a b c s r) : Calls Try.prog 16 #[.agg #[.int .i64 a, .int .i64 b, .int .i64 c], .int .i64 s] w fun e w' => e = .returned (.tuple #[.slice none 0 0, .int .i64 0, .int .i64 r]) ∧ Below w.heap.size w w' := by
  rcases h with ⟨hz, rfl⟩ | ⟨hz, hs, rfl⟩
  · have c1 := fun W : World => sites_any a b c 0 1 W (.inl ⟨hz, rfl, rfl⟩)
    clear hz
    go_enter Try.func16, Try.ntmps16
    go_wp2_with ((with_reducible refine (c1 _).mono ?_); rintro e w1 ⟨rfl, hw1⟩)
    go_ret3
    exact ⟨rfl, by repeat (first | (with_reducible exact Below.refl _ _) | (with_reducible refine Below.setCell ?_ ?_ _) | (with_reducible refine Below.drew ?_) | (with_reducible refine Below.alloc ?_ ?_ _) | (with_reducible refine Below.trans ?_ (Below.mono hw1 ?_)) | (with_reducible exact hw1.size) | omega | (simp <;> omega) | (simp <;> (have s := hw1.size; omega)) | (have s0 := hw1.size; (try simp at s0); (try simp); omega))⟩
  · obtain ⟨n, hn, -, -⟩ := sites_ex hz
    have c1 := fun W : World => sites_any a b c (a * b * c) 0 W (.inr ⟨hz, rfl, rfl⟩)
    have c2 := fun (W : World) => drawn_bad n s W hs
    rw [← hn] at c1
    clear hz hs hn
    go_enter Try.func16, Try.ntmps16
    go_wp2_with (first | ((with_reducible refine (c1 _).mono ?_); rintro e w1 ⟨rfl, hw1⟩) | ((with_reducible refine (c2 _).mono ?_); rintro e w2 ⟨rfl, hw2⟩))
    go_ret3
    exact ⟨rfl, by repeat (first | (with_reducible exact Below.refl _ _) | (with_reducible refine Below.setCell ?_ ?_ _) | (with_reducible refine Below.drew ?_) | (with_reducible refine Below.alloc ?_ ?_ _) | (with_reducible refine Below.trans ?_ (Below.mono hw2 ?_)) | (with_reducible refine Below.trans ?_ (Below.mono hw1 ?_)) | (with_reducible exact hw2.size) | (with_reducible exact hw1.size) | omega | (simp <;> omega) | (simp <;> (have s := hw2.size; omega)) | (simp <;> (have s := hw1.size; omega)) | (have s0 := hw2.size; (try simp at s0); have s1 := hw1.size; (try simp at s1); (try simp); omega))⟩
set_option maxHeartbeats 1600000 in
theorem hot_ok (a b c s : Int) (n : Nat) (w : World) (hz : Sz a b c) (hn : (n : Int) = 3 * (a * b * c)) (hs : IsSeed s) : Calls Try.prog 14 #[.agg #[.int .i64 a, .int .i64 b, .int .i64 c], .int .i64 s] w fun e w' => RetF3 a b c (uns s n) (advN s n) e w' ∧ Below w.heap.size w w' := by
  obtain ⟨-, -, p3, -⟩ := mul_rng hz.a1 hz.a4 hz.b1 hz.b4 hz.c1 hz.c4
  have p4 := hz.p
  have c1 := fun W : World => sites_any a b c (a * b * c) 0 W (.inr ⟨hz, rfl, rfl⟩)
  have c2 := fun (W : World) => drawn_ok n s W hs (by omega) (by omega)
  rw [hn] at c2
  have HL := Lib.hid (uns_len s n)
  clear hz hs hn
  generalize a * b * c = m at *
  generalize advN s n = t at *
  generalize uns s n = L at *
  clear HL
  go_enter Try.func14, Try.ntmps14
  go_wp2_with (first | ((with_reducible refine (c1 _).mono ?_); clear c1; rintro e w1 ⟨rfl, hw1⟩; have hc1 := Tail.cells hw1; have zw10 := Nat.lt_of_lt_of_le (n := w.heap.size) (by simp <;> omega) hw1.size; have zw11 := Nat.lt_of_lt_of_le (n := w.heap.size + 1) (by simp <;> omega) hw1.size) | ((with_reducible refine (c2 _).mono ?_); clear c2; rintro e w2 ⟨⟨g, k, rfl, hl, hgm⟩, hw2⟩; have HL2 := Lib.hid hl; clear hl; have hc2 := Tail.cells hw2; have z0 := Nat.lt_of_lt_of_le zw10 hw2.size; have z1 := Nat.lt_of_lt_of_le zw11 hw2.size))
  have r2 := ((⟨by simp [go_sem], by simp [go_sem], by simp [go_sem], by simp [go_sem], fun j => by simp [go_sem], by simp⟩ : FW ((w.alloc (.cells #[.int .i64 a, .int .i64 b, .int .i64 c] 31)).alloc (.cells #[.int .i64 0, .int .i64 0, .int .i64 0, .slice none 0 0] 34)) (w.heap.size + 1) 0 0 0 (.slice none 0 0)).later hw1).later hw2
  obtain ⟨d0, d1, d2, d3, df, dl⟩ := r2
  have hgm2 : w.heap.size + 2 ≤ g := by have := hw1.size; simp at this; omega
  have G1 := grown_setCells (w.heap.size + 1) [.int .i64 a, .int .i64 b, .int .i64 c, .slice (some ⟨g, 0, none⟩) L.length k] 0 w2
  refine bodyPost_ret (v := .tuple #[.agg #[.int .i64 a, .int .i64 b, .int .i64 c, .slice (some ⟨g, 0, none⟩) L.length k], .int .i64 t, .int .i64 0]) ?_ rfl ⟨⟨g, k, rfl, ?_⟩, ?_⟩
  · simp [results, Try.results14, go_sem, d0, d1, d2, d3, dl]
  · intro i x hx
    obtain ⟨h0, h1, h2, h3, h4⟩ := HL2.out i x hx
    have hne : some g ≠ some (w.heap.size + 1) := by simp; omega
    exact ⟨G1.cell h0 hne, G1.cell h1 hne, G1.cell h2 hne, G1.cell h3 hne, G1.cell h4 hne⟩
  · repeat (first | (with_reducible exact Below.refl _ _) | (with_reducible refine Below.setCell ?_ ?_ _) | (with_reducible refine Below.drew ?_) | (with_reducible refine Below.alloc ?_ ?_ _) | (with_reducible refine Below.trans ?_ (Below.mono hw2 ?_)) | (with_reducible refine Below.trans ?_ (Below.mono hw1 ?_)) | (with_reducible exact hw2.size) | (with_reducible exact hw1.size) | omega | (simp <;> omega) | (simp <;> (have s := hw2.size; omega)) | (simp <;> (have s := hw1.size; omega)) | (have s0 := hw2.size; (try simp at s0); have s1 := hw1.size; (try simp at s1); (try simp); omega))
set_option maxHeartbeats 1600000 in
theorem hot_bad (a b c s r : Int) (w : World) (h : ssR a b c s r) : Calls Try.prog 14 #[.agg #[.int .i64 a, .int .i64 b, .int .i64 c], .int .i64 s] w fun e w' => e = .returned (.tuple #[.agg #[.int .i64 0, .int .i64 0, .int .i64 0, .slice none 0 0], .int .i64 0, .int .i64 r]) ∧ Below w.heap.size w w' := by
  rcases h with ⟨hz, rfl⟩ | ⟨hz, hs, rfl⟩
  · have c1 := fun W : World => sites_any a b c 0 1 W (.inl ⟨hz, rfl, rfl⟩)
    clear hz
    go_enter Try.func14, Try.ntmps14
    go_wp2_with ((with_reducible refine (c1 _).mono ?_); rintro e w1 ⟨rfl, hw1⟩; have hc1 := Tail.cells hw1; have zw10 := Nat.lt_of_lt_of_le (n := w.heap.size) (by simp <;> omega) hw1.size; have zw11 := Nat.lt_of_lt_of_le (n := w.heap.size + 1) (by simp <;> omega) hw1.size)
    have r2 := (⟨by simp [go_sem], by simp [go_sem], by simp [go_sem], by simp [go_sem], fun j => by simp [go_sem], by simp⟩ : FW ((w.alloc (.cells #[.int .i64 a, .int .i64 b, .int .i64 c] 31)).alloc (.cells #[.int .i64 0, .int .i64 0, .int .i64 0, .slice none 0 0] 34)) (w.heap.size + 1) 0 0 0 (.slice none 0 0)).later hw1
    obtain ⟨d0, d1, d2, d3, df, dl⟩ := r2
    refine bodyPost_ret (v := .tuple #[.agg #[.int .i64 0, .int .i64 0, .int .i64 0, .slice none 0 0], .int .i64 0, .int .i64 1]) ?_ rfl ⟨rfl, ?_⟩
    · simp [results, Try.results14, go_sem, d0, d1, d2, d3, dl]
    · repeat (first | (with_reducible exact Below.refl _ _) | (with_reducible refine Below.setCell ?_ ?_ _) | (with_reducible refine Below.drew ?_) | (with_reducible refine Below.alloc ?_ ?_ _) | (with_reducible refine Below.trans ?_ (Below.mono hw1 ?_)) | (with_reducible exact hw1.size) | omega | (simp <;> omega) | (simp <;> (have s := hw1.size; omega)) | (have s0 := hw1.size; (try simp at s0); (try simp); omega))
  · obtain ⟨n, hn, -, -⟩ := sites_ex hz
    have c1 := fun W : World => sites_any a b c (a * b * c) 0 W (.inr ⟨hz, rfl, rfl⟩)
    have c2 := fun (W : World) => drawn_bad (3 * (a * b * c)) s W hs
    have p4 := hz.p
    have p3 := (mul_rng hz.a1 hz.a4 hz.b1 hz.b4 hz.c1 hz.c4).2.2.1
    clear hz hs hn
    generalize a * b * c = m at *
    go_enter Try.func14, Try.ntmps14
    go_wp2_with (first | ((with_reducible refine (c1 _).mono ?_); rintro e w1 ⟨rfl, hw1⟩; have hc1 := Tail.cells hw1; have zw10 := Nat.lt_of_lt_of_le (n := w.heap.size) (by simp <;> omega) hw1.size; have zw11 := Nat.lt_of_lt_of_le (n := w.heap.size + 1) (by simp <;> omega) hw1.size) | ((with_reducible refine (c2 _).mono ?_); rintro e w2 ⟨rfl, hw2⟩; have hc2 := Tail.cells hw2; have z0 := Nat.lt_of_lt_of_le zw10 hw2.size; have z1 := Nat.lt_of_lt_of_le zw11 hw2.size))
    have r2 := ((⟨by simp [go_sem], by simp [go_sem], by simp [go_sem], by simp [go_sem], fun j => by simp [go_sem], by simp⟩ : FW ((w.alloc (.cells #[.int .i64 a, .int .i64 b, .int .i64 c] 31)).alloc (.cells #[.int .i64 0, .int .i64 0, .int .i64 0, .slice none 0 0] 34)) (w.heap.size + 1) 0 0 0 (.slice none 0 0)).later hw1).later hw2
    obtain ⟨d0, d1, d2, d3, df, dl⟩ := r2
    refine bodyPost_ret (v := .tuple #[.agg #[.int .i64 0, .int .i64 0, .int .i64 0, .slice none 0 0], .int .i64 0, .int .i64 1]) ?_ rfl ⟨rfl, ?_⟩
    · simp [results, Try.results14, go_sem, d0, d1, d2, d3, dl]
    · repeat (first | (with_reducible exact Below.refl _ _) | (with_reducible refine Below.setCell ?_ ?_ _) | (with_reducible refine Below.drew ?_) | (with_reducible refine Below.alloc ?_ ?_ _) | (with_reducible refine Below.trans ?_ (Below.mono hw2 ?_)) | (with_reducible refine Below.trans ?_ (Below.mono hw1 ?_)) | (with_reducible exact hw2.size) | (with_reducible exact hw1.size) | omega | (simp <;> omega) | (simp <;> (have s := hw2.size; omega)) | (simp <;> (have s := hw1.size; omega)) | (have s0 := hw2.size; (try simp at s0); have s1 := hw1.size; (try simp at s1); (try simp); omega))
end Go.Proofs.Ythloceljgmmdbaa
