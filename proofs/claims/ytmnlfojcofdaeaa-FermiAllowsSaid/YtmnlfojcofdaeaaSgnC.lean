/- Signs of sites, sums of quaternions, and which fields are small, as the program and the document's answers find it.
Conditions: those written at each theorem. -/
import Derived.Test.YtmnlfojcofdaeaaSpnC
import Derived.Test.YtmnlfojcofdaeaaNumC
import Derived.Test.YtmnlfojcofdaeaaLinksC
namespace Go.Proofs.Ytmnlfojcofdaeaa
set_option linter.unusedVariables false
set_option linter.unusedSimpArgs false
set_option maxRecDepth 1000000
open Go.RowKit
open Um Tm Fm

set_option maxHeartbeats 1600000 in
theorem place7_any (a b c s : Int) (w : World) (h : Sz a b c) (h0 : 0 ≤ s) (h1 : s < a * b * c) : Calls Try.prog 95 #[.agg #[.int .i64 a, .int .i64 b, .int .i64 c], .int .i64 s] w fun e w' => e = .returned (.agg #[.int .i64 (s%a), .int .i64 (s/a%b), .int .i64 (s/a/b)]) ∧ Below w.heap.size w w' := by
  obtain ⟨d0, d1, d2, d3, d4, d5, -, -, -, -⟩ := div_rng h h0 h1
  obtain ⟨a1, a4, b1, b4, c1, c4, -⟩ := h
  have a0 : (a == 0) = false := by simp; omega
  have b0 : (b == 0) = false := by simp; omega
  have e1 : s.tmod a = s % a := Int.tmod_eq_emod_of_nonneg h0
  have e2 : IntKind.i64.wrap (s.tdiv a) = s / a := IntWalk.i64_quo _ _ ⟨h0, by omega, a1⟩
  have e3 : (s / a).tmod b = s / a % b := Int.tmod_eq_emod_of_nonneg d2
  have e4 : IntKind.i64.wrap ((s / a).tdiv b) = s / a / b := IntWalk.i64_quo _ _ ⟨d2, by omega, b1⟩
  have e5 : IntKind.i64.wrap (s % a) = s % a := IntWalk.i64_in _ (by have := Int.emod_nonneg s (show a ≠ 0 by omega); have := Int.emod_lt_of_pos s (show 0 < a by omega); omega)
  have e6 : IntKind.i64.wrap (s / a % b) = s / a % b := IntWalk.i64_in _ (by have := Int.emod_nonneg (s / a) (show b ≠ 0 by omega); have := Int.emod_lt_of_pos (s / a) (show 0 < b by omega); omega)
  clear h1 d0 d1 d2 d3 d4 d5
  have kc := @Tail.cell_re
  have kc1 : ∀ (W : World) (o : Obj) (d : Nat) (os : Array Obj) (a : Addr), a.block ≤ W.heap.size → (Sort.grow (redrawn (W.alloc o) d) os).cell? a = (W.alloc o).cell? a := fun W o d os a h => Tail.cell_re (W.alloc o) d os a (Nat.lt_of_le_of_lt h (by simp))
  go_enter Try.func95, Try.ntmps95
  go_wp2
  refine Tail.region_tail_below 19 (by kernel_rfl) (by kernel_rfl) ?_
  simp only [List.take_succ_cons, List.take_zero, List.drop_succ_cons, List.drop_zero]
  repeat (go_big_quiet_step (fail))
  refine wpQuiet_nil ?_
  intro w1 hw1
  have hc1 := Tail.cells hw1
  have z1 := Nat.lt_of_lt_of_le (n := w.heap.size + 1) (by simp <;> omega) hw1.size
  go_wp2
  refine bodyPost_ret (v := .agg #[.int .i64 (s%a), .int .i64 (s/a%b), .int .i64 (s/a/b)]) ?_ rfl ⟨rfl, ?_⟩
  · simp [results, Try.results95, go_sem, hc1, z1]
  · repeat (first | (with_reducible exact Below.refl _ _) | (with_reducible refine Below.setCell ?_ ?_ _) | (with_reducible refine Below.drew ?_) | (with_reducible refine Below.alloc ?_ ?_ _) | (with_reducible refine Below.trans ?_ (Below.mono hw1 ?_)) | (with_reducible exact hw1.size) | omega | (simp <;> omega) | (simp <;> (have s := hw1.size; omega)) | (have s0 := hw1.size; (try simp at s0); (try simp); omega))
set_option maxHeartbeats 1600000 in
theorem sign7_any (a b c s d : Int) (w : World) (h : Sz a b c) (h0 : 0 ≤ s) (h1 : s < a * b * c) (d0 : 0 ≤ d) (d2 : d ≤ 2) : Calls Try.prog 60 #[.agg #[.int .i64 a, .int .i64 b, .int .i64 c], .int .i64 s, .int .i64 d] w fun e w' => e = .returned (.int .i64 (sg3 a b d s)) ∧ Below w.heap.size w w' := by
  have c1 := fun W : World => place7_any a b c s W h h0 h1
  obtain ⟨-, -, -, -, -, -, x0, x1, y0, y1⟩ := div_rng h h0 h1
  clear h h0 h1
  have HS0 := Lib.hid (show sg3 a b 0 s = 1 from rfl)
  have HS1 := Lib.hid (show sg3 a b 1 s = 1 - 2 * (s % a % 2) from rfl)
  have HS2 := Lib.hid (show sg3 a b 2 s = 1 - 2 * ((s % a + s / a % b) % 2) from rfl)
  generalize s % a = x at *
  generalize s / a % b = y at *
  generalize s / a / b = z at *
  obtain rfl | rfl | rfl : d = 0 ∨ d = 1 ∨ d = 2 := by omega
  · generalize sg3 a b 0 s = r at *
    go_enter Try.func60, Try.ntmps60
    go_wp2_with ((with_reducible refine (c1 _).mono ?_); rintro e w1 ⟨rfl, hw1⟩; have zw10 := Nat.lt_of_lt_of_le (n := w.heap.size) (by simp <;> omega) hw1.size)
    refine wp_loop_rounds 1 ?_
    rw [rounds_succ]
    go_wp2
    go_ret
    exact ⟨by rw [HS0.out]; rfl, by repeat (first | (with_reducible exact Below.refl _ _) | (with_reducible refine Below.setCell ?_ ?_ _) | (with_reducible refine Below.drew ?_) | (with_reducible refine Below.alloc ?_ ?_ _) | (with_reducible refine Below.trans ?_ (Below.mono hw1 ?_)) | (with_reducible exact hw1.size) | omega | (simp <;> omega) | (simp <;> (have s := hw1.size; omega)) | (have s0 := hw1.size; (try simp at s0); (try simp); omega))⟩
  · generalize sg3 a b 1 s = r at *
    go_enter Try.func60, Try.ntmps60
    go_wp2_with ((with_reducible refine (c1 _).mono ?_); rintro e w1 ⟨rfl, hw1⟩; have zw10 := Nat.lt_of_lt_of_le (n := w.heap.size) (by simp <;> omega) hw1.size)
    refine wp_loop_rounds 2 ?_
    rw [rounds_succ]
    go_wp2
    rw [rounds_succ]
    go_wp2
    go_ret
    exact ⟨by rw [HS1.out]; rfl, by repeat (first | (with_reducible exact Below.refl _ _) | (with_reducible refine Below.setCell ?_ ?_ _) | (with_reducible refine Below.drew ?_) | (with_reducible refine Below.alloc ?_ ?_ _) | (with_reducible refine Below.trans ?_ (Below.mono hw1 ?_)) | (with_reducible exact hw1.size) | omega | (simp <;> omega) | (simp <;> (have s := hw1.size; omega)) | (have s0 := hw1.size; (try simp at s0); (try simp); omega))⟩
  · generalize sg3 a b 2 s = r at *
    go_enter Try.func60, Try.ntmps60
    go_wp2_with ((with_reducible refine (c1 _).mono ?_); rintro e w1 ⟨rfl, hw1⟩; have zw10 := Nat.lt_of_lt_of_le (n := w.heap.size) (by simp <;> omega) hw1.size)
    refine wp_loop_rounds 3 ?_
    rw [rounds_succ]
    go_wp2
    rw [rounds_succ]
    go_wp2
    rw [rounds_succ]
    go_wp2
    go_ret
    exact ⟨by rw [HS2.out]; rfl, by repeat (first | (with_reducible exact Below.refl _ _) | (with_reducible refine Below.setCell ?_ ?_ _) | (with_reducible refine Below.drew ?_) | (with_reducible refine Below.alloc ?_ ?_ _) | (with_reducible refine Below.trans ?_ (Below.mono hw1 ?_)) | (with_reducible exact hw1.size) | omega | (simp <;> omega) | (simp <;> (have s := hw1.size; omega)) | (have s0 := hw1.size; (try simp at s0); (try simp); omega))⟩
/-- the sign of a site in a direction, and the error -/
def signR (a b c s d r er : Int) : Prop := (¬ Sz a b c ∧ r = 0 ∧ er = 1) ∨ (Sz a b c ∧ ¬ (0 ≤ s ∧ s < a * b * c) ∧ r = 0 ∧ er = 4) ∨ (Sz a b c ∧ 0 ≤ s ∧ s < a * b * c ∧ ¬ (0 ≤ d ∧ d ≤ 2) ∧ r = 0 ∧ er = 1) ∨ (Sz a b c ∧ 0 ≤ s ∧ s < a * b * c ∧ 0 ≤ d ∧ d ≤ 2 ∧ r = sg3 a b d s ∧ er = 0)
theorem signR_ex (a b c s d : Int) : ∃ r er, signR a b c s d r er := by
  by_cases h : Sz a b c
  · by_cases h1 : 0 ≤ s ∧ s < a * b * c
    · by_cases h2 : 0 ≤ d ∧ d ≤ 2
      · exact ⟨_, _, .inr (.inr (.inr ⟨h, h1.1, h1.2, h2.1, h2.2, rfl, rfl⟩))⟩
      · exact ⟨_, _, .inr (.inr (.inl ⟨h, h1.1, h1.2, h2, rfl, rfl⟩))⟩
    · exact ⟨_, _, .inr (.inl ⟨h, h1, rfl, rfl⟩)⟩
  · exact ⟨_, _, .inl ⟨h, rfl, rfl⟩⟩
set_option maxHeartbeats 1600000 in
theorem signO_in (a b c s d : Int) (w : World) (h : Sz a b c) (h0 : 0 ≤ s) (h1 : s < a * b * c) (d0 : 0 ≤ d) (d2 : d ≤ 2) : Calls Try.prog 24 #[.agg #[.int .i64 a, .int .i64 b, .int .i64 c], .int .i64 s, .int .i64 d] w fun e w' => e = .returned (.tuple #[.int .i64 (sg3 a b d s), .int .i64 0]) ∧ Below w.heap.size w w' := by
  have c1 := fun W : World => place_any a b c s _ _ _ 0 W (.inr (.inr ⟨h, h0, h1, rfl, rfl, rfl, rfl⟩))
  obtain ⟨-, -, -, -, -, -, x0, x1, y0, y1⟩ := div_rng h h0 h1
  clear h h0 h1
  have HS0 := Lib.hid (show sg3 a b 0 s = 1 from rfl)
  have HS1 := Lib.hid (show sg3 a b 1 s = 1 - 2 * (s % a % 2) from rfl)
  have HS2 := Lib.hid (show sg3 a b 2 s = 1 - 2 * ((s % a + s / a % b) % 2) from rfl)
  generalize s % a = x at *
  generalize s / a % b = y at *
  generalize s / a / b = z at *
  obtain rfl | rfl | rfl : d = 0 ∨ d = 1 ∨ d = 2 := by omega
  · generalize sg3 a b 0 s = r at *
    go_enter Try.func24, Try.ntmps24
    go_wp2_with ((with_reducible refine (c1 _).mono ?_); rintro e w1 ⟨rfl, hw1⟩; have zw10 := Nat.lt_of_lt_of_le (n := w.heap.size) (by simp <;> omega) hw1.size)
    refine wp_loop_rounds 1 ?_
    rw [rounds_succ]
    go_wp2
    go_ret2
    exact ⟨by rw [HS0.out]; rfl, by repeat (first | (with_reducible exact Below.refl _ _) | (with_reducible refine Below.setCell ?_ ?_ _) | (with_reducible refine Below.drew ?_) | (with_reducible refine Below.alloc ?_ ?_ _) | (with_reducible refine Below.trans ?_ (Below.mono hw1 ?_)) | (with_reducible exact hw1.size) | omega | (simp <;> omega) | (simp <;> (have s := hw1.size; omega)) | (have s0 := hw1.size; (try simp at s0); (try simp); omega))⟩
  · generalize sg3 a b 1 s = r at *
    by_cases hp : x % 2 = 0
    · have p1 : (x % 2 != 0) = false := by simp [hp]
      have HP := Lib.hid hp
      clear hp
      go_enter Try.func24, Try.ntmps24
      go_wp2_with ((with_reducible refine (c1 _).mono ?_); rintro e w1 ⟨rfl, hw1⟩; have zw10 := Nat.lt_of_lt_of_le (n := w.heap.size) (by simp <;> omega) hw1.size)
      refine wp_loop_rounds 2 ?_
      rw [rounds_succ]
      go_wp2
      rw [rounds_succ]
      go_wp2
      go_ret2
      exact ⟨by rw [HS1.out, HP.out]; rfl, by repeat (first | (with_reducible exact Below.refl _ _) | (with_reducible refine Below.setCell ?_ ?_ _) | (with_reducible refine Below.drew ?_) | (with_reducible refine Below.alloc ?_ ?_ _) | (with_reducible refine Below.trans ?_ (Below.mono hw1 ?_)) | (with_reducible exact hw1.size) | omega | (simp <;> omega) | (simp <;> (have s := hw1.size; omega)) | (have s0 := hw1.size; (try simp at s0); (try simp); omega))⟩
    · have p1 : (x % 2 != 0) = true := by simp; omega
      have HP := Lib.hid (show x % 2 = 1 by omega)
      clear hp
      go_enter Try.func24, Try.ntmps24
      go_wp2_with ((with_reducible refine (c1 _).mono ?_); rintro e w1 ⟨rfl, hw1⟩; have zw10 := Nat.lt_of_lt_of_le (n := w.heap.size) (by simp <;> omega) hw1.size)
      refine wp_loop_rounds 2 ?_
      rw [rounds_succ]
      go_wp2
      rw [rounds_succ]
      go_wp2
      go_ret2
      exact ⟨by rw [HS1.out, HP.out]; rfl, by repeat (first | (with_reducible exact Below.refl _ _) | (with_reducible refine Below.setCell ?_ ?_ _) | (with_reducible refine Below.drew ?_) | (with_reducible refine Below.alloc ?_ ?_ _) | (with_reducible refine Below.trans ?_ (Below.mono hw1 ?_)) | (with_reducible exact hw1.size) | omega | (simp <;> omega) | (simp <;> (have s := hw1.size; omega)) | (have s0 := hw1.size; (try simp at s0); (try simp); omega))⟩
  · generalize sg3 a b 2 s = r at *
    by_cases hp : (x + y) % 2 = 0
    · have p1 : ((x + y) % 2 != 0) = false := by simp [hp]
      have HP := Lib.hid hp
      clear hp
      go_enter Try.func24, Try.ntmps24
      go_wp2_with ((with_reducible refine (c1 _).mono ?_); rintro e w1 ⟨rfl, hw1⟩; have zw10 := Nat.lt_of_lt_of_le (n := w.heap.size) (by simp <;> omega) hw1.size)
      refine wp_loop_rounds 3 ?_
      rw [rounds_succ]
      go_wp2
      rw [rounds_succ]
      go_wp2
      rw [rounds_succ]
      go_wp2
      go_ret2
      exact ⟨by rw [HS2.out, HP.out]; rfl, by repeat (first | (with_reducible exact Below.refl _ _) | (with_reducible refine Below.setCell ?_ ?_ _) | (with_reducible refine Below.drew ?_) | (with_reducible refine Below.alloc ?_ ?_ _) | (with_reducible refine Below.trans ?_ (Below.mono hw1 ?_)) | (with_reducible exact hw1.size) | omega | (simp <;> omega) | (simp <;> (have s := hw1.size; omega)) | (have s0 := hw1.size; (try simp at s0); (try simp); omega))⟩
    · have p1 : ((x + y) % 2 != 0) = true := by simp; omega
      have HP := Lib.hid (show (x + y) % 2 = 1 by omega)
      clear hp
      go_enter Try.func24, Try.ntmps24
      go_wp2_with ((with_reducible refine (c1 _).mono ?_); rintro e w1 ⟨rfl, hw1⟩; have zw10 := Nat.lt_of_lt_of_le (n := w.heap.size) (by simp <;> omega) hw1.size)
      refine wp_loop_rounds 3 ?_
      rw [rounds_succ]
      go_wp2
      rw [rounds_succ]
      go_wp2
      rw [rounds_succ]
      go_wp2
      go_ret2
      exact ⟨by rw [HS2.out, HP.out]; rfl, by repeat (first | (with_reducible exact Below.refl _ _) | (with_reducible refine Below.setCell ?_ ?_ _) | (with_reducible refine Below.drew ?_) | (with_reducible refine Below.alloc ?_ ?_ _) | (with_reducible refine Below.trans ?_ (Below.mono hw1 ?_)) | (with_reducible exact hw1.size) | omega | (simp <;> omega) | (simp <;> (have s := hw1.size; omega)) | (have s0 := hw1.size; (try simp at s0); (try simp); omega))⟩
set_option maxHeartbeats 1600000 in
theorem signO_any (a b c s d r er : Int) (w : World) (h : signR a b c s d r er) : Calls Try.prog 24 #[.agg #[.int .i64 a, .int .i64 b, .int .i64 c], .int .i64 s, .int .i64 d] w fun e w' => e = .returned (.tuple #[.int .i64 r, .int .i64 er]) ∧ Below w.heap.size w w' := by
  rcases h with ⟨h, rfl, rfl⟩ | ⟨h, hs, rfl, rfl⟩ | ⟨h, h0, h1, hd, rfl, rfl⟩ | ⟨h, h0, h1, d0, d2, rfl, rfl⟩
  · have c1 := fun W : World => place_any a b c s _ _ _ 1 W (.inl ⟨h, rfl, rfl, rfl, rfl⟩)
    clear h
    go_enter Try.func24, Try.ntmps24
    go_wp2_with ((with_reducible refine (c1 _).mono ?_); rintro e w1 ⟨rfl, hw1⟩)
    go_ret2
    exact ⟨rfl, by repeat (first | (with_reducible exact Below.refl _ _) | (with_reducible refine Below.setCell ?_ ?_ _) | (with_reducible refine Below.drew ?_) | (with_reducible refine Below.alloc ?_ ?_ _) | (with_reducible refine Below.trans ?_ (Below.mono hw1 ?_)) | (with_reducible exact hw1.size) | omega | (simp <;> omega) | (simp <;> (have s := hw1.size; omega)) | (have s0 := hw1.size; (try simp at s0); (try simp); omega))⟩
  · have c1 := fun W : World => place_any a b c s _ _ _ 4 W (.inr (.inl ⟨h, hs, rfl, rfl, rfl, rfl⟩))
    clear h hs
    go_enter Try.func24, Try.ntmps24
    go_wp2_with ((with_reducible refine (c1 _).mono ?_); rintro e w1 ⟨rfl, hw1⟩)
    go_ret2
    exact ⟨rfl, by repeat (first | (with_reducible exact Below.refl _ _) | (with_reducible refine Below.setCell ?_ ?_ _) | (with_reducible refine Below.drew ?_) | (with_reducible refine Below.alloc ?_ ?_ _) | (with_reducible refine Below.trans ?_ (Below.mono hw1 ?_)) | (with_reducible exact hw1.size) | omega | (simp <;> omega) | (simp <;> (have s := hw1.size; omega)) | (have s0 := hw1.size; (try simp at s0); (try simp); omega))⟩
  · have c1 := fun W : World => place_any a b c s _ _ _ 0 W (.inr (.inr ⟨h, h0, h1, rfl, rfl, rfl, rfl⟩))
    clear h h0 h1
    generalize s % a = x at *
    generalize s / a % b = y at *
    generalize s / a / b = z at *
    by_cases hd0 : d < 0
    · clear hd
      go_enter Try.func24, Try.ntmps24
      go_wp2_with ((with_reducible refine (c1 _).mono ?_); rintro e w1 ⟨rfl, hw1⟩)
      go_ret2
      exact ⟨rfl, by repeat (first | (with_reducible exact Below.refl _ _) | (with_reducible refine Below.setCell ?_ ?_ _) | (with_reducible refine Below.drew ?_) | (with_reducible refine Below.alloc ?_ ?_ _) | (with_reducible refine Below.trans ?_ (Below.mono hw1 ?_)) | (with_reducible exact hw1.size) | omega | (simp <;> omega) | (simp <;> (have s := hw1.size; omega)) | (have s0 := hw1.size; (try simp at s0); (try simp); omega))⟩
    · have hd3 : d ≥ 3 := by omega
      clear hd
      go_enter Try.func24, Try.ntmps24
      go_wp2_with ((with_reducible refine (c1 _).mono ?_); rintro e w1 ⟨rfl, hw1⟩)
      go_ret2
      exact ⟨rfl, by repeat (first | (with_reducible exact Below.refl _ _) | (with_reducible refine Below.setCell ?_ ?_ _) | (with_reducible refine Below.drew ?_) | (with_reducible refine Below.alloc ?_ ?_ _) | (with_reducible refine Below.trans ?_ (Below.mono hw1 ?_)) | (with_reducible exact hw1.size) | omega | (simp <;> omega) | (simp <;> (have s := hw1.size; omega)) | (have s0 := hw1.size; (try simp at s0); (try simp); omega))⟩
  · exact signO_in a b c s d w h h0 h1 d0 d2
set_option maxHeartbeats 800000 in
theorem bar4_any (u : Q) (w : World) (hn : u.b = 0 ∨ True) (rb : -100 ≤ u.b ∧ u.b ≤ 100) (rc : -100 ≤ u.c ∧ u.c ≤ 100) (rd : -100 ≤ u.d ∧ u.d ≤ 100) : Calls Try.prog 89 #[.agg #[.int .i64 u.a, .int .i64 u.b, .int .i64 u.c, .int .i64 u.d, .int .i64 u.n]] w fun e w' => e = .returned (.agg #[.int .i64 (bar u).a, .int .i64 (bar u).b, .int .i64 (bar u).c, .int .i64 (bar u).d, .int .i64 (bar u).n]) ∧ Below w.heap.size w w' := by
  obtain ⟨rb1, rb2⟩ := rb
  obtain ⟨rc1, rc2⟩ := rc
  obtain ⟨rd1, rd2⟩ := rd
  clear hn
  go_enter Try.func89, Try.ntmps89
  go_wp2
  refine bodyPost_ret (v := .agg #[.int .i64 (bar u).a, .int .i64 (bar u).b, .int .i64 (bar u).c, .int .i64 (bar u).d, .int .i64 (bar u).n]) ?_ rfl ⟨rfl, ?_⟩
  · simp [results, Try.results89, go_sem, bar]
  · repeat (first | (with_reducible exact Below.refl _ _) | (with_reducible refine Below.setCell ?_ ?_ _) | (with_reducible refine Below.drew ?_) | (with_reducible refine Below.alloc ?_ ?_ _) | omega | (simp <;> omega))
set_option maxHeartbeats 800000 in
theorem within7_any (n lo hi : Int) (w : World) (r : Bool) (h : (lo ≤ n ∧ n ≤ hi ∧ r = true) ∨ (¬ (lo ≤ n ∧ n ≤ hi) ∧ r = false)) :
    Calls Try.prog 59 #[.int .i64 n, .int .i64 lo, .int .i64 hi] w fun e w' => e = .returned (.bool r) ∧ w = w' := by
  rcases h with ⟨a, b, rfl⟩ | ⟨h, rfl⟩
  · go_enter Try.func59, Try.ntmps59
    go_wp2
    go_ret
    exact ⟨rfl, rfl⟩
  · by_cases a : lo ≤ n
    · have b : ¬ n ≤ hi := fun b => h ⟨a, b⟩
      clear h
      go_enter Try.func59, Try.ntmps59
      go_wp2
      go_ret
      exact ⟨rfl, rfl⟩
    · clear h
      go_enter Try.func59, Try.ntmps59
      go_wp2
      go_ret
      exact ⟨rfl, rfl⟩
/-- a mass -/
def IsM (m : Int) : Prop := 1 ≤ m ∧ m ≤ 10
set_option maxHeartbeats 800000 in
theorem isMass_any (m : Int) (w : World) (r : Bool) (h : (IsM m ∧ r = true) ∨ (¬ IsM m ∧ r = false)) :
    Calls Try.prog 78 #[.int .i64 m] w fun e w' => e = .returned (.bool r) ∧ w = w' := by
  rcases h with ⟨⟨a, b⟩, rfl⟩ | ⟨h, rfl⟩
  · go_enter Try.func78, Try.ntmps78
    go_wp2
    go_ret
    exact ⟨rfl, rfl⟩
  · by_cases a : 1 ≤ m
    · have b : ¬ m ≤ 10 := fun b => h ⟨a, b⟩
      clear h
      go_enter Try.func78, Try.ntmps78
      go_wp2
      go_ret
      exact ⟨rfl, rfl⟩
    · clear h
      go_enter Try.func78, Try.ntmps78
      go_wp2
      go_ret
      exact ⟨rfl, rfl⟩
set_option maxHeartbeats 800000 in
theorem refIsSmall_bad (a b c r : Int) (ao : Option Addr) (cap : Nat) (L : List Q) (w : World) (h : LiesO w ao L) (hr : fldR a b c L r) (h0 : r ≠ 0) (hlen : L.length ≤ 1000000) : Calls Try.prog 91 #[.agg #[.int .i64 a, .int .i64 b, .int .i64 c, .slice ao L.length cap]] w fun e w' => e = .returned (.tuple #[.bool false, .int .i64 r]) ∧ Below w.heap.size w w' := by
  have c1 : ∀ W : World, LiesO W ao L → Calls Try.prog 112 #[.agg #[.int .i64 a, .int .i64 b, .int .i64 c, .slice ao L.length cap]] W fun e w' => e = .returned (.int .i64 r) ∧ Below W.heap.size W w' := fun W h => refValidateF_any a b c r ao cap L W h hr hlen
  have H := Lib.hid h
  have h0' : (r != 0) = true := by simpa using h0
  clear h hr h0
  go_enter Try.func91, Try.ntmps91
  go_wp2_with ((with_reducible refine (c1 _ (H.out.later (by repeat (first | (with_reducible exact Below.refl _ _) | (with_reducible refine Below.setCell ?_ ?_ _) | (with_reducible refine Below.drew ?_) | (with_reducible refine Below.alloc ?_ ?_ _) | omega | (simp <;> omega))))).mono ?_); rintro e w1 ⟨rfl, hw1⟩)
  go_ret2
  exact ⟨rfl, by repeat (first | (with_reducible exact Below.refl _ _) | (with_reducible refine Below.setCell ?_ ?_ _) | (with_reducible refine Below.drew ?_) | (with_reducible refine Below.alloc ?_ ?_ _) | (with_reducible refine Below.trans ?_ (Below.mono hw1 ?_)) | (with_reducible exact hw1.size) | omega | (simp <;> omega) | (simp <;> (have s := hw1.size; omega)) | (have s0 := hw1.size; (try simp at s0); (try simp); omega))⟩
set_option maxHeartbeats 800000 in
theorem refIsSmall_ok (a b c : Int) (ao : Option Addr) (cap : Nat) (L : List Q) (ns : List Int) (q : Bool) (w : World) (h : LiesO w ao L) (hr : fldR a b c L 0) (hq : smR L ns q) : Calls Try.prog 91 #[.agg #[.int .i64 a, .int .i64 b, .int .i64 c, .slice ao L.length cap]] w fun e w' => e = .returned (.tuple #[.bool q, .int .i64 0]) ∧ Below w.heap.size w w' := by
  have H := Lib.hid h
  have hlen := fld_len hr
  have c1 : ∀ W : World, LiesO W ao L → Calls Try.prog 112 #[.agg #[.int .i64 a, .int .i64 b, .int .i64 c, .slice ao L.length cap]] W fun e w' => e = .returned (.int .i64 0) ∧ Below W.heap.size W w' := fun W h => refValidateF_any a b c 0 ao cap L W h hr (by omega)
  have c2 : ∀ W : World, LiesO W ao L → Calls Try.prog 113 #[.agg #[.int .i64 a, .int .i64 b, .int .i64 c, .slice ao L.length cap]] W fun e w' => ∃ v, e = .returned (.tuple #[v, .bool q]) ∧ Below W.heap.size W w' := fun W h => (letters_ok a b c ao cap L ns q W h hr hq).mono fun e w' ⟨hh, hb⟩ => by
    rcases hh with ⟨rfl, a2, k, he, hl⟩ | ⟨rfl, he⟩
    · exact ⟨_, he, hb⟩
    · exact ⟨_, he, hb⟩
  clear h hr hq
  go_enter Try.func91, Try.ntmps91
  go_wp2_with (first | ((with_reducible refine (c1 _ (H.out.later (by repeat (first | (with_reducible exact Below.refl _ _) | (with_reducible refine Below.setCell ?_ ?_ _) | (with_reducible refine Below.drew ?_) | (with_reducible refine Below.alloc ?_ ?_ _) | omega | (simp <;> omega))))).mono ?_); clear c1; rintro e w1 ⟨rfl, hw1⟩; have hc1 := Tail.cells hw1; have z0 := Nat.lt_of_lt_of_le (n := w.heap.size) (by simp) hw1.size) | ((with_reducible refine (c2 _ (H.out.later (by repeat (first | (with_reducible exact Below.refl _ _) | (with_reducible refine Below.setCell ?_ ?_ _) | (with_reducible refine Below.drew ?_) | (with_reducible refine Below.alloc ?_ ?_ _) | (with_reducible refine Below.trans ?_ (Below.mono hw1 ?_)) | (with_reducible exact hw1.size) | omega | (simp <;> omega) | (simp <;> (have s := hw1.size; omega)) | (have s0 := hw1.size; (try simp at s0); (try simp); omega))))).mono ?_); clear c2; rintro e w2 ⟨v2, rfl, hw2⟩))
  go_ret2
  exact ⟨rfl, by repeat (first | (with_reducible exact Below.refl _ _) | (with_reducible refine Below.setCell ?_ ?_ _) | (with_reducible refine Below.drew ?_) | (with_reducible refine Below.alloc ?_ ?_ _) | (with_reducible refine Below.trans ?_ (Below.mono hw2 ?_)) | (with_reducible refine Below.trans ?_ (Below.mono hw1 ?_)) | (with_reducible exact hw2.size) | (with_reducible exact hw1.size) | omega | (simp <;> omega) | (simp <;> (have s := hw2.size; omega)) | (simp <;> (have s := hw1.size; omega)) | (have s0 := hw2.size; (try simp at s0); have s1 := hw1.size; (try simp at s1); (try simp); omega))⟩
set_option maxHeartbeats 800000 in
theorem little_any (a b c r : Int) (ao : Option Addr) (cap : Nat) (L : List Q) (ns : List Int) (w : World) (h : LiesO w ao L) (hr : numsR a b c L ns r) (hlen : L.length ≤ 1000000) : Calls Try.prog 55 #[.agg #[.int .i64 a, .int .i64 b, .int .i64 c, .slice ao L.length cap]] w fun e w' => e = .returned (.int .i64 r) ∧ Below w.heap.size w w' := by
  have H := Lib.hid h
  rcases hr with ⟨hr, h0, rfl⟩ | ⟨hr, ⟨hq, rfl⟩ | ⟨hq, rfl⟩⟩
  · have c1 : ∀ W : World, LiesO W ao L → Calls Try.prog 91 #[.agg #[.int .i64 a, .int .i64 b, .int .i64 c, .slice ao L.length cap]] W fun e w' => e = .returned (.tuple #[.bool false, .int .i64 r]) ∧ Below W.heap.size W w' := fun W h => refIsSmall_bad a b c r ao cap L W h hr h0 hlen
    have h0' : (r != 0) = true := by simpa using h0
    clear h hr h0
    go_enter Try.func55, Try.ntmps55
    go_wp2_with ((with_reducible refine (c1 _ (H.out.later (by repeat (first | (with_reducible exact Below.refl _ _) | (with_reducible refine Below.setCell ?_ ?_ _) | (with_reducible refine Below.drew ?_) | (with_reducible refine Below.alloc ?_ ?_ _) | omega | (simp <;> omega))))).mono ?_); rintro e w1 ⟨rfl, hw1⟩)
    go_ret
    exact ⟨rfl, by repeat (first | (with_reducible exact Below.refl _ _) | (with_reducible refine Below.setCell ?_ ?_ _) | (with_reducible refine Below.drew ?_) | (with_reducible refine Below.alloc ?_ ?_ _) | (with_reducible refine Below.trans ?_ (Below.mono hw1 ?_)) | (with_reducible exact hw1.size) | omega | (simp <;> omega) | (simp <;> (have s := hw1.size; omega)) | (have s0 := hw1.size; (try simp at s0); (try simp); omega))⟩
  · have c1 : ∀ W : World, LiesO W ao L → Calls Try.prog 91 #[.agg #[.int .i64 a, .int .i64 b, .int .i64 c, .slice ao L.length cap]] W fun e w' => e = .returned (.tuple #[.bool true, .int .i64 0]) ∧ Below W.heap.size W w' := fun W h => refIsSmall_ok a b c ao cap L ns true W h hr hq
    clear h hr hq
    go_enter Try.func55, Try.ntmps55
    go_wp2_with ((with_reducible refine (c1 _ (H.out.later (by repeat (first | (with_reducible exact Below.refl _ _) | (with_reducible refine Below.setCell ?_ ?_ _) | (with_reducible refine Below.drew ?_) | (with_reducible refine Below.alloc ?_ ?_ _) | omega | (simp <;> omega))))).mono ?_); rintro e w1 ⟨rfl, hw1⟩)
    go_ret
    exact ⟨rfl, by repeat (first | (with_reducible exact Below.refl _ _) | (with_reducible refine Below.setCell ?_ ?_ _) | (with_reducible refine Below.drew ?_) | (with_reducible refine Below.alloc ?_ ?_ _) | (with_reducible refine Below.trans ?_ (Below.mono hw1 ?_)) | (with_reducible exact hw1.size) | omega | (simp <;> omega) | (simp <;> (have s := hw1.size; omega)) | (have s0 := hw1.size; (try simp at s0); (try simp); omega))⟩
  · have c1 : ∀ W : World, LiesO W ao L → Calls Try.prog 91 #[.agg #[.int .i64 a, .int .i64 b, .int .i64 c, .slice ao L.length cap]] W fun e w' => e = .returned (.tuple #[.bool false, .int .i64 0]) ∧ Below W.heap.size W w' := fun W h => refIsSmall_ok a b c ao cap L ns false W h hr hq
    clear h hr hq
    go_enter Try.func55, Try.ntmps55
    go_wp2_with ((with_reducible refine (c1 _ (H.out.later (by repeat (first | (with_reducible exact Below.refl _ _) | (with_reducible refine Below.setCell ?_ ?_ _) | (with_reducible refine Below.drew ?_) | (with_reducible refine Below.alloc ?_ ?_ _) | omega | (simp <;> omega))))).mono ?_); rintro e w1 ⟨rfl, hw1⟩)
    go_ret
    exact ⟨rfl, by repeat (first | (with_reducible exact Below.refl _ _) | (with_reducible refine Below.setCell ?_ ?_ _) | (with_reducible refine Below.drew ?_) | (with_reducible refine Below.alloc ?_ ?_ _) | (with_reducible refine Below.trans ?_ (Below.mono hw1 ?_)) | (with_reducible exact hw1.size) | omega | (simp <;> omega) | (simp <;> (have s := hw1.size; omega)) | (have s0 := hw1.size; (try simp at s0); (try simp); omega))⟩
end Go.Proofs.Ytmnlfojcofdaeaa
