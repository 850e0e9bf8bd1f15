/- Sites with places, and places of sites.
Conditions: those written at each theorem. -/
import Derived.Test.YtoafojojhdcmfaaTor1
import Derived.IntWalk
namespace Go.Proofs.Ytoafojojhdcmfaa
set_option linter.unusedVariables false
set_option linter.unusedSimpArgs false
set_option maxRecDepth 1000000
open Go.RowKit
open Tm

set_option maxHeartbeats 1600000 in
theorem siteAt_any (a b c x y z : Int) (w : World) (h : Sz a b c) : Calls Try.prog 103 #[.agg #[.int .i64 a, .int .i64 b, .int .i64 c], .agg #[.int .i64 x, .int .i64 y, .int .i64 z]] w fun e w' => e = .returned (.int .i64 (site a b c x y z)) ∧ Below w.heap.size w w' := by
  obtain ⟨⟨p1, p2⟩, ⟨p3, p4⟩, ⟨p5, p6⟩, ⟨p7, p8⟩, p9, p10⟩ := parts_rng h x y z
  obtain ⟨a1, a4, b1, b4, c1, c4, -⟩ := h
  have m1 := fun W : World => modulo_any x a W a1 (by omega)
  have m2 := fun W : World => modulo_any y b W b1 (by omega)
  have m3 := fun W : World => modulo_any z c W c1 (by omega)
  have e : site a b c x y z = x % a + a * (y % b + b * (z % c)) := rfl
  rw [e]
  clear e
  generalize x % a = mx at *
  generalize y % b = my at *
  generalize z % c = mz at *
  have kc := @Tail.cell_re
  have kc1 : ∀ (W : World) (o : Obj) (d : Nat) (os : Array Obj) (a : Addr), a.block ≤ W.heap.size → (Sort.grow (redrawn (W.alloc o) d) os).cell? a = (W.alloc o).cell? a := fun W o d os a h =>
    Tail.cell_re (W.alloc o) d os a (by have : (W.alloc o).heap.size = W.heap.size + 1 := by simp
                                        omega)
  go_enter Try.func103, Try.ntmps103
  go_wp2
  refine Tail.region_below (by kernel_rfl) (by kernel_rfl) ?_
  repeat (go_big_quiet_step (first | (with_reducible exact Calls.regrown_of (m1 _)) | (with_reducible exact Calls.regrown_of (m2 _)) | (with_reducible exact Calls.regrown_of (m3 _))))
  refine wpQuiet_nil ?_
  intro w1 hw1
  have hc1 := Tail.cells hw1
  have z0 := Nat.lt_of_lt_of_le (n := w.heap.size) (by simp <;> omega) hw1.size
  have z1 := Nat.lt_of_lt_of_le (n := w.heap.size + 1) (by simp <;> omega) hw1.size
  go_wp2
  go_ret
  exact ⟨rfl, by repeat (first | (with_reducible exact Below.refl _ _) | (with_reducible refine Below.setCell ?_ ?_ _) | (with_reducible refine Below.drew ?_) | (with_reducible refine Below.alloc ?_ ?_ _) | (with_reducible refine Below.trans ?_ (Below.mono hw1 ?_)) | (with_reducible exact hw1.size) | omega | (simp <;> omega) | (simp <;> (have s := hw1.size; omega)) | (have s0 := hw1.size; (try simp at s0); (try simp); omega))⟩

set_option maxHeartbeats 1600000 in
theorem refAt_any (a b c x y z : Int) (w : World) (h : Sz a b c) : Calls Try.prog 105 #[.agg #[.int .i64 a, .int .i64 b, .int .i64 c], .int .i64 x, .int .i64 y, .int .i64 z] w fun e w' => e = .returned (.int .i64 (site a b c x y z)) ∧ Below w.heap.size w w' := by
  obtain ⟨⟨p1, p2⟩, ⟨p3, p4⟩, ⟨p5, p6⟩, ⟨p7, p8⟩, p9, p10⟩ := parts_rng h x y z
  obtain ⟨a1, a4, b1, b4, c1, c4, -⟩ := h
  have m1 := fun W : World => refModulo_any x a W a1 (by omega)
  have m2 := fun W : World => refModulo_any y b W b1 (by omega)
  have m3 := fun W : World => refModulo_any z c W c1 (by omega)
  have e : site a b c x y z = x % a + a * (y % b + b * (z % c)) := rfl
  rw [e]
  clear e
  generalize x % a = mx at *
  generalize y % b = my at *
  generalize z % c = mz at *
  have e1 : IntKind.i64.wrap (b * mz) = b * mz := IntWalk.i64_in _ (by omega)
  have e2 : IntKind.i64.wrap (my + b * mz) = my + b * mz := IntWalk.i64_in _ (by omega)
  have e3 : IntKind.i64.wrap (a * (my + b * mz)) = a * (my + b * mz) := IntWalk.i64_in _ (by omega)
  have e4 : IntKind.i64.wrap (mx + a * (my + b * mz)) = mx + a * (my + b * mz) := IntWalk.i64_in _ (by omega)
  have kc := @Tail.cell_re
  have kc1 : ∀ (W : World) (o : Obj) (d : Nat) (os : Array Obj) (a : Addr), a.block ≤ W.heap.size → (Sort.grow (redrawn (W.alloc o) d) os).cell? a = (W.alloc o).cell? a := fun W o d os a h =>
    Tail.cell_re (W.alloc o) d os a (by have : (W.alloc o).heap.size = W.heap.size + 1 := by simp
                                        omega)
  clear p1 p2 p3 p4 p5 p6 p7 p8 p9 p10
  go_enter Try.func105, Try.ntmps105
  go_wp2
  refine Tail.region_below (by kernel_rfl) (by kernel_rfl) ?_
  repeat (go_big_quiet_step (first | (with_reducible exact Calls.regrown_of (m1 _)) | (with_reducible exact Calls.regrown_of (m2 _)) | (with_reducible exact Calls.regrown_of (m3 _))))
  refine wpQuiet_nil ?_
  intro w1 hw1
  go_wp2
  go_ret
  exact ⟨rfl, by repeat (first | (with_reducible exact Below.refl _ _) | (with_reducible refine Below.setCell ?_ ?_ _) | (with_reducible refine Below.drew ?_) | (with_reducible refine Below.alloc ?_ ?_ _) | (with_reducible refine Below.trans ?_ (Below.mono hw1 ?_)) | (with_reducible exact hw1.size) | omega | (simp <;> omega) | (simp <;> (have s := hw1.size; omega)) | (have s0 := hw1.size; (try simp at s0); (try simp); omega))⟩

set_option maxHeartbeats 1600000 in
theorem placeOf_any (a b c s : Int) (w : World) (h : Sz a b c) (h0 : 0 ≤ s) (h1 : s < a * b * c) : Calls Try.prog 108 #[.agg #[.int .i64 a, .int .i64 b, .int .i64 c], .int .i64 s] w fun e w' => e = .returned (.agg #[.int .i64 (s%a), .int .i64 (s/a%b), .int .i64 (s/a/b)]) ∧ Below w.heap.size w w' := by
  have i0 : ∀ w, (Instr.index 22 (.agg #[.int .i64 a, .int .i64 b, .int .i64 c]) (.int .i64 0)).run Try.prog w = .ok (.int .i64 a) w := fun _ => by kernel_rfl
  have i1 : ∀ w, (Instr.index 22 (.agg #[.int .i64 a, .int .i64 b, .int .i64 c]) (.int .i64 1)).run Try.prog w = .ok (.int .i64 b) w := fun _ => by kernel_rfl
  have i2 : ∀ w, (Instr.index 22 (.agg #[.int .i64 a, .int .i64 b, .int .i64 c]) (.int .i64 2)).run Try.prog w = .ok (.int .i64 c) w := fun _ => by kernel_rfl
  have hz := pz_mod h h0 h1
  obtain ⟨d0, d1, d2, d3, d4, d5, -, -, -, -⟩ := div_rng h h0 h1
  obtain ⟨a1, a4, b1, b4, c1, c4, -⟩ := h
  have a0 : (a == 0) = false := by simp; omega
  have b0 : (b == 0) = false := by simp; omega
  have c0 : (c == 0) = false := by simp; omega
  clear h1
  go_enter Try.func108, Try.ntmps108
  go_wp2
  refine wp_loop_rounds 4 ?_
  rw [rounds_succ]
  go_wp2
  rw [rounds_succ]
  go_wp2
  rw [rounds_succ]
  go_wp2
  rw [rounds_succ]
  go_wp2
  refine bodyPost_ret (v := .agg #[.int .i64 (s%a), .int .i64 (s/a%b), .int .i64 (s/a/b)]) ?_ rfl ⟨rfl, ?_⟩
  · simp [results, Try.results108, go_sem]
  · repeat (first | (with_reducible exact Below.refl _ _) | (with_reducible refine Below.setCell ?_ ?_ _) | (with_reducible refine Below.drew ?_) | (with_reducible refine Below.alloc ?_ ?_ _) | omega | (simp <;> omega))

set_option maxHeartbeats 1600000 in
theorem refSpot_any (a b c s : Int) (w : World) (h : Sz a b c) (h0 : 0 ≤ s) (h1 : s < a * b * c) : Calls Try.prog 104 #[.agg #[.int .i64 a, .int .i64 b, .int .i64 c], .int .i64 s] w fun e w' => e = .returned (.agg #[.int .i64 (s%a), .int .i64 (s/a%b), .int .i64 (s/a/b)]) ∧ Below w.heap.size w w' := by
  obtain ⟨d0, d1, d2, d3, d4, d5, -, -, -, -⟩ := div_rng h h0 h1
  obtain ⟨a1, a4, b1, b4, c1, c4, -⟩ := h
  have a0 : (a == 0) = false := by simp; omega
  have b0 : (b == 0) = false := by simp; omega
  have e1 : s.tmod a = s % a := Int.tmod_eq_emod_of_nonneg h0
  have e2 : IntKind.i64.wrap (s.tdiv a) = s / a := IntWalk.i64_quo _ _ ⟨h0, by omega, a1⟩
  have e3 : (s / a).tmod b = s / a % b := Int.tmod_eq_emod_of_nonneg d2
  have e4 : IntKind.i64.wrap ((s / a).tdiv b) = s / a / b := IntWalk.i64_quo _ _ ⟨d2, by omega, b1⟩
  have e5 : IntKind.i64.wrap (s % a) = s % a := IntWalk.i64_in _ (by have := Int.emod_nonneg s (show a ≠ 0 by omega); have := Int.emod_lt_of_pos s (show 0 < a by omega); omega)
  have e6 : IntKind.i64.wrap (s / a % b) = s / a % b := IntWalk.i64_in _ (by have := Int.emod_nonneg (s / a) (show b ≠ 0 by omega); have := Int.emod_lt_of_pos (s / a) (show 0 < b by omega); omega)
  clear h1 d0 d1 d2 d3 d4 d5
  have kc := @Tail.cell_re
  have kc1 : ∀ (W : World) (o : Obj) (d : Nat) (os : Array Obj) (a : Addr), a.block ≤ W.heap.size → (Sort.grow (redrawn (W.alloc o) d) os).cell? a = (W.alloc o).cell? a := fun W o d os a h => Tail.cell_re (W.alloc o) d os a (Nat.lt_of_le_of_lt h (by simp))
  go_enter Try.func104, Try.ntmps104
  go_wp2
  refine Tail.region_tail_below 19 (by kernel_rfl) (by kernel_rfl) ?_
  simp only [List.take_succ_cons, List.take_zero, List.drop_succ_cons, List.drop_zero]
  repeat (go_big_quiet_step (fail))
  refine wpQuiet_nil ?_
  intro w1 hw1
  have hc1 := Tail.cells hw1
  have z1 := Nat.lt_of_lt_of_le (n := w.heap.size + 1) (by simp <;> omega) hw1.size
  go_wp2
  refine bodyPost_ret (v := .agg #[.int .i64 (s%a), .int .i64 (s/a%b), .int .i64 (s/a/b)]) ?_ rfl ⟨rfl, ?_⟩
  · simp [results, Try.results104, go_sem, hc1, z1]
  · repeat (first | (with_reducible exact Below.refl _ _) | (with_reducible refine Below.setCell ?_ ?_ _) | (with_reducible refine Below.drew ?_) | (with_reducible refine Below.alloc ?_ ?_ _) | (with_reducible refine Below.trans ?_ (Below.mono hw1 ?_)) | (with_reducible exact hw1.size) | omega | (simp <;> omega) | (simp <;> (have s := hw1.size; omega)) | (have s0 := hw1.size; (try simp at s0); (try simp); omega))

/-- the error of sizes and of a site -/
def stR (a b c s r : Int) : Prop := (¬ Sz a b c ∧ r = 1) ∨ (Sz a b c ∧ ¬ (0 ≤ s ∧ s < a * b * c) ∧ r = 4) ∨ (Sz a b c ∧ 0 ≤ s ∧ s < a * b * c ∧ r = 0)

set_option maxHeartbeats 1600000 in
theorem checkSite_any (a b c s r : Int) (w : World) (hr : stR a b c s r) : Calls Try.prog 107 #[.agg #[.int .i64 a, .int .i64 b, .int .i64 c], .int .i64 s] w fun e w' => e = .returned (.int .i64 r) ∧ Below w.heap.size w w' := by
  rcases hr with ⟨h, rfl⟩ | ⟨h, hs, rfl⟩ | ⟨h, h0, h1, rfl⟩
  · have c1 := fun W : World => sizes_any a b c 1 W (.inr ⟨h, rfl⟩)
    clear h
    go_enter Try.func107, Try.ntmps107
    go_wp2_with ((with_reducible refine (c1 _).mono ?_); rintro e w1 ⟨rfl, hw1⟩)
    go_ret
    exact ⟨rfl, by repeat (first | (with_reducible exact Below.refl _ _) | (with_reducible refine Below.setCell ?_ ?_ _) | (with_reducible refine Below.drew ?_) | (with_reducible refine Below.alloc ?_ ?_ _) | (with_reducible refine Below.trans ?_ (Below.mono hw1 ?_)) | (with_reducible exact hw1.size) | omega | (simp <;> omega) | (simp <;> (have s := hw1.size; omega)) | (have s0 := hw1.size; (try simp at s0); (try simp); omega))⟩
  · have c1 := fun W : World => sizes_any a b c 0 W (.inl ⟨h, rfl⟩)
    have c2 := fun W : World => count_any a b c W h.a1 h.a4 h.b1 h.b4 h.c1 h.c4
    obtain ⟨p1, p2, p3, p4⟩ := mul_rng h.a1 h.a4 h.b1 h.b4 h.c1 h.c4
    clear h
    generalize a * b * c = m at *
    by_cases h0 : s < 0
    · clear hs
      go_enter Try.func107, Try.ntmps107
      go_wp2_with ((with_reducible refine (c1 _).mono ?_); rintro e w1 ⟨rfl, hw1⟩)
      go_ret
      exact ⟨rfl, by repeat (first | (with_reducible exact Below.refl _ _) | (with_reducible refine Below.setCell ?_ ?_ _) | (with_reducible refine Below.drew ?_) | (with_reducible refine Below.alloc ?_ ?_ _) | (with_reducible refine Below.trans ?_ (Below.mono hw1 ?_)) | (with_reducible exact hw1.size) | omega | (simp <;> omega) | (simp <;> (have s := hw1.size; omega)) | (have s0 := hw1.size; (try simp at s0); (try simp); omega))⟩
    · have h2 : m ≤ s := by omega
      clear hs
      go_enter Try.func107, Try.ntmps107
      go_wp2_with (first | ((with_reducible refine (c1 _).mono ?_); rintro e w1 ⟨rfl, hw1⟩; have hc1 := Tail.cells hw1; have z0 := Nat.lt_of_lt_of_le (n := w.heap.size) (by simp) hw1.size) | ((with_reducible refine (c2 _).mono ?_); rintro e w2 ⟨rfl, hw2⟩))
      go_ret
      exact ⟨rfl, by repeat (first | (with_reducible exact Below.refl _ _) | (with_reducible refine Below.setCell ?_ ?_ _) | (with_reducible refine Below.drew ?_) | (with_reducible refine Below.alloc ?_ ?_ _) | (with_reducible refine Below.trans ?_ (Below.mono hw2 ?_)) | (with_reducible refine Below.trans ?_ (Below.mono hw1 ?_)) | (with_reducible exact hw2.size) | (with_reducible exact hw1.size) | omega | (simp <;> omega) | (simp <;> (have s := hw2.size; omega)) | (simp <;> (have s := hw1.size; omega)) | (have s0 := hw2.size; (try simp at s0); have s1 := hw1.size; (try simp at s1); (try simp); omega))⟩
  · have c1 := fun W : World => sizes_any a b c 0 W (.inl ⟨h, rfl⟩)
    have c2 := fun W : World => count_any a b c W h.a1 h.a4 h.b1 h.b4 h.c1 h.c4
    clear h
    generalize a * b * c = m at *
    go_enter Try.func107, Try.ntmps107
    go_wp2_with (first | ((with_reducible refine (c1 _).mono ?_); rintro e w1 ⟨rfl, hw1⟩; have hc1 := Tail.cells hw1; have z0 := Nat.lt_of_lt_of_le (n := w.heap.size) (by simp) hw1.size) | ((with_reducible refine (c2 _).mono ?_); rintro e w2 ⟨rfl, hw2⟩))
    go_ret
    exact ⟨rfl, by repeat (first | (with_reducible exact Below.refl _ _) | (with_reducible refine Below.setCell ?_ ?_ _) | (with_reducible refine Below.drew ?_) | (with_reducible refine Below.alloc ?_ ?_ _) | (with_reducible refine Below.trans ?_ (Below.mono hw2 ?_)) | (with_reducible refine Below.trans ?_ (Below.mono hw1 ?_)) | (with_reducible exact hw2.size) | (with_reducible exact hw1.size) | omega | (simp <;> omega) | (simp <;> (have s := hw2.size; omega)) | (simp <;> (have s := hw1.size; omega)) | (have s0 := hw2.size; (try simp at s0); have s1 := hw1.size; (try simp at s1); (try simp); omega))⟩

set_option maxHeartbeats 1600000 in
theorem refSizes_any (a b c r : Int) (w : World) (hr : szR a b c r) : Calls Try.prog 110 #[.agg #[.int .i64 a, .int .i64 b, .int .i64 c]] w fun e w' => e = .returned (.int .i64 r) ∧ Below w.heap.size w w' := by
  have y1 := fun (n : Int) (h : 1 ≤ n ∧ n ≤ 4) (W : World) => within2_any n 1 4 W true (.inl ⟨h.1, h.2, rfl⟩)
  have n1 := fun (n : Int) (h : ¬ (1 ≤ n ∧ n ≤ 4)) (W : World) => within2_any n 1 4 W false (.inr ⟨h, rfl⟩)
  by_cases ha : 1 ≤ a ∧ a ≤ 4
  · have ca := y1 a ha
    by_cases hb : 1 ≤ b ∧ b ≤ 4
    · have cb := y1 b hb
      by_cases hc : 1 ≤ c ∧ c ≤ 4
      · have cc := y1 c hc
        obtain ⟨p1, p2, p3, p4⟩ := mul_rng ha.1 ha.2 hb.1 hb.2 hc.1 hc.2
        by_cases hp : a * b * c ≤ 16
        · obtain rfl : r = 0 := by
            rcases hr with ⟨_, h⟩ | ⟨h, _⟩
            · exact h
            · exact absurd ⟨ha.1, ha.2, hb.1, hb.2, hc.1, hc.2, hp⟩ h
          clear hr ha hb hc y1 n1
          go_enter Try.func110, Try.ntmps110
          go_wp2_with (first | ((with_reducible refine (ca _).mono ?_); rintro e w1 ⟨rfl, rfl⟩) | ((with_reducible refine (cb _).mono ?_); rintro e w1 ⟨rfl, rfl⟩) | ((with_reducible refine (cc _).mono ?_); rintro e w1 ⟨rfl, rfl⟩))
          go_ret
          exact ⟨rfl, by repeat (first | (with_reducible exact Below.refl _ _) | (with_reducible refine Below.setCell ?_ ?_ _) | (with_reducible refine Below.drew ?_) | (with_reducible refine Below.alloc ?_ ?_ _) | omega | (simp <;> omega))⟩
        · obtain rfl : r = 1 := by
            rcases hr with ⟨h, _⟩ | ⟨_, h⟩
            · exact absurd h.p hp
            · exact h
          have hp' : 16 < a * b * c := by omega
          clear hr ha hb hc y1 n1 hp
          go_enter Try.func110, Try.ntmps110
          go_wp2_with (first | ((with_reducible refine (ca _).mono ?_); rintro e w1 ⟨rfl, rfl⟩) | ((with_reducible refine (cb _).mono ?_); rintro e w1 ⟨rfl, rfl⟩) | ((with_reducible refine (cc _).mono ?_); rintro e w1 ⟨rfl, rfl⟩))
          go_ret
          exact ⟨rfl, by repeat (first | (with_reducible exact Below.refl _ _) | (with_reducible refine Below.setCell ?_ ?_ _) | (with_reducible refine Below.drew ?_) | (with_reducible refine Below.alloc ?_ ?_ _) | omega | (simp <;> omega))⟩
      · have cc := n1 c hc
        obtain rfl : r = 1 := by
          rcases hr with ⟨h, _⟩ | ⟨_, h⟩
          · exact absurd ⟨h.c1, h.c4⟩ hc
          · exact h
        clear hr ha hb hc y1 n1
        go_enter Try.func110, Try.ntmps110
        go_wp2_with (first | ((with_reducible refine (ca _).mono ?_); rintro e w1 ⟨rfl, rfl⟩) | ((with_reducible refine (cb _).mono ?_); rintro e w1 ⟨rfl, rfl⟩) | ((with_reducible refine (cc _).mono ?_); rintro e w1 ⟨rfl, rfl⟩))
        go_ret
        exact ⟨rfl, by repeat (first | (with_reducible exact Below.refl _ _) | (with_reducible refine Below.setCell ?_ ?_ _) | (with_reducible refine Below.drew ?_) | (with_reducible refine Below.alloc ?_ ?_ _) | omega | (simp <;> omega))⟩
    · have cb := n1 b hb
      obtain rfl : r = 1 := by
        rcases hr with ⟨h, _⟩ | ⟨_, h⟩
        · exact absurd ⟨h.b1, h.b4⟩ hb
        · exact h
      clear hr ha hb y1 n1
      go_enter Try.func110, Try.ntmps110
      go_wp2_with (first | ((with_reducible refine (ca _).mono ?_); rintro e w1 ⟨rfl, rfl⟩) | ((with_reducible refine (cb _).mono ?_); rintro e w1 ⟨rfl, rfl⟩))
      go_ret
      exact ⟨rfl, by repeat (first | (with_reducible exact Below.refl _ _) | (with_reducible refine Below.setCell ?_ ?_ _) | (with_reducible refine Below.drew ?_) | (with_reducible refine Below.alloc ?_ ?_ _) | omega | (simp <;> omega))⟩
  · have ca := n1 a ha
    obtain rfl : r = 1 := by
      rcases hr with ⟨h, _⟩ | ⟨_, h⟩
      · exact absurd ⟨h.a1, h.a4⟩ ha
      · exact h
    clear hr ha y1 n1
    go_enter Try.func110, Try.ntmps110
    go_wp2_with (first | ((with_reducible refine (ca _).mono ?_); rintro e w1 ⟨rfl, rfl⟩))
    go_ret
    exact ⟨rfl, by repeat (first | (with_reducible exact Below.refl _ _) | (with_reducible refine Below.setCell ?_ ?_ _) | (with_reducible refine Below.drew ?_) | (with_reducible refine Below.alloc ?_ ?_ _) | omega | (simp <;> omega))⟩

set_option maxHeartbeats 1600000 in
theorem refSited_any (a b c s r : Int) (w : World) (hr : stR a b c s r) : Calls Try.prog 152 #[.agg #[.int .i64 a, .int .i64 b, .int .i64 c], .int .i64 s] w fun e w' => e = .returned (.int .i64 r) ∧ Below w.heap.size w w' := by
  rcases hr with ⟨h, rfl⟩ | ⟨h, hs, rfl⟩ | ⟨h, h0, h1, rfl⟩
  · have c1 := fun W : World => refSizes_any a b c 1 W (.inr ⟨h, rfl⟩)
    clear h
    go_enter Try.func152, Try.ntmps152
    go_wp2_with ((with_reducible refine (c1 _).mono ?_); rintro e w1 ⟨rfl, hw1⟩)
    go_ret
    exact ⟨rfl, by repeat (first | (with_reducible exact Below.refl _ _) | (with_reducible refine Below.setCell ?_ ?_ _) | (with_reducible refine Below.drew ?_) | (with_reducible refine Below.alloc ?_ ?_ _) | (with_reducible refine Below.trans ?_ (Below.mono hw1 ?_)) | (with_reducible exact hw1.size) | omega | (simp <;> omega) | (simp <;> (have s := hw1.size; omega)) | (have s0 := hw1.size; (try simp at s0); (try simp); omega))⟩
  · have c1 := fun W : World => refSizes_any a b c 0 W (.inl ⟨h, rfl⟩)
    have c2 := fun W : World => refSize_any a b c W h.a1 h.a4 h.b1 h.b4 h.c1 h.c4
    obtain ⟨p1, p2, p3, p4⟩ := mul_rng h.a1 h.a4 h.b1 h.b4 h.c1 h.c4
    clear h
    generalize a * b * c = m at *
    by_cases h0 : s < 0
    · clear hs
      go_enter Try.func152, Try.ntmps152
      go_wp2_with ((with_reducible refine (c1 _).mono ?_); rintro e w1 ⟨rfl, hw1⟩)
      go_ret
      exact ⟨rfl, by repeat (first | (with_reducible exact Below.refl _ _) | (with_reducible refine Below.setCell ?_ ?_ _) | (with_reducible refine Below.drew ?_) | (with_reducible refine Below.alloc ?_ ?_ _) | (with_reducible refine Below.trans ?_ (Below.mono hw1 ?_)) | (with_reducible exact hw1.size) | omega | (simp <;> omega) | (simp <;> (have s := hw1.size; omega)) | (have s0 := hw1.size; (try simp at s0); (try simp); omega))⟩
    · have h2 : m ≤ s := by omega
      clear hs
      go_enter Try.func152, Try.ntmps152
      go_wp2_with (first | ((with_reducible refine (c1 _).mono ?_); rintro e w1 ⟨rfl, hw1⟩; have hc1 := Tail.cells hw1; have z0 := Nat.lt_of_lt_of_le (n := w.heap.size) (by simp) hw1.size) | ((with_reducible refine (c2 _).mono ?_); rintro e w2 ⟨rfl, hw2⟩))
      go_ret
      exact ⟨rfl, by repeat (first | (with_reducible exact Below.refl _ _) | (with_reducible refine Below.setCell ?_ ?_ _) | (with_reducible refine Below.drew ?_) | (with_reducible refine Below.alloc ?_ ?_ _) | (with_reducible refine Below.trans ?_ (Below.mono hw2 ?_)) | (with_reducible refine Below.trans ?_ (Below.mono hw1 ?_)) | (with_reducible exact hw2.size) | (with_reducible exact hw1.size) | omega | (simp <;> omega) | (simp <;> (have s := hw2.size; omega)) | (simp <;> (have s := hw1.size; omega)) | (have s0 := hw2.size; (try simp at s0); have s1 := hw1.size; (try simp at s1); (try simp); omega))⟩
  · have c1 := fun W : World => refSizes_any a b c 0 W (.inl ⟨h, rfl⟩)
    have c2 := fun W : World => refSize_any a b c W h.a1 h.a4 h.b1 h.b4 h.c1 h.c4
    clear h
    generalize a * b * c = m at *
    go_enter Try.func152, Try.ntmps152
    go_wp2_with (first | ((with_reducible refine (c1 _).mono ?_); rintro e w1 ⟨rfl, hw1⟩; have hc1 := Tail.cells hw1; have z0 := Nat.lt_of_lt_of_le (n := w.heap.size) (by simp) hw1.size) | ((with_reducible refine (c2 _).mono ?_); rintro e w2 ⟨rfl, hw2⟩))
    go_ret
    exact ⟨rfl, by repeat (first | (with_reducible exact Below.refl _ _) | (with_reducible refine Below.setCell ?_ ?_ _) | (with_reducible refine Below.drew ?_) | (with_reducible refine Below.alloc ?_ ?_ _) | (with_reducible refine Below.trans ?_ (Below.mono hw2 ?_)) | (with_reducible refine Below.trans ?_ (Below.mono hw1 ?_)) | (with_reducible exact hw2.size) | (with_reducible exact hw1.size) | omega | (simp <;> omega) | (simp <;> (have s := hw2.size; omega)) | (simp <;> (have s := hw1.size; omega)) | (have s0 := hw2.size; (try simp at s0); have s1 := hw1.size; (try simp at s1); (try simp); omega))⟩
end Go.Proofs.Ytoafojojhdcmfaa
