/- Sizes, remainders, sites and places, as the program makes them.
Conditions: those written at each theorem. -/
import Derived.Test.YtpfhjdmgkckjfaaGreatDoorAMathA
import Derived.Test.YtpfhjdmgkckjfaaGreatDoorAQuatB
import Derived.Test.YtpfhjdmgkckjfaaGreatDoorARegA
import Derived.IntWalk
import Derived.Test.YtpfhjdmgkckjfaaGreatDoorADist
import Derived.ChangeKeysEq
namespace Go.Proofs.YtpfhjdmgkckjfaaGreatDoor
set_option linter.unusedVariables false
set_option linter.unusedSimpArgs false
set_option maxRecDepth 1000000
open Go.RowKit
open Tm

set_option maxHeartbeats 400000 in
theorem modulo_any (x n : Int) (w : World) (h1 : 1 ≤ n) (h2 : n ≤ 1000) : Calls Tryz.prog 141 #[.int .i64 x, .int .i64 n] w fun e w' => e = .returned (.int .i64 (x % n)) ∧ Below w.heap.size w w' := by
  have hb := rem_bnd x n h1
  have hn0 : (n == 0) = false := by simp; omega
  rcases rem_cases x n h1 with ⟨h, he⟩ | ⟨h, he⟩
  · have HE := Lib.hid he
    clear he
    generalize x % n = m at *
    go_enter Tryz.func141, Tryz.ntmps141
    go_wp2
    go_ret
    first | exact ⟨rfl, Below.refl _ _⟩ | exact ⟨by rw [← HE.out]; rfl, Below.refl _ _⟩
  · have HE := Lib.hid he
    clear he
    generalize x % n = m at *
    go_enter Tryz.func141, Tryz.ntmps141
    go_wp2
    go_ret
    first | exact ⟨rfl, Below.refl _ _⟩ | exact ⟨by rw [← HE.out]; rfl, Below.refl _ _⟩

set_option maxHeartbeats 400000 in
theorem count_any (a b c : Int) (w : World) (a1 : 1 ≤ a) (a4 : a ≤ 4) (b1 : 1 ≤ b) (b4 : b ≤ 4) (c1 : 1 ≤ c) (c4 : c ≤ 4) : Calls Tryz.prog 96 #[.agg #[.int .i64 a, .int .i64 b, .int .i64 c]] w fun e w' => e = .returned (.int .i64 (a * b * c)) ∧ Below w.heap.size w w' := by
  obtain ⟨p1, p2, p3, p4⟩ := mul_rng a1 a4 b1 b4 c1 c4
  go_enter Tryz.func96, Tryz.ntmps96
  go_wp2
  go_ret
  exact ⟨rfl, by repeat (first | (with_reducible exact Below.refl _ _) | (with_reducible refine Below.setCell ?_ ?_ _) | (with_reducible refine Below.drew ?_) | (with_reducible refine Below.alloc ?_ ?_ _) | omega | (simp <;> omega))⟩

set_option maxHeartbeats 400000 in
theorem refSize_any (a b c : Int) (w : World) (a1 : 1 ≤ a) (a4 : a ≤ 4) (b1 : 1 ≤ b) (b4 : b ≤ 4) (c1 : 1 ≤ c) (c4 : c ≤ 4) : Calls Tryz.prog 154 #[.agg #[.int .i64 a, .int .i64 b, .int .i64 c]] w fun e w' => e = .returned (.int .i64 (a * b * c)) ∧ Below w.heap.size w w' := by
  obtain ⟨p1, p2, p3, p4⟩ := mul_rng a1 a4 b1 b4 c1 c4
  go_enter Tryz.func154, Tryz.ntmps154
  go_wp2
  go_ret
  exact ⟨rfl, by repeat (first | (with_reducible exact Below.refl _ _) | (with_reducible refine Below.setCell ?_ ?_ _) | (with_reducible refine Below.drew ?_) | (with_reducible refine Below.alloc ?_ ?_ _) | omega | (simp <;> omega))⟩

set_option maxHeartbeats 400000 in
theorem within2_any (n lo hi : Int) (w : World) (r : Bool) (h : (lo ≤ n ∧ n ≤ hi ∧ r = true) ∨ (¬ (lo ≤ n ∧ n ≤ hi) ∧ r = false)) :
    Calls Tryz.prog 160 #[.int .i64 n, .int .i64 lo, .int .i64 hi] w fun e w' => e = .returned (.bool r) ∧ w = w' := by
  rcases h with ⟨a, b, rfl⟩ | ⟨h, rfl⟩
  · go_enter Tryz.func160, Tryz.ntmps160
    go_wp2
    go_ret
    exact ⟨rfl, rfl⟩
  · by_cases a : lo ≤ n
    · have b : ¬ n ≤ hi := fun b => h ⟨a, b⟩
      clear h
      go_enter Tryz.func160, Tryz.ntmps160
      go_wp2
      go_ret
      exact ⟨rfl, rfl⟩
    · clear h
      go_enter Tryz.func160, Tryz.ntmps160
      go_wp2
      go_ret
      exact ⟨rfl, rfl⟩

def szR (a b c r : Int) : Prop := (Sz a b c ∧ r = 0) ∨ (¬ Sz a b c ∧ r = 1)

set_option maxHeartbeats 1600000 in
theorem sizes_any (a b c r : Int) (w : World) (hr : szR a b c r) : Calls Tryz.prog 95 #[.agg #[.int .i64 a, .int .i64 b, .int .i64 c]] w fun e w' => e = .returned (.int .i64 r) ∧ Below w.heap.size w w' := by
  have i0 : ∀ w, (Instr.index 22 (.agg #[.int .i64 a, .int .i64 b, .int .i64 c]) (.int .i64 0)).run Tryz.prog w = .ok (.int .i64 a) w := fun _ => by kernel_rfl
  have i1 : ∀ w, (Instr.index 22 (.agg #[.int .i64 a, .int .i64 b, .int .i64 c]) (.int .i64 1)).run Tryz.prog w = .ok (.int .i64 b) w := fun _ => by kernel_rfl
  have i2 : ∀ w, (Instr.index 22 (.agg #[.int .i64 a, .int .i64 b, .int .i64 c]) (.int .i64 2)).run Tryz.prog w = .ok (.int .i64 c) w := fun _ => by kernel_rfl
  have HR := Lib.hid hr
  clear hr
  go_enter Tryz.func95, Tryz.ntmps95
  go_wp2
  go_loopw [4, 6] (fun _ q wr => ∃ k : Nat, k ≤ 3 ∧ q = .int .i64 k ∧ Hid ((1 ≤ k → 1 ≤ a ∧ a ≤ 4) ∧ (2 ≤ k → 1 ≤ b ∧ b ≤ 4) ∧ (3 ≤ k → 1 ≤ c ∧ c ≤ 4)) ∧ wr = (w.alloc (.cells #[.int .i64 a, .int .i64 b, .int .i64 c] 22))) (fun _ q _ => 3 - (intOf q).toNat)
  case atStart => exact ⟨0, by omega, rfl, Lib.hid ⟨by omega, by omega, by omega⟩, rfl⟩
  case round =>
    obtain ⟨k, hk, rfl, hall, rfl⟩ := hrel
    have : k = 0 ∨ k = 1 ∨ k = 2 ∨ k = 3 := by omega
    rcases this with rfl | rfl | rfl | rfl
    · by_cases h1 : a < 1
      · have h : r = 1 := by
          rcases HR.out with ⟨h, _⟩ | ⟨_, h⟩
          · have := h.a1; omega
          · exact h
        subst h
        go_wp2
        go_ret
        exact ⟨rfl, by repeat (first | (with_reducible exact Below.refl _ _) | (with_reducible refine Below.setCell ?_ ?_ _) | (with_reducible refine Below.drew ?_) | (with_reducible refine Below.alloc ?_ ?_ _) | omega | (simp <;> omega))⟩
      · by_cases h2 : 4 < a
        · have h : r = 1 := by
            rcases HR.out with ⟨h, _⟩ | ⟨_, h⟩
            · have := h.a4; omega
            · exact h
          subst h
          go_wp2
          go_ret
          exact ⟨rfl, by repeat (first | (with_reducible exact Below.refl _ _) | (with_reducible refine Below.setCell ?_ ?_ _) | (with_reducible refine Below.drew ?_) | (with_reducible refine Below.alloc ?_ ?_ _) | omega | (simp <;> omega))⟩
        · go_wp2
          exact ⟨⟨1, by omega, rfl, Lib.hid ⟨by omega, by omega, by omega⟩, by first | rfl | trivial⟩, by simp [intOf]⟩
    · by_cases h1 : b < 1
      · have h : r = 1 := by
          rcases HR.out with ⟨h, _⟩ | ⟨_, h⟩
          · have := h.b1; omega
          · exact h
        subst h
        go_wp2
        go_ret
        exact ⟨rfl, by repeat (first | (with_reducible exact Below.refl _ _) | (with_reducible refine Below.setCell ?_ ?_ _) | (with_reducible refine Below.drew ?_) | (with_reducible refine Below.alloc ?_ ?_ _) | omega | (simp <;> omega))⟩
      · by_cases h2 : 4 < b
        · have h : r = 1 := by
            rcases HR.out with ⟨h, _⟩ | ⟨_, h⟩
            · have := h.b4; omega
            · exact h
          subst h
          go_wp2
          go_ret
          exact ⟨rfl, by repeat (first | (with_reducible exact Below.refl _ _) | (with_reducible refine Below.setCell ?_ ?_ _) | (with_reducible refine Below.drew ?_) | (with_reducible refine Below.alloc ?_ ?_ _) | omega | (simp <;> omega))⟩
        · go_wp2
          exact ⟨⟨2, by omega, rfl, Lib.hid ⟨fun _ => hall.out.1 (by omega), by omega, by omega⟩, by first | rfl | trivial⟩, by simp [intOf]⟩
    · by_cases h1 : c < 1
      · have h : r = 1 := by
          rcases HR.out with ⟨h, _⟩ | ⟨_, h⟩
          · have := h.c1; omega
          · exact h
        subst h
        go_wp2
        go_ret
        exact ⟨rfl, by repeat (first | (with_reducible exact Below.refl _ _) | (with_reducible refine Below.setCell ?_ ?_ _) | (with_reducible refine Below.drew ?_) | (with_reducible refine Below.alloc ?_ ?_ _) | omega | (simp <;> omega))⟩
      · by_cases h2 : 4 < c
        · have h : r = 1 := by
            rcases HR.out with ⟨h, _⟩ | ⟨_, h⟩
            · have := h.c4; omega
            · exact h
          subst h
          go_wp2
          go_ret
          exact ⟨rfl, by repeat (first | (with_reducible exact Below.refl _ _) | (with_reducible refine Below.setCell ?_ ?_ _) | (with_reducible refine Below.drew ?_) | (with_reducible refine Below.alloc ?_ ?_ _) | omega | (simp <;> omega))⟩
        · go_wp2
          exact ⟨⟨3, by omega, rfl, Lib.hid ⟨fun _ => hall.out.1 (by omega), fun _ => hall.out.2.1 (by omega), by omega⟩, by first | rfl | trivial⟩, by simp [intOf]⟩
    · have ha := hall.out.1 (by omega)
      have hb := hall.out.2.1 (by omega)
      have hc := hall.out.2.2 (by omega)
      have c1 := fun W : World => count_any a b c W ha.1 ha.2 hb.1 hb.2 hc.1 hc.2
      by_cases hp : a * b * c ≤ 16
      · have h : r = 0 := by
          rcases HR.out with ⟨_, h⟩ | ⟨h, _⟩
          · exact h
          · exact absurd ⟨ha.1, ha.2, hb.1, hb.2, hc.1, hc.2, hp⟩ h
        subst h
        have hp' : ¬ 16 < a * b * c := by omega
        clear hp ha hb hc hall
        go_wp2_with ((with_reducible refine (c1 _).mono ?_); rintro e w1 ⟨rfl, hw1⟩)
        go_ret
        exact ⟨rfl, by repeat (first | (with_reducible exact Below.refl _ _) | (with_reducible refine Below.setCell ?_ ?_ _) | (with_reducible refine Below.drew ?_) | (with_reducible refine Below.alloc ?_ ?_ _) | (with_reducible refine Below.trans ?_ (Below.mono hw1 ?_)) | (with_reducible exact hw1.size) | omega | (simp <;> omega) | (simp <;> (have s := hw1.size; omega)) | (have s0 := hw1.size; (try simp at s0); (try simp); omega))⟩
      · have h : r = 1 := by
          rcases HR.out with ⟨h, _⟩ | ⟨_, h⟩
          · exact absurd h.p hp
          · exact h
        subst h
        have hp' : 16 < a * b * c := by omega
        clear hp ha hb hc hall
        go_wp2_with ((with_reducible refine (c1 _).mono ?_); rintro e w1 ⟨rfl, hw1⟩)
        go_ret
        exact ⟨rfl, by repeat (first | (with_reducible exact Below.refl _ _) | (with_reducible refine Below.setCell ?_ ?_ _) | (with_reducible refine Below.drew ?_) | (with_reducible refine Below.alloc ?_ ?_ _) | (with_reducible refine Below.trans ?_ (Below.mono hw1 ?_)) | (with_reducible exact hw1.size) | omega | (simp <;> omega) | (simp <;> (have s := hw1.size; omega)) | (have s0 := hw1.size; (try simp at s0); (try simp); omega))⟩
end Go.Proofs.YtpfhjdmgkckjfaaGreatDoor

/- Sites with places, and places of sites.
Conditions: those written at each theorem. -/
namespace Go.Proofs.YtpfhjdmgkckjfaaGreatDoor
set_option linter.unusedVariables false
set_option linter.unusedSimpArgs false
set_option maxRecDepth 1000000
open Go.RowKit
open Tm

set_option maxHeartbeats 1600000 in
theorem siteAt_any (a b c x y z : Int) (w : World) (h : Sz a b c) : Calls Tryz.prog 115 #[.agg #[.int .i64 a, .int .i64 b, .int .i64 c], .agg #[.int .i64 x, .int .i64 y, .int .i64 z]] w fun e w' => e = .returned (.int .i64 (site a b c x y z)) ∧ Below w.heap.size w w' := by
  obtain ⟨⟨p1, p2⟩, ⟨p3, p4⟩, ⟨p5, p6⟩, ⟨p7, p8⟩, p9, p10⟩ := parts_rng h x y z
  obtain ⟨a1, a4, b1, b4, c1, c4, -⟩ := h
  have m1 := fun W : World => modulo_any x a W a1 (by omega)
  have m2 := fun W : World => modulo_any y b W b1 (by omega)
  have m3 := fun W : World => modulo_any z c W c1 (by omega)
  have e : site a b c x y z = x % a + a * (y % b + b * (z % c)) := rfl
  rw [e]
  clear e
  generalize x % a = mx at *
  generalize y % b = my at *
  generalize z % c = mz at *
  have kc := @Tail.cell_re
  have kc1 : ∀ (W : World) (o : Obj) (d : Nat) (os : Array Obj) (a : Addr), a.block ≤ W.heap.size → (Sort.grow (redrawn (W.alloc o) d) os).cell? a = (W.alloc o).cell? a := fun W o d os a h =>
    Tail.cell_re (W.alloc o) d os a (by have : (W.alloc o).heap.size = W.heap.size + 1 := by simp
                                        omega)
  go_enter Tryz.func115, Tryz.ntmps115
  go_wp2
  refine Tail.region_below (by kernel_rfl) (by kernel_rfl) ?_
  repeat (go_big_quiet_step (first | (with_reducible exact Calls.regrown_of (m1 _)) | (with_reducible exact Calls.regrown_of (m2 _)) | (with_reducible exact Calls.regrown_of (m3 _))))
  refine wpQuiet_nil ?_
  intro w1 hw1
  have hc1 := Tail.cells hw1
  have z0 := Nat.lt_of_lt_of_le (n := w.heap.size) (by simp <;> omega) hw1.size
  have z1 := Nat.lt_of_lt_of_le (n := w.heap.size + 1) (by simp <;> omega) hw1.size
  go_wp2
  go_ret
  exact ⟨rfl, by repeat (first | (with_reducible exact Below.refl _ _) | (with_reducible refine Below.setCell ?_ ?_ _) | (with_reducible refine Below.drew ?_) | (with_reducible refine Below.alloc ?_ ?_ _) | (with_reducible refine Below.trans ?_ (Below.mono hw1 ?_)) | (with_reducible exact hw1.size) | omega | (simp <;> omega) | (simp <;> (have s := hw1.size; omega)) | (have s0 := hw1.size; (try simp at s0); (try simp); omega))⟩

set_option maxHeartbeats 1600000 in
theorem placeOf_any (a b c s : Int) (w : World) (h : Sz a b c) (h0 : 0 ≤ s) (h1 : s < a * b * c) : Calls Tryz.prog 114 #[.agg #[.int .i64 a, .int .i64 b, .int .i64 c], .int .i64 s] w fun e w' => e = .returned (.agg #[.int .i64 (s%a), .int .i64 (s/a%b), .int .i64 (s/a/b)]) ∧ Below w.heap.size w w' := by
  have i0 : ∀ w, (Instr.index 22 (.agg #[.int .i64 a, .int .i64 b, .int .i64 c]) (.int .i64 0)).run Tryz.prog w = .ok (.int .i64 a) w := fun _ => by kernel_rfl
  have i1 : ∀ w, (Instr.index 22 (.agg #[.int .i64 a, .int .i64 b, .int .i64 c]) (.int .i64 1)).run Tryz.prog w = .ok (.int .i64 b) w := fun _ => by kernel_rfl
  have i2 : ∀ w, (Instr.index 22 (.agg #[.int .i64 a, .int .i64 b, .int .i64 c]) (.int .i64 2)).run Tryz.prog w = .ok (.int .i64 c) w := fun _ => by kernel_rfl
  have hz := pz_mod h h0 h1
  obtain ⟨d0, d1, d2, d3, d4, d5, -, -, -, -⟩ := div_rng h h0 h1
  obtain ⟨a1, a4, b1, b4, c1, c4, -⟩ := h
  have a0 : (a == 0) = false := by simp; omega
  have b0 : (b == 0) = false := by simp; omega
  have c0 : (c == 0) = false := by simp; omega
  clear h1
  go_enter Tryz.func114, Tryz.ntmps114
  go_wp2
  refine wp_loop_rounds 4 ?_
  rw [rounds_succ]
  go_wp2
  rw [rounds_succ]
  go_wp2
  rw [rounds_succ]
  go_wp2
  rw [rounds_succ]
  go_wp2
  refine bodyPost_ret (v := .agg #[.int .i64 (s%a), .int .i64 (s/a%b), .int .i64 (s/a/b)]) ?_ rfl ⟨rfl, ?_⟩
  · simp [results, Tryz.results114, go_sem]
  · repeat (first | (with_reducible exact Below.refl _ _) | (with_reducible refine Below.setCell ?_ ?_ _) | (with_reducible refine Below.drew ?_) | (with_reducible refine Below.alloc ?_ ?_ _) | omega | (simp <;> omega))

/-- the error of sizes and of a site -/
def stR (a b c s r : Int) : Prop := (¬ Sz a b c ∧ r = 1) ∨ (Sz a b c ∧ ¬ (0 ≤ s ∧ s < a * b * c) ∧ r = 4) ∨ (Sz a b c ∧ 0 ≤ s ∧ s < a * b * c ∧ r = 0)

set_option maxHeartbeats 1600000 in
theorem checkSite_any (a b c s r : Int) (w : World) (hr : stR a b c s r) : Calls Tryz.prog 97 #[.agg #[.int .i64 a, .int .i64 b, .int .i64 c], .int .i64 s] w fun e w' => e = .returned (.int .i64 r) ∧ Below w.heap.size w w' := by
  rcases hr with ⟨h, rfl⟩ | ⟨h, hs, rfl⟩ | ⟨h, h0, h1, rfl⟩
  · have c1 := fun W : World => sizes_any a b c 1 W (.inr ⟨h, rfl⟩)
    clear h
    go_enter Tryz.func97, Tryz.ntmps97
    go_wp2_with ((with_reducible refine (c1 _).mono ?_); rintro e w1 ⟨rfl, hw1⟩)
    go_ret
    exact ⟨rfl, by repeat (first | (with_reducible exact Below.refl _ _) | (with_reducible refine Below.setCell ?_ ?_ _) | (with_reducible refine Below.drew ?_) | (with_reducible refine Below.alloc ?_ ?_ _) | (with_reducible refine Below.trans ?_ (Below.mono hw1 ?_)) | (with_reducible exact hw1.size) | omega | (simp <;> omega) | (simp <;> (have s := hw1.size; omega)) | (have s0 := hw1.size; (try simp at s0); (try simp); omega))⟩
  · have c1 := fun W : World => sizes_any a b c 0 W (.inl ⟨h, rfl⟩)
    have c2 := fun W : World => count_any a b c W h.a1 h.a4 h.b1 h.b4 h.c1 h.c4
    obtain ⟨p1, p2, p3, p4⟩ := mul_rng h.a1 h.a4 h.b1 h.b4 h.c1 h.c4
    clear h
    generalize a * b * c = m at *
    by_cases h0 : s < 0
    · clear hs
      go_enter Tryz.func97, Tryz.ntmps97
      go_wp2_with ((with_reducible refine (c1 _).mono ?_); rintro e w1 ⟨rfl, hw1⟩)
      go_ret
      exact ⟨rfl, by repeat (first | (with_reducible exact Below.refl _ _) | (with_reducible refine Below.setCell ?_ ?_ _) | (with_reducible refine Below.drew ?_) | (with_reducible refine Below.alloc ?_ ?_ _) | (with_reducible refine Below.trans ?_ (Below.mono hw1 ?_)) | (with_reducible exact hw1.size) | omega | (simp <;> omega) | (simp <;> (have s := hw1.size; omega)) | (have s0 := hw1.size; (try simp at s0); (try simp); omega))⟩
    · have h2 : m ≤ s := by omega
      clear hs
      go_enter Tryz.func97, Tryz.ntmps97
      go_wp2_with (first | ((with_reducible refine (c1 _).mono ?_); rintro e w1 ⟨rfl, hw1⟩; have hc1 := Tail.cells hw1; have z0 := Nat.lt_of_lt_of_le (n := w.heap.size) (by simp) hw1.size) | ((with_reducible refine (c2 _).mono ?_); rintro e w2 ⟨rfl, hw2⟩))
      go_ret
      exact ⟨rfl, by repeat (first | (with_reducible exact Below.refl _ _) | (with_reducible refine Below.setCell ?_ ?_ _) | (with_reducible refine Below.drew ?_) | (with_reducible refine Below.alloc ?_ ?_ _) | (with_reducible refine Below.trans ?_ (Below.mono hw2 ?_)) | (with_reducible refine Below.trans ?_ (Below.mono hw1 ?_)) | (with_reducible exact hw2.size) | (with_reducible exact hw1.size) | omega | (simp <;> omega) | (simp <;> (have s := hw2.size; omega)) | (simp <;> (have s := hw1.size; omega)) | (have s0 := hw2.size; (try simp at s0); have s1 := hw1.size; (try simp at s1); (try simp); omega))⟩
  · have c1 := fun W : World => sizes_any a b c 0 W (.inl ⟨h, rfl⟩)
    have c2 := fun W : World => count_any a b c W h.a1 h.a4 h.b1 h.b4 h.c1 h.c4
    clear h
    generalize a * b * c = m at *
    go_enter Tryz.func97, Tryz.ntmps97
    go_wp2_with (first | ((with_reducible refine (c1 _).mono ?_); rintro e w1 ⟨rfl, hw1⟩; have hc1 := Tail.cells hw1; have z0 := Nat.lt_of_lt_of_le (n := w.heap.size) (by simp) hw1.size) | ((with_reducible refine (c2 _).mono ?_); rintro e w2 ⟨rfl, hw2⟩))
    go_ret
    exact ⟨rfl, by repeat (first | (with_reducible exact Below.refl _ _) | (with_reducible refine Below.setCell ?_ ?_ _) | (with_reducible refine Below.drew ?_) | (with_reducible refine Below.alloc ?_ ?_ _) | (with_reducible refine Below.trans ?_ (Below.mono hw2 ?_)) | (with_reducible refine Below.trans ?_ (Below.mono hw1 ?_)) | (with_reducible exact hw2.size) | (with_reducible exact hw1.size) | omega | (simp <;> omega) | (simp <;> (have s := hw2.size; omega)) | (simp <;> (have s := hw1.size; omega)) | (have s0 := hw2.size; (try simp at s0); have s1 := hw1.size; (try simp at s1); (try simp); omega))⟩

set_option maxHeartbeats 1600000 in
theorem refSizes_any (a b c r : Int) (w : World) (hr : szR a b c r) : Calls Tryz.prog 153 #[.agg #[.int .i64 a, .int .i64 b, .int .i64 c]] w fun e w' => e = .returned (.int .i64 r) ∧ Below w.heap.size w w' := by
  have y1 := fun (n : Int) (h : 1 ≤ n ∧ n ≤ 4) (W : World) => within2_any n 1 4 W true (.inl ⟨h.1, h.2, rfl⟩)
  have n1 := fun (n : Int) (h : ¬ (1 ≤ n ∧ n ≤ 4)) (W : World) => within2_any n 1 4 W false (.inr ⟨h, rfl⟩)
  by_cases ha : 1 ≤ a ∧ a ≤ 4
  · have ca := y1 a ha
    by_cases hb : 1 ≤ b ∧ b ≤ 4
    · have cb := y1 b hb
      by_cases hc : 1 ≤ c ∧ c ≤ 4
      · have cc := y1 c hc
        obtain ⟨p1, p2, p3, p4⟩ := mul_rng ha.1 ha.2 hb.1 hb.2 hc.1 hc.2
        by_cases hp : a * b * c ≤ 16
        · obtain rfl : r = 0 := by
            rcases hr with ⟨_, h⟩ | ⟨h, _⟩
            · exact h
            · exact absurd ⟨ha.1, ha.2, hb.1, hb.2, hc.1, hc.2, hp⟩ h
          clear hr ha hb hc y1 n1
          go_enter Tryz.func153, Tryz.ntmps153
          go_wp2_with (first | ((with_reducible refine (ca _).mono ?_); rintro e w1 ⟨rfl, rfl⟩) | ((with_reducible refine (cb _).mono ?_); rintro e w1 ⟨rfl, rfl⟩) | ((with_reducible refine (cc _).mono ?_); rintro e w1 ⟨rfl, rfl⟩))
          go_ret
          exact ⟨rfl, by repeat (first | (with_reducible exact Below.refl _ _) | (with_reducible refine Below.setCell ?_ ?_ _) | (with_reducible refine Below.drew ?_) | (with_reducible refine Below.alloc ?_ ?_ _) | omega | (simp <;> omega))⟩
        · obtain rfl : r = 1 := by
            rcases hr with ⟨h, _⟩ | ⟨_, h⟩
            · exact absurd h.p hp
            · exact h
          have hp' : 16 < a * b * c := by omega
          clear hr ha hb hc y1 n1 hp
          go_enter Tryz.func153, Tryz.ntmps153
          go_wp2_with (first | ((with_reducible refine (ca _).mono ?_); rintro e w1 ⟨rfl, rfl⟩) | ((with_reducible refine (cb _).mono ?_); rintro e w1 ⟨rfl, rfl⟩) | ((with_reducible refine (cc _).mono ?_); rintro e w1 ⟨rfl, rfl⟩))
          go_ret
          exact ⟨rfl, by repeat (first | (with_reducible exact Below.refl _ _) | (with_reducible refine Below.setCell ?_ ?_ _) | (with_reducible refine Below.drew ?_) | (with_reducible refine Below.alloc ?_ ?_ _) | omega | (simp <;> omega))⟩
      · have cc := n1 c hc
        obtain rfl : r = 1 := by
          rcases hr with ⟨h, _⟩ | ⟨_, h⟩
          · exact absurd ⟨h.c1, h.c4⟩ hc
          · exact h
        clear hr ha hb hc y1 n1
        go_enter Tryz.func153, Tryz.ntmps153
        go_wp2_with (first | ((with_reducible refine (ca _).mono ?_); rintro e w1 ⟨rfl, rfl⟩) | ((with_reducible refine (cb _).mono ?_); rintro e w1 ⟨rfl, rfl⟩) | ((with_reducible refine (cc _).mono ?_); rintro e w1 ⟨rfl, rfl⟩))
        go_ret
        exact ⟨rfl, by repeat (first | (with_reducible exact Below.refl _ _) | (with_reducible refine Below.setCell ?_ ?_ _) | (with_reducible refine Below.drew ?_) | (with_reducible refine Below.alloc ?_ ?_ _) | omega | (simp <;> omega))⟩
    · have cb := n1 b hb
      obtain rfl : r = 1 := by
        rcases hr with ⟨h, _⟩ | ⟨_, h⟩
        · exact absurd ⟨h.b1, h.b4⟩ hb
        · exact h
      clear hr ha hb y1 n1
      go_enter Tryz.func153, Tryz.ntmps153
      go_wp2_with (first | ((with_reducible refine (ca _).mono ?_); rintro e w1 ⟨rfl, rfl⟩) | ((with_reducible refine (cb _).mono ?_); rintro e w1 ⟨rfl, rfl⟩))
      go_ret
      exact ⟨rfl, by repeat (first | (with_reducible exact Below.refl _ _) | (with_reducible refine Below.setCell ?_ ?_ _) | (with_reducible refine Below.drew ?_) | (with_reducible refine Below.alloc ?_ ?_ _) | omega | (simp <;> omega))⟩
  · have ca := n1 a ha
    obtain rfl : r = 1 := by
      rcases hr with ⟨h, _⟩ | ⟨_, h⟩
      · exact absurd ⟨h.a1, h.a4⟩ ha
      · exact h
    clear hr ha y1 n1
    go_enter Tryz.func153, Tryz.ntmps153
    go_wp2_with (first | ((with_reducible refine (ca _).mono ?_); rintro e w1 ⟨rfl, rfl⟩))
    go_ret
    exact ⟨rfl, by repeat (first | (with_reducible exact Below.refl _ _) | (with_reducible refine Below.setCell ?_ ?_ _) | (with_reducible refine Below.drew ?_) | (with_reducible refine Below.alloc ?_ ?_ _) | omega | (simp <;> omega))⟩

end Go.Proofs.YtpfhjdmgkckjfaaGreatDoor

/- Steps, and what the program and the document's answers say of sites, places and steps.
Conditions: those written at each theorem. -/
namespace Go.Proofs.YtpfhjdmgkckjfaaGreatDoor
set_option linter.unusedVariables false
set_option linter.unusedSimpArgs false
set_option maxRecDepth 1000000
open Go.RowKit
open Tm

set_option maxHeartbeats 800000 in
theorem isStep_any (t : Int) (w : World) (r : Bool) (h : (IsStep t ∧ r = true) ∨ (¬ IsStep t ∧ r = false)) :
    Calls Tryz.prog 98 #[.int .i64 t] w fun e w' => e = .returned (.bool r) ∧ w = w' := by
  rcases h with ⟨⟨h0, h1, h2⟩, rfl⟩ | ⟨h, rfl⟩
  · have h0' : (t != 0) = true := by simpa using h0
    go_enter Tryz.func98, Tryz.ntmps98
    go_wp2
    go_ret
    exact ⟨rfl, rfl⟩
  · by_cases h0 : t = 0
    · subst h0
      go_enter Tryz.func98, Tryz.ntmps98
      go_wp2
      go_ret
      exact ⟨rfl, rfl⟩
    · have h0' : (t != 0) = true := by simpa using h0
      by_cases h1 : -3 ≤ t
      · have h2 : ¬ t ≤ 3 := fun h2 => h ⟨h0, h1, h2⟩
        clear h
        go_enter Tryz.func98, Tryz.ntmps98
        go_wp2
        go_ret
        exact ⟨rfl, rfl⟩
      · clear h
        go_enter Tryz.func98, Tryz.ntmps98
        go_wp2
        go_ret
        exact ⟨rfl, rfl⟩

set_option maxHeartbeats 1600000 in
theorem next_any (a b c s t : Int) (w : World) (h : Sz a b c) (h0 : 0 ≤ s) (h1 : s < a * b * c) (ht : IsStep t) : Calls Tryz.prog 99 #[.agg #[.int .i64 a, .int .i64 b, .int .i64 c], .int .i64 s, .int .i64 t] w fun e w' => e = .returned (.int .i64 (nx a b c s t)) ∧ Below w.heap.size w w' := by
  have c1 := fun W : World => placeOf_any a b c s W h h0 h1
  obtain ⟨-, -, d2, d3, d4, d5, d6, d7, d8, d9⟩ := div_rng h h0 h1
  have hs : s < 16 := by have := h.p; omega
  have q1 := fun (x y z : Int) (W : World) => siteAt_any a b c x y z W h
  have e1 := nx_p1 a b c s
  have e2 := nx_p2 a b c s
  have e3 := nx_p3 a b c s
  have f1 := nx_m1 a b c s
  have f2 := nx_m2 a b c s
  have f3 := nx_m3 a b c s
  clear h h1
  generalize s % a = px at *
  generalize s / a % b = py at *
  generalize s / a / b = pz at *
  rcases step_six ht with rfl | rfl | rfl | rfl | rfl | rfl
  · rw [e1]
    clear e1 e2 e3 f1 f2 f3 ht
    go_enter Tryz.func99, Tryz.ntmps99
    go_wp2_with (first | ((with_reducible refine (c1 _).mono ?_); rintro e w1 ⟨rfl, hw1⟩; have hc1 := Tail.cells hw1; have z0 := Nat.lt_of_lt_of_le (n := w.heap.size) (by simp) hw1.size) | (go_at_call 115; refine (q1 _ _ _ _).mono ?_; rintro e w2 ⟨rfl, hw2⟩))
    go_ret
    exact ⟨rfl, by repeat (first | (with_reducible exact Below.refl _ _) | (with_reducible refine Below.setCell ?_ ?_ _) | (with_reducible refine Below.drew ?_) | (with_reducible refine Below.alloc ?_ ?_ _) | (with_reducible refine Below.trans ?_ (Below.mono hw2 ?_)) | (with_reducible refine Below.trans ?_ (Below.mono hw1 ?_)) | (with_reducible exact hw2.size) | (with_reducible exact hw1.size) | omega | (simp <;> omega) | (simp <;> (have s := hw2.size; omega)) | (simp <;> (have s := hw1.size; omega)) | (have s0 := hw2.size; (try simp at s0); have s1 := hw1.size; (try simp at s1); (try simp); omega))⟩
  · rw [e2]
    clear e1 e2 e3 f1 f2 f3 ht
    go_enter Tryz.func99, Tryz.ntmps99
    go_wp2_with (first | ((with_reducible refine (c1 _).mono ?_); rintro e w1 ⟨rfl, hw1⟩; have hc1 := Tail.cells hw1; have z0 := Nat.lt_of_lt_of_le (n := w.heap.size) (by simp) hw1.size) | (go_at_call 115; refine (q1 _ _ _ _).mono ?_; rintro e w2 ⟨rfl, hw2⟩))
    go_ret
    exact ⟨rfl, by repeat (first | (with_reducible exact Below.refl _ _) | (with_reducible refine Below.setCell ?_ ?_ _) | (with_reducible refine Below.drew ?_) | (with_reducible refine Below.alloc ?_ ?_ _) | (with_reducible refine Below.trans ?_ (Below.mono hw2 ?_)) | (with_reducible refine Below.trans ?_ (Below.mono hw1 ?_)) | (with_reducible exact hw2.size) | (with_reducible exact hw1.size) | omega | (simp <;> omega) | (simp <;> (have s := hw2.size; omega)) | (simp <;> (have s := hw1.size; omega)) | (have s0 := hw2.size; (try simp at s0); have s1 := hw1.size; (try simp at s1); (try simp); omega))⟩
  · rw [e3]
    clear e1 e2 e3 f1 f2 f3 ht
    go_enter Tryz.func99, Tryz.ntmps99
    go_wp2_with (first | ((with_reducible refine (c1 _).mono ?_); rintro e w1 ⟨rfl, hw1⟩; have hc1 := Tail.cells hw1; have z0 := Nat.lt_of_lt_of_le (n := w.heap.size) (by simp) hw1.size) | (go_at_call 115; refine (q1 _ _ _ _).mono ?_; rintro e w2 ⟨rfl, hw2⟩))
    go_ret
    exact ⟨rfl, by repeat (first | (with_reducible exact Below.refl _ _) | (with_reducible refine Below.setCell ?_ ?_ _) | (with_reducible refine Below.drew ?_) | (with_reducible refine Below.alloc ?_ ?_ _) | (with_reducible refine Below.trans ?_ (Below.mono hw2 ?_)) | (with_reducible refine Below.trans ?_ (Below.mono hw1 ?_)) | (with_reducible exact hw2.size) | (with_reducible exact hw1.size) | omega | (simp <;> omega) | (simp <;> (have s := hw2.size; omega)) | (simp <;> (have s := hw1.size; omega)) | (have s0 := hw2.size; (try simp at s0); have s1 := hw1.size; (try simp at s1); (try simp); omega))⟩
  · rw [f1]
    clear e1 e2 e3 f1 f2 f3 ht
    go_enter Tryz.func99, Tryz.ntmps99
    go_wp2_with (first | ((with_reducible refine (c1 _).mono ?_); rintro e w1 ⟨rfl, hw1⟩; have hc1 := Tail.cells hw1; have z0 := Nat.lt_of_lt_of_le (n := w.heap.size) (by simp) hw1.size) | (go_at_call 115; refine (q1 _ _ _ _).mono ?_; rintro e w2 ⟨rfl, hw2⟩))
    go_ret
    exact ⟨rfl, by repeat (first | (with_reducible exact Below.refl _ _) | (with_reducible refine Below.setCell ?_ ?_ _) | (with_reducible refine Below.drew ?_) | (with_reducible refine Below.alloc ?_ ?_ _) | (with_reducible refine Below.trans ?_ (Below.mono hw2 ?_)) | (with_reducible refine Below.trans ?_ (Below.mono hw1 ?_)) | (with_reducible exact hw2.size) | (with_reducible exact hw1.size) | omega | (simp <;> omega) | (simp <;> (have s := hw2.size; omega)) | (simp <;> (have s := hw1.size; omega)) | (have s0 := hw2.size; (try simp at s0); have s1 := hw1.size; (try simp at s1); (try simp); omega))⟩
  · rw [f2]
    clear e1 e2 e3 f1 f2 f3 ht
    go_enter Tryz.func99, Tryz.ntmps99
    go_wp2_with (first | ((with_reducible refine (c1 _).mono ?_); rintro e w1 ⟨rfl, hw1⟩; have hc1 := Tail.cells hw1; have z0 := Nat.lt_of_lt_of_le (n := w.heap.size) (by simp) hw1.size) | (go_at_call 115; refine (q1 _ _ _ _).mono ?_; rintro e w2 ⟨rfl, hw2⟩))
    go_ret
    exact ⟨rfl, by repeat (first | (with_reducible exact Below.refl _ _) | (with_reducible refine Below.setCell ?_ ?_ _) | (with_reducible refine Below.drew ?_) | (with_reducible refine Below.alloc ?_ ?_ _) | (with_reducible refine Below.trans ?_ (Below.mono hw2 ?_)) | (with_reducible refine Below.trans ?_ (Below.mono hw1 ?_)) | (with_reducible exact hw2.size) | (with_reducible exact hw1.size) | omega | (simp <;> omega) | (simp <;> (have s := hw2.size; omega)) | (simp <;> (have s := hw1.size; omega)) | (have s0 := hw2.size; (try simp at s0); have s1 := hw1.size; (try simp at s1); (try simp); omega))⟩
  · rw [f3]
    clear e1 e2 e3 f1 f2 f3 ht
    go_enter Tryz.func99, Tryz.ntmps99
    go_wp2_with (first | ((with_reducible refine (c1 _).mono ?_); rintro e w1 ⟨rfl, hw1⟩; have hc1 := Tail.cells hw1; have z0 := Nat.lt_of_lt_of_le (n := w.heap.size) (by simp) hw1.size) | (go_at_call 115; refine (q1 _ _ _ _).mono ?_; rintro e w2 ⟨rfl, hw2⟩))
    go_ret
    exact ⟨rfl, by repeat (first | (with_reducible exact Below.refl _ _) | (with_reducible refine Below.setCell ?_ ?_ _) | (with_reducible refine Below.drew ?_) | (with_reducible refine Below.alloc ?_ ?_ _) | (with_reducible refine Below.trans ?_ (Below.mono hw2 ?_)) | (with_reducible refine Below.trans ?_ (Below.mono hw1 ?_)) | (with_reducible exact hw2.size) | (with_reducible exact hw1.size) | omega | (simp <;> omega) | (simp <;> (have s := hw2.size; omega)) | (simp <;> (have s := hw1.size; omega)) | (have s0 := hw2.size; (try simp at s0); have s1 := hw1.size; (try simp at s1); (try simp); omega))⟩
end Go.Proofs.YtpfhjdmgkckjfaaGreatDoor

/- What the program and the document's answers say of sites, places and steps, whatever they are asked.
Conditions: none, but which of the answers is due. -/
namespace Go.Proofs.YtpfhjdmgkckjfaaGreatDoor
set_option linter.unusedVariables false
set_option linter.unusedSimpArgs false
set_option maxRecDepth 1000000
open Go.RowKit
open Tm

def sitesR (a b c r er : Int) : Prop := (¬ Sz a b c ∧ r = 0 ∧ er = 1) ∨ (Sz a b c ∧ r = a * b * c ∧ er = 0)
def siteR (a b c x y z r er : Int) : Prop := (¬ Sz a b c ∧ r = 0 ∧ er = 1) ∨ (Sz a b c ∧ r = site a b c x y z ∧ er = 0)
def placeR (a b c s x y z er : Int) : Prop := (¬ Sz a b c ∧ x = 0 ∧ y = 0 ∧ z = 0 ∧ er = 1) ∨ (Sz a b c ∧ ¬ (0 ≤ s ∧ s < a * b * c) ∧ x = 0 ∧ y = 0 ∧ z = 0 ∧ er = 4) ∨ (Sz a b c ∧ 0 ≤ s ∧ s < a * b * c ∧ x = s % a ∧ y = s / a % b ∧ z = s / a / b ∧ er = 0)
def nextR (a b c s t r er : Int) : Prop := (¬ Sz a b c ∧ r = 0 ∧ er = 1) ∨ (Sz a b c ∧ ¬ (0 ≤ s ∧ s < a * b * c) ∧ r = 0 ∧ er = 4) ∨ (Sz a b c ∧ 0 ≤ s ∧ s < a * b * c ∧ ¬ IsStep t ∧ r = 0 ∧ er = 1) ∨ (Sz a b c ∧ 0 ≤ s ∧ s < a * b * c ∧ IsStep t ∧ r = nx a b c s t ∧ er = 0)
set_option maxHeartbeats 800000 in
theorem sites_any (a b c r er : Int) (w : World) (h : sitesR a b c r er) : Calls Tryz.prog 73 #[.agg #[.int .i64 a, .int .i64 b, .int .i64 c]] w fun e w' => e = .returned (.tuple #[.int .i64 r, .int .i64 er]) ∧ Below w.heap.size w w' := by
  rcases h with ⟨h, rfl, rfl⟩ | ⟨h, rfl, rfl⟩
  · have c1 := fun W : World => sizes_any a b c 1 W (.inr ⟨h, rfl⟩)
    clear h
    go_enter Tryz.func73, Tryz.ntmps73
    go_wp2_with ((with_reducible refine (c1 _).mono ?_); rintro e w1 ⟨rfl, hw1⟩; have hc1 := Tail.cells hw1)
    go_ret2
    exact ⟨rfl, by repeat (first | (with_reducible exact Below.refl _ _) | (with_reducible refine Below.setCell ?_ ?_ _) | (with_reducible refine Below.drew ?_) | (with_reducible refine Below.alloc ?_ ?_ _) | (with_reducible refine Below.trans ?_ (Below.mono hw1 ?_)) | (with_reducible exact hw1.size) | omega | (simp <;> omega) | (simp <;> (have s := hw1.size; omega)) | (have s0 := hw1.size; (try simp at s0); (try simp); omega))⟩
  · have c1 := fun W : World => sizes_any a b c 0 W (.inl ⟨h, rfl⟩)
    have c2 := fun W : World => count_any a b c W h.a1 h.a4 h.b1 h.b4 h.c1 h.c4
    clear h
    generalize a * b * c = m at *
    go_enter Tryz.func73, Tryz.ntmps73
    go_wp2_with (first | ((with_reducible refine (c1 _).mono ?_); rintro e w1 ⟨rfl, hw1⟩; have hc1 := Tail.cells hw1; have z0 := Nat.lt_of_lt_of_le (n := w.heap.size) (by simp <;> omega) hw1.size) | ((with_reducible refine (c2 _).mono ?_); rintro e w2 ⟨rfl, hw2⟩; have hc2 := Tail.cells hw2))
    go_ret2
    exact ⟨rfl, by repeat (first | (with_reducible exact Below.refl _ _) | (with_reducible refine Below.setCell ?_ ?_ _) | (with_reducible refine Below.drew ?_) | (with_reducible refine Below.alloc ?_ ?_ _) | (with_reducible refine Below.trans ?_ (Below.mono hw2 ?_)) | (with_reducible refine Below.trans ?_ (Below.mono hw1 ?_)) | (with_reducible exact hw2.size) | (with_reducible exact hw1.size) | omega | (simp <;> omega) | (simp <;> (have s := hw2.size; omega)) | (simp <;> (have s := hw1.size; omega)) | (have s0 := hw2.size; (try simp at s0); have s1 := hw1.size; (try simp at s1); (try simp); omega))⟩

set_option maxHeartbeats 800000 in
theorem nextO_any (a b c s t r er : Int) (w : World) (h : nextR a b c s t r er) : Calls Tryz.prog 74 #[.agg #[.int .i64 a, .int .i64 b, .int .i64 c], .int .i64 s, .int .i64 t] w fun e w' => e = .returned (.tuple #[.int .i64 r, .int .i64 er]) ∧ Below w.heap.size w w' := by
  rcases h with ⟨h, rfl, rfl⟩ | ⟨h, hs, rfl, rfl⟩ | ⟨h, h0, h1, ht, rfl, rfl⟩ | ⟨h, h0, h1, ht, rfl, rfl⟩
  · have c1 := fun W : World => checkSite_any a b c s 1 W (.inl ⟨h, rfl⟩)
    clear h
    go_enter Tryz.func74, Tryz.ntmps74
    go_wp2_with ((with_reducible refine (c1 _).mono ?_); rintro e w1 ⟨rfl, hw1⟩; have hc1 := Tail.cells hw1)
    go_ret2
    exact ⟨rfl, by repeat (first | (with_reducible exact Below.refl _ _) | (with_reducible refine Below.setCell ?_ ?_ _) | (with_reducible refine Below.drew ?_) | (with_reducible refine Below.alloc ?_ ?_ _) | (with_reducible refine Below.trans ?_ (Below.mono hw1 ?_)) | (with_reducible exact hw1.size) | omega | (simp <;> omega) | (simp <;> (have s := hw1.size; omega)) | (have s0 := hw1.size; (try simp at s0); (try simp); omega))⟩
  · have c1 := fun W : World => checkSite_any a b c s 4 W (.inr (.inl ⟨h, hs, rfl⟩))
    clear h hs
    go_enter Tryz.func74, Tryz.ntmps74
    go_wp2_with ((with_reducible refine (c1 _).mono ?_); rintro e w1 ⟨rfl, hw1⟩; have hc1 := Tail.cells hw1)
    go_ret2
    exact ⟨rfl, by repeat (first | (with_reducible exact Below.refl _ _) | (with_reducible refine Below.setCell ?_ ?_ _) | (with_reducible refine Below.drew ?_) | (with_reducible refine Below.alloc ?_ ?_ _) | (with_reducible refine Below.trans ?_ (Below.mono hw1 ?_)) | (with_reducible exact hw1.size) | omega | (simp <;> omega) | (simp <;> (have s := hw1.size; omega)) | (have s0 := hw1.size; (try simp at s0); (try simp); omega))⟩
  · have c1 := fun W : World => checkSite_any a b c s 0 W (.inr (.inr ⟨h, h0, h1, rfl⟩))
    have c3 := fun W : World => isStep_any t W false (.inr ⟨ht, rfl⟩)
    clear h h0 h1 ht
    go_enter Tryz.func74, Tryz.ntmps74
    go_wp2_with (first | ((with_reducible refine (c1 _).mono ?_); rintro e w1 ⟨rfl, hw1⟩; have hc1 := Tail.cells hw1; have z0 := Nat.lt_of_lt_of_le (n := w.heap.size) (by simp <;> omega) hw1.size) | ((with_reducible refine (c3 _).mono ?_); rintro e w3 ⟨rfl, rfl⟩))
    go_ret2
    exact ⟨rfl, by repeat (first | (with_reducible exact Below.refl _ _) | (with_reducible refine Below.setCell ?_ ?_ _) | (with_reducible refine Below.drew ?_) | (with_reducible refine Below.alloc ?_ ?_ _) | (with_reducible refine Below.trans ?_ (Below.mono hw1 ?_)) | (with_reducible exact hw1.size) | omega | (simp <;> omega) | (simp <;> (have s := hw1.size; omega)) | (have s0 := hw1.size; (try simp at s0); (try simp); omega))⟩
  · have c1 := fun W : World => checkSite_any a b c s 0 W (.inr (.inr ⟨h, h0, h1, rfl⟩))
    have c2 := fun W : World => next_any a b c s t W h h0 h1 ht
    have c3 := fun W : World => isStep_any t W true (.inl ⟨ht, rfl⟩)
    clear h h0 h1 ht
    generalize nx a b c s t = m at *
    go_enter Tryz.func74, Tryz.ntmps74
    go_wp2_with (first | ((with_reducible refine (c1 _).mono ?_); rintro e w1 ⟨rfl, hw1⟩; have hc1 := Tail.cells hw1; have z0 := Nat.lt_of_lt_of_le (n := w.heap.size) (by simp <;> omega) hw1.size) | ((with_reducible refine (c3 _).mono ?_); rintro e w3 ⟨rfl, rfl⟩) | ((with_reducible refine (c2 _).mono ?_); rintro e w2 ⟨rfl, hw2⟩; have hc2 := Tail.cells hw2))
    go_ret2
    exact ⟨rfl, by repeat (first | (with_reducible exact Below.refl _ _) | (with_reducible refine Below.setCell ?_ ?_ _) | (with_reducible refine Below.drew ?_) | (with_reducible refine Below.alloc ?_ ?_ _) | (with_reducible refine Below.trans ?_ (Below.mono hw2 ?_)) | (with_reducible refine Below.trans ?_ (Below.mono hw1 ?_)) | (with_reducible exact hw2.size) | (with_reducible exact hw1.size) | omega | (simp <;> omega) | (simp <;> (have s := hw2.size; omega)) | (simp <;> (have s := hw1.size; omega)) | (have s0 := hw2.size; (try simp at s0); have s1 := hw1.size; (try simp at s1); (try simp); omega))⟩

end Go.Proofs.YtpfhjdmgkckjfaaGreatDoor
