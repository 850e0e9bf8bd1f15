/- Sizes, remainders, sites and places, as the program makes them.
Conditions: those written at each theorem. -/
import Derived.Test.YtoafojojhdcmfaaTorM
import Derived.Test.YtoafojojhdcmfaaRefValid
import Derived.Test.YtoafojojhdcmfaaWide
namespace Go.Proofs.Ytoafojojhdcmfaa
set_option linter.unusedVariables false
set_option linter.unusedSimpArgs false
set_option maxRecDepth 1000000
open Go.RowKit
open Tm

set_option maxHeartbeats 400000 in
theorem modulo_any (x n : Int) (w : World) (h1 : 1 ≤ n) (h2 : n ≤ 1000) : Calls Try.prog 102 #[.int .i64 x, .int .i64 n] w fun e w' => e = .returned (.int .i64 (x % n)) ∧ Below w.heap.size w w' := by
  have hb := rem_bnd x n h1
  have hn0 : (n == 0) = false := by simp; omega
  rcases rem_cases x n h1 with ⟨h, he⟩ | ⟨h, he⟩
  · have HE := Lib.hid he
    clear he
    generalize x % n = m at *
    go_enter Try.func102, Try.ntmps102
    go_wp2
    go_ret
    first | exact ⟨rfl, Below.refl _ _⟩ | exact ⟨by rw [← HE.out]; rfl, Below.refl _ _⟩
  · have HE := Lib.hid he
    clear he
    generalize x % n = m at *
    go_enter Try.func102, Try.ntmps102
    go_wp2
    go_ret
    first | exact ⟨rfl, Below.refl _ _⟩ | exact ⟨by rw [← HE.out]; rfl, Below.refl _ _⟩

set_option maxHeartbeats 400000 in
theorem refModulo_any (x n : Int) (w : World) (h1 : 1 ≤ n) (h2 : n ≤ 1000) : Calls Try.prog 106 #[.int .i64 x, .int .i64 n] w fun e w' => e = .returned (.int .i64 (x % n)) ∧ Below w.heap.size w w' := by
  obtain ⟨hb1, hb2⟩ := rem_bnd x n h1
  have hn0 : (n == 0) = false := by simp; omega
  have he := Lib.hid (rem_twice x n h1)
  have h0 : 0 ≤ x.tmod n + n := by omega
  go_enter Try.func106, Try.ntmps106
  go_wp2
  go_ret
  exact ⟨by first | rfl | (rw [← he.out]; rfl), Below.refl _ _⟩

set_option maxHeartbeats 400000 in
theorem count_any (a b c : Int) (w : World) (a1 : 1 ≤ a) (a4 : a ≤ 4) (b1 : 1 ≤ b) (b4 : b ≤ 4) (c1 : 1 ≤ c) (c4 : c ≤ 4) : Calls Try.prog 149 #[.agg #[.int .i64 a, .int .i64 b, .int .i64 c]] w fun e w' => e = .returned (.int .i64 (a * b * c)) ∧ Below w.heap.size w w' := by
  obtain ⟨p1, p2, p3, p4⟩ := mul_rng a1 a4 b1 b4 c1 c4
  go_enter Try.func149, Try.ntmps149
  go_wp2
  go_ret
  exact ⟨rfl, by repeat (first | (with_reducible exact Below.refl _ _) | (with_reducible refine Below.setCell ?_ ?_ _) | (with_reducible refine Below.drew ?_) | (with_reducible refine Below.alloc ?_ ?_ _) | omega | (simp <;> omega))⟩

set_option maxHeartbeats 400000 in
theorem refSize_any (a b c : Int) (w : World) (a1 : 1 ≤ a) (a4 : a ≤ 4) (b1 : 1 ≤ b) (b4 : b ≤ 4) (c1 : 1 ≤ c) (c4 : c ≤ 4) : Calls Try.prog 99 #[.agg #[.int .i64 a, .int .i64 b, .int .i64 c]] w fun e w' => e = .returned (.int .i64 (a * b * c)) ∧ Below w.heap.size w w' := by
  obtain ⟨p1, p2, p3, p4⟩ := mul_rng a1 a4 b1 b4 c1 c4
  go_enter Try.func99, Try.ntmps99
  go_wp2
  go_ret
  exact ⟨rfl, by repeat (first | (with_reducible exact Below.refl _ _) | (with_reducible refine Below.setCell ?_ ?_ _) | (with_reducible refine Below.drew ?_) | (with_reducible refine Below.alloc ?_ ?_ _) | omega | (simp <;> omega))⟩

set_option maxHeartbeats 400000 in
theorem within2_any (n lo hi : Int) (w : World) (r : Bool) (h : (lo ≤ n ∧ n ≤ hi ∧ r = true) ∨ (¬ (lo ≤ n ∧ n ≤ hi) ∧ r = false)) :
    Calls Try.prog 147 #[.int .i64 n, .int .i64 lo, .int .i64 hi] w fun e w' => e = .returned (.bool r) ∧ w = w' := by
  rcases h with ⟨a, b, rfl⟩ | ⟨h, rfl⟩
  · go_enter Try.func147, Try.ntmps147
    go_wp2
    go_ret
    exact ⟨rfl, rfl⟩
  · by_cases a : lo ≤ n
    · have b : ¬ n ≤ hi := fun b => h ⟨a, b⟩
      clear h
      go_enter Try.func147, Try.ntmps147
      go_wp2
      go_ret
      exact ⟨rfl, rfl⟩
    · clear h
      go_enter Try.func147, Try.ntmps147
      go_wp2
      go_ret
      exact ⟨rfl, rfl⟩

def szR (a b c r : Int) : Prop := (Sz a b c ∧ r = 0) ∨ (¬ Sz a b c ∧ r = 1)

set_option maxHeartbeats 1600000 in
theorem sizes_any (a b c r : Int) (w : World) (hr : szR a b c r) : Calls Try.prog 109 #[.agg #[.int .i64 a, .int .i64 b, .int .i64 c]] w fun e w' => e = .returned (.int .i64 r) ∧ Below w.heap.size w w' := by
  have i0 : ∀ w, (Instr.index 22 (.agg #[.int .i64 a, .int .i64 b, .int .i64 c]) (.int .i64 0)).run Try.prog w = .ok (.int .i64 a) w := fun _ => by kernel_rfl
  have i1 : ∀ w, (Instr.index 22 (.agg #[.int .i64 a, .int .i64 b, .int .i64 c]) (.int .i64 1)).run Try.prog w = .ok (.int .i64 b) w := fun _ => by kernel_rfl
  have i2 : ∀ w, (Instr.index 22 (.agg #[.int .i64 a, .int .i64 b, .int .i64 c]) (.int .i64 2)).run Try.prog w = .ok (.int .i64 c) w := fun _ => by kernel_rfl
  have HR := Lib.hid hr
  clear hr
  go_enter Try.func109, Try.ntmps109
  go_wp2
  go_loopw [4, 6] (fun _ q wr => ∃ k : Nat, k ≤ 3 ∧ q = .int .i64 k ∧ Hid ((1 ≤ k → 1 ≤ a ∧ a ≤ 4) ∧ (2 ≤ k → 1 ≤ b ∧ b ≤ 4) ∧ (3 ≤ k → 1 ≤ c ∧ c ≤ 4)) ∧ wr = (w.alloc (.cells #[.int .i64 a, .int .i64 b, .int .i64 c] 22))) (fun _ q _ => 3 - (intOf q).toNat)
  case atStart => exact ⟨0, by omega, rfl, Lib.hid ⟨by omega, by omega, by omega⟩, rfl⟩
  case round =>
    obtain ⟨k, hk, rfl, hall, rfl⟩ := hrel
    have : k = 0 ∨ k = 1 ∨ k = 2 ∨ k = 3 := by omega
    rcases this with rfl | rfl | rfl | rfl
    · by_cases h1 : a < 1
      · have h : r = 1 := by
          rcases HR.out with ⟨h, _⟩ | ⟨_, h⟩
          · have := h.a1; omega
          · exact h
        subst h
        go_wp2
        go_ret
        exact ⟨rfl, by repeat (first | (with_reducible exact Below.refl _ _) | (with_reducible refine Below.setCell ?_ ?_ _) | (with_reducible refine Below.drew ?_) | (with_reducible refine Below.alloc ?_ ?_ _) | omega | (simp <;> omega))⟩
      · by_cases h2 : 4 < a
        · have h : r = 1 := by
            rcases HR.out with ⟨h, _⟩ | ⟨_, h⟩
            · have := h.a4; omega
            · exact h
          subst h
          go_wp2
          go_ret
          exact ⟨rfl, by repeat (first | (with_reducible exact Below.refl _ _) | (with_reducible refine Below.setCell ?_ ?_ _) | (with_reducible refine Below.drew ?_) | (with_reducible refine Below.alloc ?_ ?_ _) | omega | (simp <;> omega))⟩
        · go_wp2
          exact ⟨⟨1, by omega, rfl, Lib.hid ⟨by omega, by omega, by omega⟩, by first | rfl | trivial⟩, by simp [intOf]⟩
    · by_cases h1 : b < 1
      · have h : r = 1 := by
          rcases HR.out with ⟨h, _⟩ | ⟨_, h⟩
          · have := h.b1; omega
          · exact h
        subst h
        go_wp2
        go_ret
        exact ⟨rfl, by repeat (first | (with_reducible exact Below.refl _ _) | (with_reducible refine Below.setCell ?_ ?_ _) | (with_reducible refine Below.drew ?_) | (with_reducible refine Below.alloc ?_ ?_ _) | omega | (simp <;> omega))⟩
      · by_cases h2 : 4 < b
        · have h : r = 1 := by
            rcases HR.out with ⟨h, _⟩ | ⟨_, h⟩
            · have := h.b4; omega
            · exact h
          subst h
          go_wp2
          go_ret
          exact ⟨rfl, by repeat (first | (with_reducible exact Below.refl _ _) | (with_reducible refine Below.setCell ?_ ?_ _) | (with_reducible refine Below.drew ?_) | (with_reducible refine Below.alloc ?_ ?_ _) | omega | (simp <;> omega))⟩
        · go_wp2
          exact ⟨⟨2, by omega, rfl, Lib.hid ⟨fun _ => hall.out.1 (by omega), by omega, by omega⟩, by first | rfl | trivial⟩, by simp [intOf]⟩
    · by_cases h1 : c < 1
      · have h : r = 1 := by
          rcases HR.out with ⟨h, _⟩ | ⟨_, h⟩
          · have := h.c1; omega
          · exact h
        subst h
        go_wp2
        go_ret
        exact ⟨rfl, by repeat (first | (with_reducible exact Below.refl _ _) | (with_reducible refine Below.setCell ?_ ?_ _) | (with_reducible refine Below.drew ?_) | (with_reducible refine Below.alloc ?_ ?_ _) | omega | (simp <;> omega))⟩
      · by_cases h2 : 4 < c
        · have h : r = 1 := by
            rcases HR.out with ⟨h, _⟩ | ⟨_, h⟩
            · have := h.c4; omega
            · exact h
          subst h
          go_wp2
          go_ret
          exact ⟨rfl, by repeat (first | (with_reducible exact Below.refl _ _) | (with_reducible refine Below.setCell ?_ ?_ _) | (with_reducible refine Below.drew ?_) | (with_reducible refine Below.alloc ?_ ?_ _) | omega | (simp <;> omega))⟩
        · go_wp2
          exact ⟨⟨3, by omega, rfl, Lib.hid ⟨fun _ => hall.out.1 (by omega), fun _ => hall.out.2.1 (by omega), by omega⟩, by first | rfl | trivial⟩, by simp [intOf]⟩
    · have ha := hall.out.1 (by omega)
      have hb := hall.out.2.1 (by omega)
      have hc := hall.out.2.2 (by omega)
      have c1 := fun W : World => count_any a b c W ha.1 ha.2 hb.1 hb.2 hc.1 hc.2
      by_cases hp : a * b * c ≤ 16
      · have h : r = 0 := by
          rcases HR.out with ⟨_, h⟩ | ⟨h, _⟩
          · exact h
          · exact absurd ⟨ha.1, ha.2, hb.1, hb.2, hc.1, hc.2, hp⟩ h
        subst h
        have hp' : ¬ 16 < a * b * c := by omega
        clear hp ha hb hc hall
        go_wp2_with ((with_reducible refine (c1 _).mono ?_); rintro e w1 ⟨rfl, hw1⟩)
        go_ret
        exact ⟨rfl, by repeat (first | (with_reducible exact Below.refl _ _) | (with_reducible refine Below.setCell ?_ ?_ _) | (with_reducible refine Below.drew ?_) | (with_reducible refine Below.alloc ?_ ?_ _) | (with_reducible refine Below.trans ?_ (Below.mono hw1 ?_)) | (with_reducible exact hw1.size) | omega | (simp <;> omega) | (simp <;> (have s := hw1.size; omega)) | (have s0 := hw1.size; (try simp at s0); (try simp); omega))⟩
      · have h : r = 1 := by
          rcases HR.out with ⟨h, _⟩ | ⟨_, h⟩
          · exact absurd h.p hp
          · exact h
        subst h
        have hp' : 16 < a * b * c := by omega
        clear hp ha hb hc hall
        go_wp2_with ((with_reducible refine (c1 _).mono ?_); rintro e w1 ⟨rfl, hw1⟩)
        go_ret
        exact ⟨rfl, by repeat (first | (with_reducible exact Below.refl _ _) | (with_reducible refine Below.setCell ?_ ?_ _) | (with_reducible refine Below.drew ?_) | (with_reducible refine Below.alloc ?_ ?_ _) | (with_reducible refine Below.trans ?_ (Below.mono hw1 ?_)) | (with_reducible exact hw1.size) | omega | (simp <;> omega) | (simp <;> (have s := hw1.size; omega)) | (have s0 := hw1.size; (try simp at s0); (try simp); omega))⟩
end Go.Proofs.Ytoafojojhdcmfaa
