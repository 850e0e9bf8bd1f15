/- Leap, as the program and the document's answers make it.
Conditions: those written at each theorem. -/
import Derived.Test.YthloceljgmmdbaaDraws
namespace Go.Proofs.Ythloceljgmmdbaa
set_option linter.unusedVariables false
set_option linter.unusedSimpArgs false
set_option maxRecDepth 1000000
open Go.RowKit
open Cm

def leapR (s n r e : Int) : Prop := (IsSeed s ∧ (0 ≤ n ∧ n ≤ 1099511627776) ∧ r = leap s n.toNat ∧ e = 0) ∨ (IsSeed s ∧ ¬ (0 ≤ n ∧ n ≤ 1099511627776) ∧ r = 0 ∧ e = 1) ∨ (¬ IsSeed s ∧ r = 0 ∧ e = 1)
theorem leapR_ex (s n : Int) : ∃ r e, leapR s n r e := by
  by_cases h : IsSeed s
  · by_cases k : 0 ≤ n ∧ n ≤ 1099511627776
    · exact ⟨_, _, .inl ⟨h, k, rfl, rfl⟩⟩
    · exact ⟨_, _, .inr (.inl ⟨h, k, rfl, rfl⟩)⟩
  · exact ⟨_, _, .inr (.inr ⟨h, rfl, rfl⟩)⟩
set_option maxHeartbeats 800000 in
theorem leap_ok (s : Int) (n : Nat) (w : World) (h : IsSeed s) (k : n ≤ 1099511627776) : Calls Try.prog 12 #[.int .i64 s, .int .i64 n] w fun e w' => e = .returned (.tuple #[.int .i64 (leap s n), .int .i64 0]) ∧ w = w' := by
  have c1 := fun W : World => checkSeed_any s 0 W (.inl ⟨h, rfl⟩)
  have HS := Lib.hid (lp_start n h)
  have k1 : ¬ (n : Int) < 0 := by omega
  have k2 : (n : Int) ≤ 1099511627776 := by omega
  clear h
  go_enter Try.func12, Try.ntmps12
  go_wp2_with ((with_reducible refine (c1 _).mono ?_); rintro e w1 ⟨rfl, rfl⟩)
  go_loop [0, 1, 7] (fun p q r => ∃ (t f : Int) (m : Nat), p = .int .i64 t ∧ q = .int .i64 m ∧ r = .int .i64 f ∧ m ≤ n ∧ Hid (lp s n t f m)) (fun _ q _ => (intOf q).toNat)
  case atStart => exact ⟨s, 48271, n, rfl, rfl, rfl, by omega, HS⟩
  case round =>
    obtain ⟨t, f, m, rfl, rfl, rfl, hm, HL⟩ := hrel
    clear HS
    obtain ⟨-, t1, t2, f1, f2⟩ := HL.out
    by_cases h0 : m = 0
    · subst h0
      have E := Lib.hid (lp_end HL.out)
      go_wp2
      go_ret2
      exact ⟨by rw [← E.out]; rfl, rfl⟩
    · have hm0 : 0 < (m : Int) := by omega
      obtain ⟨a1, a2⟩ := lp_mul t1 t2 f1 f2
      obtain ⟨b1, b2⟩ := lp_mul f1 f2 f1 f2
      rcases Nat.mod_two_eq_zero_or_one m with hp | hp
      · have hp' : ((m : Int) % 2 == 1) = false := by simp; omega
        have e2 : m = 2 * (m / 2) := by omega
        have E := Lib.hid (lp_even (e2 ▸ HL.out))
        clear e2 hp
        go_wp2
        go_round
        case rel => exact ⟨t, f * f % 2147483647, m / 2, rfl, by go_num, rfl, by omega, E⟩
        case measure => simp [intOf]; omega
      · have hp' : ((m : Int) % 2 == 1) = true := by simp; omega
        have e2 : m = 2 * (m / 2) + 1 := by omega
        have E := Lib.hid (lp_odd (e2 ▸ HL.out))
        clear e2 hp
        go_wp2
        go_round
        case rel => exact ⟨t * f % 2147483647, f * f % 2147483647, m / 2, rfl, by go_num, rfl, by omega, E⟩
        case measure => simp [intOf]; omega
set_option maxHeartbeats 800000 in
theorem refLeap_ok (s : Int) (n : Nat) (w : World) (h : IsSeed s) (k : n ≤ 1099511627776) : Calls Try.prog 13 #[.int .i64 s, .int .i64 n] w fun e w' => e = .returned (.tuple #[.int .i64 (leap s n), .int .i64 0]) ∧ w = w' := by
  have c1 := fun W : World => isSeed_any s W true (.inl ⟨h, rfl⟩)
  have c2 := fun W : World => within5_any n 0 1099511627776 W true (.inl ⟨by omega, by omega, rfl⟩)
  have HS := Lib.hid (lp_start n h)
  have k1 : ¬ (n : Int) < 0 := by omega
  have k2 : (n : Int) ≤ 1099511627776 := by omega
  clear h
  go_enter Try.func13, Try.ntmps13
  go_wp2_with (first | ((with_reducible refine (c1 _).mono ?_); rintro e w1 ⟨rfl, rfl⟩) | ((with_reducible refine (c2 _).mono ?_); rintro e w1 ⟨rfl, rfl⟩))
  go_loop [0, 1, 6] (fun p q r => ∃ (t f : Int) (m : Nat), p = .int .i64 t ∧ q = .int .i64 m ∧ r = .int .i64 f ∧ m ≤ n ∧ Hid (lp s n t f m)) (fun _ q _ => (intOf q).toNat)
  case atStart => exact ⟨s, 48271, n, rfl, rfl, rfl, by omega, HS⟩
  case round =>
    obtain ⟨t, f, m, rfl, rfl, rfl, hm, HL⟩ := hrel
    clear HS
    obtain ⟨-, t1, t2, f1, f2⟩ := HL.out
    by_cases h0 : m = 0
    · subst h0
      have E := Lib.hid (lp_end HL.out)
      go_wp2
      go_ret2
      exact ⟨by rw [← E.out]; rfl, rfl⟩
    · have hm0 : 0 < (m : Int) := by omega
      obtain ⟨a1, a2⟩ := lp_mul t1 t2 f1 f2
      obtain ⟨b1, b2⟩ := lp_mul f1 f2 f1 f2
      rcases Nat.mod_two_eq_zero_or_one m with hp | hp
      · have hp' : ((m : Int) % 2 == 1) = false := by simp; omega
        have e2 : m = 2 * (m / 2) := by omega
        have E := Lib.hid (lp_even (e2 ▸ HL.out))
        clear e2 hp
        go_wp2
        go_round
        case rel => exact ⟨t, f * f % 2147483647, m / 2, rfl, by go_num, rfl, by omega, E⟩
        case measure => simp [intOf]; omega
      · have hp' : ((m : Int) % 2 == 1) = true := by simp; omega
        have e2 : m = 2 * (m / 2) + 1 := by omega
        have E := Lib.hid (lp_odd (e2 ▸ HL.out))
        clear e2 hp
        go_wp2
        go_round
        case rel => exact ⟨t * f % 2147483647, f * f % 2147483647, m / 2, rfl, by go_num, rfl, by omega, E⟩
        case measure => simp [intOf]; omega
set_option maxHeartbeats 800000 in
theorem leap_any (s n r er : Int) (w : World) (h : leapR s n r er) : Calls Try.prog 12 #[.int .i64 s, .int .i64 n] w fun e w' => e = .returned (.tuple #[.int .i64 r, .int .i64 er]) ∧ w = w' := by
  rcases h with ⟨h, k, rfl, rfl⟩ | ⟨h, k, rfl, rfl⟩ | ⟨h, rfl, rfl⟩
  · obtain ⟨m, rfl⟩ := Int.eq_ofNat_of_zero_le k.1
    exact leap_ok s m w h (by omega)
  · have c1 := fun W : World => checkSeed_any s 0 W (.inl ⟨h, rfl⟩)
    by_cases k1 : n < 0
    · clear h k
      go_enter Try.func12, Try.ntmps12
      go_wp2_with ((with_reducible refine (c1 _).mono ?_); rintro e w1 ⟨rfl, rfl⟩)
      go_ret2
      exact ⟨rfl, rfl⟩
    · have k2 : 1099511627776 < n := by omega
      clear h k
      go_enter Try.func12, Try.ntmps12
      go_wp2_with ((with_reducible refine (c1 _).mono ?_); rintro e w1 ⟨rfl, rfl⟩)
      go_ret2
      exact ⟨rfl, rfl⟩
  · have c1 := fun W : World => checkSeed_any s 1 W (.inr ⟨h, rfl⟩)
    clear h
    go_enter Try.func12, Try.ntmps12
    go_wp2_with ((with_reducible refine (c1 _).mono ?_); rintro e w1 ⟨rfl, rfl⟩)
    go_ret2
    exact ⟨rfl, rfl⟩
set_option maxHeartbeats 800000 in
theorem refLeap_any (s n r er : Int) (w : World) (h : leapR s n r er) : Calls Try.prog 13 #[.int .i64 s, .int .i64 n] w fun e w' => e = .returned (.tuple #[.int .i64 r, .int .i64 er]) ∧ w = w' := by
  rcases h with ⟨h, k, rfl, rfl⟩ | ⟨h, k, rfl, rfl⟩ | ⟨h, rfl, rfl⟩
  · obtain ⟨m, rfl⟩ := Int.eq_ofNat_of_zero_le k.1
    exact refLeap_ok s m w h (by omega)
  · have c1 := fun W : World => isSeed_any s W true (.inl ⟨h, rfl⟩)
    have c2 := fun W : World => within5_any n 0 1099511627776 W false (.inr ⟨k, rfl⟩)
    clear h k
    go_enter Try.func13, Try.ntmps13
    go_wp2_with (first | ((with_reducible refine (c1 _).mono ?_); rintro e w1 ⟨rfl, rfl⟩) | ((with_reducible refine (c2 _).mono ?_); rintro e w1 ⟨rfl, rfl⟩))
    go_ret2
    exact ⟨rfl, rfl⟩
  · have c1 := fun W : World => isSeed_any s W false (.inr ⟨h, rfl⟩)
    clear h
    go_enter Try.func13, Try.ntmps13
    go_wp2_with ((with_reducible refine (c1 _).mono ?_); rintro e w1 ⟨rfl, rfl⟩)
    go_ret2
    exact ⟨rfl, rfl⟩
end Go.Proofs.Ythloceljgmmdbaa
