/- Which changes of the energy a draw accepts, as the program and the document's answers find them.
Conditions: none. -/
import Derived.Test.YtdplojcbfdbgnaaRows
import Derived.Test.YtdplojcbfdbgnaaKkM
import Derived.Test.YtdplojcbfdbgnaaRegA
import Derived.WalkKit
import Derived.WalkSpells
import Derived.WalkLawsBesides
import Derived.Lib.Hide
import Derived.BigQuiet
import Derived.Deep.DeepFit
namespace Go.Proofs.Ytdplojcbfdbgnaa
set_option linter.unusedVariables false
set_option linter.unusedSimpArgs false
set_option maxRecDepth 1000000
open Go.RowKit
open Km

set_option maxHeartbeats 400000 in
theorem pWithin_any (n lo hi : Int) (w : World) (r : Bool) (h : (lo ≤ n ∧ n ≤ hi ∧ r = true) ∨ (¬ (lo ≤ n ∧ n ≤ hi) ∧ r = false)) :
    Calls Try.prog 56 #[.int .i64 n, .int .i64 lo, .int .i64 hi] w fun e w' => e = .returned (.bool r) ∧ w = w' := by
  rcases h with ⟨a, b, rfl⟩ | ⟨h, rfl⟩
  · go_enter Try.func56, Try.ntmps56
    go_wp2
    go_ret
    exact ⟨rfl, rfl⟩
  · by_cases a : lo ≤ n
    · have b : ¬ n ≤ hi := fun b => h ⟨a, b⟩
      clear h
      go_enter Try.func56, Try.ntmps56
      go_wp2
      go_ret
      exact ⟨rfl, rfl⟩
    · clear h
      go_enter Try.func56, Try.ntmps56
      go_wp2
      go_ret
      exact ⟨rfl, rfl⟩
set_option maxHeartbeats 400000 in
theorem within6_any (n lo hi : Int) (w : World) (r : Bool) (h : (lo ≤ n ∧ n ≤ hi ∧ r = true) ∨ (¬ (lo ≤ n ∧ n ≤ hi) ∧ r = false)) :
    Calls Try.prog 67 #[.int .i64 n, .int .i64 lo, .int .i64 hi] w fun e w' => e = .returned (.bool r) ∧ w = w' := by
  rcases h with ⟨a, b, rfl⟩ | ⟨h, rfl⟩
  · go_enter Try.func67, Try.ntmps67
    go_wp2
    go_ret
    exact ⟨rfl, rfl⟩
  · by_cases a : lo ≤ n
    · have b : ¬ n ≤ hi := fun b => h ⟨a, b⟩
      clear h
      go_enter Try.func67, Try.ntmps67
      go_wp2
      go_ret
      exact ⟨rfl, rfl⟩
    · clear h
      go_enter Try.func67, Try.ntmps67
      go_wp2
      go_ret
      exact ⟨rfl, rfl⟩
/-- what is answered to a change and a draw -/
def accR (ch d : Int) (b : Bool) (r : Int) : Prop := ((0 ≤ d ∧ d ≤ 1073741823) ∧ b = acc ch d ∧ r = 0) ∨ (¬ (0 ≤ d ∧ d ≤ 1073741823) ∧ b = false ∧ r = 1)
theorem accR_ex (ch d : Int) : ∃ b r, accR ch d b r := by
  by_cases h : 0 ≤ d ∧ d ≤ 1073741823
  · exact ⟨_, _, .inl ⟨h, rfl, rfl⟩⟩
  · exact ⟨_, _, .inr ⟨h, rfl, rfl⟩⟩
theorem acc_low {ch d : Int} (h : ch ≤ 0) : acc ch d = true := by simp [acc, h]
theorem acc_high {ch d : Int} (h : 30 < ch) : acc ch d = false := by
  have h1 : ¬ ch ≤ 0 := by omega
  have h2 : ¬ ch ≤ 30 := by omega
  simp [acc, h1, h2]
theorem acc_mid {ch d : Int} (h1 : 0 < ch) (h2 : ch ≤ 30) : acc ch d = (d % 2 ^ ch.toNat == 0) := by
  have h0 : ¬ ch ≤ 0 := by omega
  simp only [acc, h0, h2, decide_false, decide_true, Bool.false_or, Bool.true_and]
  rfl
theorem pow_rng {ch : Int} (h1 : 0 < ch) (h2 : ch ≤ 30) : 1 ≤ (2 : Int) ^ ch.toNat ∧ (2 : Int) ^ ch.toNat ≤ 1073741824 := by
  obtain ⟨k, rfl⟩ := Int.eq_ofNat_of_zero_le (show 0 ≤ ch by omega)
  have hk : k ≤ 30 := by omega
  clear h1 h2
  have key : ∀ k : Nat, k ≤ 30 → 1 ≤ (2 : Int) ^ k ∧ (2 : Int) ^ k ≤ 1073741824 := by decide
  exact key k hk
set_option maxHeartbeats 800000 in
theorem accept_any (ch d r : Int) (b : Bool) (w : World) (h : accR ch d b r) : Calls Try.prog 38 #[.int .i64 ch, .int .i64 d] w fun e w' => e = .returned (.tuple #[.bool b, .int .i64 r]) ∧ w = w' := by
  rcases h with ⟨⟨d0, d1⟩, rfl, rfl⟩ | ⟨h, rfl, rfl⟩
  · have c1 := fun W : World => pWithin_any d 0 1073741823 W true (.inl ⟨d0, d1, rfl⟩)
    by_cases h0 : ch ≤ 0
    · rw [acc_low h0]
      go_enter Try.func38, Try.ntmps38
      go_wp2_with ((with_reducible refine (c1 _).mono ?_); rintro e w1 ⟨rfl, rfl⟩)
      go_ret2
      exact ⟨rfl, rfl⟩
    · by_cases h1 : 30 < ch
      · rw [acc_high h1]
        go_enter Try.func38, Try.ntmps38
        go_wp2_with ((with_reducible refine (c1 _).mono ?_); rintro e w1 ⟨rfl, rfl⟩)
        go_ret2
        exact ⟨rfl, rfl⟩
      · have g0 : 0 < ch := by omega
        have g1 : ch ≤ 30 := by omega
        rw [acc_mid g0 g1]
        obtain ⟨p1, p2⟩ := pow_rng g0 g1
        have e1 : (1 : Int) * 2 ^ ch.toNat = 2 ^ ch.toNat := Int.one_mul _
        have e2 : IntKind.i64.wrap (2 ^ ch.toNat) = 2 ^ ch.toNat := IntWalk.i64_in _ (by omega)
        have e2' : wrap64 (2 ^ ch.toNat) = 2 ^ ch.toNat := IntWalk.wrap64_in _ (by omega)
        have e3 : d.tmod (2 ^ ch.toNat) = d % (2 ^ ch.toNat) := Int.tmod_eq_emod_of_nonneg d0
        have m0 := Int.emod_nonneg d (show (2 : Int) ^ ch.toNat ≠ 0 by omega)
        have m1 := Int.emod_lt_of_pos d (show 0 < (2 : Int) ^ ch.toNat by omega)
        have e4 : ((2 : Int) ^ ch.toNat == 0) = false := by simp; omega
        go_enter Try.func38, Try.ntmps38
        go_wp2_with ((with_reducible refine (c1 _).mono ?_); rintro e w1 ⟨rfl, rfl⟩)
        go_ret2
        exact ⟨rfl, rfl⟩
  · have c1 := fun W : World => pWithin_any d 0 1073741823 W false (.inr ⟨h, rfl⟩)
    clear h
    go_enter Try.func38, Try.ntmps38
    go_wp2_with ((with_reducible refine (c1 _).mono ?_); rintro e w1 ⟨rfl, rfl⟩)
    go_ret2
    exact ⟨rfl, rfl⟩
set_option maxHeartbeats 800000 in
theorem accepts_any (ch d : Int) (w : World) (d0 : 0 ≤ d) (d1 : d ≤ 1073741823) : Calls Try.prog 73 #[.int .i64 ch, .int .i64 d] w fun e w' => e = .returned (.bool (acc ch d)) ∧ w = w' := by
  by_cases h0 : ch ≤ 0
  · rw [acc_low h0]
    go_enter Try.func73, Try.ntmps73
    go_wp2
    go_ret
    exact ⟨rfl, rfl⟩
  · by_cases h1 : 30 < ch
    · rw [acc_high h1]
      go_enter Try.func73, Try.ntmps73
      go_wp2
      go_ret
      exact ⟨rfl, rfl⟩
    · have g0 : 0 < ch := by omega
      have g1 : ch ≤ 30 := by omega
      rw [acc_mid g0 g1]
      obtain ⟨p1, p2⟩ := pow_rng g0 g1
      have e1 : (1 : Int) * 2 ^ ch.toNat = 2 ^ ch.toNat := Int.one_mul _
      have e2 : IntKind.i64.wrap (2 ^ ch.toNat) = 2 ^ ch.toNat := IntWalk.i64_in _ (by omega)
      have e2' : wrap64 (2 ^ ch.toNat) = 2 ^ ch.toNat := IntWalk.wrap64_in _ (by omega)
      have e3 : d.tmod (2 ^ ch.toNat) = d % (2 ^ ch.toNat) := Int.tmod_eq_emod_of_nonneg d0
      have m0 := Int.emod_nonneg d (show (2 : Int) ^ ch.toNat ≠ 0 by omega)
      have m1 := Int.emod_lt_of_pos d (show 0 < (2 : Int) ^ ch.toNat by omega)
      have e4 : ((2 : Int) ^ ch.toNat == 0) = false := by simp; omega
      go_enter Try.func73, Try.ntmps73
      go_wp2
      go_ret
      exact ⟨rfl, rfl⟩
set_option maxHeartbeats 800000 in
theorem refAccept_any (ch d r : Int) (b : Bool) (w : World) (h : accR ch d b r) : Calls Try.prog 39 #[.int .i64 ch, .int .i64 d] w fun e w' => e = .returned (.tuple #[.bool b, .int .i64 r]) ∧ w = w' := by
  rcases h with ⟨⟨d0, d1⟩, rfl, rfl⟩ | ⟨h, rfl, rfl⟩
  · have c1 := fun W : World => within6_any d 0 1073741823 W true (.inl ⟨d0, d1, rfl⟩)
    have c2 := fun W : World => accepts_any ch d W d0 d1
    generalize acc ch d = q at *
    go_enter Try.func39, Try.ntmps39
    go_wp2_with (first | ((with_reducible refine (c1 _).mono ?_); rintro e w1 ⟨rfl, rfl⟩) | ((with_reducible refine (c2 _).mono ?_); rintro e w1 ⟨rfl, rfl⟩))
    go_ret2
    exact ⟨rfl, rfl⟩
  · have c1 := fun W : World => within6_any d 0 1073741823 W false (.inr ⟨h, rfl⟩)
    clear h
    go_enter Try.func39, Try.ntmps39
    go_wp2_with ((with_reducible refine (c1 _).mono ?_); rintro e w1 ⟨rfl, rfl⟩)
    go_ret2
    exact ⟨rfl, rfl⟩
end Go.Proofs.Ytdplojcbfdbgnaa
