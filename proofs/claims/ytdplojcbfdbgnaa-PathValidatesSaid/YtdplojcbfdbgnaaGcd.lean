/- Greatest common divisors as the program and the document's answers make them.
Conditions: the bounds written at each theorem. -/
import Derived.Test.YtdplojcbfdbgnaaRows
import Derived.Test.YtdplojcbfdbgnaaMathA
import Derived.Test.YtdplojcbfdbgnaaRegA
import Derived.WalkKit
import Derived.WalkSpells
import Derived.WalkLawsBesides
import Derived.Lib.Hide
import Derived.BigQuiet
import Derived.Deep.DeepFit
namespace Go.Proofs.Ytdplojcbfdbgnaa
set_option linter.unusedVariables false
set_option linter.unusedSimpArgs false
open Go.RowKit
open Um

def gc (m n : Int) : Int := (Nat.gcd m.natAbs n.natAbs : Int)

theorem gc_step (m n : Int) : gc n (m.tmod n) = gc m n := by
  unfold gc
  rw [Int.natAbs_tmod, Nat.gcd_comm, ← Nat.gcd_rec, Nat.gcd_comm]
theorem gc_step' (m n : Int) (hm : 0 ≤ m) : gc n (m % n) = gc m n := by
  rw [← Int.tmod_eq_emod_of_nonneg hm]; exact gc_step m n
theorem gc_zero (m : Int) : gc m 0 = (m.natAbs : Int) := by simp [gc]
theorem tmod_small (m n : Int) (hn : n ≠ 0) : (m.tmod n).natAbs < n.natAbs := by
  rw [Int.natAbs_tmod]; exact Nat.mod_lt _ (by omega)

set_option maxHeartbeats 400000 in
theorem divisor_any (m n : Int) (w : World) (hm : -4611686018427387904 ≤ m ∧ m ≤ 4611686018427387904) (hn : -4611686018427387904 ≤ n ∧ n ≤ 4611686018427387904) :
    Calls Try.prog 113 #[.int .i64 m, .int .i64 n] w fun e w' => e = .returned (.int .i64 (gc m n)) ∧ Below w.heap.size w w' := by
  obtain ⟨hm1, hm2⟩ := hm
  obtain ⟨hn1, hn2⟩ := hn
  go_enter Try.func113, Try.ntmps113
  go_wp2
  go_loopw [0, 1] (fun p q wr => ∃ x y : Int, p = .int .i64 x ∧ q = .int .i64 y ∧ -4611686018427387904 ≤ x ∧ x ≤ 4611686018427387904 ∧ -4611686018427387904 ≤ y ∧ y ≤ 4611686018427387904 ∧ gc x y = gc m n ∧ Below w.heap.size w wr) (fun _ q _ => (intOf q).natAbs)
  case atStart => exact ⟨m, n, rfl, rfl, hm1, hm2, hn1, hn2, rfl, Below.refl _ _⟩
  case round =>
    obtain ⟨x, y, rfl, rfl, hx1, hx2, hy1, hy2, hg, hb⟩ := hrel
    have HG := Lib.hid hg
    clear hg
    by_cases h0 : y = 0
    · subst h0
      go_wp2
      all_goals
        go_ret
        exact ⟨by have := HG.out; rw [gc_zero] at this; rw [← this]; refine congrArg Ending.returned (congrArg (Value.int .i64) ?_); omega, hb⟩
    · have h0' : (y != 0) = true := by simpa using h0
      have h1' : (y == 0) = false := by simpa using h0
      go_wp2
      go_quiet (fail)
      go_wp2
      have ht := tmod_small x y h0
      exact ⟨⟨y, x.tmod y, rfl, rfl, by omega, by omega, by omega, by omega, by rw [gc_step]; exact HG.out, ⟨hb.os, hb.tape, hb.output, hb.size, hb.block⟩⟩, by simpa [intOf] using ht⟩

set_option maxHeartbeats 800000 in
theorem gcd_any (m n : Int) (w : World) (hm : -9223372036854775807 ≤ m ∧ m ≤ 9223372036854775807) (hn : -9223372036854775807 ≤ n ∧ n ≤ 9223372036854775807) :
    Calls Try.prog 153 #[.int .i64 m, .int .i64 n] w fun e w' => e = .returned (.int .i64 (gc m n)) ∧ Below w.heap.size w w' := by
  obtain ⟨hm1, hm2⟩ := hm
  obtain ⟨hn1, hn2⟩ := hn
  by_cases a : m < 0
  all_goals by_cases b : n < 0
  all_goals
    go_enter Try.func153, Try.ntmps153
    go_wp2
    go_loopw [0, 1] (fun p q wr => ∃ x y : Int, p = .int .i64 x ∧ q = .int .i64 y ∧ 0 ≤ x ∧ x ≤ 9223372036854775807 ∧ 0 ≤ y ∧ y ≤ 9223372036854775807 ∧ gc x y = gc m n ∧ Below w.heap.size w wr) (fun _ q _ => (intOf q).natAbs)
    case atStart => exact ⟨_, _, rfl, rfl, by omega, by omega, by omega, by omega, by simp [gc], Below.refl _ _⟩
    case round =>
      obtain ⟨x, y, rfl, rfl, hx1, hx2, hy1, hy2, hg, hb⟩ := hrel
      have HG := Lib.hid hg
      clear hg a b
      by_cases h0 : y = 0
      · subst h0
        go_wp2
        all_goals
          go_ret
          exact ⟨by have := HG.out; rw [gc_zero] at this; rw [← this]; refine congrArg Ending.returned (congrArg (Value.int .i64) ?_); omega, hb⟩
      · have h0' : (y != 0) = true := by simpa using h0
        have h1' : (y == 0) = false := by simpa using h0
        have h1 : 1 ≤ y := by omega
        go_wp2
        go_quiet (fail)
        go_wp2
        have ht := Int.emod_lt_of_pos x (show 0 < y by omega)
        have hp := Int.emod_nonneg x (show y ≠ 0 by omega)
        exact ⟨⟨y, x % y, rfl, rfl, by omega, by omega, by omega, by omega, by rw [gc_step' _ _ hx1]; exact HG.out, ⟨hb.os, hb.tape, hb.output, hb.size, hb.block⟩⟩, by simp [intOf]; omega⟩
end Go.Proofs.Ytdplojcbfdbgnaa
