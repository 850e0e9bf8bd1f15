/- What the small functions of the program and of the document's answers hand back: bounds, signs, greatest common divisors, parts of quaternions.
Conditions: the bounds written at each theorem. -/
import Derived.Test.YtpfhjdmgkckjfaaGreatDoorRows
import Derived.Test.YtpfhjdmgkckjfaaGreatDoorAMathA
import Derived.Test.YtpfhjdmgkckjfaaGreatDoorARegA
import Derived.WalkKit
import Derived.WalkSpells
import Derived.WalkLawsBesides
import Derived.Lib.Hide
import Derived.BigQuiet
import Derived.Deep.DeepFit
import Derived.Deep.RegionHeld3
namespace Go.Proofs.YtpfhjdmgkckjfaaGreatDoor
set_option linter.unusedVariables false
set_option linter.unusedSimpArgs false
open Go.RowKit
open Um

def inB (n lo hi : Int) : Bool := decide (lo ≤ n ∧ n ≤ hi)
theorem inB_yes {n lo hi : Int} (h1 : lo ≤ n) (h2 : n ≤ hi) : inB n lo hi = true := by simp [inB, h1, h2]
theorem inB_no {n lo hi : Int} (h : ¬ (lo ≤ n ∧ n ≤ hi)) : inB n lo hi = false := by simp only [inB, decide_eq_false_iff_not]; exact h

set_option maxHeartbeats 400000 in
theorem isWithin_any (n m : Int) (w : World) (h0 : 0 ≤ m) (h1 : m ≤ 1099511627776) :
    Calls Tryz.prog 134 #[.int .i64 n, .int .i64 m] w fun e w' => e = .returned (.bool (inB n (-m) m)) ∧ w = w' := by
  by_cases a : -m ≤ n
  · by_cases b : n ≤ m
    · have hr := inB_yes a b
      go_enter Tryz.func134, Tryz.ntmps134
      go_wp2
      go_ret
      first | exact ⟨rfl, rfl⟩ | exact ⟨by rw [hr]; rfl, rfl⟩
    · have hr : inB n (-m) m = false := inB_no (by omega)
      go_enter Tryz.func134, Tryz.ntmps134
      go_wp2
      go_ret
      first | exact ⟨rfl, rfl⟩ | exact ⟨by rw [hr]; rfl, rfl⟩
  · have hr : inB n (-m) m = false := inB_no (by omega)
    go_enter Tryz.func134, Tryz.ntmps134
    go_wp2
    go_ret
    first | exact ⟨rfl, rfl⟩ | exact ⟨by rw [hr]; rfl, rfl⟩

set_option maxHeartbeats 400000 in
theorem within_any (n lo hi : Int) (w : World) :
    Calls Tryz.prog 163 #[.int .i64 n, .int .i64 lo, .int .i64 hi] w fun e w' => e = .returned (.bool (inB n lo hi)) ∧ w = w' := by
  by_cases a : lo ≤ n
  · by_cases b : n ≤ hi
    · have hr := inB_yes a b
      go_enter Tryz.func163, Tryz.ntmps163
      go_wp2
      go_ret
      first | exact ⟨rfl, rfl⟩ | exact ⟨by rw [hr]; rfl, rfl⟩
    · have hr : inB n lo hi = false := inB_no (by omega)
      go_enter Tryz.func163, Tryz.ntmps163
      go_wp2
      go_ret
      first | exact ⟨rfl, rfl⟩ | exact ⟨by rw [hr]; rfl, rfl⟩
  · have hr : inB n lo hi = false := inB_no (by omega)
    go_enter Tryz.func163, Tryz.ntmps163
    go_wp2
    go_ret
    first | exact ⟨rfl, rfl⟩ | exact ⟨by rw [hr]; rfl, rfl⟩

set_option maxHeartbeats 400000 in
theorem quaternionOf_any (x : Q) (w : World) : Calls Tryz.prog 106 #[.agg #[.int .i64 x.a, .int .i64 x.b, .int .i64 x.c, .int .i64 x.d, .int .i64 x.n]] w fun e w' => e = .returned (.agg #[.int .i64 x.b, .int .i64 x.c, .int .i64 x.d, .int .i64 x.a, .int .i64 x.n]) ∧ Below w.heap.size w w' := by
  go_enter Tryz.func106, Tryz.ntmps106
  go_wp2
  exact bodyPost_ret (v := .agg #[.int .i64 x.b, .int .i64 x.c, .int .i64 x.d, .int .i64 x.a, .int .i64 x.n]) (by simp [results, Tryz.results106, go_sem]) rfl ⟨rfl, ((Below.refl _ _).alloc (Nat.le_refl _) _).alloc (by simp) _⟩

set_option maxHeartbeats 400000 in
theorem one_any (w : World) : Calls Tryz.prog 159 #[] w fun e w' => e = .returned (.agg #[.int .i64 one.b, .int .i64 one.c, .int .i64 one.d, .int .i64 one.a, .int .i64 one.n]) ∧ Below w.heap.size w w' := by
  go_enter Tryz.func159, Tryz.ntmps159
  go_wp2
  exact bodyPost_ret (v := .agg #[.int .i64 one.b, .int .i64 one.c, .int .i64 one.d, .int .i64 one.a, .int .i64 one.n]) (by simp [results, Tryz.results159, go_sem, one]) rfl ⟨rfl, (Below.refl _ _).alloc (Nat.le_refl _) _⟩

/-- Every product of a part of x and one of y lies within a bound: what an int can hold, four times over. -/
structure Small2 (x y : Q) : Prop where
  h : ∀ p q : Int, (p = x.a ∨ p = x.b ∨ p = x.c ∨ p = x.d ∨ p = x.n) → (q = y.a ∨ q = y.b ∨ q = y.c ∨ q = y.d ∨ q = y.n) → -1152921504606846976 ≤ p * q ∧ p * q ≤ 1152921504606846976

set_option maxHeartbeats 400000 in
theorem scaled_any (x : Q) (k : Int) (w : World) (hb : -1152921504606846976 ≤ k * x.b ∧ k * x.b ≤ 1152921504606846976) (hc : -1152921504606846976 ≤ k * x.c ∧ k * x.c ≤ 1152921504606846976) (hd : -1152921504606846976 ≤ k * x.d ∧ k * x.d ≤ 1152921504606846976) :
    Calls Tryz.prog 138 #[.agg #[.int .i64 x.b, .int .i64 x.c, .int .i64 x.d], .int .i64 k] w fun e w' => e = .returned (.agg #[.int .i64 (k * x.b), .int .i64 (k * x.c), .int .i64 (k * x.d)]) ∧ Below w.heap.size w w' := by
  obtain ⟨hb1, hb2⟩ := hb
  obtain ⟨hc1, hc2⟩ := hc
  obtain ⟨hd1, hd2⟩ := hd
  go_enter Tryz.func138, Tryz.ntmps138
  go_wp2
  exact bodyPost_ret (v := .agg #[.int .i64 (k * x.b), .int .i64 (k * x.c), .int .i64 (k * x.d)]) (by simp [results, Tryz.results138, go_sem]) rfl ⟨rfl, ((Below.refl _ _).alloc (Nat.le_refl _) _).alloc (by simp) _⟩

set_option maxHeartbeats 400000 in
theorem plus_any (b c d b' c' d' : Int) (w : World) (hb : -4611686018427387904 ≤ b + b' ∧ b + b' ≤ 4611686018427387904) (hc : -4611686018427387904 ≤ c + c' ∧ c + c' ≤ 4611686018427387904) (hd : -4611686018427387904 ≤ d + d' ∧ d + d' ≤ 4611686018427387904) :
    Calls Tryz.prog 139 #[.agg #[.int .i64 b, .int .i64 c, .int .i64 d], .agg #[.int .i64 b', .int .i64 c', .int .i64 d']] w fun e w' => e = .returned (.agg #[.int .i64 (b + b'), .int .i64 (c + c'), .int .i64 (d + d')]) ∧ Below w.heap.size w w' := by
  obtain ⟨hb1, hb2⟩ := hb
  obtain ⟨hc1, hc2⟩ := hc
  obtain ⟨hd1, hd2⟩ := hd
  go_enter Tryz.func139, Tryz.ntmps139
  go_wp2
  exact bodyPost_ret (v := .agg #[.int .i64 (b + b'), .int .i64 (c + c'), .int .i64 (d + d')]) (by simp [results, Tryz.results139, go_sem]) rfl ⟨rfl, (((Below.refl _ _).alloc (Nat.le_refl _) _).alloc (by simp) _).alloc (by simp; omega) _⟩

set_option maxHeartbeats 400000 in
theorem cross_any (x y : Q) (w : World) (h : Small2 x y) :
    Calls Tryz.prog 140 #[.agg #[.int .i64 x.b, .int .i64 x.c, .int .i64 x.d], .agg #[.int .i64 y.b, .int .i64 y.c, .int .i64 y.d]] w fun e w' => e = .returned (.agg #[.int .i64 (x.c * y.d - x.d * y.c), .int .i64 (x.d * y.b - x.b * y.d), .int .i64 (x.b * y.c - x.c * y.b)]) ∧ Below w.heap.size w w' := by
  obtain ⟨h1, h2⟩ := h.h x.c y.d (by simp) (by simp)
  obtain ⟨h3, h4⟩ := h.h x.d y.c (by simp) (by simp)
  obtain ⟨h5, h6⟩ := h.h x.d y.b (by simp) (by simp)
  obtain ⟨h7, h8⟩ := h.h x.b y.d (by simp) (by simp)
  obtain ⟨h9, h10⟩ := h.h x.b y.c (by simp) (by simp)
  obtain ⟨h11, h12⟩ := h.h x.c y.b (by simp) (by simp)
  go_enter Tryz.func140, Tryz.ntmps140
  go_wp2
  exact bodyPost_ret (v := .agg #[.int .i64 (x.c * y.d - x.d * y.c), .int .i64 (x.d * y.b - x.b * y.d), .int .i64 (x.b * y.c - x.c * y.b)]) (by simp [results, Tryz.results140, go_sem]) rfl ⟨rfl, (((Below.refl _ _).alloc (Nat.le_refl _) _).alloc (by simp) _).alloc (by simp; omega) _⟩

set_option maxHeartbeats 400000 in
theorem dot_any (x y : Q) (w : World) (h : Small2 x y) :
    Calls Tryz.prog 136 #[.agg #[.int .i64 x.b, .int .i64 x.c, .int .i64 x.d], .agg #[.int .i64 y.b, .int .i64 y.c, .int .i64 y.d]] w fun e w' => e = .returned (.int .i64 (x.b * y.b + x.c * y.c + x.d * y.d)) ∧ Below w.heap.size w w' := by
  obtain ⟨h1, h2⟩ := h.h x.b y.b (by simp) (by simp)
  obtain ⟨h3, h4⟩ := h.h x.c y.c (by simp) (by simp)
  obtain ⟨h5, h6⟩ := h.h x.d y.d (by simp) (by simp)
  go_enter Tryz.func136, Tryz.ntmps136
  go_wp2
  go_ret
  exact ⟨rfl, ((Below.refl _ _).alloc (Nat.le_refl _) _).alloc (by simp) _⟩
end Go.Proofs.YtpfhjdmgkckjfaaGreatDoor

/- Greatest common divisors as the program and the document's answers make them.
Conditions: the bounds written at each theorem. -/
namespace Go.Proofs.YtpfhjdmgkckjfaaGreatDoor
set_option linter.unusedVariables false
set_option linter.unusedSimpArgs false
open Go.RowKit
open Um

def gc (m n : Int) : Int := (Nat.gcd m.natAbs n.natAbs : Int)

theorem gc_step (m n : Int) : gc n (m.tmod n) = gc m n := by
  unfold gc
  rw [Int.natAbs_tmod, Nat.gcd_comm, ← Nat.gcd_rec, Nat.gcd_comm]
theorem gc_step' (m n : Int) (hm : 0 ≤ m) : gc n (m % n) = gc m n := by
  rw [← Int.tmod_eq_emod_of_nonneg hm]; exact gc_step m n
theorem gc_zero (m : Int) : gc m 0 = (m.natAbs : Int) := by simp [gc]
theorem tmod_small (m n : Int) (hn : n ≠ 0) : (m.tmod n).natAbs < n.natAbs := by
  rw [Int.natAbs_tmod]; exact Nat.mod_lt _ (by omega)

set_option maxHeartbeats 400000 in
theorem divisor_any (m n : Int) (w : World) (hm : -4611686018427387904 ≤ m ∧ m ≤ 4611686018427387904) (hn : -4611686018427387904 ≤ n ∧ n ≤ 4611686018427387904) :
    Calls Tryz.prog 137 #[.int .i64 m, .int .i64 n] w fun e w' => e = .returned (.int .i64 (gc m n)) ∧ Below w.heap.size w w' := by
  obtain ⟨hm1, hm2⟩ := hm
  obtain ⟨hn1, hn2⟩ := hn
  go_enter Tryz.func137, Tryz.ntmps137
  go_wp2
  go_loopw [0, 1] (fun p q wr => ∃ x y : Int, p = .int .i64 x ∧ q = .int .i64 y ∧ -4611686018427387904 ≤ x ∧ x ≤ 4611686018427387904 ∧ -4611686018427387904 ≤ y ∧ y ≤ 4611686018427387904 ∧ gc x y = gc m n ∧ Below w.heap.size w wr) (fun _ q _ => (intOf q).natAbs)
  case atStart => exact ⟨m, n, rfl, rfl, hm1, hm2, hn1, hn2, rfl, Below.refl _ _⟩
  case round =>
    obtain ⟨x, y, rfl, rfl, hx1, hx2, hy1, hy2, hg, hb⟩ := hrel
    have HG := Lib.hid hg
    clear hg
    by_cases h0 : y = 0
    · subst h0
      go_wp2
      all_goals
        go_ret
        exact ⟨by have := HG.out; rw [gc_zero] at this; rw [← this]; refine congrArg Ending.returned (congrArg (Value.int .i64) ?_); omega, hb⟩
    · have h0' : (y != 0) = true := by simpa using h0
      have h1' : (y == 0) = false := by simpa using h0
      go_wp2
      go_quiet (fail)
      go_wp2
      have ht := tmod_small x y h0
      exact ⟨⟨y, x.tmod y, rfl, rfl, by omega, by omega, by omega, by omega, by rw [gc_step]; exact HG.out, ⟨hb.os, hb.tape, hb.output, hb.size, hb.block⟩⟩, by simpa [intOf] using ht⟩

set_option maxHeartbeats 800000 in
theorem gcd_any (m n : Int) (w : World) (hm : -9223372036854775807 ≤ m ∧ m ≤ 9223372036854775807) (hn : -9223372036854775807 ≤ n ∧ n ≤ 9223372036854775807) :
    Calls Tryz.prog 165 #[.int .i64 m, .int .i64 n] w fun e w' => e = .returned (.int .i64 (gc m n)) ∧ Below w.heap.size w w' := by
  obtain ⟨hm1, hm2⟩ := hm
  obtain ⟨hn1, hn2⟩ := hn
  by_cases a : m < 0
  all_goals by_cases b : n < 0
  all_goals
    go_enter Tryz.func165, Tryz.ntmps165
    go_wp2
    go_loopw [0, 1] (fun p q wr => ∃ x y : Int, p = .int .i64 x ∧ q = .int .i64 y ∧ 0 ≤ x ∧ x ≤ 9223372036854775807 ∧ 0 ≤ y ∧ y ≤ 9223372036854775807 ∧ gc x y = gc m n ∧ Below w.heap.size w wr) (fun _ q _ => (intOf q).natAbs)
    case atStart => exact ⟨_, _, rfl, rfl, by omega, by omega, by omega, by omega, by simp [gc], Below.refl _ _⟩
    case round =>
      obtain ⟨x, y, rfl, rfl, hx1, hx2, hy1, hy2, hg, hb⟩ := hrel
      have HG := Lib.hid hg
      clear hg a b
      by_cases h0 : y = 0
      · subst h0
        go_wp2
        all_goals
          go_ret
          exact ⟨by have := HG.out; rw [gc_zero] at this; rw [← this]; refine congrArg Ending.returned (congrArg (Value.int .i64) ?_); omega, hb⟩
      · have h0' : (y != 0) = true := by simpa using h0
        have h1' : (y == 0) = false := by simpa using h0
        have h1 : 1 ≤ y := by omega
        go_wp2
        go_quiet (fail)
        go_wp2
        have ht := Int.emod_lt_of_pos x (show 0 < y by omega)
        have hp := Int.emod_nonneg x (show y ≠ 0 by omega)
        exact ⟨⟨y, x % y, rfl, rfl, by omega, by omega, by omega, by omega, by rw [gc_step' _ _ hx1]; exact HG.out, ⟨hb.os, hb.tape, hb.output, hb.size, hb.block⟩⟩, by simp [intOf]; omega⟩
end Go.Proofs.YtpfhjdmgkckjfaaGreatDoor

/- The greatest common divisor of the five parts, lowest terms, and rational numbers, as the program and the document's answers make them.
Conditions: the bounds written at each theorem. -/
namespace Go.Proofs.YtpfhjdmgkckjfaaGreatDoor
set_option linter.unusedVariables false
set_option linter.unusedSimpArgs false
open Go.RowKit
open Um

theorem gc_dvd_left (m n : Int) (hm : m ≠ 0) : gc m n ≤ m.natAbs := by
  unfold gc
  have := Nat.gcd_le_left n.natAbs (show 0 < m.natAbs by omega)
  omega
theorem gc_nonneg (m n : Int) : 0 ≤ gc m n := by unfold gc; omega
theorem g_eq (x : Q) : (g x : Int) = gc (gc (gc (gc x.a x.b) x.c) x.d) x.n := by simp [gc, g]
theorem g_eq' (x : Q) : (g x : Int) = gc (gc (gc (gc x.n x.a) x.b) x.c) x.d := by
  simp only [gc, g, Int.natAbs_natCast]
  simp only [Nat.gcd_comm, Nat.gcd_left_comm]
def gAt (x : Q) : Nat → Int
  | 0 => x.n
  | 1 => gc x.n x.a
  | 2 => gc (gc x.n x.a) x.b
  | 3 => gc (gc (gc x.n x.a) x.b) x.c
  | _ => gc (gc (gc (gc x.n x.a) x.b) x.c) x.d
theorem gAt_range (x : Q) (k : Nat) (hn : 0 < x.n) : 0 ≤ gAt x k ∧ gAt x k ≤ x.n := by
  have key : ∀ p q : Int, 0 < p → 0 < gc p q ∧ gc p q ≤ p := by
    intro p q hp
    have h1 := gc_dvd_left p q (by omega)
    have h2 := gc_nonneg p q
    have h3 : gc p q ≠ 0 := by
      unfold gc
      have := Nat.gcd_pos_of_pos_left q.natAbs (show 0 < p.natAbs by omega)
      omega
    omega
  have k1 := key x.n x.a hn
  have k2 := key (gc x.n x.a) x.b k1.1
  have k3 := key (gc (gc x.n x.a) x.b) x.c k2.1
  have k4 := key (gc (gc (gc x.n x.a) x.b) x.c) x.d k3.1
  unfold gAt
  split <;> omega

/-- each part lies within a bound -/
structure In (x : Q) (m : Int) : Prop where
  a : -m ≤ x.a ∧ x.a ≤ m
  b : -m ≤ x.b ∧ x.b ≤ m
  c : -m ≤ x.c ∧ x.c ≤ m
  d : -m ≤ x.d ∧ x.d ≤ m
  n : 0 < x.n ∧ x.n ≤ m

set_option maxHeartbeats 800000 in
theorem common_any (x : Q) (w : World) (hx : In x 4611686018427387904) :
    Calls Tryz.prog 108 #[.agg #[.int .i64 x.b, .int .i64 x.c, .int .i64 x.d, .int .i64 x.a, .int .i64 x.n]] w fun e w' => e = .returned (.int .i64 (g x)) ∧ Below w.heap.size w w' := by
  obtain ⟨⟨ha1, ha2⟩, ⟨hb1, hb2⟩, ⟨hc1, hc2⟩, ⟨hd1, hd2⟩, hn1, hn2⟩ := hx
  have i0 : ∀ w, (Instr.index 130 (.agg #[.int .i64 x.a, .int .i64 x.b, .int .i64 x.c, .int .i64 x.d]) (.int .i64 0)).run Tryz.prog w = .ok (.int .i64 x.a) w := fun _ => by kernel_rfl
  have i1 : ∀ w, (Instr.index 130 (.agg #[.int .i64 x.a, .int .i64 x.b, .int .i64 x.c, .int .i64 x.d]) (.int .i64 1)).run Tryz.prog w = .ok (.int .i64 x.b) w := fun _ => by kernel_rfl
  have i2 : ∀ w, (Instr.index 130 (.agg #[.int .i64 x.a, .int .i64 x.b, .int .i64 x.c, .int .i64 x.d]) (.int .i64 2)).run Tryz.prog w = .ok (.int .i64 x.c) w := fun _ => by kernel_rfl
  have i3 : ∀ w, (Instr.index 130 (.agg #[.int .i64 x.a, .int .i64 x.b, .int .i64 x.c, .int .i64 x.d]) (.int .i64 3)).run Tryz.prog w = .ok (.int .i64 x.d) w := fun _ => by kernel_rfl
  go_enter Tryz.func108, Tryz.ntmps108
  go_wp2
  go_loopw [3, 5, 20] (fun p _ q wr => ∃ k : Nat, k ≤ 4 ∧ q = .int .i64 k ∧ p = .int .i64 (gAt x k) ∧ Below w.heap.size w wr) (fun _ _ q _ => 4 - (intOf q).toNat)
  case atStart => exact ⟨0, by omega, rfl, rfl, (Below.refl _ _).alloc (Nat.le_refl _) _⟩
  case round =>
    obtain ⟨k, hk, rfl, rfl, hb⟩ := hrel
    have hr := gAt_range x k (by omega)
    obtain ⟨hr1, hr2⟩ := hr
    have : k = 0 ∨ k = 1 ∨ k = 2 ∨ k = 3 ∨ k = 4 := by omega
    rcases this with rfl | rfl | rfl | rfl | rfl
    · go_wp2_with (go_at_call 137; refine (divisor_any _ _ _ (by omega) (by omega)).mono ?_; rintro e w' ⟨rfl, hb'⟩)
      exact ⟨⟨1, by omega, rfl, rfl, hb.trans (hb'.mono hb.size)⟩, by simp [intOf]⟩
    · go_wp2_with (go_at_call 137; refine (divisor_any _ _ _ (by omega) (by omega)).mono ?_; rintro e w' ⟨rfl, hb'⟩)
      exact ⟨⟨2, by omega, rfl, rfl, hb.trans (hb'.mono hb.size)⟩, by simp [intOf]⟩
    · go_wp2_with (go_at_call 137; refine (divisor_any _ _ _ (by omega) (by omega)).mono ?_; rintro e w' ⟨rfl, hb'⟩)
      exact ⟨⟨3, by omega, rfl, rfl, hb.trans (hb'.mono hb.size)⟩, by simp [intOf]⟩
    · go_wp2_with (go_at_call 137; refine (divisor_any _ _ _ (by omega) (by omega)).mono ?_; rintro e w' ⟨rfl, hb'⟩)
      exact ⟨⟨4, by omega, rfl, rfl, hb.trans (hb'.mono hb.size)⟩, by simp [intOf]⟩
    · go_wp2
      go_ret
      exact ⟨by rw [g_eq']; rfl, hb⟩

theorem gc_fit (m n : Int) (hm : -9223372036854775807 ≤ m ∧ m ≤ 9223372036854775807) (hn : -9223372036854775807 ≤ n ∧ n ≤ 9223372036854775807) : -9223372036854775807 ≤ gc m n ∧ gc m n ≤ 9223372036854775807 := by
  have h0 := gc_nonneg m n
  by_cases h : m = 0
  · subst h
    have : gc 0 n = n.natAbs := by simp [gc]
    omega
  · have := gc_dvd_left m n h
    omega

set_option maxHeartbeats 800000 in
theorem refCommon_any (x : Q) (w : World) (ha : -9223372036854775807 ≤ x.a ∧ x.a ≤ 9223372036854775807) (hb : -9223372036854775807 ≤ x.b ∧ x.b ≤ 9223372036854775807) (hc : -9223372036854775807 ≤ x.c ∧ x.c ≤ 9223372036854775807) (hd : -9223372036854775807 ≤ x.d ∧ x.d ≤ 9223372036854775807) (hn : -9223372036854775807 ≤ x.n ∧ x.n ≤ 9223372036854775807) :
    Calls Tryz.prog 164 #[.agg #[.int .i64 x.a, .int .i64 x.b, .int .i64 x.c, .int .i64 x.d, .int .i64 x.n]] w fun e w' => e = .returned (.int .i64 (g x)) ∧ Below w.heap.size w w' := by
  have f1 := gc_fit _ _ ha hb
  have f2 := gc_fit _ _ f1 hc
  have f3 := gc_fit _ _ f2 hd
  have c1 : ∀ W : World, Calls Tryz.prog 165 #[.int .i64 x.a, .int .i64 x.b] W fun e w' => e = .returned (.int .i64 (gc x.a x.b)) ∧ Below W.heap.size W w' := fun W => gcd_any _ _ _ ha hb
  have c2 : ∀ W : World, Calls Tryz.prog 165 #[.int .i64 (gc x.a x.b), .int .i64 x.c] W fun e w' => e = .returned (.int .i64 (gc (gc x.a x.b) x.c)) ∧ Below W.heap.size W w' := fun W => gcd_any _ _ _ f1 hc
  have c3 : ∀ W : World, Calls Tryz.prog 165 #[.int .i64 (gc (gc x.a x.b) x.c), .int .i64 x.d] W fun e w' => e = .returned (.int .i64 (gc (gc (gc x.a x.b) x.c) x.d)) ∧ Below W.heap.size W w' := fun W => gcd_any _ _ _ f2 hd
  have c4 : ∀ W : World, Calls Tryz.prog 165 #[.int .i64 (gc (gc (gc x.a x.b) x.c) x.d), .int .i64 x.n] W fun e w' => e = .returned (.int .i64 (gc (gc (gc (gc x.a x.b) x.c) x.d) x.n)) ∧ Below W.heap.size W w' := fun W => gcd_any _ _ _ f3 hn
  clear f1 f2 f3 ha hb hc hd hn
  rw [g_eq]
  have kc := @Tail.cell_re
  go_enter Tryz.func164, Tryz.ntmps164
  go_wp2
  refine Tail.region_below (by kernel_rfl) (by kernel_rfl) ?_
  repeat (quiet_step (first | (with_reducible exact Calls.regrown_of (c1 _)) | (with_reducible exact Calls.regrown_of (c2 _)) | (with_reducible exact Calls.regrown_of (c3 _)) | (with_reducible exact Calls.regrown_of (c4 _))))
  refine wpQuiet_nil ?_
  intro w1 hb1
  go_wp2
  go_ret
  exact ⟨rfl, ((Below.refl _ _).alloc (Nat.le_refl _) _).trans (hb1.mono (by simp))⟩

theorem low_parts (x : Q) : x.a.tdiv (g x) = (low x).a ∧ x.b.tdiv (g x) = (low x).b ∧ x.c.tdiv (g x) = (low x).c ∧ x.d.tdiv (g x) = (low x).d := by
  have h := g_dvd x
  exact ⟨Int.tdiv_eq_ediv_of_dvd h.1, Int.tdiv_eq_ediv_of_dvd h.2.1, Int.tdiv_eq_ediv_of_dvd h.2.2.1, Int.tdiv_eq_ediv_of_dvd h.2.2.2.1⟩
theorem low_n (x : Q) : x.n / (g x : Int) = (low x).n := rfl

theorem In.le {x : Q} {m : Int} (h : In x m) {k : Int} (hk : m ≤ k) : In x k :=
  ⟨⟨by have := h.a; omega, by have := h.a; omega⟩, ⟨by have := h.b; omega, by have := h.b; omega⟩, ⟨by have := h.c; omega, by have := h.c; omega⟩, ⟨by have := h.d; omega, by have := h.d; omega⟩, ⟨h.n.1, by have := h.n; omega⟩⟩

set_option maxHeartbeats 800000 in
theorem unit_large (x : Q) (w : World) (hx : In x 4611686018427387904) (hl : 1048576 < (low x).n) :
    Calls Tryz.prog 111 #[.agg #[.int .i64 x.b, .int .i64 x.c, .int .i64 x.d, .int .i64 x.a, .int .i64 x.n]] w fun e w' => e = .returned (.tuple #[.agg #[.int .i64 zero.a, .int .i64 zero.b, .int .i64 zero.c, .int .i64 zero.d, .int .i64 zero.n], .int .i64 3]) ∧ Below w.heap.size w w' := by
  have hx' := hx
  have hg := g_pos x hx.n.1
  obtain ⟨⟨ha1, ha2⟩, ⟨hb1, hb2⟩, ⟨hc1, hc2⟩, ⟨hd1, hd2⟩, hn1, hn2⟩ := hx
  rw [← low_n] at hl
  have hg1 : (1 : Int) ≤ (g x : Int) := by omega
  go_enter Tryz.func111, Tryz.ntmps111
  go_wp2_with (go_at_call 108; refine (common_any _ _ hx').mono ?_; rintro e w1 ⟨rfl, hw1⟩; have hc := Tail.cells hw1; have hz := hw1.size)
  refine bodyPost_ret (v := .tuple #[.agg #[.int .i64 zero.a, .int .i64 zero.b, .int .i64 zero.c, .int .i64 zero.d, .int .i64 zero.n], .int .i64 3]) ?_ rfl ⟨rfl, ?_⟩
  · simp [results, Tryz.results111, go_sem, zero, hc]
  · repeat (first | exact Below.refl _ _ | refine Below.setCell ?_ (by simp) _ | refine Below.trans ?_ (Below.mono hw1 (by simp; try omega)) | refine Below.alloc ?_ (by simp) _)

theorem low_range (x : Q) : (-(x.a.natAbs : Int) ≤ (low x).a ∧ (low x).a ≤ x.a.natAbs) ∧ (-(x.b.natAbs : Int) ≤ (low x).b ∧ (low x).b ≤ x.b.natAbs) ∧ (-(x.c.natAbs : Int) ≤ (low x).c ∧ (low x).c ≤ x.c.natAbs) ∧ (-(x.d.natAbs : Int) ≤ (low x).d ∧ (low x).d ≤ x.d.natAbs) := by
  have hp := low_parts x
  have key : ∀ p : Int, -(p.natAbs : Int) ≤ p.tdiv (g x) ∧ p.tdiv (g x) ≤ p.natAbs := by
    intro p
    have h1 : (p.tdiv (g x)).natAbs ≤ p.natAbs := by rw [Int.natAbs_tdiv]; exact Nat.div_le_self _ _
    omega
  rw [← hp.1, ← hp.2.1, ← hp.2.2.1, ← hp.2.2.2]
  exact ⟨key _, key _, key _, key _⟩
theorem low_in (x : Q) {m : Int} (h : In x m) : In (low x) m := by
  have hr := low_range x
  have hn := low_pos x h.n.1
  have hl := low_le x h.n.1
  have ha := h.a; have hb := h.b; have hc := h.c; have hd := h.d; have hm := h.n
  exact ⟨by omega, by omega, by omega, by omega, by omega⟩
theorem low_wraps (x : Q) (h : In x 4611686018427387904) : IntKind.i64.wrap (x.a.tdiv (g x)) = (low x).a ∧ IntKind.i64.wrap (x.b.tdiv (g x)) = (low x).b ∧ IntKind.i64.wrap (x.c.tdiv (g x)) = (low x).c ∧ IntKind.i64.wrap (x.d.tdiv (g x)) = (low x).d ∧ IntKind.i64.wrap (x.n.tdiv (g x)) = (low x).n := by
  have hl := low_in x h
  have hp := low_parts x
  have hn : x.n.tdiv (g x) = (low x).n := Int.tdiv_eq_ediv_of_dvd (g_dvd x).2.2.2.2
  obtain ⟨⟨ha1, ha2⟩, ⟨hb1, hb2⟩, ⟨hc1, hc2⟩, ⟨hd1, hd2⟩, hn1, hn2⟩ := hl
  rw [hp.1, hp.2.1, hp.2.2.1, hp.2.2.2, hn]
  exact ⟨IntWalk.i64_in _ (by omega), IntWalk.i64_in _ (by omega), IntWalk.i64_in _ (by omega), IntWalk.i64_in _ (by omega), IntWalk.i64_in _ (by omega)⟩

set_option maxHeartbeats 800000 in
theorem unit_ok (x : Q) (w : World) (hx : In x 4611686018427387904) (hl : (low x).n ≤ 1048576) :
    Calls Tryz.prog 111 #[.agg #[.int .i64 x.b, .int .i64 x.c, .int .i64 x.d, .int .i64 x.a, .int .i64 x.n]] w fun e w' => e = .returned (.tuple #[.agg #[.int .i64 (low x).a, .int .i64 (low x).b, .int .i64 (low x).c, .int .i64 (low x).d, .int .i64 (low x).n], .int .i64 0]) ∧ Below w.heap.size w w' := by
  have hx' := hx
  have hg := g_pos x hx.n.1
  obtain ⟨⟨ha1, ha2⟩, ⟨hb1, hb2⟩, ⟨hc1, hc2⟩, ⟨hd1, hd2⟩, hn1, hn2⟩ := hx
  have hln := hl
  rw [← low_n] at hl
  have hl' : ¬ 1048576 < x.n / (g x : Int) := by omega
  have hg1 : (1 : Int) ≤ (g x : Int) := by omega
  have hg0 : ((g x : Int) == 0) = false := by simp; omega
  have hgn : ¬ g x = 0 := by omega
  obtain ⟨wa, wb, wc, wd, wn⟩ := low_wraps x hx'
  have kc := @Tail.cell_re
  go_enter Tryz.func111, Tryz.ntmps111
  go_wp2_with (go_at_call 108; refine (common_any _ _ hx').mono ?_; rintro e w1 ⟨rfl, hw1⟩; have hc := Tail.cells hw1; have hz1 := Nat.lt_of_lt_of_le (n := w.heap.size) (by simp <;> omega) hw1.size; have hz2 := Nat.lt_of_lt_of_le (n := w.heap.size + 1) (by simp <;> omega) hw1.size)
  refine Tail.region_tail_below 24 (by kernel_rfl) (by kernel_rfl) ?_
  simp only [List.take_succ_cons, List.take_zero, List.drop_succ_cons, List.drop_zero]
  repeat (quiet_step (fail))
  refine wpQuiet_nil ?_
  intro w2 hw2
  have hc2 := Tail.cells hw2
  go_wp2
  refine bodyPost_ret (v := .tuple #[.agg #[.int .i64 (low x).a, .int .i64 (low x).b, .int .i64 (low x).c, .int .i64 (low x).d, .int .i64 (low x).n], .int .i64 0]) ?_ rfl ⟨rfl, ?_⟩
  · simp [results, Tryz.results111, go_sem, hc, hc2, hz2]
  · repeat (first | exact Below.refl _ _ | refine Below.setCell ?_ (by simp) _ | refine Below.trans ?_ (Below.mono hw2 (by omega)) | refine Below.trans ?_ (Below.mono hw1 (by simp; try omega)) | refine Below.alloc ?_ (by simp) _)

end Go.Proofs.YtpfhjdmgkckjfaaGreatDoor

/- Rational numbers in lowest terms, as the program and the document's answers make them.
Conditions: the bounds written at each theorem. -/
namespace Go.Proofs.YtpfhjdmgkckjfaaGreatDoor
set_option linter.unusedVariables false
set_option linter.unusedSimpArgs false
open Go.RowKit
open Um

theorem gc_comm (m n : Int) : gc m n = gc n m := by unfold gc; rw [Nat.gcd_comm]
theorem gc_pos (m n : Int) (h : 0 < n) : 0 < gc m n := gcd_pos m n h
theorem rat_tdiv (x y : Int) : x.tdiv (gc x y) = (rat x y).1 ∧ y.tdiv (gc x y) = (rat x y).2 := by
  have h1 : gc x y ∣ x := Int.ofNat_dvd_left.2 (Nat.gcd_dvd_left _ _)
  have h2 : gc x y ∣ y := Int.ofNat_dvd_left.2 (Nat.gcd_dvd_right _ _)
  exact ⟨Int.tdiv_eq_ediv_of_dvd h1, Int.tdiv_eq_ediv_of_dvd h2⟩
theorem tdiv_abs (p k : Int) : -(p.natAbs : Int) ≤ p.tdiv k ∧ p.tdiv k ≤ p.natAbs := by
  have h1 : (p.tdiv k).natAbs ≤ p.natAbs := by rw [Int.natAbs_tdiv]; exact Nat.div_le_self _ _
  omega
theorem rat_wraps (x y : Int) (hx : -4611686018427387904 ≤ x ∧ x ≤ 4611686018427387904) (hy : 0 < y ∧ y ≤ 4611686018427387904) : IntKind.i64.wrap (x.tdiv (gc x y)) = (rat x y).1 ∧ IntKind.i64.wrap (y.tdiv (gc x y)) = (rat x y).2 := by
  have h := rat_tdiv x y
  have t1 := tdiv_abs x (gc x y)
  have t2 := tdiv_abs y (gc x y)
  rw [← h.1, ← h.2]
  exact ⟨IntWalk.i64_in _ (by omega), IntWalk.i64_in _ (by omega)⟩

set_option maxHeartbeats 800000 in
theorem ratio_any (x y : Int) (w : World) (hx : -4611686018427387904 ≤ x ∧ x ≤ 4611686018427387904) (hy : 0 < y ∧ y ≤ 4611686018427387904) :
    Calls Tryz.prog 152 #[.int .i64 x, .int .i64 y] w fun e w' => e = .returned (.agg #[.int .i64 (rat x y).1, .int .i64 (rat x y).2]) ∧ Below w.heap.size w w' := by
  obtain ⟨w1, w2⟩ := rat_wraps x y hx hy
  have hg := gc_pos x y hy.1
  have hg0 : ¬ gc x y = 0 := by omega
  have hd := fun W : World => divisor_any y x W (by omega) hx
  rw [gc_comm y x] at hd
  obtain ⟨hx1, hx2⟩ := hx
  obtain ⟨hy1, hy2⟩ := hy
  have kc := @Tail.cell_re
  go_enter Tryz.func152, Tryz.ntmps152
  go_wp2_with (go_at_call 137; refine (hd _).mono ?_; rintro e w1 ⟨rfl, hw1⟩; have hc := Tail.cells hw1; have hz1 := Nat.lt_of_lt_of_le (n := w.heap.size) (by simp <;> omega) hw1.size)
  refine Tail.region_tail_below 7 (by kernel_rfl) (by kernel_rfl) ?_
  simp only [List.take_succ_cons, List.take_zero, List.drop_succ_cons, List.drop_zero]
  repeat (quiet_step (fail))
  refine wpQuiet_nil ?_
  intro w2 hw2
  have hc2 := Tail.cells hw2
  go_wp2
  refine bodyPost_ret (v := .agg #[.int .i64 (rat x y).1, .int .i64 (rat x y).2]) ?_ rfl ⟨rfl, ?_⟩
  · simp [results, Tryz.results152, go_sem, hc, hc2, hz1]
  · repeat (first | exact Below.refl _ _ | refine Below.setCell ?_ (by simp) _ | refine Below.trans ?_ (Below.mono hw2 (by omega)) | refine Below.trans ?_ (Below.mono hw1 (by simp; try omega)) | refine Below.alloc ?_ (by simp) _)

end Go.Proofs.YtpfhjdmgkckjfaaGreatDoor

/- Lowest terms, as the document's answers make them.
Conditions: the bounds written at each theorem. -/
namespace Go.Proofs.YtpfhjdmgkckjfaaGreatDoor
set_option linter.unusedVariables false
set_option linter.unusedSimpArgs false
open Go.RowKit
open Um

end Go.Proofs.YtpfhjdmgkckjfaaGreatDoor

/- Products of two quaternions, not in lowest terms, as the program and the document's answers make them.
Conditions: the bounds written at each theorem. -/
namespace Go.Proofs.YtpfhjdmgkckjfaaGreatDoor
set_option linter.unusedVariables false
set_option linter.unusedSimpArgs false
open Go.RowKit
open Um

theorem mul_bnd {a b X Y : Int} (hX : 0 ≤ X) (ha : -X ≤ a ∧ a ≤ X) (hb : -Y ≤ b ∧ b ≤ Y) : -(X * Y) ≤ a * b ∧ a * b ≤ X * Y := by
  have h1 : (a * b).natAbs ≤ X.natAbs * Y.natAbs := by
    rw [Int.natAbs_mul]
    exact Nat.mul_le_mul (by omega) (by omega)
  have h2 : ((X.natAbs * Y.natAbs : Nat) : Int) = X * Y := by
    rw [Int.natCast_mul, Int.natAbs_of_nonneg (by omega), Int.natAbs_of_nonneg (by omega)]
  omega

/-- Bounds of the parts bound the products. -/
theorem Small2.of {x y : Q} {X Y : Int} (hX : 0 ≤ X) (h : X * Y ≤ 1152921504606846976) (hx : ∀ p : Int, (p = x.a ∨ p = x.b ∨ p = x.c ∨ p = x.d ∨ p = x.n) → -X ≤ p ∧ p ≤ X) (hy : ∀ q : Int, (q = y.a ∨ q = y.b ∨ q = y.c ∨ q = y.d ∨ q = y.n) → -Y ≤ q ∧ q ≤ Y) : Small2 x y := by
  refine ⟨fun p q hp hq => ?_⟩
  have := mul_bnd hX (hx p hp) (hy q hq)
  omega

end Go.Proofs.YtpfhjdmgkckjfaaGreatDoor

/- Products of two quaternions as the program makes them: vectors scaled, added and crossed.
Conditions: the bounds written at each theorem. -/
namespace Go.Proofs.YtpfhjdmgkckjfaaGreatDoor
set_option linter.unusedVariables false
set_option linter.unusedSimpArgs false
open Go.RowKit
open Um

set_option maxRecDepth 100000 in
set_option maxHeartbeats 1600000 in
theorem times_any (x y : Q) (w : World) (h : Small2 x y) : Calls Tryz.prog 110 #[.agg #[.int .i64 x.b, .int .i64 x.c, .int .i64 x.d, .int .i64 x.a, .int .i64 x.n], .agg #[.int .i64 y.b, .int .i64 y.c, .int .i64 y.d, .int .i64 y.a, .int .i64 y.n]] w fun e w' => e = .returned (.agg #[.int .i64 (mul x y).b, .int .i64 (mul x y).c, .int .i64 (mul x y).d, .int .i64 (mul x y).a, .int .i64 (mul x y).n]) ∧ Below w.heap.size w w' := by
  have aa := h.h x.a y.a (by simp) (by simp)
  have ab := h.h x.a y.b (by simp) (by simp)
  have ac := h.h x.a y.c (by simp) (by simp)
  have ad := h.h x.a y.d (by simp) (by simp)
  have ba := h.h x.b y.a (by simp) (by simp)
  have bb := h.h x.b y.b (by simp) (by simp)
  have bc := h.h x.b y.c (by simp) (by simp)
  have bd := h.h x.b y.d (by simp) (by simp)
  have ca := h.h x.c y.a (by simp) (by simp)
  have cb := h.h x.c y.b (by simp) (by simp)
  have cc := h.h x.c y.c (by simp) (by simp)
  have cd := h.h x.c y.d (by simp) (by simp)
  have da := h.h x.d y.a (by simp) (by simp)
  have db := h.h x.d y.b (by simp) (by simp)
  have dc := h.h x.d y.c (by simp) (by simp)
  have dd := h.h x.d y.d (by simp) (by simp)
  have nn := h.h x.n y.n (by simp) (by simp)
  rw [Int.mul_comm] at ba ca da
  have e1 : x.a * y.b + y.a * x.b + (x.c * y.d - x.d * y.c) = (mul x y).b := by simp only [mul]; grind
  have e2 : x.a * y.c + y.a * x.c + (x.d * y.b - x.b * y.d) = (mul x y).c := by simp only [mul]; grind
  have e3 : x.a * y.d + y.a * x.d + (x.b * y.c - x.c * y.b) = (mul x y).d := by simp only [mul]; grind
  have e4 : x.a * y.a - (x.b * y.b + x.c * y.c + x.d * y.d) = (mul x y).a := by simp only [mul]; grind
  have s1 := fun W : World => scaled_any y x.a W ab ac ad
  have s2 := fun W : World => scaled_any x y.a W ba ca da
  have p1 := fun W : World => plus_any (x.a * y.b) (x.a * y.c) (x.a * y.d) (y.a * x.b) (y.a * x.c) (y.a * x.d) W (by omega) (by omega) (by omega)
  have c1 := fun W : World => cross_any x y W h
  have d1 := fun W : World => dot_any x y W h
  have p2 := fun W : World => plus_any (x.a * y.b + y.a * x.b) (x.a * y.c + y.a * x.c) (x.a * y.d + y.a * x.d) (x.c * y.d - x.d * y.c) (x.d * y.b - x.b * y.d) (x.b * y.c - x.c * y.b) W (by omega) (by omega) (by omega)
  rw [e1, e2, e3] at p2
  have wa : IntKind.i64.wrap (x.a * y.a) = x.a * y.a := IntWalk.i64_in _ (by omega)
  have wn : IntKind.i64.wrap (x.n * y.n) = (mul x y).n := IntWalk.i64_in _ (by omega)
  have wd : IntKind.i64.wrap (x.a * y.a - (x.b * y.b + x.c * y.c + x.d * y.d)) = (mul x y).a := (IntWalk.i64_in _ (by omega)).trans e4
  clear aa ab ac ad ba bb bc bd ca cb cc cd da db dc dd nn e1 e2 e3 e4
  have kc := @Tail.cell_re
  go_enter Tryz.func110, Tryz.ntmps110
  go_wp2
  refine Tail.region_tail_below 34 (by kernel_rfl) (by kernel_rfl) ?_
  simp only [List.take_succ_cons, List.take_zero, List.drop_succ_cons, List.drop_zero]
  repeat (quiet_step (first | (with_reducible exact Calls.regrown_of (s1 _)) | (with_reducible exact Calls.regrown_of (s2 _)) | (with_reducible exact Calls.regrown_of (p1 _)) | (with_reducible exact Calls.regrown_of (c1 _)) | (with_reducible exact Calls.regrown_of (d1 _)) | (with_reducible exact Calls.regrown_of (p2 _))))
  refine wpQuiet_nil ?_
  intro w2 hw2
  have hc2 := Tail.cells hw2
  go_wp2
  refine bodyPost_ret (v := .agg #[.int .i64 (mul x y).b, .int .i64 (mul x y).c, .int .i64 (mul x y).d, .int .i64 (mul x y).a, .int .i64 (mul x y).n]) ?_ rfl ⟨rfl, ?_⟩
  · simp [results, Tryz.results110, go_sem, hc2]
  · repeat (first | (with_reducible exact Below.refl _ _) | (with_reducible refine Below.setCell ?_ ?_ _) | (with_reducible refine Below.drew ?_) | (with_reducible refine Below.alloc ?_ ?_ _) | (with_reducible refine Below.trans ?_ (Below.mono hw2 ?_)) | (with_reducible exact hw2.size) | omega | (simp <;> omega) | (simp <;> (have s := hw2.size; omega)) | (have s0 := hw2.size; (try simp at s0); (try simp); omega))
end Go.Proofs.YtpfhjdmgkckjfaaGreatDoor
