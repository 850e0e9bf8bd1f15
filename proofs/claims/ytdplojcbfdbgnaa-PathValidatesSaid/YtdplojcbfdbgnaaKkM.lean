/- Plain mathematics of momenta: centered numbers, turners, opposites, which changes a draw accepts; no Go.
Conditions: none. -/
import Derived.Test.YtdplojcbfdbgnaaChM
set_option autoImplicit false
namespace Km
set_option linter.unusedVariables false
set_option linter.unusedSimpArgs false
open Um
/-- the three numbers of a momentum -/
structure Kk where
  a : Int
  b : Int
  c : Int
deriving DecidableEq
def IsN (n : Int) : Prop := 0 ≤ n ∧ n ≤ 7
instance (n : Int) : Decidable (IsN n) := by unfold IsN; infer_instance
def IsK (k : Kk) : Prop := IsN k.a ∧ IsN k.b ∧ IsN k.c
instance (k : Kk) : Decidable (IsK k) := by unfold IsK; infer_instance
/-- a number, centered -/
def ctr (n : Int) : Int := if 4 < n % 8 then n % 8 - 8 else n % 8
/-- plus, minus or none -/
def sd (n : Int) : Int := if ctr n < 0 then -1 else if ctr n = 0 ∨ ctr n = 4 then 0 else 1
def turn (k : Kk) : Q := if sd k.a ≠ 0 ∧ sd k.b ≠ 0 ∧ sd k.c ≠ 0 then ⟨1, sd k.a, sd k.b, sd k.c, 2⟩ else if sd k.a ≠ 0 then ⟨0, sd k.a, 0, 0, 1⟩ else if sd k.b ≠ 0 then ⟨0, 0, sd k.b, 0, 1⟩ else if sd k.c ≠ 0 then ⟨0, 0, 0, sd k.c, 1⟩ else ⟨1, 0, 0, 0, 1⟩
/-- the number of the opposite -/
def oppN (n : Int) : Int := (8 - n) % 8
def opp (k : Kk) : Kk := ⟨oppN k.a, oppN k.b, oppN k.c⟩
theorem isN_cases {n : Int} (h : IsN n) : n = 0 ∨ n = 1 ∨ n = 2 ∨ n = 3 ∨ n = 4 ∨ n = 5 ∨ n = 6 ∨ n = 7 := by
  obtain ⟨h1, h2⟩ := h; omega
theorem isN_nat {n : Int} (h : IsN n) : ∃ k : Nat, k < 8 ∧ n = k := by
  obtain ⟨k, rfl⟩ := Int.eq_ofNat_of_zero_le h.1
  exact ⟨k, by have := h.2; omega, rfl⟩
theorem oppN_rng {n : Int} (h : IsN n) : IsN (oppN n) := by unfold oppN IsN; omega
theorem oppN_opp {n : Int} (h : IsN n) : oppN (oppN n) = n := by obtain ⟨h1, h2⟩ := h; unfold oppN; omega
theorem oppN_neg (n : Int) : (-n) % 8 = oppN n := by unfold oppN; omega
theorem opp_isK {k : Kk} (h : IsK k) : IsK (opp k) := ⟨oppN_rng h.1, oppN_rng h.2.1, oppN_rng h.2.2⟩
theorem opp_opp {k : Kk} (h : IsK k) : opp (opp k) = k := by
  cases k; simp only [opp, Kk.mk.injEq]; exact ⟨oppN_opp h.1, oppN_opp h.2.1, oppN_opp h.2.2⟩
theorem sd_vals (n : Int) : sd n = 0 ∨ sd n = 1 ∨ sd n = -1 := by
  unfold sd; split
  · exact .inr (.inr rfl)
  · split
    · exact .inl rfl
    · exact .inr (.inl rfl)
theorem ctr_opp {n : Int} (h : IsN n) : ctr (oppN n) * ctr (oppN n) = ctr n * ctr n := by
  rcases isN_cases h with rfl | rfl | rfl | rfl | rfl | rfl | rfl | rfl <;> decide
theorem turn_bar : ∀ a : Nat, a < 8 → ∀ b : Nat, b < 8 → ∀ c : Nat, c < 8 → turn (opp ⟨a, b, c⟩) = bar (turn ⟨a, b, c⟩) ∧ g (turn ⟨a, b, c⟩) = 1 ∧ ∃ j : Nat, j < 24 ∧ small j = turn ⟨a, b, c⟩ := by decide +kernel
/-- a draw that accepts a change accepts the smaller ones -/
def acc (ch d : Int) : Bool := decide (ch ≤ 0) || (decide (ch ≤ 30) && decide (d % 2 ^ ch.toNat = 0))
theorem acc_less {ch d l : Int} (h : acc ch d = true) (hl : l ≤ ch) : acc l d = true := by
  unfold acc at *
  by_cases h0 : l ≤ 0
  · simp [h0]
  · have h1 : ¬ ch ≤ 0 := by omega
    simp only [h1, decide_false, Bool.false_or, Bool.and_eq_true, decide_eq_true_eq] at h
    obtain ⟨h2, h3⟩ := h
    simp only [h0, decide_false, Bool.false_or, Bool.and_eq_true, decide_eq_true_eq]
    refine ⟨by omega, ?_⟩
    obtain ⟨m, hm⟩ : ∃ m : Nat, ch.toNat = l.toNat + m := ⟨ch.toNat - l.toNat, by omega⟩
    rw [hm, Int.pow_add] at h3
    have hd : (2 : Int) ^ l.toNat * 2 ^ m ∣ d := Int.dvd_of_emod_eq_zero h3
    exact Int.emod_eq_zero_of_dvd (Int.dvd_trans (Int.dvd_mul_right _ _) hd)
open Cm in
/-- the seed behind k draws -/
def adm (s : Int) : Nat → Int
  | 0 => s
  | k + 1 => Cm.adv (adm s k)
theorem adm_seed {s : Int} (h : Cm.IsSeed s) : ∀ k, Cm.IsSeed (adm s k)
  | 0 => h
  | k + 1 => Cm.adv_seed (adm_seed h k)
/-- the numbers of the momenta that are drawn, one behind another -/
def dr (s : Int) (k : Nat) : Int := Cm.drw (adm s k) 8
def moms (s : Int) : Nat → List Int
  | 0 => []
  | k + 1 => moms s k ++ [dr s k]
theorem moms_len (s : Int) : ∀ k, (moms s k).length = k
  | 0 => rfl
  | k + 1 => by simp [moms, moms_len s k]
theorem moms_set (s : Int) (k r : Nat) : (moms s k ++ List.replicate (r + 1) 0).set k (dr s k) = moms s (k + 1) ++ List.replicate r 0 := by
  rw [List.set_append_right _ _ (by rw [moms_len]; exact Nat.le_refl k), moms_len, Nat.sub_self, List.replicate_succ, List.set_cons_zero, moms, List.append_assoc]
  rfl
end Km
