/- Plain mathematics of seeds and draws: the next seed, leaps, and what sorting and leaving out equal neighbours make of integers; no Go.
Conditions: none. -/
import Derived.Test.YtdplojcbfdbgnaaMathA
set_option autoImplicit false
namespace Cm
set_option linter.unusedVariables false
set_option linter.unusedSimpArgs false
def P : Int := 2147483647
/-- the next seed -/
def nxt (s : Int) : Int := s * 48271 % 2147483647
def IsSeed (s : Int) : Prop := 1 ≤ s ∧ s ≤ 2147483646
theorem nxt_rng (s : Int) : 0 ≤ nxt s ∧ nxt s ≤ 2147483646 := by unfold nxt; omega
theorem nxt_seed {s : Int} (h : IsSeed s) : IsSeed (nxt s) := by
  obtain ⟨h1, h2⟩ := h
  obtain ⟨r1, r2⟩ := nxt_rng s
  refine ⟨?_, r2⟩
  rcases Int.lt_or_eq_of_le r1 with h | h
  · omega
  · exfalso
    unfold nxt at h
    have hd : (2147483647 : Int) ∣ s * 48271 := Int.dvd_of_emod_eq_zero h.symm
    obtain ⟨n, rfl⟩ := Int.eq_ofNat_of_zero_le (show 0 ≤ s by omega)
    have hd' : 2147483647 ∣ n * 48271 := by
      have : ((2147483647 : Nat) : Int) ∣ ((n * 48271 : Nat) : Int) := by simpa using hd
      exact Int.natCast_dvd_natCast.1 this
    have hc : Nat.Coprime 2147483647 48271 := by decide
    have := hc.dvd_of_dvd_mul_right hd'
    have := Nat.le_of_dvd (by omega) this
    omega
/-- a draw among n -/
def drw (s n : Int) : Int := ((nxt s - 1) * 2147483646 + (nxt (nxt s) - 1)) % n
def adv (s : Int) : Int := nxt (nxt s)
theorem drw_rng {s n : Int} (hn : 1 ≤ n) : 0 ≤ drw s n ∧ drw s n < n := ⟨Int.emod_nonneg _ (by omega), Int.emod_lt_of_pos _ (by omega)⟩
theorem adv_seed {s : Int} (h : IsSeed s) : IsSeed (adv s) := nxt_seed (nxt_seed h)
theorem draw_bnd {s : Int} (h : IsSeed s) : 0 ≤ nxt s - 1 ∧ nxt s - 1 ≤ 2147483645 ∧ 0 ≤ nxt (nxt s) - 1 ∧ nxt (nxt s) - 1 ≤ 2147483645 ∧ 0 ≤ (nxt s - 1) * 2147483646 ∧ (nxt s - 1) * 2147483646 ≤ 4611686011984936670 := by
  obtain ⟨h1, h2⟩ := nxt_seed h
  obtain ⟨h3, h4⟩ := nxt_seed (nxt_seed h)
  omega
/-- the seed behind many steps -/
def leap (s : Int) (n : Nat) : Int := s * 48271 ^ n % 2147483647
theorem leap_add (s : Int) (n m : Nat) : leap (leap s n) m = leap s (n + m) := by
  unfold leap
  rw [Int.mul_emod, Int.emod_emod, ← Int.mul_emod, Int.mul_assoc, ← Int.pow_add]
/-- what holds while a leap is made: t steps of the factor f are left -/
def lp (s : Int) (n : Nat) (t f : Int) (k : Nat) : Prop := t * f ^ k % 2147483647 = leap s n ∧ 0 ≤ t ∧ t ≤ 2147483646 ∧ 0 ≤ f ∧ f ≤ 2147483646
theorem lp_start {s : Int} (n : Nat) (h : IsSeed s) : lp s n s 48271 n := ⟨rfl, by have := h.1; omega, h.2, by omega, by omega⟩
theorem lp_end {s : Int} {n : Nat} {t f : Int} (h : lp s n t f 0) : t = leap s n := by
  obtain ⟨h, h1, h2, -⟩ := h
  rw [Int.pow_zero, Int.mul_one, Int.emod_eq_of_lt h1 (by omega)] at h
  exact h
theorem pow_emod (f : Int) (k : Nat) : (f % 2147483647) ^ k % 2147483647 = f ^ k % 2147483647 := by
  induction k with
  | zero => rw [Int.pow_zero, Int.pow_zero]
  | succ k ih => rw [Int.pow_succ, Int.pow_succ, Int.mul_emod, ih, Int.emod_emod, ← Int.mul_emod]
theorem lp_odd {s : Int} {n : Nat} {t f : Int} {k : Nat} (h : lp s n t f (2 * k + 1)) : lp s n (t * f % 2147483647) (f * f % 2147483647) k := by
  obtain ⟨h, h1, h2, h3, h4⟩ := h
  refine ⟨?_, Int.emod_nonneg _ (by omega), by omega, Int.emod_nonneg _ (by omega), by omega⟩
  rw [Int.mul_emod, Int.emod_emod, pow_emod, ← Int.mul_emod, ← h]
  congr 1
  rw [Int.pow_succ, Int.pow_mul, show f ^ 2 = f * f by rw [Int.pow_succ, Int.pow_succ, Int.pow_zero, Int.one_mul], Int.mul_assoc, Int.mul_comm f]
theorem lp_even {s : Int} {n : Nat} {t f : Int} {k : Nat} (h : lp s n t f (2 * k)) : lp s n t (f * f % 2147483647) k := by
  obtain ⟨h, h1, h2, h3, h4⟩ := h
  refine ⟨?_, h1, h2, Int.emod_nonneg _ (by omega), by omega⟩
  rw [Int.mul_emod, pow_emod, ← Int.mul_emod, ← h, Int.pow_mul, show f ^ 2 = f * f by rw [Int.pow_succ, Int.pow_succ, Int.pow_zero, Int.one_mul]]
theorem lp_mul {a b : Int} (h1 : 0 ≤ a) (h2 : a ≤ 2147483646) (h3 : 0 ≤ b) (h4 : b ≤ 2147483646) : 0 ≤ a * b ∧ a * b ≤ 4611686014132420000 := by
  refine ⟨Int.mul_nonneg h1 h3, ?_⟩
  calc a * b ≤ 2147483646 * b := Int.mul_le_mul_of_nonneg_right h2 h3
    _ ≤ 2147483646 * 2147483646 := Int.mul_le_mul_of_nonneg_left h4 (by omega)
    _ ≤ _ := by omega
def ins (x : Int) : List Int → List Int
  | [] => [x]
  | y :: ys => if x ≤ y then x :: y :: ys else y :: ins x ys
def isort : List Int → List Int
  | [] => []
  | x :: xs => ins x (isort xs)
theorem ins_perm (x : Int) (l : List Int) : (ins x l).Perm (x :: l) := by
  induction l with
  | nil => exact List.Perm.refl _
  | cons y ys ih =>
    unfold ins
    split
    · exact List.Perm.refl _
    · exact (ih.cons y).trans (List.Perm.swap x y ys)
theorem isort_perm (l : List Int) : (isort l).Perm l := by
  induction l with
  | nil => exact List.Perm.refl _
  | cons x xs ih => exact (ins_perm x _).trans (ih.cons x)
theorem ins_sorted (x : Int) (l : List Int) (h : List.Pairwise (· ≤ ·) l) : List.Pairwise (· ≤ ·) (ins x l) := by
  induction l with
  | nil => simp [ins]
  | cons y ys ih =>
    unfold ins
    have h1 := List.pairwise_cons.1 h
    split
    · rename_i hxy
      refine List.pairwise_cons.2 ⟨fun z hz => ?_, h⟩
      rcases List.mem_cons.1 hz with rfl | hz
      · exact hxy
      · have := h1.1 z hz; omega
    · refine List.pairwise_cons.2 ⟨fun z hz => ?_, ih h1.2⟩
      have := (ins_perm x ys).mem_iff.1 hz
      rcases List.mem_cons.1 this with rfl | hz
      · omega
      · exact h1.1 z hz
theorem isort_sorted (l : List Int) : List.Pairwise (· ≤ ·) (isort l) := by
  induction l with
  | nil => simp [isort]
  | cons x xs ih => exact ins_sorted x _ ih
theorem merge_isort (l : List Int) : l.mergeSort (fun x y => decide (x ≤ y)) = isort l := by
  refine List.Perm.eq_of_pairwise (le := (· ≤ ·)) (fun a b _ _ h k => by omega) ?_ (isort_sorted l) ((List.mergeSort_perm l _).trans (isort_perm l).symm)
  have := List.pairwise_mergeSort (le := fun x y : Int => decide (x ≤ y)) (fun a b c h k => by simp at *; omega) (fun a b => by simp; omega) l
  exact this.imp (fun h => by simpa using h)
end Cm
