/- Plain mathematics of sites, places and steps; no Go.
Conditions: none. -/
import Derived.Test.YtoafojojhdcmfaaMath
set_option autoImplicit false
namespace Tm
set_option linter.unusedVariables false
set_option linter.unusedSimpArgs false

/-- sizes that are allowed -/
structure Sz (a b c : Int) : Prop where
  a1 : 1 ≤ a
  a4 : a ≤ 4
  b1 : 1 ≤ b
  b4 : b ≤ 4
  c1 : 1 ≤ c
  c4 : c ≤ 4
  p : a * b * c ≤ 16

theorem four {a : Int} (h1 : 1 ≤ a) (h4 : a ≤ 4) : a = 1 ∨ a = 2 ∨ a = 3 ∨ a = 4 := by omega
theorem mul_rng {a b c : Int} (a1 : 1 ≤ a) (a4 : a ≤ 4) (b1 : 1 ≤ b) (b4 : b ≤ 4) (c1 : 1 ≤ c) (c4 : c ≤ 4) : 1 ≤ a * b ∧ a * b ≤ 16 ∧ 1 ≤ a * b * c ∧ a * b * c ≤ 64 := by
  rcases four a1 a4 with rfl | rfl | rfl | rfl <;> rcases four b1 b4 with rfl | rfl | rfl | rfl <;> rcases four c1 c4 with rfl | rfl | rfl | rfl <;> decide

/-- the remainder that the code makes -/
theorem rem_cases (x n : Int) (hn : 1 ≤ n) : (0 ≤ x.tmod n ∧ x.tmod n = x % n) ∨ (x.tmod n < 0 ∧ x.tmod n + n = x % n) := by
  have h := @Int.tmod_eq_emod x n
  have h1 := Int.emod_nonneg x (show n ≠ 0 by omega)
  have h2 := Int.emod_lt_of_pos x (show 0 < n by omega)
  by_cases hc : 0 ≤ x ∨ n ∣ x
  · rw [if_pos hc] at h
    left
    rw [h]
    simp
    exact h1
  · rw [if_neg hc] at h
    right
    have e : ((n.natAbs : Nat) : Int) = n := by omega
    rw [e] at h
    omega
theorem rem_bnd (x n : Int) (hn : 1 ≤ n) : -n < x.tmod n ∧ x.tmod n < n := by
  have h : (x.tmod n).natAbs < n.natAbs := by rw [Int.natAbs_tmod]; exact Nat.mod_lt _ (by omega)
  omega
theorem rem_twice (x n : Int) (hn : 1 ≤ n) : (x.tmod n + n) % n = x % n := by
  rcases rem_cases x n hn with h | h
  · rw [h.2, Int.add_emod_right, Int.emod_emod]
  · rw [h.2, Int.emod_emod]

/-- the site with a place -/
def site (a b c x y z : Int) : Int := x % a + a * (y % b + b * (z % c))

theorem site_rng {a b c : Int} (h : Sz a b c) (x y z : Int) : 0 ≤ site a b c x y z ∧ site a b c x y z < a * b * c := by
  obtain ⟨a1, a4, b1, b4, c1, c4, -⟩ := h
  unfold site
  rcases four a1 a4 with rfl | rfl | rfl | rfl <;> rcases four b1 b4 with rfl | rfl | rfl | rfl <;> rcases four c1 c4 with rfl | rfl | rfl | rfl <;> omega
theorem px_site {a b c : Int} (h : Sz a b c) (x y z : Int) : site a b c x y z % a = x % a := by
  unfold site
  rw [Int.add_mul_emod_self_left, Int.emod_emod]
theorem q_site {a b c : Int} (h : Sz a b c) (x y z : Int) : site a b c x y z / a = y % b + b * (z % c) := by
  unfold site
  have h1 := Int.emod_nonneg x (show a ≠ 0 by have := h.a1; omega)
  have h2 := Int.emod_lt_of_pos x (show 0 < a by have := h.a1; omega)
  rw [Int.add_mul_ediv_left _ _ (show a ≠ 0 by have := h.a1; omega), Int.ediv_eq_zero_of_lt h1 h2, Int.zero_add]
theorem py_site {a b c : Int} (h : Sz a b c) (x y z : Int) : site a b c x y z / a % b = y % b := by
  rw [q_site h, Int.add_mul_emod_self_left, Int.emod_emod]
theorem pz_site {a b c : Int} (h : Sz a b c) (x y z : Int) : site a b c x y z / a / b = z % c := by
  have h1 := Int.emod_nonneg y (show b ≠ 0 by have := h.b1; omega)
  have h2 := Int.emod_lt_of_pos y (show 0 < b by have := h.b1; omega)
  rw [q_site h, Int.add_mul_ediv_left _ _ (show b ≠ 0 by have := h.b1; omega), Int.ediv_eq_zero_of_lt h1 h2, Int.zero_add]
theorem site_add (a b c x y z u v t : Int) : site a b c (x % a + u) (y % b + v) (z % c + t) = site a b c (x + u) (y + v) (z + t) := by
  unfold site
  rw [Int.emod_add_emod, Int.emod_add_emod, Int.emod_add_emod]
theorem pz_rng {a b c s : Int} (h : Sz a b c) (h0 : 0 ≤ s) (h1 : s < a * b * c) : 0 ≤ s / a / b ∧ s / a / b < c := by
  obtain ⟨a1, a4, b1, b4, c1, c4, -⟩ := h
  rcases four a1 a4 with rfl | rfl | rfl | rfl <;> rcases four b1 b4 with rfl | rfl | rfl | rfl <;> rcases four c1 c4 with rfl | rfl | rfl | rfl <;> omega
theorem pz_mod {a b c s : Int} (h : Sz a b c) (h0 : 0 ≤ s) (h1 : s < a * b * c) : s / a / b % c = s / a / b := by
  have := pz_rng h h0 h1
  exact Int.emod_eq_of_lt this.1 this.2
theorem site_place {a b c s : Int} (h : Sz a b c) (h0 : 0 ≤ s) (h1 : s < a * b * c) : site a b c (s % a) (s / a % b) (s / a / b) = s := by
  have hz := pz_mod h h0 h1
  unfold site
  rw [Int.emod_emod, Int.emod_emod, hz]
  have e1 := Int.emod_add_mul_ediv (s / a) b
  have e2 := Int.emod_add_mul_ediv s a
  rw [e1, e2]
theorem div_rng {a b c s : Int} (h : Sz a b c) (h0 : 0 ≤ s) (h1 : s < a * b * c) : 0 ≤ s ∧ s < 16 ∧ 0 ≤ s / a ∧ s / a ≤ s ∧ 0 ≤ s / a / b ∧ s / a / b ≤ s ∧ 0 ≤ s % a ∧ s % a < 4 ∧ 0 ≤ s / a % b ∧ s / a % b < 4 := by
  obtain ⟨a1, a4, b1, b4, c1, c4, hp⟩ := h
  have : s < 16 := by omega
  clear hp h1
  rcases four a1 a4 with rfl | rfl | rfl | rfl <;> rcases four b1 b4 with rfl | rfl | rfl | rfl <;> omega

/-- the change of a coordinate by a step -/
def dlt (k t : Int) : Int := if t = k then 1 else if t = -k then -1 else 0
def nx (a b c s t : Int) : Int := site a b c (s % a + dlt 1 t) (s / a % b + dlt 2 t) (s / a / b + dlt 3 t)
def IsStep (t : Int) : Prop := t ≠ 0 ∧ -3 ≤ t ∧ t ≤ 3
theorem dlt_neg (k t : Int) (hk : 0 < k) : dlt k (-t) = - dlt k t := by
  unfold dlt
  repeat' split
  all_goals omega
theorem nx_rng {a b c : Int} (h : Sz a b c) (s t : Int) : 0 ≤ nx a b c s t ∧ nx a b c s t < a * b * c := site_rng h _ _ _
theorem nx_back {a b c s : Int} (h : Sz a b c) (h0 : 0 ≤ s) (h1 : s < a * b * c) (t : Int) : nx a b c (nx a b c s t) (-t) = s := by
  have e : nx a b c (nx a b c s t) (-t) = site a b c ((s % a + dlt 1 t) % a + - dlt 1 t) ((s / a % b + dlt 2 t) % b + - dlt 2 t) ((s / a / b + dlt 3 t) % c + - dlt 3 t) := by
    conv => lhs; unfold nx
    rw [dlt_neg 1 t (by omega), dlt_neg 2 t (by omega), dlt_neg 3 t (by omega)]
    rw [px_site h, py_site h, pz_site h]
  rw [e, site_add]
  have f1 : s % a + dlt 1 t + -dlt 1 t = s % a := by omega
  have f2 : s / a % b + dlt 2 t + -dlt 2 t = s / a % b := by omega
  have f3 : s / a / b + dlt 3 t + -dlt 3 t = s / a / b := by omega
  rw [f1, f2, f3, site_place h h0 h1]
theorem parts_rng {a b c : Int} (h : Sz a b c) (x y z : Int) : (0 ≤ x % a ∧ x % a < 4) ∧ (0 ≤ y % b ∧ y % b < 4) ∧ (0 ≤ z % c ∧ z % c < 4) ∧ (0 ≤ b * (z % c) ∧ b * (z % c) ≤ 16) ∧ (0 ≤ a * (y % b + b * (z % c)) ∧ a * (y % b + b * (z % c)) ≤ 100) := by
  obtain ⟨a1, a4, b1, b4, c1, c4, -⟩ := h
  rcases four a1 a4 with rfl | rfl | rfl | rfl <;> rcases four b1 b4 with rfl | rfl | rfl | rfl <;> rcases four c1 c4 with rfl | rfl | rfl | rfl <;> omega
theorem nx_p1 (a b c s : Int) : nx a b c s 1 = site a b c (s % a + 1) (s / a % b) (s / a / b) := by simp [nx, dlt]
theorem nx_p2 (a b c s : Int) : nx a b c s 2 = site a b c (s % a) (s / a % b + 1) (s / a / b) := by simp [nx, dlt]
theorem nx_p3 (a b c s : Int) : nx a b c s 3 = site a b c (s % a) (s / a % b) (s / a / b + 1) := by simp [nx, dlt]
theorem nx_m1 (a b c s : Int) : nx a b c s (-1) = site a b c (s % a - 1) (s / a % b) (s / a / b) := by simp [nx, dlt, Int.sub_eq_add_neg]
theorem nx_m2 (a b c s : Int) : nx a b c s (-2) = site a b c (s % a) (s / a % b - 1) (s / a / b) := by simp [nx, dlt, Int.sub_eq_add_neg]
theorem nx_m3 (a b c s : Int) : nx a b c s (-3) = site a b c (s % a) (s / a % b) (s / a / b - 1) := by simp [nx, dlt, Int.sub_eq_add_neg]
theorem step_six {t : Int} (h : IsStep t) : t = 1 ∨ t = 2 ∨ t = 3 ∨ t = -1 ∨ t = -2 ∨ t = -3 := by
  obtain ⟨h0, h1, h2⟩ := h
  omega
end Tm
