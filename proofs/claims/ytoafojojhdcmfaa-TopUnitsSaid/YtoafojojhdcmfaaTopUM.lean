/- What the law on units of all parts wants of the mathematics: a distance does not change by a factor, a turned vector's parts, conjugates of small units.
Conditions: those written at each theorem. -/
import Derived.Test.YtoafojojhdcmfaaMath
namespace Go.Proofs.Ytoafojojhdcmfaa
set_option linter.unusedVariables false
set_option linter.unusedSimpArgs false
open Um

theorem dist_mul (u v : Q) (hu : V u) (hv : V v) : dist u (low (mul u v)) = dist one v := by
  have hun := hu.u.pos
  have hvn := hv.u.pos
  have lu := hu.u.len
  have hm : 0 < (mul u v).n := Int.mul_pos hun hvn
  have hp : 0 < (low (mul u v)).n := low_pos _ hm
  have hg := g_pos _ hm
  have hl := low_part (mul u v)
  unfold dist
  refine rat_eq _ _ _ _ (Int.mul_pos hun hp) (Int.mul_pos (show (0 : Int) < 1 by decide) hvn) ?_
  generalize (g (mul u v) : Int) = G at *
  generalize low (mul u v) = p at *
  obtain ⟨h1, h2, h3, h4, h5⟩ := hl
  simp only [mul] at h1 h2 h3 h4 h5
  refine Int.eq_of_mul_eq_mul_left (a := G) (by omega) ?_
  have ea : G * (mul (bar u) p).a = (u.n * u.n) * v.a := by
    have : G * (mul (bar u) p).a = u.a * (G * p.a) + u.b * (G * p.b) + u.c * (G * p.c) + u.d * (G * p.d) := by simp only [mul, bar]; grind
    rw [this, ← h1, ← h2, ← h3, ← h4, ← lu]
    grind
  have en : G * (mul (bar u) p).n = (u.n * u.n) * v.n := by
    have : G * (mul (bar u) p).n = u.n * (G * p.n) := by simp only [mul, bar]; grind
    rw [this, ← h5]; grind
  have e1 : (mul (bar one) v).n = v.n := by simp [mul, bar, one]
  have e2 : (mul (bar one) v).a = v.a := by simp [mul, bar, one]
  rw [e1, e2]
  generalize (mul (bar u) p).a = A at *
  generalize (mul (bar u) p).n = N at *
  have : G * ((2 * N - 2 * A) * v.n) = (2 * (G * N) - 2 * (G * A)) * v.n := by grind
  rw [this, ea, en]
  have : G * ((2 * v.n - 2 * v.a) * N) = (2 * v.n - 2 * v.a) * (G * N) := by grind
  rw [this, en]
  grind

theorem dist_self (v : Q) (hv : V v) : (dist v v).1 = 0 := (dist_zero v v hv hv).2 rfl

theorem small_conj_ex : ∀ k : Nat, k < 24 → ∀ m : Nat, m < 24 → ∃ j : Nat, j < 24 ∧ small j = (prodFrom one [small k, small m, bar (small k)]).1 := by decide +kernel

/-- a whole number out of lowest terms -/
theorem rat_whole (x y : Int) (hy : 0 < y) : 0 < (rat x y).2 ∧ y.tmod (rat x y).2 = 0 ∧ (rat x y).1 * y.tdiv (rat x y).2 = x := by
  have hp := rat_pos x y hy
  obtain ⟨h1, h2⟩ := rat_part x y
  have hd : (rat x y).2 ∣ y := ⟨_, h2.trans (Int.mul_comm _ _)⟩
  refine ⟨hp, Int.tmod_eq_zero_of_dvd hd, ?_⟩
  rw [Int.tdiv_eq_ediv_of_dvd hd]
  have : y / (rat x y).2 = (Nat.gcd x.natAbs y.natAbs : Int) := by
    conv => lhs; arg 1; rw [h2]
    exact Int.mul_ediv_cancel _ (fun h0 => by rw [h0] at hp; exact absurd hp (by decide))
  rw [this, Int.mul_comm]
  exact h1.symm

/-- the squares of a turned vector's parts -/
theorem turn_sq (u : Q) (x y z : Int) (h : U u) (hn : u.n ≤ 1000) (hx : -1000 ≤ x ∧ x ≤ 1000) (hy : -1000 ≤ y ∧ y ≤ 1000) (hz : -1000 ≤ z ∧ z ≤ 1000) :
    (u.n * u.n ≤ 1000000 ∧ 0 ≤ u.n * u.n) ∧ (0 ≤ x * x + y * y + z * z ∧ x * x + y * y + z * z ≤ 3000000) ∧
    (0 ≤ (x * x + y * y + z * z) * (u.n * u.n) ∧ (x * x + y * y + z * z) * (u.n * u.n) ≤ 3000000000000) ∧
    (0 ≤ (x * x + y * y + z * z) * (u.n * u.n) * (u.n * u.n) ∧ (x * x + y * y + z * z) * (u.n * u.n) * (u.n * u.n) ≤ 3000000000000000000) ∧
    (turn u x y z).b * (turn u x y z).b + (turn u x y z).c * (turn u x y z).c + (turn u x y z).d * (turn u x y z).d = (x * x + y * y + z * z) * (u.n * u.n) * (u.n * u.n) := by
  have hl := turn_len u x y z h
  have hp := h.pos
  have sq : ∀ t : Int, -1000 ≤ t → t ≤ 1000 → t * t ≤ 1000000 := fun t h1 h2 => by
    have := Int.mul_nonneg (show (0 : Int) ≤ 1000 - t by omega) (show (0 : Int) ≤ 1000 + t by omega)
    grind
  have n1 := sq u.n (by omega) hn
  have n0 := sq_nonneg u.n
  have x1 := sq x hx.1 hx.2
  have y1 := sq y hy.1 hy.2
  have z1 := sq z hz.1 hz.2
  have x0 := sq_nonneg x
  have y0 := sq_nonneg y
  have z0 := sq_nonneg z
  have e : (x * x + y * y + z * z) * ((u.n * u.n) * (u.n * u.n)) = (x * x + y * y + z * z) * (u.n * u.n) * (u.n * u.n) := (Int.mul_assoc _ _ _).symm
  rw [e] at hl
  have L0 : 0 ≤ x * x + y * y + z * z := by omega
  have L1 : x * x + y * y + z * z ≤ 3000000 := by omega
  generalize x * x + y * y + z * z = L at *
  generalize u.n * u.n = N at *
  have a0 := Int.mul_nonneg L0 n0
  have a1 : L * N ≤ 3000000 * 1000000 := Int.mul_le_mul L1 n1 n0 (by decide)
  have b0 := Int.mul_nonneg a0 n0
  have b1 : L * N * N ≤ 3000000000000 * 1000000 := Int.mul_le_mul a1 n1 n0 (by decide)
  exact ⟨⟨n1, n0⟩, ⟨L0, L1⟩, ⟨a0, a1⟩, ⟨b0, b1⟩, hl⟩
end Go.Proofs.Ytoafojojhdcmfaa
