/- Plain mathematics of unit quaternions: greatest common divisors, lowest terms, products, orders, traces. It names no program.
Conditions: none but those written at each theorem. -/


set_option autoImplicit false
namespace Um
set_option linter.unusedVariables false
set_option linter.unusedSimpArgs false

/-- five whole numbers: (a + b i + c j + d k) / n -/
structure Q where
  a : Int
  b : Int
  c : Int
  d : Int
  n : Int
deriving DecidableEq

def g (x : Q) : Nat := Nat.gcd (Nat.gcd (Nat.gcd (Nat.gcd x.a.natAbs x.b.natAbs) x.c.natAbs) x.d.natAbs) x.n.natAbs

def mul (x y : Q) : Q where
  a := x.a * y.a - x.b * y.b - x.c * y.c - x.d * y.d
  b := x.a * y.b + x.b * y.a + x.c * y.d - x.d * y.c
  c := x.a * y.c - x.b * y.d + x.c * y.a + x.d * y.b
  d := x.a * y.d + x.b * y.c - x.c * y.b + x.d * y.a
  n := x.n * y.n

def bar (x : Q) : Q := ⟨x.a, -x.b, -x.c, -x.d, x.n⟩
def neg (x : Q) : Q := ⟨-x.a, -x.b, -x.c, -x.d, x.n⟩
def one : Q := ⟨1, 0, 0, 0, 1⟩
def zero : Q := ⟨0, 0, 0, 0, 0⟩
def scale (k : Int) (x : Q) : Q := ⟨k * x.a, k * x.b, k * x.c, k * x.d, k * x.n⟩
def low (x : Q) : Q := ⟨x.a / g x, x.b / g x, x.c / g x, x.d / g x, x.n / g x⟩
/-- length 1, n above 0 -/
structure U (x : Q) : Prop where
  pos : 0 < x.n
  len : x.a * x.a + x.b * x.b + x.c * x.c + x.d * x.d = x.n * x.n

theorem g_dvd (x : Q) : (g x : Int) ∣ x.a ∧ (g x : Int) ∣ x.b ∧ (g x : Int) ∣ x.c ∧ (g x : Int) ∣ x.d ∧ (g x : Int) ∣ x.n := by
  have h4 : g x ∣ Nat.gcd (Nat.gcd (Nat.gcd x.a.natAbs x.b.natAbs) x.c.natAbs) x.d.natAbs := Nat.gcd_dvd_left _ _
  have h5 : g x ∣ x.n.natAbs := Nat.gcd_dvd_right _ _
  have h3 := Nat.dvd_trans h4 (Nat.gcd_dvd_left _ _)
  have hd := Nat.dvd_trans h4 (Nat.gcd_dvd_right _ _)
  have h2 := Nat.dvd_trans h3 (Nat.gcd_dvd_left _ _)
  have hc := Nat.dvd_trans h3 (Nat.gcd_dvd_right _ _)
  have ha := Nat.dvd_trans h2 (Nat.gcd_dvd_left _ _)
  have hb := Nat.dvd_trans h2 (Nat.gcd_dvd_right _ _)
  exact ⟨Int.ofNat_dvd_left.2 ha, Int.ofNat_dvd_left.2 hb, Int.ofNat_dvd_left.2 hc, Int.ofNat_dvd_left.2 hd, Int.ofNat_dvd_left.2 h5⟩

theorem g_pos (x : Q) (h : 0 < x.n) : 0 < (g x : Int) := by
  have : g x ≠ 0 := by
    intro h0
    have := (g_dvd x).2.2.2.2
    rw [h0] at this
    have := Int.zero_dvd.1 this
    omega
  omega

theorem g_scale (k : Int) (x : Q) : g (scale k x) = k.natAbs * g x := by
  simp only [g, scale, Int.natAbs_mul, Nat.gcd_mul_left]

theorem scale_low (x : Q) : scale (g x) (low x) = x := by
  have h := g_dvd x
  cases x with | mk a b c d n =>
  simp only [scale, low]
  rw [Int.mul_ediv_cancel' h.1, Int.mul_ediv_cancel' h.2.1, Int.mul_ediv_cancel' h.2.2.1, Int.mul_ediv_cancel' h.2.2.2.1, Int.mul_ediv_cancel' h.2.2.2.2]

theorem low_scale (k : Int) (x : Q) (hk : 0 < k) : low (scale k x) = low x := by
  have hg : ((g (scale k x) : Nat) : Int) = k * (g x : Int) := by
    rw [g_scale]; rw [Int.natCast_mul, Int.natAbs_of_nonneg (by omega)]
  simp only [low, hg]
  simp only [scale]
  rw [Int.mul_ediv_mul_of_pos _ _ hk, Int.mul_ediv_mul_of_pos _ _ hk, Int.mul_ediv_mul_of_pos _ _ hk, Int.mul_ediv_mul_of_pos _ _ hk, Int.mul_ediv_mul_of_pos _ _ hk]

/-- what is proportional has one form in lowest terms -/
theorem low_eq (x y : Q) (k m : Int) (hk : 0 < k) (hm : 0 < m) (h : scale k x = scale m y) : low x = low y := by
  rw [← low_scale k x hk, h, low_scale m y hm]

theorem low_of_prim (x : Q) (h : g x = 1) : low x = x := by
  cases x with | mk a b c d n => simp [low, h]

theorem g_low (x : Q) (h : 0 < x.n) : g (low x) = 1 := by
  have h1 : g x = g x * g (low x) := by
    have := g_scale (g x) (low x)
    rw [scale_low] at this
    simpa using this
  have hp := g_pos x h
  have hp' : 0 < g x := by omega
  exact Nat.eq_of_mul_eq_mul_left hp' (by omega)

theorem low_part (x : Q) : x.a = (g x : Int) * (low x).a ∧ x.b = (g x : Int) * (low x).b ∧ x.c = (g x : Int) * (low x).c ∧ x.d = (g x : Int) * (low x).d ∧ x.n = (g x : Int) * (low x).n := by
  have h := scale_low x
  refine ⟨?_, ?_, ?_, ?_, ?_⟩
  · exact (congrArg Q.a h).symm
  · exact (congrArg Q.b h).symm
  · exact (congrArg Q.c h).symm
  · exact (congrArg Q.d h).symm
  · exact (congrArg Q.n h).symm

theorem low_pos (x : Q) (h : 0 < x.n) : 0 < (low x).n := by
  have h2 := (low_part x).2.2.2.2
  have hp := g_pos x h
  rw [h2, Int.mul_comm] at h
  exact Int.pos_of_mul_pos_left h (by omega)

theorem low_le (x : Q) (h : 0 < x.n) : (low x).n ≤ x.n := by
  have h2 := (low_part x).2.2.2.2
  have hp := g_pos x h
  have hl := low_pos x h
  have : 1 * (low x).n ≤ (g x : Int) * (low x).n := Int.mul_le_mul_of_nonneg_right (by omega) (by omega)
  omega

theorem low_len (x : Q) (h : U x) : U (low x) := by
  have hp := g_pos x h.pos
  have hl := low_part x
  refine ⟨low_pos x h.pos, ?_⟩
  have e := h.len
  generalize low x = y at *
  generalize (g x : Int) = k at *
  obtain ⟨ha, hb, hc, hd, hn⟩ := hl
  rw [ha, hb, hc, hd, hn] at e
  have e2 : (k * k) * (y.a * y.a + y.b * y.b + y.c * y.c + y.d * y.d) = (k * k) * (y.n * y.n) := by grind
  have hk : k * k ≠ 0 := by
    intro h0
    have := Int.mul_eq_zero.1 h0
    omega
  exact Int.eq_of_mul_eq_mul_left hk e2

theorem mul_len (x y : Q) (hx : U x) (hy : U y) : U (mul x y) := by
  refine ⟨Int.mul_pos hx.pos hy.pos, ?_⟩
  have h1 := hx.len
  have h2 := hy.len
  simp only [mul]
  have e : (x.a * x.a + x.b * x.b + x.c * x.c + x.d * x.d) * (y.a * y.a + y.b * y.b + y.c * y.c + y.d * y.d) = (x.n * x.n) * (y.n * y.n) := by rw [h1, h2]
  grind

theorem bar_len (x : Q) (hx : U x) : U (bar x) := by
  have h1 := hx.len
  exact ⟨hx.pos, by simp only [bar]; grind⟩

theorem neg_len (x : Q) (hx : U x) : U (neg x) := by
  have h1 := hx.len
  exact ⟨hx.pos, by simp only [neg]; grind⟩

theorem one_len : U one := ⟨by decide, by decide⟩

theorem mul_assoc (x y z : Q) : mul (mul x y) z = mul x (mul y z) := by
  simp only [mul, Q.mk.injEq]
  refine ⟨?_, ?_, ?_, ?_, ?_⟩ <;> grind

theorem scale_mul (k : Int) (x y : Q) : mul (scale k x) y = scale k (mul x y) := by
  simp only [mul, scale, Q.mk.injEq]
  refine ⟨?_, ?_, ?_, ?_, ?_⟩ <;> grind

/-- a product of something in lowest terms -/
theorem low_mul_left (x y : Q) (h : 0 < x.n) : low (mul (low x) y) = low (mul x y) := by
  rw [← low_scale (g x) (mul (low x) y) (g_pos x h), ← scale_mul, scale_low]
theorem mul_one' (x : Q) : mul x one = x := by
  cases x; simp [mul, one]
theorem one_mul' (x : Q) : mul one x = x := by
  cases x; simp [mul, one]
theorem low_one : low one = one := by decide
/-- parts of a unit are no longer than n -/
theorem part_le (x : Q) (hx : U x) : -x.n ≤ x.a ∧ x.a ≤ x.n ∧ -x.n ≤ x.b ∧ x.b ≤ x.n ∧ -x.n ≤ x.c ∧ x.c ≤ x.n ∧ -x.n ≤ x.d ∧ x.d ≤ x.n := by
  have h := hx.len
  have hp := hx.pos
  have sq : ∀ z : Int, 0 ≤ z * z := fun z => by
    rcases Int.le_total 0 z with h | h
    · exact Int.mul_nonneg h h
    · exact Int.mul_nonneg_of_nonpos_of_nonpos h h
  have ha := sq x.a
  have hb := sq x.b
  have hc := sq x.c
  have hd := sq x.d
  have key : ∀ z : Int, z * z ≤ x.n * x.n → -x.n ≤ z ∧ z ≤ x.n := by
    intro z hz
    constructor
    · rcases Int.lt_or_le z (-x.n) with h1 | h1
      · have t : (x.n + 1) * (x.n + 1) ≤ (-z) * (-z) := Int.mul_le_mul (by omega) (by omega) (by omega) (by omega)
        have t2 : (x.n + 1) * (x.n + 1) = x.n * x.n + 2 * x.n + 1 := by grind
        have e : (-z) * (-z) = z * z := by grind
        omega
      · exact h1
    · rcases Int.lt_or_le x.n z with h1 | h1
      · have t : (x.n + 1) * (x.n + 1) ≤ z * z := Int.mul_le_mul (by omega) (by omega) (by omega) (by omega)
        have t2 : (x.n + 1) * (x.n + 1) = x.n * x.n + 2 * x.n + 1 := by grind
        omega
      · exact h1
  have a1 := key x.a (by omega)
  have b1 := key x.b (by omega)
  have c1 := key x.c (by omega)
  have d1 := key x.d (by omega)
  exact ⟨a1.1, a1.2, b1.1, b1.2, c1.1, c1.2, d1.1, d1.2⟩

/-- a valid unit -/
structure V (x : Q) : Prop where
  u : U x
  prim : g x = 1
  le : x.n ≤ 1048576

theorem V.low {x : Q} (h : V x) : low x = x := low_of_prim x h.prim

theorem g_bar (x : Q) : g (bar x) = g x := by simp [g, bar]
theorem g_neg (x : Q) : g (neg x) = g x := by simp [g, neg]
theorem V.bar {x : Q} (h : V x) : V (bar x) := ⟨bar_len x h.u, by rw [g_bar]; exact h.prim, h.le⟩
theorem V.neg {x : Q} (h : V x) : V (neg x) := ⟨neg_len x h.u, by rw [g_neg]; exact h.prim, h.le⟩
theorem V.one : V one := ⟨one_len, by decide, by decide⟩
theorem V.of_low {x : Q} (h : U x) (hl : (Um.low x).n ≤ 1048576) : V (Um.low x) := ⟨low_len x h, g_low x h.pos, hl⟩
theorem V.ext {x y : Q} (hx : V x) (hy : V y) (h : scale y.n x = scale x.n y) : x = y := by
  have := low_eq x y y.n x.n hy.u.pos hx.u.pos h
  rwa [hx.low, hy.low] at this

/-- Products of lists, with the limit -/
def prodFrom (p : Q) : List Q → Q × Int
  | [] => (p, 0)
  | q :: l => if 1048576 < (low (mul p q)).n then (zero, 3) else prodFrom (low (mul p q)) l

theorem prodFrom_append (p r : Q) (l m : List Q) (h : prodFrom p l = (r, 0)) : prodFrom p (l ++ m) = prodFrom r m := by
  induction l generalizing p with
  | nil => simp [prodFrom] at h; subst h; rfl
  | cons q l ih =>
    simp only [List.cons_append, prodFrom] at h ⊢
    split at h
    · simp at h
    · rename_i hq; rw [if_neg hq]; exact ih _ h

theorem prodFrom_err (p : Q) (l m : List Q) (e : Int) (r : Q) (h : prodFrom p l = (r, e)) (he : e ≠ 0) : prodFrom p (l ++ m) = (r, e) := by
  induction l generalizing p with
  | nil => simp [prodFrom] at h; exact absurd h.2.symm he
  | cons q l ih =>
    simp only [List.cons_append, prodFrom] at h ⊢
    split at h
    · rename_i hq; rw [if_pos hq]; exact h
    · rename_i hq; rw [if_neg hq]; exact ih _ h

/-- the order by the trace -/
def ord (x : Q) : Int :=
  if ¬ (x.n ∣ 2 * x.a) then 0 else if 2 * x.a = 2 * x.n then 1 else if 2 * x.a = -2 * x.n then 2 else if 2 * x.a = -x.n then 3 else if x.a = 0 then 4 else 6

theorem V.ones {x : Q} (h : V x) (ha : x.a = x.n) : x = Um.one := by
  have l := h.u.len
  have e : x.b * x.b + x.c * x.c + x.d * x.d = 0 := by rw [ha] at l; omega
  have sq : ∀ z : Int, 0 ≤ z * z := fun z => by
    rcases Int.le_total 0 z with h | h
    · exact Int.mul_nonneg h h
    · exact Int.mul_nonneg_of_nonpos_of_nonpos h h
  have hb := sq x.b
  have hc := sq x.c
  have hd := sq x.d
  have zb : x.b = 0 := by have : x.b * x.b = 0 := by omega
                          rcases Int.mul_eq_zero.1 this with h | h <;> exact h
  have zc : x.c = 0 := by have : x.c * x.c = 0 := by omega
                          rcases Int.mul_eq_zero.1 this with h | h <;> exact h
  have zd : x.d = 0 := by have : x.d * x.d = 0 := by omega
                          rcases Int.mul_eq_zero.1 this with h | h <;> exact h
  refine h.ext V.one ?_
  simp only [scale, Um.one, Q.mk.injEq]
  omega

theorem neg_neg' (x : Q) : neg (neg x) = x := by cases x; simp [neg]
theorem V.minus {x : Q} (h : V x) (ha : x.a = -x.n) : x = Um.neg Um.one := by
  have := (V.neg h).ones (by simp only [Um.neg]; omega)
  rw [← this, neg_neg']

theorem step_ok (p x r : Q) (l : List Q) (h : low (mul p x) = r) (hr : r.n ≤ 1048576) : prodFrom p (x :: l) = prodFrom r l := by
  simp only [prodFrom]
  rw [h, if_neg (by omega)]

/-- rational numbers in lowest terms -/
def rat (x y : Int) : Int × Int := (x / (Nat.gcd x.natAbs y.natAbs : Int), y / (Nat.gcd x.natAbs y.natAbs : Int))

theorem gcd_pos (x y : Int) (h : 0 < y) : 0 < (Nat.gcd x.natAbs y.natAbs : Int) := by
  have : 0 < Nat.gcd x.natAbs y.natAbs := Nat.gcd_pos_of_pos_right _ (by omega)
  omega

/-- the trace -/
def tr (x : Q) : Int × Int := rat (2 * x.a) x.n

/-- the distance -/
def dist (u v : Q) : Int × Int := rat (2 * (mul (bar u) v).n - 2 * (mul (bar u) v).a) (mul (bar u) v).n

/-- the Cayley map, not in lowest terms -/
def cay (x y z d : Int) : Q := ⟨d * d - (x * x + y * y + z * z), 2 * d * x, 2 * d * y, 2 * d * z, d * d + (x * x + y * y + z * z)⟩

/-- the coordinates of the Cayley map's inverse: only where a is not -n -/
def vec (u : Q) : (Int × Int) × (Int × Int) × (Int × Int) := (rat u.b (u.n + u.a), rat u.c (u.n + u.a), rat u.d (u.n + u.a))

/-- the square of the length -/
def nrm (x : Q) : Int := x.a * x.a + x.b * x.b + x.c * x.c + x.d * x.d
/-- a vector turned -/
def turn (u : Q) (x y z : Int) : Q := mul (mul u ⟨0, x, y, z, 1⟩) (bar u)
/-- the small units -/
def small (k : Int) : Q :=
  if k < 8 then
    if k = 0 then ⟨1, 0, 0, 0, 1⟩ else if k = 1 then ⟨-1, 0, 0, 0, 1⟩ else if k = 2 then ⟨0, 1, 0, 0, 1⟩ else if k = 3 then ⟨0, -1, 0, 0, 1⟩
    else if k = 4 then ⟨0, 0, 1, 0, 1⟩ else if k = 5 then ⟨0, 0, -1, 0, 1⟩ else if k = 6 then ⟨0, 0, 0, 1, 1⟩ else ⟨0, 0, 0, -1, 1⟩
  else ⟨1 - 2 * ((k - 8) % 2), 1 - 2 * ((k - 8) / 2 % 2), 1 - 2 * ((k - 8) / 4 % 2), 1 - 2 * ((k - 8) / 8 % 2), 2⟩

/-- the number of a small unit among the first k, or -1 -/
def find (u : Q) : Nat → Nat → Int
  | 0, _ => -1
  | f + 1, k => if small k = u then k else find u f (k + 1)

def num (u : Q) : Int := find u 24 0

theorem small_ok : ∀ k : Nat, k < 24 → (small k).n = 1 ∨ (small k).n = 2 := by decide +kernel
theorem small_v : ∀ k : Nat, k < 24 → g (small k) = 1 ∧ (small k).a * (small k).a + (small k).b * (small k).b + (small k).c * (small k).c + (small k).d * (small k).d = (small k).n * (small k).n ∧ 0 < (small k).n := by decide +kernel
end Um

/- Plain mathematics of sites, places and steps; no Go.
Conditions: none. -/
set_option autoImplicit false
namespace Tm
set_option linter.unusedVariables false
set_option linter.unusedSimpArgs false

/-- sizes that are allowed -/
structure Sz (a b c : Int) : Prop where
  a1 : 1 ≤ a
  a4 : a ≤ 4
  b1 : 1 ≤ b
  b4 : b ≤ 4
  c1 : 1 ≤ c
  c4 : c ≤ 4
  p : a * b * c ≤ 16

theorem four {a : Int} (h1 : 1 ≤ a) (h4 : a ≤ 4) : a = 1 ∨ a = 2 ∨ a = 3 ∨ a = 4 := by omega
theorem mul_rng {a b c : Int} (a1 : 1 ≤ a) (a4 : a ≤ 4) (b1 : 1 ≤ b) (b4 : b ≤ 4) (c1 : 1 ≤ c) (c4 : c ≤ 4) : 1 ≤ a * b ∧ a * b ≤ 16 ∧ 1 ≤ a * b * c ∧ a * b * c ≤ 64 := by
  rcases four a1 a4 with rfl | rfl | rfl | rfl <;> rcases four b1 b4 with rfl | rfl | rfl | rfl <;> rcases four c1 c4 with rfl | rfl | rfl | rfl <;> decide

/-- the remainder that the code makes -/
theorem rem_cases (x n : Int) (hn : 1 ≤ n) : (0 ≤ x.tmod n ∧ x.tmod n = x % n) ∨ (x.tmod n < 0 ∧ x.tmod n + n = x % n) := by
  have h := @Int.tmod_eq_emod x n
  have h1 := Int.emod_nonneg x (show n ≠ 0 by omega)
  have h2 := Int.emod_lt_of_pos x (show 0 < n by omega)
  by_cases hc : 0 ≤ x ∨ n ∣ x
  · rw [if_pos hc] at h
    left
    rw [h]
    simp
    exact h1
  · rw [if_neg hc] at h
    right
    have e : ((n.natAbs : Nat) : Int) = n := by omega
    rw [e] at h
    omega
theorem rem_bnd (x n : Int) (hn : 1 ≤ n) : -n < x.tmod n ∧ x.tmod n < n := by
  have h : (x.tmod n).natAbs < n.natAbs := by rw [Int.natAbs_tmod]; exact Nat.mod_lt _ (by omega)
  omega
/-- the site with a place -/
def site (a b c x y z : Int) : Int := x % a + a * (y % b + b * (z % c))

theorem site_rng {a b c : Int} (h : Sz a b c) (x y z : Int) : 0 ≤ site a b c x y z ∧ site a b c x y z < a * b * c := by
  obtain ⟨a1, a4, b1, b4, c1, c4, -⟩ := h
  unfold site
  rcases four a1 a4 with rfl | rfl | rfl | rfl <;> rcases four b1 b4 with rfl | rfl | rfl | rfl <;> rcases four c1 c4 with rfl | rfl | rfl | rfl <;> omega
theorem px_site {a b c : Int} (h : Sz a b c) (x y z : Int) : site a b c x y z % a = x % a := by
  unfold site
  rw [Int.add_mul_emod_self_left, Int.emod_emod]
theorem q_site {a b c : Int} (h : Sz a b c) (x y z : Int) : site a b c x y z / a = y % b + b * (z % c) := by
  unfold site
  have h1 := Int.emod_nonneg x (show a ≠ 0 by have := h.a1; omega)
  have h2 := Int.emod_lt_of_pos x (show 0 < a by have := h.a1; omega)
  rw [Int.add_mul_ediv_left _ _ (show a ≠ 0 by have := h.a1; omega), Int.ediv_eq_zero_of_lt h1 h2, Int.zero_add]
theorem py_site {a b c : Int} (h : Sz a b c) (x y z : Int) : site a b c x y z / a % b = y % b := by
  rw [q_site h, Int.add_mul_emod_self_left, Int.emod_emod]
theorem pz_site {a b c : Int} (h : Sz a b c) (x y z : Int) : site a b c x y z / a / b = z % c := by
  have h1 := Int.emod_nonneg y (show b ≠ 0 by have := h.b1; omega)
  have h2 := Int.emod_lt_of_pos y (show 0 < b by have := h.b1; omega)
  rw [q_site h, Int.add_mul_ediv_left _ _ (show b ≠ 0 by have := h.b1; omega), Int.ediv_eq_zero_of_lt h1 h2, Int.zero_add]
theorem site_add (a b c x y z u v t : Int) : site a b c (x % a + u) (y % b + v) (z % c + t) = site a b c (x + u) (y + v) (z + t) := by
  unfold site
  rw [Int.emod_add_emod, Int.emod_add_emod, Int.emod_add_emod]
theorem pz_rng {a b c s : Int} (h : Sz a b c) (h0 : 0 ≤ s) (h1 : s < a * b * c) : 0 ≤ s / a / b ∧ s / a / b < c := by
  obtain ⟨a1, a4, b1, b4, c1, c4, -⟩ := h
  rcases four a1 a4 with rfl | rfl | rfl | rfl <;> rcases four b1 b4 with rfl | rfl | rfl | rfl <;> rcases four c1 c4 with rfl | rfl | rfl | rfl <;> omega
theorem pz_mod {a b c s : Int} (h : Sz a b c) (h0 : 0 ≤ s) (h1 : s < a * b * c) : s / a / b % c = s / a / b := by
  have := pz_rng h h0 h1
  exact Int.emod_eq_of_lt this.1 this.2
theorem div_rng {a b c s : Int} (h : Sz a b c) (h0 : 0 ≤ s) (h1 : s < a * b * c) : 0 ≤ s ∧ s < 16 ∧ 0 ≤ s / a ∧ s / a ≤ s ∧ 0 ≤ s / a / b ∧ s / a / b ≤ s ∧ 0 ≤ s % a ∧ s % a < 4 ∧ 0 ≤ s / a % b ∧ s / a % b < 4 := by
  obtain ⟨a1, a4, b1, b4, c1, c4, hp⟩ := h
  have : s < 16 := by omega
  clear hp h1
  rcases four a1 a4 with rfl | rfl | rfl | rfl <;> rcases four b1 b4 with rfl | rfl | rfl | rfl <;> omega

/-- the change of a coordinate by a step -/
def dlt (k t : Int) : Int := if t = k then 1 else if t = -k then -1 else 0
def nx (a b c s t : Int) : Int := site a b c (s % a + dlt 1 t) (s / a % b + dlt 2 t) (s / a / b + dlt 3 t)
def IsStep (t : Int) : Prop := t ≠ 0 ∧ -3 ≤ t ∧ t ≤ 3
theorem nx_rng {a b c : Int} (h : Sz a b c) (s t : Int) : 0 ≤ nx a b c s t ∧ nx a b c s t < a * b * c := site_rng h _ _ _
theorem parts_rng {a b c : Int} (h : Sz a b c) (x y z : Int) : (0 ≤ x % a ∧ x % a < 4) ∧ (0 ≤ y % b ∧ y % b < 4) ∧ (0 ≤ z % c ∧ z % c < 4) ∧ (0 ≤ b * (z % c) ∧ b * (z % c) ≤ 16) ∧ (0 ≤ a * (y % b + b * (z % c)) ∧ a * (y % b + b * (z % c)) ≤ 100) := by
  obtain ⟨a1, a4, b1, b4, c1, c4, -⟩ := h
  rcases four a1 a4 with rfl | rfl | rfl | rfl <;> rcases four b1 b4 with rfl | rfl | rfl | rfl <;> rcases four c1 c4 with rfl | rfl | rfl | rfl <;> omega
theorem nx_p1 (a b c s : Int) : nx a b c s 1 = site a b c (s % a + 1) (s / a % b) (s / a / b) := by simp [nx, dlt]
theorem nx_p2 (a b c s : Int) : nx a b c s 2 = site a b c (s % a) (s / a % b + 1) (s / a / b) := by simp [nx, dlt]
theorem nx_p3 (a b c s : Int) : nx a b c s 3 = site a b c (s % a) (s / a % b) (s / a / b + 1) := by simp [nx, dlt]
theorem nx_m1 (a b c s : Int) : nx a b c s (-1) = site a b c (s % a - 1) (s / a % b) (s / a / b) := by simp [nx, dlt, Int.sub_eq_add_neg]
theorem nx_m2 (a b c s : Int) : nx a b c s (-2) = site a b c (s % a) (s / a % b - 1) (s / a / b) := by simp [nx, dlt, Int.sub_eq_add_neg]
theorem nx_m3 (a b c s : Int) : nx a b c s (-3) = site a b c (s % a) (s / a % b) (s / a / b - 1) := by simp [nx, dlt, Int.sub_eq_add_neg]
theorem step_six {t : Int} (h : IsStep t) : t = 1 ∨ t = 2 ∨ t = 3 ∨ t = -1 ∨ t = -2 ∨ t = -3 := by
  obtain ⟨h0, h1, h2⟩ := h
  omega
end Tm

/- Plain mathematics of paths: opposite paths, and what is left of a path without steps that undo each other; no Go.
Conditions: none. -/
set_option autoImplicit false
namespace Tm
set_option linter.unusedVariables false
set_option linter.unusedSimpArgs false

/-- the error of a path -/
def pathR (l : List Int) (r : Int) : Prop := (8 < l.length ∧ r = 3) ∨ (l.length ≤ 8 ∧ (∃ t ∈ l, ¬ IsStep t) ∧ r = 1) ∨ (l.length ≤ 8 ∧ (∀ t ∈ l, IsStep t) ∧ r = 0)
def opp (l : List Int) : List Int := (l.map fun t => -t).reverse
/-- a stack of steps, its last one first -/
def push : List Int → Int → List Int
  | [], t => [t]
  | x :: st, t => if x = -t then st else t :: x :: st
def redS (l : List Int) : List Int := l.foldl push []
def red (l : List Int) : List Int := (redS l).reverse
/-- no two neighbours undo each other -/
def Good : List Int → Prop
  | [] => True
  | [_] => True
  | x :: y :: st => y ≠ -x ∧ Good (y :: st)
end Tm

/- Plain mathematics of walks: through which sites a path leads, where it ends, and when it is closed; no Go.
Conditions: none. -/
set_option autoImplicit false
namespace Tm
set_option linter.unusedVariables false
set_option linter.unusedSimpArgs false

def en (a b c s : Int) (l : List Int) : Int := l.foldl (nx a b c) s
def wl (a b c : Int) : Int → List Int → List Int
  | s, [] => [s]
  | s, t :: l => s :: wl a b c (nx a b c s t) l
theorem en_snoc (a b c s : Int) (l : List Int) (t : Int) : en a b c s (l ++ [t]) = nx a b c (en a b c s l) t := by simp [en, List.foldl_append]
theorem wl_snoc (a b c s : Int) (l : List Int) (t : Int) : wl a b c s (l ++ [t]) = wl a b c s l ++ [nx a b c (en a b c s l) t] := by
  induction l generalizing s with
  | nil => simp [wl, en]
  | cons u l ih => simp only [List.cons_append, wl, ih]; simp [en]
theorem wl_len (a b c s : Int) (l : List Int) : (wl a b c s l).length = l.length + 1 := by
  induction l generalizing s with
  | nil => rfl
  | cons u l ih => simp [wl, ih]
theorem en_take (a b c s : Int) (l : List Int) (k : Nat) (hk : k < l.length) : en a b c s (l.take (k + 1)) = nx a b c (en a b c s (l.take k)) l[k] := by
  rw [List.take_succ_eq_append_getElem hk, en_snoc]
theorem wl_take (a b c s : Int) (l : List Int) (k : Nat) (hk : k < l.length) : wl a b c s (l.take (k + 1)) = wl a b c s (l.take k) ++ [en a b c s (l.take (k + 1))] := by
  rw [List.take_succ_eq_append_getElem hk, wl_snoc, en_snoc]
theorem en_rng {a b c s : Int} (h : Sz a b c) (h0 : 0 ≤ s) (h1 : s < a * b * c) (l : List Int) : 0 ≤ en a b c s l ∧ en a b c s l < a * b * c := by
  have : ∀ (l : List Int) (s : Int), 0 ≤ s ∧ s < a * b * c → 0 ≤ en a b c s l ∧ en a b c s l < a * b * c := fun l => by
    induction l with
    | nil => intro s h; exact h
    | cons t l ih => intro s _; exact ih _ (nx_rng h s t)
  exact this l s ⟨h0, h1⟩

/-- how far a path leads in a direction -/
def sm (k : Int) (l : List Int) : Int := l.foldl (fun x t => x + dlt k t) 0
theorem nx_site {a b c : Int} (h : Sz a b c) (x y z t : Int) : nx a b c (site a b c x y z) t = site a b c (x + dlt 1 t) (y + dlt 2 t) (z + dlt 3 t) := by
  unfold nx
  rw [px_site h, py_site h, pz_site h, site_add]
def Clo (a b c : Int) (l : List Int) : Prop := a ∣ sm 1 l ∧ b ∣ sm 2 l ∧ c ∣ sm 3 l
end Tm

/- Plain mathematics of units along paths: products of few links keep the limit, a path from its end has the inverse, a reduced path the same unit, shifted and turned fields; no Go.
Conditions: none. -/
set_option autoImplicit false
namespace Tm
set_option linter.unusedVariables false
set_option linter.unusedSimpArgs false
open Um

/-! ### Products without a limit -/
def fm (l : List Q) : Q := l.foldl mul one
theorem foldl_mul (x : Q) (l : List Q) : l.foldl mul x = mul x (fm l) := by
  unfold fm
  induction l generalizing x with
  | nil => exact (mul_one' x).symm
  | cons y l ih =>
    simp only [List.foldl_cons]
    rw [ih (mul x y), ih (mul one y), one_mul', mul_assoc]
theorem fm_cons (x : Q) (l : List Q) : fm (x :: l) = mul x (fm l) := by
  rw [fm, List.foldl_cons, one_mul', foldl_mul]
theorem fm_U (l : List Q) (h : ∀ x ∈ l, V x) : U (fm l) := by
  induction l with
  | nil => exact one_len
  | cons x l ih => rw [fm_cons]; exact mul_len _ _ (h x (List.mem_cons_self ..)).u (ih fun y hy => h y (List.mem_cons_of_mem _ hy))

/-- few links: the limit is never reached -/
theorem prod_few (l : List Q) (p : Q) (m : Nat) (hp : V p) (hpn : p.n ≤ 5 ^ m) (hl : ∀ x ∈ l, V x ∧ x.n ≤ 5) (h : m + l.length ≤ 8) : prodFrom p l = (low (mul p (fm l)), 0) := by
  induction l generalizing p m with
  | nil => simp only [prodFrom, show fm [] = one from rfl, mul_one', hp.low]
  | cons x l ih =>
    obtain ⟨hx, hx5⟩ := hl x (List.mem_cons_self ..)
    have hu := mul_len p x hp.u hx.u
    have h1 : (mul p x).n ≤ 5 ^ (m + 1) := by
      have := Int.mul_le_mul hpn hx5 (by have := hx.u.pos; omega) (by exact Int.pow_nonneg (by decide))
      simpa [mul, Int.pow_succ] using this
    have h2 : (low (mul p x)).n ≤ 5 ^ (m + 1) := Int.le_trans (low_le _ hu.pos) h1
    have hm : m + 1 ≤ 8 := by simp at h; omega
    have h3 : (5 : Int) ^ (m + 1) ≤ 390625 := by
      have : m + 1 = 1 ∨ m + 1 = 2 ∨ m + 1 = 3 ∨ m + 1 = 4 ∨ m + 1 = 5 ∨ m + 1 = 6 ∨ m + 1 = 7 ∨ m + 1 = 8 := by omega
      rcases this with h | h | h | h | h | h | h | h <;> rw [h] <;> decide
    have h4 : ¬ 1048576 < (low (mul p x)).n := by omega
    simp only [prodFrom]
    rw [if_neg h4, ih _ (m + 1) (V.of_low hu (by omega)) h2 (fun y hy => hl y (List.mem_cons_of_mem _ hy)) (by simp at h; omega), fm_cons, low_mul_left _ _ hu.pos, mul_assoc]
theorem prod_links (l : List Q) (hl : ∀ x ∈ l, V x ∧ x.n ≤ 5) (h : l.length ≤ 8) : prodFrom one l = (low (fm l), 0) := by
  rw [prod_few l one 0 V.one (by decide) hl (by omega), one_mul']
theorem few_le (l : List Q) (hl : ∀ x ∈ l, V x ∧ x.n ≤ 5) (h : l.length ≤ 8) : (fm l).n ≤ 390625 := by
  have key : ∀ (l : List Q), (∀ x ∈ l, V x ∧ x.n ≤ 5) → 0 < (fm l).n ∧ (fm l).n ≤ 5 ^ l.length := by
    intro l
    induction l with
    | nil => intro _; exact ⟨by decide, by decide⟩
    | cons x l ih =>
      intro hl
      obtain ⟨hx, hx5⟩ := hl x (List.mem_cons_self ..)
      obtain ⟨i1, i2⟩ := ih fun y hy => hl y (List.mem_cons_of_mem _ hy)
      rw [fm_cons]
      refine ⟨Int.mul_pos hx.u.pos i1, ?_⟩
      have := Int.mul_le_mul hx5 i2 (by omega) (by decide)
      rw [List.length_cons, Int.pow_succ, Int.mul_comm]
      simpa [mul] using this
  have h1 := (key l hl).2
  have h3 : (5 : Int) ^ l.length ≤ 390625 := by
    have : l.length = 0 ∨ l.length = 1 ∨ l.length = 2 ∨ l.length = 3 ∨ l.length = 4 ∨ l.length = 5 ∨ l.length = 6 ∨ l.length = 7 ∨ l.length = 8 := by omega
    rcases this with h | h | h | h | h | h | h | h | h <;> rw [h] <;> decide
  omega
theorem few_V (l : List Q) (hl : ∀ x ∈ l, V x ∧ x.n ≤ 5) (h : l.length ≤ 8) : V (low (fm l)) := by
  have hu := fm_U l fun x hx => (hl x hx).1
  have := few_le l hl h
  have := low_le _ hu.pos
  exact V.of_low hu (by omega)

/-! ### Units along paths -/
/-- the link with a number -/
def lk (L : List Q) (i : Int) : Q := L.getD i.toNat one
theorem lk_get {L : List Q} {i : Int} (h0 : 0 ≤ i) (h1 : i < (L.length : Int)) : L[i.toNat]? = some (lk L i) := by
  have h : i.toNat < L.length := by omega
  rw [lk, List.getD_eq_getElem?_getD, List.getElem?_eq_getElem h]
  rfl
/-- the unit of a step -/
def up (a b c : Int) (L : List Q) (s t : Int) : Q := if 0 < t then lk L (3 * s + t - 1) else bar (lk L (3 * nx a b c s t - t - 1))
def ups (a b c : Int) (L : List Q) : Int → List Int → List Q
  | _, [] => []
  | s, t :: l => up a b c L s t :: ups a b c L (nx a b c s t) l
theorem ups_len (a b c : Int) (L : List Q) (s : Int) (l : List Int) : (ups a b c L s l).length = l.length := by
  induction l generalizing s with
  | nil => rfl
  | cons t l ih => simp [ups, ih]
/-- a field's links -/
structure Fl (a b c : Int) (L : List Q) : Prop where
  z : Sz a b c
  n : (L.length : Int) = 3 * (a * b * c)
  v : ∀ (i : Nat) (x : Q), L[i]? = some x → V x ∧ x.n ≤ 5
theorem Fl.lk {a b c : Int} {L : List Q} (h : Fl a b c L) {i : Int} (h0 : 0 ≤ i) (h1 : i < 3 * (a * b * c)) : V (lk L i) ∧ (lk L i).n ≤ 5 := h.v _ _ (lk_get h0 (by rw [h.n]; exact h1))
theorem idx_pos {a b c s t : Int} (h0 : 0 ≤ s) (h1 : s < a * b * c) (ht : 0 < t) (h3 : t ≤ 3) : 0 ≤ 3 * s + t - 1 ∧ 3 * s + t - 1 < 3 * (a * b * c) := by omega
theorem idx_neg {a b c s t : Int} (h : Sz a b c) (ht : IsStep t) (hn : ¬ 0 < t) : 0 ≤ 3 * nx a b c s t - t - 1 ∧ 3 * nx a b c s t - t - 1 < 3 * (a * b * c) := by
  have h1 := nx_rng h s t
  obtain ⟨t0, t1, t2⟩ := ht
  omega
theorem Fl.up {a b c : Int} {L : List Q} (h : Fl a b c L) {s t : Int} (h0 : 0 ≤ s) (h1 : s < a * b * c) (ht : IsStep t) : V (up a b c L s t) ∧ (up a b c L s t).n ≤ 5 := by
  unfold Tm.up
  split
  · rename_i hp
    have := idx_pos h0 h1 hp ht.2.2
    exact h.lk this.1 this.2
  · rename_i hn
    have := idx_neg (s := s) h.z ht hn
    have := h.lk this.1 this.2
    exact ⟨this.1.bar, this.2⟩
theorem Fl.ups {a b c : Int} {L : List Q} (h : Fl a b c L) (s : Int) (l : List Int) (h0 : 0 ≤ s) (h1 : s < a * b * c) (hl : ∀ t ∈ l, IsStep t) : ∀ x ∈ ups a b c L s l, V x ∧ x.n ≤ 5 := by
  induction l generalizing s with
  | nil => intro x hx; cases hx
  | cons t l ih =>
    intro x hx
    simp only [Tm.ups, List.mem_cons] at hx
    rcases hx with rfl | hx
    · exact h.up h0 h1 (hl t (List.mem_cons_self ..))
    · have hr := nx_rng h.z s t
      exact ih _ hr.1 hr.2 (fun u hu => hl u (List.mem_cons_of_mem _ hu)) x hx

/-- the unit along a path -/
def al (a b c : Int) (L : List Q) (s : Int) (l : List Int) : Q := low (fm (ups a b c L s l))
theorem Fl.al {a b c : Int} {L : List Q} (h : Fl a b c L) (s : Int) (l : List Int) (h0 : 0 ≤ s) (h1 : s < a * b * c) (hl : ∀ t ∈ l, IsStep t) (h8 : l.length ≤ 8) : prodFrom one (Tm.ups a b c L s l) = (Tm.al a b c L s l, 0) ∧ V (Tm.al a b c L s l) :=
  ⟨prod_links _ (h.ups s l h0 h1 hl) (by rw [ups_len]; exact h8), few_V _ (h.ups s l h0 h1 hl) (by rw [ups_len]; exact h8)⟩

/-! ### From the end -/
/-! ### Reduced paths -/
/-! ### Shifted fields -/
/-- where a shift brings a site -/
def sh (a b c x y z s : Int) : Int := site a b c (s % a + x) (s / a % b + y) (s / a / b + z)
theorem sh_site {a b c : Int} (h : Sz a b c) (x y z u v t : Int) : sh a b c x y z (site a b c u v t) = site a b c (u + x) (v + y) (t + z) := by
  unfold sh
  rw [px_site h, py_site h, pz_site h, site_add]
theorem sh_nx {a b c : Int} (h : Sz a b c) (x y z s t : Int) : sh a b c x y z (nx a b c s t) = nx a b c (sh a b c x y z s) t := by
  rw [nx, sh_site h, sh, nx_site h]
  rw [show s % a + dlt 1 t + x = s % a + x + dlt 1 t by omega, show s / a % b + dlt 2 t + y = s / a % b + y + dlt 2 t by omega, show s / a / b + dlt 3 t + z = s / a / b + z + dlt 3 t by omega]
/-- the links of the shifted field -/
structure Shd (a b c x y z : Int) (L G : List Q) : Prop where
  n : G.length = L.length
  g : ∀ s d : Int, 0 ≤ s → s < a * b * c → 0 ≤ d → d < 3 → lk G (3 * sh a b c x y z s + d) = lk L (3 * s + d)
theorem Shd.up {a b c x y z : Int} {L G : List Q} (k : Shd a b c x y z L G) (h : Sz a b c) {s t : Int} (h0 : 0 ≤ s) (h1 : s < a * b * c) (ht : IsStep t) : Tm.up a b c G (sh a b c x y z s) t = Tm.up a b c L s t := by
  unfold Tm.up
  obtain ⟨t0, t1, t2⟩ := ht
  by_cases hp : 0 < t
  · rw [if_pos hp, if_pos hp]
    have := k.g s (t - 1) h0 h1 (by omega) (by omega)
    rwa [show 3 * sh a b c x y z s + (t - 1) = 3 * sh a b c x y z s + t - 1 by omega, show 3 * s + (t - 1) = 3 * s + t - 1 by omega] at this
  · rw [if_neg hp, if_neg hp, ← sh_nx h]
    have hr := nx_rng h s t
    have := k.g (nx a b c s t) (-t - 1) hr.1 hr.2 (by omega) (by omega)
    rw [show 3 * sh a b c x y z (nx a b c s t) + (-t - 1) = 3 * sh a b c x y z (nx a b c s t) - t - 1 by omega, show 3 * nx a b c s t + (-t - 1) = 3 * nx a b c s t - t - 1 by omega] at this
    rw [this]
theorem Shd.ups {a b c x y z : Int} {L G : List Q} (k : Shd a b c x y z L G) (h : Sz a b c) {s : Int} (h0 : 0 ≤ s) (h1 : s < a * b * c) (l : List Int) (hl : ∀ t ∈ l, IsStep t) : Tm.ups a b c G (sh a b c x y z s) l = Tm.ups a b c L s l := by
  induction l generalizing s with
  | nil => rfl
  | cons t l ih =>
    have hr := nx_rng h s t
    simp only [Tm.ups]
    rw [k.up h h0 h1 (hl t (List.mem_cons_self ..)), ← sh_nx h, ih hr.1 hr.2 fun u hu => hl u (List.mem_cons_of_mem _ hu)]
theorem Shd.al {a b c x y z : Int} {L G : List Q} (k : Shd a b c x y z L G) (h : Sz a b c) {s : Int} (h0 : 0 ≤ s) (h1 : s < a * b * c) (l : List Int) (hl : ∀ t ∈ l, IsStep t) : Tm.al a b c G (sh a b c x y z s) l = Tm.al a b c L s l := by
  unfold Tm.al
  rw [k.ups h h0 h1 l hl]
end Tm

/- Plain mathematics of seeds and draws: the next seed, leaps, and what sorting and leaving out equal neighbours make of integers; no Go.
Conditions: none. -/
set_option autoImplicit false
namespace Cm
set_option linter.unusedVariables false
set_option linter.unusedSimpArgs false
def P : Int := 2147483647
/-- the next seed -/
def nxt (s : Int) : Int := s * 48271 % 2147483647
def IsSeed (s : Int) : Prop := 1 ≤ s ∧ s ≤ 2147483646
theorem nxt_rng (s : Int) : 0 ≤ nxt s ∧ nxt s ≤ 2147483646 := by unfold nxt; omega
theorem nxt_seed {s : Int} (h : IsSeed s) : IsSeed (nxt s) := by
  obtain ⟨h1, h2⟩ := h
  obtain ⟨r1, r2⟩ := nxt_rng s
  refine ⟨?_, r2⟩
  rcases Int.lt_or_eq_of_le r1 with h | h
  · omega
  · exfalso
    unfold nxt at h
    have hd : (2147483647 : Int) ∣ s * 48271 := Int.dvd_of_emod_eq_zero h.symm
    obtain ⟨n, rfl⟩ := Int.eq_ofNat_of_zero_le (show 0 ≤ s by omega)
    have hd' : 2147483647 ∣ n * 48271 := by
      have : ((2147483647 : Nat) : Int) ∣ ((n * 48271 : Nat) : Int) := by simpa using hd
      exact Int.natCast_dvd_natCast.1 this
    have hc : Nat.Coprime 2147483647 48271 := by decide
    have := hc.dvd_of_dvd_mul_right hd'
    have := Nat.le_of_dvd (by omega) this
    omega
/-- a draw among n -/
def drw (s n : Int) : Int := ((nxt s - 1) * 2147483646 + (nxt (nxt s) - 1)) % n
def adv (s : Int) : Int := nxt (nxt s)
theorem drw_rng {s n : Int} (hn : 1 ≤ n) : 0 ≤ drw s n ∧ drw s n < n := ⟨Int.emod_nonneg _ (by omega), Int.emod_lt_of_pos _ (by omega)⟩
theorem adv_seed {s : Int} (h : IsSeed s) : IsSeed (adv s) := nxt_seed (nxt_seed h)
theorem draw_bnd {s : Int} (h : IsSeed s) : 0 ≤ nxt s - 1 ∧ nxt s - 1 ≤ 2147483645 ∧ 0 ≤ nxt (nxt s) - 1 ∧ nxt (nxt s) - 1 ≤ 2147483645 ∧ 0 ≤ (nxt s - 1) * 2147483646 ∧ (nxt s - 1) * 2147483646 ≤ 4611686011984936670 := by
  obtain ⟨h1, h2⟩ := nxt_seed h
  obtain ⟨h3, h4⟩ := nxt_seed (nxt_seed h)
  omega
/-- the seed behind many steps -/
def leap (s : Int) (n : Nat) : Int := s * 48271 ^ n % 2147483647
/-- what holds while a leap is made: t steps of the factor f are left -/
def lp (s : Int) (n : Nat) (t f : Int) (k : Nat) : Prop := t * f ^ k % 2147483647 = leap s n ∧ 0 ≤ t ∧ t ≤ 2147483646 ∧ 0 ≤ f ∧ f ≤ 2147483646
def ins (x : Int) : List Int → List Int
  | [] => [x]
  | y :: ys => if x ≤ y then x :: y :: ys else y :: ins x ys
def isort : List Int → List Int
  | [] => []
  | x :: xs => ins x (isort xs)
theorem ins_perm (x : Int) (l : List Int) : (ins x l).Perm (x :: l) := by
  induction l with
  | nil => exact List.Perm.refl _
  | cons y ys ih =>
    unfold ins
    split
    · exact List.Perm.refl _
    · exact (ih.cons y).trans (List.Perm.swap x y ys)
theorem isort_perm (l : List Int) : (isort l).Perm l := by
  induction l with
  | nil => exact List.Perm.refl _
  | cons x xs ih => exact (ins_perm x _).trans (ih.cons x)
theorem ins_sorted (x : Int) (l : List Int) (h : List.Pairwise (· ≤ ·) l) : List.Pairwise (· ≤ ·) (ins x l) := by
  induction l with
  | nil => simp [ins]
  | cons y ys ih =>
    unfold ins
    have h1 := List.pairwise_cons.1 h
    split
    · rename_i hxy
      refine List.pairwise_cons.2 ⟨fun z hz => ?_, h⟩
      rcases List.mem_cons.1 hz with rfl | hz
      · exact hxy
      · have := h1.1 z hz; omega
    · refine List.pairwise_cons.2 ⟨fun z hz => ?_, ih h1.2⟩
      have := (ins_perm x ys).mem_iff.1 hz
      rcases List.mem_cons.1 this with rfl | hz
      · omega
      · exact h1.1 z hz
theorem isort_sorted (l : List Int) : List.Pairwise (· ≤ ·) (isort l) := by
  induction l with
  | nil => simp [isort]
  | cons x xs ih => exact ins_sorted x _ ih
theorem merge_isort (l : List Int) : l.mergeSort (fun x y => decide (x ≤ y)) = isort l := by
  refine List.Perm.eq_of_pairwise (le := (· ≤ ·)) (fun a b _ _ h k => by omega) ?_ (isort_sorted l) ((List.mergeSort_perm l _).trans (isort_perm l).symm)
  have := List.pairwise_mergeSort (le := fun x y : Int => decide (x ≤ y)) (fun a b c h k => by simp at *; omega) (fun a b => by simp; omega) l
  exact this.imp (fun h => by simpa using h)
end Cm

/- Plain mathematics of momenta: centered numbers, turners, opposites, which changes a draw accepts; no Go.
Conditions: none. -/
set_option autoImplicit false
namespace Km
set_option linter.unusedVariables false
set_option linter.unusedSimpArgs false
open Um
/-- the three numbers of a momentum -/
structure Kk where
  a : Int
  b : Int
  c : Int
deriving DecidableEq
def IsN (n : Int) : Prop := 0 ≤ n ∧ n ≤ 7
instance (n : Int) : Decidable (IsN n) := by unfold IsN; infer_instance
def IsK (k : Kk) : Prop := IsN k.a ∧ IsN k.b ∧ IsN k.c
instance (k : Kk) : Decidable (IsK k) := by unfold IsK; infer_instance
/-- a number, centered -/
def ctr (n : Int) : Int := if 4 < n % 8 then n % 8 - 8 else n % 8
/-- plus, minus or none -/
def sd (n : Int) : Int := if ctr n < 0 then -1 else if ctr n = 0 ∨ ctr n = 4 then 0 else 1
def turn (k : Kk) : Q := if sd k.a ≠ 0 ∧ sd k.b ≠ 0 ∧ sd k.c ≠ 0 then ⟨1, sd k.a, sd k.b, sd k.c, 2⟩ else if sd k.a ≠ 0 then ⟨0, sd k.a, 0, 0, 1⟩ else if sd k.b ≠ 0 then ⟨0, 0, sd k.b, 0, 1⟩ else if sd k.c ≠ 0 then ⟨0, 0, 0, sd k.c, 1⟩ else ⟨1, 0, 0, 0, 1⟩
/-- the number of the opposite -/
def oppN (n : Int) : Int := (8 - n) % 8
def opp (k : Kk) : Kk := ⟨oppN k.a, oppN k.b, oppN k.c⟩
/-- a draw that accepts a change accepts the smaller ones -/
def acc (ch d : Int) : Bool := decide (ch ≤ 0) || (decide (ch ≤ 30) && decide (d % 2 ^ ch.toNat = 0))
open Cm in
/-- the seed behind k draws -/
def adm (s : Int) : Nat → Int
  | 0 => s
  | k + 1 => Cm.adv (adm s k)
/-- the numbers of the momenta that are drawn, one behind another -/
def dr (s : Int) (k : Nat) : Int := Cm.drw (adm s k) 8
def moms (s : Int) : Nat → List Int
  | 0 => []
  | k + 1 => moms s k ++ [dr s k]
end Km

/- Plain mathematics of energies: small units and their products, traces of small units, sums of squares; no Go.
Conditions: none but those written at each theorem. -/
set_option autoImplicit false
namespace Km
set_option linter.unusedVariables false
set_option linter.unusedSimpArgs false
open Um Tm
def IsS (x : Q) : Prop := ∃ j : Nat, j < 24 ∧ small j = x
theorem small_bar_ex : ∀ k : Nat, k < 24 → ∃ j : Nat, j < 24 ∧ small j = bar (small k) := by decide +kernel
theorem small_mul_ex' : ∀ k : Nat, k < 24 → ∀ m : Nat, m < 24 → ∃ j : Nat, j < 24 ∧ small j = low (mul (small k) (small m)) := by decide +kernel
theorem IsS.V {x : Q} (h : IsS x) : V x := by
  obtain ⟨k, hk, rfl⟩ := h
  have h := small_v k hk
  have h2 := small_ok k hk
  exact ⟨⟨h.2.2, h.2.1⟩, h.1, by rcases h2 with h2 | h2 <;> omega⟩
theorem IsS.bar {x : Q} (h : IsS x) : IsS (bar x) := by
  obtain ⟨k, hk, rfl⟩ := h
  exact small_bar_ex k hk
theorem IsS.mul {x y : Q} (h : IsS x) (h2 : IsS y) : IsS (low (mul x y)) := by
  obtain ⟨k, hk, rfl⟩ := h
  obtain ⟨m, hm, rfl⟩ := h2
  exact small_mul_ex' k hk m hm
theorem IsS.one : IsS one := ⟨0, by decide, by decide⟩
/-- the trace of a small unit -/
def trI (x : Q) : Int := (tr x).1
theorem small_tr : ∀ k : Nat, k < 24 → (tr (small k)).2 = 1 ∧ -2 ≤ (tr (small k)).1 ∧ (tr (small k)).1 ≤ 2 := by decide +kernel
theorem IsS.tr {x : Q} (h : IsS x) : tr x = (trI x, 1) ∧ -2 ≤ trI x ∧ trI x ≤ 2 := by
  obtain ⟨k, hk, rfl⟩ := h
  obtain ⟨h1, h2, h3⟩ := small_tr k hk
  exact ⟨Prod.ext rfl h1, h2, h3⟩
/-- the sum of 2 minus the traces -/
def pot : List Q → Int
  | [] => 0
  | x :: l => (2 - trI x) + pot l
/-- the sum of the squares of the centered numbers -/
def kin : List Int → Int
  | [] => 0
  | x :: l => ctr x * ctr x + kin l
end Km
