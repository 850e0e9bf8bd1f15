/- Plain mathematics of unit quaternions: greatest common divisors, lowest terms, products, orders, traces. It names no program.
Conditions: none but those written at each theorem. -/

set_option autoImplicit false
namespace Um
set_option linter.unusedVariables false
set_option linter.unusedSimpArgs false

/-- five whole numbers: (a + b i + c j + d k) / n -/
structure Q where
  a : Int
  b : Int
  c : Int
  d : Int
  n : Int
deriving DecidableEq

def g (x : Q) : Nat := Nat.gcd (Nat.gcd (Nat.gcd (Nat.gcd x.a.natAbs x.b.natAbs) x.c.natAbs) x.d.natAbs) x.n.natAbs

def mul (x y : Q) : Q where
  a := x.a * y.a - x.b * y.b - x.c * y.c - x.d * y.d
  b := x.a * y.b + x.b * y.a + x.c * y.d - x.d * y.c
  c := x.a * y.c - x.b * y.d + x.c * y.a + x.d * y.b
  d := x.a * y.d + x.b * y.c - x.c * y.b + x.d * y.a
  n := x.n * y.n

def bar (x : Q) : Q := ⟨x.a, -x.b, -x.c, -x.d, x.n⟩
def neg (x : Q) : Q := ⟨-x.a, -x.b, -x.c, -x.d, x.n⟩
def one : Q := ⟨1, 0, 0, 0, 1⟩
def zero : Q := ⟨0, 0, 0, 0, 0⟩
def scale (k : Int) (x : Q) : Q := ⟨k * x.a, k * x.b, k * x.c, k * x.d, k * x.n⟩
def low (x : Q) : Q := ⟨x.a / g x, x.b / g x, x.c / g x, x.d / g x, x.n / g x⟩
/-- length 1, n above 0 -/
structure U (x : Q) : Prop where
  pos : 0 < x.n
  len : x.a * x.a + x.b * x.b + x.c * x.c + x.d * x.d = x.n * x.n

theorem g_dvd (x : Q) : (g x : Int) ∣ x.a ∧ (g x : Int) ∣ x.b ∧ (g x : Int) ∣ x.c ∧ (g x : Int) ∣ x.d ∧ (g x : Int) ∣ x.n := by
  have h4 : g x ∣ Nat.gcd (Nat.gcd (Nat.gcd x.a.natAbs x.b.natAbs) x.c.natAbs) x.d.natAbs := Nat.gcd_dvd_left _ _
  have h5 : g x ∣ x.n.natAbs := Nat.gcd_dvd_right _ _
  have h3 := Nat.dvd_trans h4 (Nat.gcd_dvd_left _ _)
  have hd := Nat.dvd_trans h4 (Nat.gcd_dvd_right _ _)
  have h2 := Nat.dvd_trans h3 (Nat.gcd_dvd_left _ _)
  have hc := Nat.dvd_trans h3 (Nat.gcd_dvd_right _ _)
  have ha := Nat.dvd_trans h2 (Nat.gcd_dvd_left _ _)
  have hb := Nat.dvd_trans h2 (Nat.gcd_dvd_right _ _)
  exact ⟨Int.ofNat_dvd_left.2 ha, Int.ofNat_dvd_left.2 hb, Int.ofNat_dvd_left.2 hc, Int.ofNat_dvd_left.2 hd, Int.ofNat_dvd_left.2 h5⟩

theorem dvd_g (x : Q) (k : Int) (ha : k ∣ x.a) (hb : k ∣ x.b) (hc : k ∣ x.c) (hd : k ∣ x.d) (hn : k ∣ x.n) : k ∣ (g x : Int) := by
  rw [Int.ofNat_dvd_right]
  have f : ∀ z : Int, k ∣ z → k.natAbs ∣ z.natAbs := fun z h => Int.natAbs_dvd_natAbs.2 h
  exact Nat.dvd_gcd (Nat.dvd_gcd (Nat.dvd_gcd (Nat.dvd_gcd (f _ ha) (f _ hb)) (f _ hc)) (f _ hd)) (f _ hn)

theorem g_pos (x : Q) (h : 0 < x.n) : 0 < (g x : Int) := by
  have : g x ≠ 0 := by
    intro h0
    have := (g_dvd x).2.2.2.2
    rw [h0] at this
    have := Int.zero_dvd.1 this
    omega
  omega

theorem g_scale (k : Int) (x : Q) : g (scale k x) = k.natAbs * g x := by
  simp only [g, scale, Int.natAbs_mul, Nat.gcd_mul_left]

theorem scale_low (x : Q) : scale (g x) (low x) = x := by
  have h := g_dvd x
  cases x with | mk a b c d n =>
  simp only [scale, low]
  rw [Int.mul_ediv_cancel' h.1, Int.mul_ediv_cancel' h.2.1, Int.mul_ediv_cancel' h.2.2.1, Int.mul_ediv_cancel' h.2.2.2.1, Int.mul_ediv_cancel' h.2.2.2.2]

theorem low_scale (k : Int) (x : Q) (hk : 0 < k) : low (scale k x) = low x := by
  have hg : ((g (scale k x) : Nat) : Int) = k * (g x : Int) := by
    rw [g_scale]; rw [Int.natCast_mul, Int.natAbs_of_nonneg (by omega)]
  simp only [low, hg]
  simp only [scale]
  rw [Int.mul_ediv_mul_of_pos _ _ hk, Int.mul_ediv_mul_of_pos _ _ hk, Int.mul_ediv_mul_of_pos _ _ hk, Int.mul_ediv_mul_of_pos _ _ hk, Int.mul_ediv_mul_of_pos _ _ hk]

/-- what is proportional has one form in lowest terms -/
theorem low_eq (x y : Q) (k m : Int) (hk : 0 < k) (hm : 0 < m) (h : scale k x = scale m y) : low x = low y := by
  rw [← low_scale k x hk, h, low_scale m y hm]

theorem low_of_prim (x : Q) (h : g x = 1) : low x = x := by
  cases x with | mk a b c d n => simp [low, h]

theorem g_low (x : Q) (h : 0 < x.n) : g (low x) = 1 := by
  have h1 : g x = g x * g (low x) := by
    have := g_scale (g x) (low x)
    rw [scale_low] at this
    simpa using this
  have hp := g_pos x h
  have hp' : 0 < g x := by omega
  exact Nat.eq_of_mul_eq_mul_left hp' (by omega)

theorem low_part (x : Q) : x.a = (g x : Int) * (low x).a ∧ x.b = (g x : Int) * (low x).b ∧ x.c = (g x : Int) * (low x).c ∧ x.d = (g x : Int) * (low x).d ∧ x.n = (g x : Int) * (low x).n := by
  have h := scale_low x
  refine ⟨?_, ?_, ?_, ?_, ?_⟩
  · exact (congrArg Q.a h).symm
  · exact (congrArg Q.b h).symm
  · exact (congrArg Q.c h).symm
  · exact (congrArg Q.d h).symm
  · exact (congrArg Q.n h).symm

theorem low_pos (x : Q) (h : 0 < x.n) : 0 < (low x).n := by
  have h2 := (low_part x).2.2.2.2
  have hp := g_pos x h
  rw [h2, Int.mul_comm] at h
  exact Int.pos_of_mul_pos_left h (by omega)

theorem low_le (x : Q) (h : 0 < x.n) : (low x).n ≤ x.n := by
  have h2 := (low_part x).2.2.2.2
  have hp := g_pos x h
  have hl := low_pos x h
  have : 1 * (low x).n ≤ (g x : Int) * (low x).n := Int.mul_le_mul_of_nonneg_right (by omega) (by omega)
  omega

theorem low_len (x : Q) (h : U x) : U (low x) := by
  have hp := g_pos x h.pos
  have hl := low_part x
  refine ⟨low_pos x h.pos, ?_⟩
  have e := h.len
  generalize low x = y at *
  generalize (g x : Int) = k at *
  obtain ⟨ha, hb, hc, hd, hn⟩ := hl
  rw [ha, hb, hc, hd, hn] at e
  have e2 : (k * k) * (y.a * y.a + y.b * y.b + y.c * y.c + y.d * y.d) = (k * k) * (y.n * y.n) := by grind
  have hk : k * k ≠ 0 := by
    intro h0
    have := Int.mul_eq_zero.1 h0
    omega
  exact Int.eq_of_mul_eq_mul_left hk e2

theorem mul_len (x y : Q) (hx : U x) (hy : U y) : U (mul x y) := by
  refine ⟨Int.mul_pos hx.pos hy.pos, ?_⟩
  have h1 := hx.len
  have h2 := hy.len
  simp only [mul]
  have e : (x.a * x.a + x.b * x.b + x.c * x.c + x.d * x.d) * (y.a * y.a + y.b * y.b + y.c * y.c + y.d * y.d) = (x.n * x.n) * (y.n * y.n) := by rw [h1, h2]
  grind

theorem bar_len (x : Q) (hx : U x) : U (bar x) := by
  have h1 := hx.len
  exact ⟨hx.pos, by simp only [bar]; grind⟩

theorem neg_len (x : Q) (hx : U x) : U (neg x) := by
  have h1 := hx.len
  exact ⟨hx.pos, by simp only [neg]; grind⟩

theorem one_len : U one := ⟨by decide, by decide⟩

theorem mul_assoc (x y z : Q) : mul (mul x y) z = mul x (mul y z) := by
  simp only [mul, Q.mk.injEq]
  refine ⟨?_, ?_, ?_, ?_, ?_⟩ <;> grind

theorem scale_mul (k : Int) (x y : Q) : mul (scale k x) y = scale k (mul x y) := by
  simp only [mul, scale, Q.mk.injEq]
  refine ⟨?_, ?_, ?_, ?_, ?_⟩ <;> grind

theorem mul_scale (k : Int) (x y : Q) : mul x (scale k y) = scale k (mul x y) := by
  simp only [mul, scale, Q.mk.injEq]
  refine ⟨?_, ?_, ?_, ?_, ?_⟩ <;> grind

theorem scale_scale (k m : Int) (x : Q) : scale k (scale m x) = scale (k * m) x := by
  simp only [scale, Q.mk.injEq]
  refine ⟨?_, ?_, ?_, ?_, ?_⟩ <;> grind

theorem scale_one (x : Q) : scale 1 x = x := by simp [scale]

/-- a product of something in lowest terms -/
theorem low_mul_left (x y : Q) (h : 0 < x.n) : low (mul (low x) y) = low (mul x y) := by
  rw [← low_scale (g x) (mul (low x) y) (g_pos x h), ← scale_mul, scale_low]
theorem low_mul_right (x y : Q) (h : 0 < y.n) : low (mul x (low y)) = low (mul x y) := by
  rw [← low_scale (g y) (mul x (low y)) (g_pos y h), ← mul_scale, scale_low]

theorem low_low (x : Q) (h : 0 < x.n) : low (low x) = low x := low_of_prim _ (g_low x h)

/-- associativity, in lowest terms -/
theorem low_assoc (x y z : Q) (hx : 0 < x.n) (hy : 0 < y.n) (hz : 0 < z.n) : low (mul (low (mul x y)) z) = low (mul x (low (mul y z))) := by
  rw [low_mul_left _ _ (Int.mul_pos hx hy), low_mul_right _ _ (Int.mul_pos hy hz), mul_assoc]

theorem mul_bar (x : Q) (hx : U x) : mul x (bar x) = scale (x.n * x.n) one := by
  have h := hx.len
  simp only [mul, bar, scale, one, Q.mk.injEq]
  refine ⟨?_, ?_, ?_, ?_, ?_⟩ <;> grind
theorem bar_mul (x : Q) (hx : U x) : mul (bar x) x = scale (x.n * x.n) one := by
  have h := hx.len
  simp only [mul, bar, scale, one, Q.mk.injEq]
  refine ⟨?_, ?_, ?_, ?_, ?_⟩ <;> grind
theorem mul_one' (x : Q) : mul x one = x := by
  cases x; simp [mul, one]
theorem one_mul' (x : Q) : mul one x = x := by
  cases x; simp [mul, one]
theorem low_one : low one = one := by decide
theorem low_mul_bar (x : Q) (hx : U x) : low (mul x (bar x)) = one := by
  rw [mul_bar x hx, low_scale _ _ (Int.mul_pos hx.pos hx.pos), low_one]
theorem low_bar_mul (x : Q) (hx : U x) : low (mul (bar x) x) = one := by
  rw [bar_mul x hx, low_scale _ _ (Int.mul_pos hx.pos hx.pos), low_one]

/-- parts of a unit are no longer than n -/
theorem part_le (x : Q) (hx : U x) : -x.n ≤ x.a ∧ x.a ≤ x.n ∧ -x.n ≤ x.b ∧ x.b ≤ x.n ∧ -x.n ≤ x.c ∧ x.c ≤ x.n ∧ -x.n ≤ x.d ∧ x.d ≤ x.n := by
  have h := hx.len
  have hp := hx.pos
  have sq : ∀ z : Int, 0 ≤ z * z := fun z => by
    rcases Int.le_total 0 z with h | h
    · exact Int.mul_nonneg h h
    · exact Int.mul_nonneg_of_nonpos_of_nonpos h h
  have ha := sq x.a
  have hb := sq x.b
  have hc := sq x.c
  have hd := sq x.d
  have key : ∀ z : Int, z * z ≤ x.n * x.n → -x.n ≤ z ∧ z ≤ x.n := by
    intro z hz
    constructor
    · rcases Int.lt_or_le z (-x.n) with h1 | h1
      · have t : (x.n + 1) * (x.n + 1) ≤ (-z) * (-z) := Int.mul_le_mul (by omega) (by omega) (by omega) (by omega)
        have t2 : (x.n + 1) * (x.n + 1) = x.n * x.n + 2 * x.n + 1 := by grind
        have e : (-z) * (-z) = z * z := by grind
        omega
      · exact h1
    · rcases Int.lt_or_le x.n z with h1 | h1
      · have t : (x.n + 1) * (x.n + 1) ≤ z * z := Int.mul_le_mul (by omega) (by omega) (by omega) (by omega)
        have t2 : (x.n + 1) * (x.n + 1) = x.n * x.n + 2 * x.n + 1 := by grind
        omega
      · exact h1
  have a1 := key x.a (by omega)
  have b1 := key x.b (by omega)
  have c1 := key x.c (by omega)
  have d1 := key x.d (by omega)
  exact ⟨a1.1, a1.2, b1.1, b1.2, c1.1, c1.2, d1.1, d1.2⟩

/-- a valid unit -/
structure V (x : Q) : Prop where
  u : U x
  prim : g x = 1
  le : x.n ≤ 1048576

theorem V.low {x : Q} (h : V x) : low x = x := low_of_prim x h.prim

theorem g_bar (x : Q) : g (bar x) = g x := by simp [g, bar]
theorem g_neg (x : Q) : g (neg x) = g x := by simp [g, neg]
theorem V.bar {x : Q} (h : V x) : V (bar x) := ⟨bar_len x h.u, by rw [g_bar]; exact h.prim, h.le⟩
theorem V.neg {x : Q} (h : V x) : V (neg x) := ⟨neg_len x h.u, by rw [g_neg]; exact h.prim, h.le⟩
theorem V.one : V one := ⟨one_len, by decide, by decide⟩
theorem V.of_low {x : Q} (h : U x) (hl : (Um.low x).n ≤ 1048576) : V (Um.low x) := ⟨low_len x h, g_low x h.pos, hl⟩
theorem V.ext {x y : Q} (hx : V x) (hy : V y) (h : scale y.n x = scale x.n y) : x = y := by
  have := low_eq x y y.n x.n hy.u.pos hx.u.pos h
  rwa [hx.low, hy.low] at this

/-- Products of lists, with the limit -/
def prodFrom (p : Q) : List Q → Q × Int
  | [] => (p, 0)
  | q :: l => if 1048576 < (low (mul p q)).n then (zero, 3) else prodFrom (low (mul p q)) l

theorem prodFrom_append (p r : Q) (l m : List Q) (h : prodFrom p l = (r, 0)) : prodFrom p (l ++ m) = prodFrom r m := by
  induction l generalizing p with
  | nil => simp [prodFrom] at h; subst h; rfl
  | cons q l ih =>
    simp only [List.cons_append, prodFrom] at h ⊢
    split at h
    · simp at h
    · rename_i hq; rw [if_neg hq]; exact ih _ h

theorem prodFrom_err (p : Q) (l m : List Q) (e : Int) (r : Q) (h : prodFrom p l = (r, e)) (he : e ≠ 0) : prodFrom p (l ++ m) = (r, e) := by
  induction l generalizing p with
  | nil => simp [prodFrom] at h; exact absurd h.2.symm he
  | cons q l ih =>
    simp only [List.cons_append, prodFrom] at h ⊢
    split at h
    · rename_i hq; rw [if_pos hq]; exact h
    · rename_i hq; rw [if_neg hq]; exact ih _ h

/-- the order by the trace -/
def ord (x : Q) : Int :=
  if ¬ (x.n ∣ 2 * x.a) then 0 else if 2 * x.a = 2 * x.n then 1 else if 2 * x.a = -2 * x.n then 2 else if 2 * x.a = -x.n then 3 else if x.a = 0 then 4 else 6

theorem V.ones {x : Q} (h : V x) (ha : x.a = x.n) : x = Um.one := by
  have l := h.u.len
  have e : x.b * x.b + x.c * x.c + x.d * x.d = 0 := by rw [ha] at l; omega
  have sq : ∀ z : Int, 0 ≤ z * z := fun z => by
    rcases Int.le_total 0 z with h | h
    · exact Int.mul_nonneg h h
    · exact Int.mul_nonneg_of_nonpos_of_nonpos h h
  have hb := sq x.b
  have hc := sq x.c
  have hd := sq x.d
  have zb : x.b = 0 := by have : x.b * x.b = 0 := by omega
                          rcases Int.mul_eq_zero.1 this with h | h <;> exact h
  have zc : x.c = 0 := by have : x.c * x.c = 0 := by omega
                          rcases Int.mul_eq_zero.1 this with h | h <;> exact h
  have zd : x.d = 0 := by have : x.d * x.d = 0 := by omega
                          rcases Int.mul_eq_zero.1 this with h | h <;> exact h
  refine h.ext V.one ?_
  simp only [scale, Um.one, Q.mk.injEq]
  omega

theorem neg_neg' (x : Q) : neg (neg x) = x := by cases x; simp [neg]
theorem V.minus {x : Q} (h : V x) (ha : x.a = -x.n) : x = Um.neg Um.one := by
  have := (V.neg h).ones (by simp only [Um.neg]; omega)
  rw [← this, neg_neg']

theorem step_ok (p x r : Q) (l : List Q) (h : low (mul p x) = r) (hr : r.n ≤ 1048576) : prodFrom p (x :: l) = prodFrom r l := by
  simp only [prodFrom]
  rw [h, if_neg (by omega)]

theorem V.le_two {x : Q} (h : V x) : 2 * x.a ≤ 2 * x.n ∧ -2 * x.n ≤ 2 * x.a := by
  have := part_le x h.u
  omega

theorem V.trace_cases {x : Q} (h : V x) (hd : x.n ∣ 2 * x.a) : 2 * x.a = 2 * x.n ∨ 2 * x.a = -2 * x.n ∨ 2 * x.a = -x.n ∨ x.a = 0 ∨ 2 * x.a = x.n := by
  obtain ⟨k, hk⟩ := hd
  have hp := h.u.pos
  have hl := h.le_two
  have h1 : k ≤ 2 := by
    rcases Int.lt_or_le 2 k with h2 | h2
    · have : x.n * 3 ≤ x.n * k := Int.mul_le_mul_of_nonneg_left (by omega) (by omega)
      omega
    · exact h2
  have h2 : -2 ≤ k := by
    rcases Int.lt_or_le k (-2) with h2 | h2
    · have : x.n * k ≤ x.n * (-3) := Int.mul_le_mul_of_nonneg_left (by omega) (by omega)
      omega
    · exact h2
  have : k = -2 ∨ k = -1 ∨ k = 0 ∨ k = 1 ∨ k = 2 := by omega
  rcases this with rfl | rfl | rfl | rfl | rfl <;> omega

/-- the power by the order is 1 -/
theorem pow_ord (x : Q) (h : V x) : prodFrom one (List.replicate (ord x).toNat x) = (one, 0) := by
  have hp := h.u.pos
  have hle := h.le
  have first : ∀ l, prodFrom one (x :: l) = prodFrom x l := fun l => step_ok _ _ _ _ (by rw [one_mul', h.low]) h.le
  have last : ∀ l, prodFrom (bar x) (x :: l) = prodFrom one l := fun l => step_ok _ _ _ _ (low_bar_mul x h.u) (by decide)
  have second : ∀ l, prodFrom (neg one) (x :: l) = prodFrom (neg x) l := fun l => step_ok _ _ _ _ (by
    have : mul (neg one) x = neg x := by cases x; simp [mul, neg, one]
    rw [this]; exact (V.neg h).low) h.le
  have len := h.u.len
  unfold ord
  by_cases hd : x.n ∣ 2 * x.a
  · rw [if_neg (by simpa using hd)]
    by_cases h2 : 2 * x.a = 2 * x.n
    · rw [if_pos h2]
      have := h.ones (by omega)
      subst this
      decide
    rw [if_neg h2]
    by_cases h3 : 2 * x.a = -2 * x.n
    · rw [if_pos h3]
      have := h.minus (by omega)
      subst this
      decide
    rw [if_neg h3]
    by_cases h4 : 2 * x.a = -x.n
    · rw [if_pos h4]
      have e : low (mul x x) = bar x := by
        have ex : mul x x = scale x.n (bar x) := by
          simp only [mul, scale, bar, Q.mk.injEq]
          refine ⟨?_, ?_, ?_, ?_, ?_⟩ <;> grind
        rw [ex, low_scale _ _ hp]; exact (V.bar h).low
      show prodFrom one [x, x, x] = _
      rw [first, step_ok _ _ _ _ e h.le, last]; rfl
    rw [if_neg h4]
    by_cases h5 : x.a = 0
    · rw [if_pos h5]
      have e : low (mul x x) = neg one := by
        have ex : mul x x = scale (x.n * x.n) (neg one) := by
          simp only [mul, scale, neg, one, Q.mk.injEq]
          refine ⟨?_, ?_, ?_, ?_, ?_⟩ <;> grind
        rw [ex, low_scale _ _ (Int.mul_pos hp hp)]; decide
      have en : neg x = bar x := by cases x; simp only [neg, bar, Q.mk.injEq]; simp at h5; simp [h5]
      show prodFrom one [x, x, x, x] = _
      rw [first, step_ok _ _ _ _ e (by decide), second, en, last]; rfl
    rw [if_neg h5]
    have h6 : 2 * x.a = x.n := by
      have := h.trace_cases hd; omega
    have e : low (mul x x) = neg (bar x) := by
      have ex : mul x x = scale x.n (neg (bar x)) := by
        simp only [mul, scale, bar, neg, Q.mk.injEq]
        refine ⟨?_, ?_, ?_, ?_, ?_⟩ <;> grind
      rw [ex, low_scale _ _ hp]; exact (V.neg (V.bar h)).low
    have e3 : low (mul (neg (bar x)) x) = neg one := by
      have ex : mul (neg (bar x)) x = scale (x.n * x.n) (neg one) := by
        simp only [mul, scale, bar, neg, one, Q.mk.injEq]
        refine ⟨?_, ?_, ?_, ?_, ?_⟩ <;> grind
      rw [ex, low_scale _ _ (Int.mul_pos hp hp)]; decide
    have e5 : low (mul (neg x) x) = bar x := by
      have ex : mul (neg x) x = scale x.n (bar x) := by
        simp only [mul, scale, bar, neg, Q.mk.injEq]
        refine ⟨?_, ?_, ?_, ?_, ?_⟩ <;> grind
      rw [ex, low_scale _ _ hp]; exact (V.bar h).low
    show prodFrom one [x, x, x, x, x, x] = _
    rw [first, step_ok _ _ _ _ e h.le, step_ok _ _ _ _ e3 (by decide), second, step_ok _ _ _ _ e5 h.le, last]; rfl
  · rw [if_pos hd]; rfl

/-- rational numbers in lowest terms -/
def rat (x y : Int) : Int × Int := (x / (Nat.gcd x.natAbs y.natAbs : Int), y / (Nat.gcd x.natAbs y.natAbs : Int))

theorem rat_scale (k x y : Int) (hk : 0 < k) : rat (k * x) (k * y) = rat x y := by
  have hg : ((Nat.gcd (k * x).natAbs (k * y).natAbs : Nat) : Int) = k * (Nat.gcd x.natAbs y.natAbs : Int) := by
    rw [Int.natAbs_mul, Int.natAbs_mul, Nat.gcd_mul_left, Int.natCast_mul, Int.natAbs_of_nonneg (by omega)]
  simp only [rat, hg]
  rw [Int.mul_ediv_mul_of_pos _ _ hk, Int.mul_ediv_mul_of_pos _ _ hk]

theorem rat_eq (x y z t : Int) (hy : 0 < y) (ht : 0 < t) (h : x * t = z * y) : rat x y = rat z t := by
  rw [← rat_scale t x y ht, ← rat_scale y z t hy]
  rw [show t * x = y * z by grind, show t * y = y * t by grind]

theorem rat_part (x y : Int) : x = (Nat.gcd x.natAbs y.natAbs : Int) * (rat x y).1 ∧ y = (Nat.gcd x.natAbs y.natAbs : Int) * (rat x y).2 := by
  have h1 : ((Nat.gcd x.natAbs y.natAbs : Nat) : Int) ∣ x := Int.ofNat_dvd_left.2 (Nat.gcd_dvd_left _ _)
  have h2 : ((Nat.gcd x.natAbs y.natAbs : Nat) : Int) ∣ y := Int.ofNat_dvd_left.2 (Nat.gcd_dvd_right _ _)
  exact ⟨(Int.mul_ediv_cancel' h1).symm, (Int.mul_ediv_cancel' h2).symm⟩

theorem gcd_pos (x y : Int) (h : 0 < y) : 0 < (Nat.gcd x.natAbs y.natAbs : Int) := by
  have : 0 < Nat.gcd x.natAbs y.natAbs := Nat.gcd_pos_of_pos_right _ (by omega)
  omega

theorem rat_pos (x y : Int) (h : 0 < y) : 0 < (rat x y).2 := by
  have h2 := (rat_part x y).2
  have hp := gcd_pos x y h
  rw [h2, Int.mul_comm] at h
  exact Int.pos_of_mul_pos_left h (by omega)

theorem rat_le (x y : Int) (h : 0 < y) : (rat x y).2 ≤ y := by
  have h2 := (rat_part x y).2
  have hp := gcd_pos x y h
  have hl := rat_pos x y h
  have : 1 * (rat x y).2 ≤ (Nat.gcd x.natAbs y.natAbs : Int) * (rat x y).2 := Int.mul_le_mul_of_nonneg_right (by omega) (by omega)
  omega

theorem rat_cross (x y : Int) : x * (rat x y).2 = (rat x y).1 * y := by
  have h := rat_part x y
  generalize (rat x y).1 = p at *
  generalize (rat x y).2 = q at *
  generalize (Nat.gcd x.natAbs y.natAbs : Int) = k at *
  obtain ⟨h1, h2⟩ := h
  rw [h1, h2]; grind

theorem rat_num_zero (x y : Int) (h : 0 < y) : (rat x y).1 = 0 ↔ x = 0 := by
  have h1 := (rat_part x y).1
  have hp := gcd_pos x y h
  constructor
  · intro h0; rw [h0] at h1; simpa using h1
  · intro h0
    rw [h0] at h1
    rcases Int.mul_eq_zero.1 h1.symm with h3 | h3
    · rw [h0] at hp; omega
    · rw [h0]; exact h3

theorem rat_den_one (x y : Int) (h : 0 < y) : (rat x y).2 = 1 ↔ y ∣ x := by
  have hc := rat_part x y
  have hp := gcd_pos x y h
  have e : rat x y = (x / (Nat.gcd x.natAbs y.natAbs : Int), y / (Nat.gcd x.natAbs y.natAbs : Int)) := rfl
  constructor
  · intro h0
    have h2 := hc.2
    rw [h0] at h2
    have h1 := hc.1
    refine ⟨(rat x y).1, ?_⟩
    have h3 : (Nat.gcd x.natAbs y.natAbs : Int) = y := by omega
    rw [h3] at h1
    exact h1
  · rintro ⟨k, rfl⟩
    have : rat (y * k) y = rat k 1 := rat_eq _ _ _ _ h (by decide) (by grind)
    rw [this]; simp [rat]

theorem rat_num_of_dvd (x y k : Int) (h : 0 < y) (hk : x = y * k) : (rat x y).1 = k := by
  have : rat x y = rat k 1 := rat_eq _ _ _ _ h (by decide) (by subst hk; grind)
  rw [this]; simp [rat]

theorem rat_abs (x y m : Int) (h : 0 < y) (h1 : -m * y ≤ x) (h2 : x ≤ m * y) : -m * (rat x y).2 ≤ (rat x y).1 ∧ (rat x y).1 ≤ m * (rat x y).2 := by
  have hc := rat_part x y
  have hp := gcd_pos x y h
  generalize (rat x y).1 = p at *
  generalize (rat x y).2 = q at *
  generalize (Nat.gcd x.natAbs y.natAbs : Int) = k at *
  obtain ⟨e1, e2⟩ := hc
  rw [e1, e2] at h1 h2
  constructor
  · refine Int.le_of_mul_le_mul_left (a := k) ?_ hp
    have : k * (-m * q) = -m * (k * q) := by grind
    omega
  · refine Int.le_of_mul_le_mul_left (a := k) ?_ hp
    have : k * (m * q) = m * (k * q) := by grind
    omega

/-- the trace -/
def tr (x : Q) : Int × Int := rat (2 * x.a) x.n

theorem conj_a (g u : Q) : (mul (mul g u) (bar g)).a = (g.a * g.a + g.b * g.b + g.c * g.c + g.d * g.d) * u.a := by
  simp only [mul, bar]; grind

theorem V.ord_eq {x : Q} (h : V x) : ord x = if ¬ (tr x).2 = 1 then 0 else if (tr x).1 = 2 then 1 else if (tr x).1 = -2 then 2 else if (tr x).1 = -1 then 3 else if (tr x).1 = 0 then 4 else 6 := by
  have hp := h.u.pos
  have hden := rat_den_one (2 * x.a) x.n hp
  unfold ord
  by_cases hd : x.n ∣ 2 * x.a
  · have h1 : (tr x).2 = 1 := hden.2 hd
    rw [if_neg (by simpa using hd), if_neg (c := ¬ (tr x).2 = 1) (by simpa using h1)]
    rcases h.trace_cases hd with e | e | e | e | e
    · have : (tr x).1 = 2 := rat_num_of_dvd _ _ 2 hp (by omega)
      rw [if_pos e, if_pos this]
    · have : (tr x).1 = -2 := rat_num_of_dvd _ _ (-2) hp (by omega)
      rw [if_neg (by omega), if_pos e, if_neg (by omega), if_pos this]
    · have : (tr x).1 = -1 := rat_num_of_dvd _ _ (-1) hp (by omega)
      rw [if_neg (by omega), if_neg (by omega), if_pos e, if_neg (by omega), if_neg (by omega), if_pos this]
    · have : (tr x).1 = 0 := rat_num_of_dvd _ _ 0 hp (by omega)
      rw [if_neg (by omega), if_neg (by omega), if_neg (by omega), if_pos e, if_neg (by omega), if_neg (by omega), if_neg (by omega), if_pos this]
    · have : (tr x).1 = 1 := rat_num_of_dvd _ _ 1 hp (by omega)
      rw [if_neg (by omega), if_neg (by omega), if_neg (by omega), if_neg (by omega), if_neg (by omega), if_neg (by omega), if_neg (by omega), if_neg (by omega)]
  · have h1 : ¬ (tr x).2 = 1 := fun h0 => hd (hden.1 h0)
    rw [if_pos hd, if_pos h1]

theorem ord_range (x : Q) : 0 ≤ ord x ∧ ord x ≤ 6 := by
  unfold ord
  repeat' (split; · omega)
  omega

/-- when the limit does not come, a product of three is the product, in lowest terms -/
theorem prod3 (x y z r : Q) (hx : V x) (hy : V y) (h : prodFrom one [x, y, z] = (r, 0)) : r = low (mul (mul x y) z) := by
  simp only [prodFrom] at h
  rw [one_mul', hx.low] at h
  rw [if_neg (by have := hx.le; omega)] at h
  split at h
  · simp at h
  split at h
  · simp at h
  · simp only [Prod.mk.injEq] at h
    rw [← h.1, low_mul_left _ _ (Int.mul_pos hx.u.pos hy.u.pos)]

theorem prod4 (x y z t r : Q) (hx : V x) (hy : V y) (hz : V z) (h : prodFrom one [x, y, z, t] = (r, 0)) : r = low (mul (mul (mul x y) z) t) := by
  have hp := Int.mul_pos hx.u.pos hy.u.pos
  simp only [prodFrom] at h
  rw [one_mul', hx.low] at h
  rw [if_neg (by have := hx.le; omega)] at h
  split at h
  · simp at h
  split at h
  · simp at h
  split at h
  · simp at h
  · simp only [Prod.mk.injEq] at h
    have e := low_mul_left (mul x y) z hp
    rw [e] at h
    rw [← h.1, low_mul_left _ _ (Int.mul_pos hp hz.u.pos)]

/-- a conjugate has the same trace -/
theorem tr_conj (g u r : Q) (hg : V g) (hu : V u) (h : prodFrom one [g, u, bar g] = (r, 0)) : tr r = tr u := by
  have e := prod3 g u (bar g) r hg hu h
  have hp : 0 < (mul (mul g u) (bar g)).n := Int.mul_pos (Int.mul_pos hg.u.pos hu.u.pos) hg.u.pos
  have hl := low_part (mul (mul g u) (bar g))
  have hk := g_pos _ hp
  rw [← e] at hl
  have hr : 0 < r.n := by rw [e]; exact low_pos _ hp
  refine rat_eq _ _ _ _ hr hu.u.pos ?_
  have len := hg.u.len
  have hgn := hg.u.pos
  have ca := conj_a g u
  have cn : (mul (mul g u) (bar g)).n = g.n * g.n * u.n := by simp only [mul, bar]; grind
  rw [len] at ca
  have e1 : g.n * g.n * u.a = (Um.g (mul (mul g u) (bar g)) : Int) * r.a := by rw [← ca]; exact hl.1
  have e2 : g.n * g.n * u.n = (Um.g (mul (mul g u) (bar g)) : Int) * r.n := by rw [← cn]; exact hl.2.2.2.2
  generalize (Um.g (mul (mul g u) (bar g)) : Int) = k at hk e1 e2
  clear ca cn hl len e hp h
  have hgg : 0 < g.n * g.n := Int.mul_pos hgn hgn
  generalize g.n * g.n = N at *
  have hh : k * N ≠ 0 := by
    have := Int.mul_pos hk hgg; omega
  refine Int.eq_of_mul_eq_mul_left hh ?_
  have f1 : k * N * (2 * r.a * u.n) = 2 * (k * r.a) * (N * u.n) := by grind
  have f2 : k * N * (2 * u.a * r.n) = 2 * (N * u.a) * (k * r.n) := by grind
  rw [f1, f2, e1, e2]

/-- a commutator is 1 exactly if the two commute -/
theorem comm_iff (u v r : Q) (hu : V u) (hv : V v) (h : prodFrom one [u, v, bar u, bar v] = (r, 0)) : r = one ↔ mul u v = mul v u := by
  have e := prod4 u v (bar u) (bar v) r hu hv (V.bar hu) h
  have huv := Int.mul_pos hu.u.pos hv.u.pos
  have hp : 0 < (mul (mul (mul u v) (bar u)) (bar v)).n := Int.mul_pos (Int.mul_pos huv hu.u.pos) hv.u.pos
  constructor
  · intro h1
    have hs := scale_low (mul (mul (mul u v) (bar u)) (bar v))
    rw [← e, h1] at hs
    have hk : (Um.g (mul (mul (mul u v) (bar u)) (bar v)) : Int) = u.n * v.n * u.n * v.n := by
      have := congrArg Q.n hs
      simpa [scale, one, mul, bar] using this
    rw [hk] at hs
    have h2 : mul (mul (mul (mul (mul u v) (bar u)) (bar v)) v) u = mul (mul (scale (u.n * v.n * u.n * v.n) one) v) u := by rw [hs]
    rw [mul_assoc (mul (mul u v) (bar u)), bar_mul v hv.u, mul_scale, mul_one', scale_mul, mul_assoc (mul u v), bar_mul u hu.u, mul_scale, scale_scale, mul_one', scale_mul, one_mul', scale_mul] at h2
    have hc : (0 : Int) < v.n * v.n * (u.n * u.n) := Int.mul_pos (Int.mul_pos hv.u.pos hv.u.pos) (Int.mul_pos hu.u.pos hu.u.pos)
    have hc2 : u.n * v.n * u.n * v.n = v.n * v.n * (u.n * u.n) := by grind
    rw [hc2] at h2
    simp only [scale, Q.mk.injEq] at h2
    obtain ⟨a1, a2, a3, a4, a5⟩ := h2
    have f : ∀ p q : Int, v.n * v.n * (u.n * u.n) * p = v.n * v.n * (u.n * u.n) * q → p = q := fun p q hpq => Int.eq_of_mul_eq_mul_left (by omega) hpq
    have b1 := f _ _ a1
    have b2 := f _ _ a2
    have b3 := f _ _ a3
    have b4 := f _ _ a4
    have b5 := f _ _ a5
    cases hx : mul u v
    cases hy : mul v u
    rw [hx, hy] at b1 b2 b3 b4 b5
    simp at b1 b2 b3 b4 b5
    simp [b1, b2, b3, b4, b5]
  · intro h1
    rw [e, h1, mul_assoc v u, mul_bar u hu.u, mul_scale, mul_one', scale_mul, mul_bar v hv.u, scale_scale, low_scale _ _ (Int.mul_pos (Int.mul_pos hu.u.pos hu.u.pos) (Int.mul_pos hv.u.pos hv.u.pos)), low_one]

/-- the distance -/
def dist (u v : Q) : Int × Int := rat (2 * (mul (bar u) v).n - 2 * (mul (bar u) v).a) (mul (bar u) v).n

theorem dist_comm (u v : Q) : dist u v = dist v u := by
  unfold dist
  have e1 : (mul (bar u) v).n = (mul (bar v) u).n := by simp only [mul, bar]; grind
  have e2 : (mul (bar u) v).a = (mul (bar v) u).a := by simp only [mul, bar]; grind
  rw [e1, e2]

theorem sq_nonneg (z : Int) : 0 ≤ z * z := by
  rcases Int.le_total 0 z with h | h
  · exact Int.mul_nonneg h h
  · exact Int.mul_nonneg_of_nonpos_of_nonpos h h
theorem sq_zero (z : Int) (h : z * z = 0) : z = 0 := by
  rcases Int.mul_eq_zero.1 h with h | h <;> exact h

theorem dist_zero (u v : Q) (hu : V u) (hv : V v) : (dist u v).1 = 0 ↔ u = v := by
  have hp : 0 < (mul (bar u) v).n := Int.mul_pos hu.u.pos hv.u.pos
  rw [show (dist u v).1 = 0 ↔ _ from rat_num_zero _ _ hp]
  have lu := hu.u.len
  have lv := hv.u.len
  constructor
  · intro h
    have h' : u.a * v.a + u.b * v.b + u.c * v.c + u.d * v.d = u.n * v.n := by
      simp only [mul, bar] at h; grind
    have s : (v.n * u.a - u.n * v.a) * (v.n * u.a - u.n * v.a) + (v.n * u.b - u.n * v.b) * (v.n * u.b - u.n * v.b) + (v.n * u.c - u.n * v.c) * (v.n * u.c - u.n * v.c) + (v.n * u.d - u.n * v.d) * (v.n * u.d - u.n * v.d) = 0 := by grind
    have s1 := sq_nonneg (v.n * u.a - u.n * v.a)
    have s2 := sq_nonneg (v.n * u.b - u.n * v.b)
    have s3 := sq_nonneg (v.n * u.c - u.n * v.c)
    have s4 := sq_nonneg (v.n * u.d - u.n * v.d)
    have z1 := sq_zero _ (show (v.n * u.a - u.n * v.a) * (v.n * u.a - u.n * v.a) = 0 by omega)
    have z2 := sq_zero _ (show (v.n * u.b - u.n * v.b) * (v.n * u.b - u.n * v.b) = 0 by omega)
    have z3 := sq_zero _ (show (v.n * u.c - u.n * v.c) * (v.n * u.c - u.n * v.c) = 0 by omega)
    have z4 := sq_zero _ (show (v.n * u.d - u.n * v.d) * (v.n * u.d - u.n * v.d) = 0 by omega)
    refine hu.ext hv ?_
    simp only [scale, Q.mk.injEq]
    refine ⟨by omega, by omega, by omega, by omega, by grind⟩
  · rintro rfl
    simp only [mul, bar]; grind

/-- traces multiply -/
theorem tr_mul (u v p q : Q) (hu : V u) (hv : V v) (hp : p = low (mul u v)) (hq : q = low (mul u (bar v))) :
    rat ((tr u).1 * (tr v).1) ((tr u).2 * (tr v).2) = rat ((tr p).1 * (tr q).2 + (tr q).1 * (tr p).2) ((tr p).2 * (tr q).2) := by
  have hun := hu.u.pos
  have hvn := hv.u.pos
  have hm : 0 < (mul u v).n := Int.mul_pos hun hvn
  have hm' : 0 < (mul u (bar v)).n := Int.mul_pos hun hvn
  have trlow : ∀ x : Q, 0 < x.n → tr (low x) = tr x := by
    intro x hx
    have hl := low_part x
    have hk := g_pos x hx
    have := rat_scale (Um.g x : Int) (2 * (low x).a) (low x).n hk
    unfold tr
    rw [← this, show (Um.g x : Int) * (2 * (low x).a) = 2 * x.a by rw [hl.1]; grind, ← hl.2.2.2.2]
  have ep : tr p = tr (mul u v) := by rw [hp, trlow _ hm]
  have eq : tr q = tr (mul u (bar v)) := by rw [hq, trlow _ hm']
  rw [ep, eq]
  have c1 := rat_cross (2 * u.a) u.n
  have c2 := rat_cross (2 * v.a) v.n
  have c3 := rat_cross (2 * (mul u v).a) (mul u v).n
  have c4 := rat_cross (2 * (mul u (bar v)).a) (mul u (bar v)).n
  have p1 := rat_pos (2 * u.a) u.n hun
  have p2 := rat_pos (2 * v.a) v.n hvn
  have p3 := rat_pos (2 * (mul u v).a) (mul u v).n hm
  have p4 := rat_pos (2 * (mul u (bar v)).a) (mul u (bar v)).n hm'
  have e1 : rat ((tr u).1 * (tr v).1) ((tr u).2 * (tr v).2) = rat (4 * u.a * v.a) (u.n * v.n) := by
    refine rat_eq _ _ _ _ (Int.mul_pos p1 p2) (Int.mul_pos hun hvn) ?_
    show (rat (2 * u.a) u.n).1 * (rat (2 * v.a) v.n).1 * (u.n * v.n) = 4 * u.a * v.a * ((rat (2 * u.a) u.n).2 * (rat (2 * v.a) v.n).2)
    generalize (rat (2 * u.a) u.n).1 = x1 at *
    generalize (rat (2 * u.a) u.n).2 = x2 at *
    generalize (rat (2 * v.a) v.n).1 = y1 at *
    generalize (rat (2 * v.a) v.n).2 = y2 at *
    have : x1 * y1 * (u.n * v.n) = (x1 * u.n) * (y1 * v.n) := by grind
    rw [this, ← c1, ← c2]; grind
  have e2 : rat ((tr (mul u v)).1 * (tr (mul u (bar v))).2 + (tr (mul u (bar v))).1 * (tr (mul u v)).2) ((tr (mul u v)).2 * (tr (mul u (bar v))).2) = rat (4 * u.a * v.a) (u.n * v.n) := by
    refine rat_eq _ _ _ _ (Int.mul_pos p3 p4) (Int.mul_pos hun hvn) ?_
    unfold tr
    generalize (rat (2 * (mul u v).a) (mul u v).n).1 = x1 at *
    generalize (rat (2 * (mul u v).a) (mul u v).n).2 = x2 at *
    generalize (rat (2 * (mul u (bar v)).a) (mul u (bar v)).n).1 = y1 at *
    generalize (rat (2 * (mul u (bar v)).a) (mul u (bar v)).n).2 = y2 at *
    have n1 : (mul u v).n = u.n * v.n := rfl
    have n2 : (mul u (bar v)).n = u.n * v.n := rfl
    rw [n1] at c3
    rw [n2] at c4
    have : (x1 * y2 + y1 * x2) * (u.n * v.n) = (x1 * (u.n * v.n)) * y2 + (y1 * (u.n * v.n)) * x2 := by grind
    rw [this, ← c3, ← c4]
    simp only [mul, bar]; grind
  rw [e1, e2]

/-- the Cayley map, not in lowest terms -/
def cay (x y z d : Int) : Q := ⟨d * d - (x * x + y * y + z * z), 2 * d * x, 2 * d * y, 2 * d * z, d * d + (x * x + y * y + z * z)⟩

theorem cay_len (x y z d : Int) (hd : 0 < d) : U (cay x y z d) := by
  have h1 := sq_nonneg x
  have h2 := sq_nonneg y
  have h3 := sq_nonneg z
  have h4 := Int.mul_pos hd hd
  exact ⟨by simp only [cay]; omega, by simp only [cay]; grind⟩

/-- the coordinates of the Cayley map's inverse: only where a is not -n -/
def vec (u : Q) : (Int × Int) × (Int × Int) × (Int × Int) := (rat u.b (u.n + u.a), rat u.c (u.n + u.a), rat u.d (u.n + u.a))

theorem vec_low (x : Q) (h : 0 < x.n) (_ha : 0 < x.n + x.a) : vec (low x) = vec x := by
  have hl := low_part x
  have hk := g_pos x h
  generalize low x = y at *
  generalize (g x : Int) = k at *
  obtain ⟨h1, h2, h3, h4, h5⟩ := hl
  have e : x.n + x.a = k * (y.n + y.a) := by rw [h1, h5]; grind
  simp only [vec]
  rw [e, h2, h3, h4, rat_scale _ _ _ hk, rat_scale _ _ _ hk, rat_scale _ _ _ hk]

theorem low_sum (x : Q) (h : 0 < x.n) (ha : 0 < x.n + x.a) : 0 < (low x).n + (low x).a := by
  have hl := low_part x
  have hk := g_pos x h
  generalize low x = y at *
  generalize (g x : Int) = k at *
  obtain ⟨h1, h2, h3, h4, h5⟩ := hl
  have e : x.n + x.a = (y.n + y.a) * k := by rw [h1, h5]; grind
  rw [e] at ha
  exact Int.pos_of_mul_pos_left ha (by omega)

theorem vec_cay (x y z d : Int) (hd : 0 < d) : vec (low (cay x y z d)) = (rat x d, rat y d, rat z d) ∧ 0 < (low (cay x y z d)).n + (low (cay x y z d)).a := by
  have hp := (cay_len x y z d hd).pos
  have hdd := Int.mul_pos hd hd
  have e : (cay x y z d).n + (cay x y z d).a = 2 * (d * d) := by simp only [cay]; omega
  have ha : 0 < (cay x y z d).n + (cay x y z d).a := by omega
  refine ⟨?_, low_sum _ hp ha⟩
  rw [vec_low _ hp ha]
  simp only [vec]
  rw [e]
  have h2 : 0 < 2 * (d * d) := by omega
  refine Prod.ext ?_ (Prod.ext ?_ ?_)
  · exact rat_eq _ _ _ _ h2 hd (by simp only [cay]; grind)
  · exact rat_eq _ _ _ _ h2 hd (by simp only [cay]; grind)
  · exact rat_eq _ _ _ _ h2 hd (by simp only [cay]; grind)

theorem low_bar (x : Q) : low (bar x) = bar (low x) := by
  have h := g_dvd x
  simp only [low, g_bar]
  simp only [bar, Q.mk.injEq]
  refine ⟨trivial, ?_, ?_, ?_, trivial⟩
  · exact Int.neg_ediv_of_dvd h.2.1
  · exact Int.neg_ediv_of_dvd h.2.2.1
  · exact Int.neg_ediv_of_dvd h.2.2.2.1

theorem cay_neg (x y z d : Int) : cay (-x) (-y) (-z) d = bar (cay x y z d) := by
  simp only [cay, bar, Q.mk.injEq]
  refine ⟨?_, ?_, ?_, ?_, ?_⟩ <;> grind

/-- the square of the length -/
def nrm (x : Q) : Int := x.a * x.a + x.b * x.b + x.c * x.c + x.d * x.d
theorem nrm_mul (x y : Q) : nrm (mul x y) = nrm x * nrm y := by
  simp only [nrm, mul]; grind
theorem nrm_bar (x : Q) : nrm (bar x) = nrm x := by
  simp only [nrm, bar]; grind

/-- a vector turned -/
def turn (u : Q) (x y z : Int) : Q := mul (mul u ⟨0, x, y, z, 1⟩) (bar u)
theorem turn_a (u : Q) (x y z : Int) : (turn u x y z).a = 0 := by
  simp only [turn, mul, bar]; grind
theorem turn_n (u : Q) (x y z : Int) : (turn u x y z).n = u.n * u.n := by
  simp only [turn, mul, bar]; grind
theorem turn_nrm (u : Q) (x y z : Int) (h : U u) : nrm (turn u x y z) = (x * x + y * y + z * z) * ((u.n * u.n) * (u.n * u.n)) := by
  have e : nrm u = u.n * u.n := h.len
  have e2 : nrm ⟨0, x, y, z, 1⟩ = x * x + y * y + z * z := by simp [nrm]
  unfold turn
  rw [nrm_mul, nrm_mul, nrm_bar, e, e2]
  generalize u.n * u.n = N
  grind
theorem turn_len (u : Q) (x y z : Int) (h : U u) : (turn u x y z).b * (turn u x y z).b + (turn u x y z).c * (turn u x y z).c + (turn u x y z).d * (turn u x y z).d = (x * x + y * y + z * z) * ((u.n * u.n) * (u.n * u.n)) := by
  rw [← turn_nrm u x y z h]
  simp [nrm, turn_a]

/-- the small units -/
def small (k : Int) : Q :=
  if k < 8 then
    if k = 0 then ⟨1, 0, 0, 0, 1⟩ else if k = 1 then ⟨-1, 0, 0, 0, 1⟩ else if k = 2 then ⟨0, 1, 0, 0, 1⟩ else if k = 3 then ⟨0, -1, 0, 0, 1⟩
    else if k = 4 then ⟨0, 0, 1, 0, 1⟩ else if k = 5 then ⟨0, 0, -1, 0, 1⟩ else if k = 6 then ⟨0, 0, 0, 1, 1⟩ else ⟨0, 0, 0, -1, 1⟩
  else ⟨1 - 2 * ((k - 8) % 2), 1 - 2 * ((k - 8) / 2 % 2), 1 - 2 * ((k - 8) / 4 % 2), 1 - 2 * ((k - 8) / 8 % 2), 2⟩

/-- the number of a small unit among the first k, or -1 -/
def find (u : Q) : Nat → Nat → Int
  | 0, _ => -1
  | f + 1, k => if small k = u then k else find u f (k + 1)

def num (u : Q) : Int := find u 24 0

theorem num_small : ∀ k : Nat, k < 24 → num (small k) = k := by decide +kernel
theorem small_ok : ∀ k : Nat, k < 24 → (small k).n = 1 ∨ (small k).n = 2 := by decide +kernel
theorem small_v : ∀ k : Nat, k < 24 → g (small k) = 1 ∧ (small k).a * (small k).a + (small k).b * (small k).b + (small k).c * (small k).c + (small k).d * (small k).d = (small k).n * (small k).n ∧ 0 < (small k).n := by decide +kernel
theorem small_mul : ∀ k : Nat, k < 24 → ∀ m : Nat, m < 24 → (low (mul (small k) (small m))).n ≤ 2 ∧ 0 ≤ num (low (mul (small k) (small m))) := by decide +kernel
theorem small_conj : ∀ k : Nat, k < 24 → ∀ m : Nat, m < 24 → (prodFrom one [small k, small m, bar (small k)]).2 = 0 ∧ 0 ≤ num (prodFrom one [small k, small m, bar (small k)]).1 ∧ ord (prodFrom one [small k, small m, bar (small k)]).1 = ord (small m) ∧ 0 < ord (small m) ∧ 12 % ord (small m) = 0 := by decide +kernel
end Um

/- Plain mathematics of sites, places and steps; no Go.
Conditions: none. -/
set_option autoImplicit false
namespace Tm
set_option linter.unusedVariables false
set_option linter.unusedSimpArgs false

/-- sizes that are allowed -/
structure Sz (a b c : Int) : Prop where
  a1 : 1 ≤ a
  a4 : a ≤ 4
  b1 : 1 ≤ b
  b4 : b ≤ 4
  c1 : 1 ≤ c
  c4 : c ≤ 4
  p : a * b * c ≤ 16

theorem four {a : Int} (h1 : 1 ≤ a) (h4 : a ≤ 4) : a = 1 ∨ a = 2 ∨ a = 3 ∨ a = 4 := by omega
theorem mul_rng {a b c : Int} (a1 : 1 ≤ a) (a4 : a ≤ 4) (b1 : 1 ≤ b) (b4 : b ≤ 4) (c1 : 1 ≤ c) (c4 : c ≤ 4) : 1 ≤ a * b ∧ a * b ≤ 16 ∧ 1 ≤ a * b * c ∧ a * b * c ≤ 64 := by
  rcases four a1 a4 with rfl | rfl | rfl | rfl <;> rcases four b1 b4 with rfl | rfl | rfl | rfl <;> rcases four c1 c4 with rfl | rfl | rfl | rfl <;> decide

/-- the remainder that the code makes -/
theorem rem_cases (x n : Int) (hn : 1 ≤ n) : (0 ≤ x.tmod n ∧ x.tmod n = x % n) ∨ (x.tmod n < 0 ∧ x.tmod n + n = x % n) := by
  have h := @Int.tmod_eq_emod x n
  have h1 := Int.emod_nonneg x (show n ≠ 0 by omega)
  have h2 := Int.emod_lt_of_pos x (show 0 < n by omega)
  by_cases hc : 0 ≤ x ∨ n ∣ x
  · rw [if_pos hc] at h
    left
    rw [h]
    simp
    exact h1
  · rw [if_neg hc] at h
    right
    have e : ((n.natAbs : Nat) : Int) = n := by omega
    rw [e] at h
    omega
theorem rem_bnd (x n : Int) (hn : 1 ≤ n) : -n < x.tmod n ∧ x.tmod n < n := by
  have h : (x.tmod n).natAbs < n.natAbs := by rw [Int.natAbs_tmod]; exact Nat.mod_lt _ (by omega)
  omega
theorem rem_twice (x n : Int) (hn : 1 ≤ n) : (x.tmod n + n) % n = x % n := by
  rcases rem_cases x n hn with h | h
  · rw [h.2, Int.add_emod_right, Int.emod_emod]
  · rw [h.2, Int.emod_emod]

/-- the site with a place -/
def site (a b c x y z : Int) : Int := x % a + a * (y % b + b * (z % c))

theorem site_rng {a b c : Int} (h : Sz a b c) (x y z : Int) : 0 ≤ site a b c x y z ∧ site a b c x y z < a * b * c := by
  obtain ⟨a1, a4, b1, b4, c1, c4, -⟩ := h
  unfold site
  rcases four a1 a4 with rfl | rfl | rfl | rfl <;> rcases four b1 b4 with rfl | rfl | rfl | rfl <;> rcases four c1 c4 with rfl | rfl | rfl | rfl <;> omega
theorem px_site {a b c : Int} (h : Sz a b c) (x y z : Int) : site a b c x y z % a = x % a := by
  unfold site
  rw [Int.add_mul_emod_self_left, Int.emod_emod]
theorem q_site {a b c : Int} (h : Sz a b c) (x y z : Int) : site a b c x y z / a = y % b + b * (z % c) := by
  unfold site
  have h1 := Int.emod_nonneg x (show a ≠ 0 by have := h.a1; omega)
  have h2 := Int.emod_lt_of_pos x (show 0 < a by have := h.a1; omega)
  rw [Int.add_mul_ediv_left _ _ (show a ≠ 0 by have := h.a1; omega), Int.ediv_eq_zero_of_lt h1 h2, Int.zero_add]
theorem py_site {a b c : Int} (h : Sz a b c) (x y z : Int) : site a b c x y z / a % b = y % b := by
  rw [q_site h, Int.add_mul_emod_self_left, Int.emod_emod]
theorem pz_site {a b c : Int} (h : Sz a b c) (x y z : Int) : site a b c x y z / a / b = z % c := by
  have h1 := Int.emod_nonneg y (show b ≠ 0 by have := h.b1; omega)
  have h2 := Int.emod_lt_of_pos y (show 0 < b by have := h.b1; omega)
  rw [q_site h, Int.add_mul_ediv_left _ _ (show b ≠ 0 by have := h.b1; omega), Int.ediv_eq_zero_of_lt h1 h2, Int.zero_add]
theorem site_add (a b c x y z u v t : Int) : site a b c (x % a + u) (y % b + v) (z % c + t) = site a b c (x + u) (y + v) (z + t) := by
  unfold site
  rw [Int.emod_add_emod, Int.emod_add_emod, Int.emod_add_emod]
theorem pz_rng {a b c s : Int} (h : Sz a b c) (h0 : 0 ≤ s) (h1 : s < a * b * c) : 0 ≤ s / a / b ∧ s / a / b < c := by
  obtain ⟨a1, a4, b1, b4, c1, c4, -⟩ := h
  rcases four a1 a4 with rfl | rfl | rfl | rfl <;> rcases four b1 b4 with rfl | rfl | rfl | rfl <;> rcases four c1 c4 with rfl | rfl | rfl | rfl <;> omega
theorem pz_mod {a b c s : Int} (h : Sz a b c) (h0 : 0 ≤ s) (h1 : s < a * b * c) : s / a / b % c = s / a / b := by
  have := pz_rng h h0 h1
  exact Int.emod_eq_of_lt this.1 this.2
theorem site_place {a b c s : Int} (h : Sz a b c) (h0 : 0 ≤ s) (h1 : s < a * b * c) : site a b c (s % a) (s / a % b) (s / a / b) = s := by
  have hz := pz_mod h h0 h1
  unfold site
  rw [Int.emod_emod, Int.emod_emod, hz]
  have e1 := Int.emod_add_mul_ediv (s / a) b
  have e2 := Int.emod_add_mul_ediv s a
  rw [e1, e2]
theorem div_rng {a b c s : Int} (h : Sz a b c) (h0 : 0 ≤ s) (h1 : s < a * b * c) : 0 ≤ s ∧ s < 16 ∧ 0 ≤ s / a ∧ s / a ≤ s ∧ 0 ≤ s / a / b ∧ s / a / b ≤ s ∧ 0 ≤ s % a ∧ s % a < 4 ∧ 0 ≤ s / a % b ∧ s / a % b < 4 := by
  obtain ⟨a1, a4, b1, b4, c1, c4, hp⟩ := h
  have : s < 16 := by omega
  clear hp h1
  rcases four a1 a4 with rfl | rfl | rfl | rfl <;> rcases four b1 b4 with rfl | rfl | rfl | rfl <;> omega

/-- the change of a coordinate by a step -/
def dlt (k t : Int) : Int := if t = k then 1 else if t = -k then -1 else 0
def nx (a b c s t : Int) : Int := site a b c (s % a + dlt 1 t) (s / a % b + dlt 2 t) (s / a / b + dlt 3 t)
def IsStep (t : Int) : Prop := t ≠ 0 ∧ -3 ≤ t ∧ t ≤ 3
theorem dlt_neg (k t : Int) (hk : 0 < k) : dlt k (-t) = - dlt k t := by
  unfold dlt
  repeat' split
  all_goals omega
theorem nx_rng {a b c : Int} (h : Sz a b c) (s t : Int) : 0 ≤ nx a b c s t ∧ nx a b c s t < a * b * c := site_rng h _ _ _
theorem nx_back {a b c s : Int} (h : Sz a b c) (h0 : 0 ≤ s) (h1 : s < a * b * c) (t : Int) : nx a b c (nx a b c s t) (-t) = s := by
  have e : nx a b c (nx a b c s t) (-t) = site a b c ((s % a + dlt 1 t) % a + - dlt 1 t) ((s / a % b + dlt 2 t) % b + - dlt 2 t) ((s / a / b + dlt 3 t) % c + - dlt 3 t) := by
    conv => lhs; unfold nx
    rw [dlt_neg 1 t (by omega), dlt_neg 2 t (by omega), dlt_neg 3 t (by omega)]
    rw [px_site h, py_site h, pz_site h]
  rw [e, site_add]
  have f1 : s % a + dlt 1 t + -dlt 1 t = s % a := by omega
  have f2 : s / a % b + dlt 2 t + -dlt 2 t = s / a % b := by omega
  have f3 : s / a / b + dlt 3 t + -dlt 3 t = s / a / b := by omega
  rw [f1, f2, f3, site_place h h0 h1]
theorem parts_rng {a b c : Int} (h : Sz a b c) (x y z : Int) : (0 ≤ x % a ∧ x % a < 4) ∧ (0 ≤ y % b ∧ y % b < 4) ∧ (0 ≤ z % c ∧ z % c < 4) ∧ (0 ≤ b * (z % c) ∧ b * (z % c) ≤ 16) ∧ (0 ≤ a * (y % b + b * (z % c)) ∧ a * (y % b + b * (z % c)) ≤ 100) := by
  obtain ⟨a1, a4, b1, b4, c1, c4, -⟩ := h
  rcases four a1 a4 with rfl | rfl | rfl | rfl <;> rcases four b1 b4 with rfl | rfl | rfl | rfl <;> rcases four c1 c4 with rfl | rfl | rfl | rfl <;> omega
theorem nx_p1 (a b c s : Int) : nx a b c s 1 = site a b c (s % a + 1) (s / a % b) (s / a / b) := by simp [nx, dlt]
theorem nx_p2 (a b c s : Int) : nx a b c s 2 = site a b c (s % a) (s / a % b + 1) (s / a / b) := by simp [nx, dlt]
theorem nx_p3 (a b c s : Int) : nx a b c s 3 = site a b c (s % a) (s / a % b) (s / a / b + 1) := by simp [nx, dlt]
theorem nx_m1 (a b c s : Int) : nx a b c s (-1) = site a b c (s % a - 1) (s / a % b) (s / a / b) := by simp [nx, dlt, Int.sub_eq_add_neg]
theorem nx_m2 (a b c s : Int) : nx a b c s (-2) = site a b c (s % a) (s / a % b - 1) (s / a / b) := by simp [nx, dlt, Int.sub_eq_add_neg]
theorem nx_m3 (a b c s : Int) : nx a b c s (-3) = site a b c (s % a) (s / a % b) (s / a / b - 1) := by simp [nx, dlt, Int.sub_eq_add_neg]
theorem step_six {t : Int} (h : IsStep t) : t = 1 ∨ t = 2 ∨ t = 3 ∨ t = -1 ∨ t = -2 ∨ t = -3 := by
  obtain ⟨h0, h1, h2⟩ := h
  omega
end Tm

/- Plain mathematics of paths: opposite paths, and what is left of a path without steps that undo each other; no Go.
Conditions: none. -/
set_option autoImplicit false
namespace Tm
set_option linter.unusedVariables false
set_option linter.unusedSimpArgs false

/-- the error of a path -/
def pathR (l : List Int) (r : Int) : Prop := (8 < l.length ∧ r = 3) ∨ (l.length ≤ 8 ∧ (∃ t ∈ l, ¬ IsStep t) ∧ r = 1) ∨ (l.length ≤ 8 ∧ (∀ t ∈ l, IsStep t) ∧ r = 0)
theorem pathR_ex (l : List Int) : ∃ r, pathR l r := by
  by_cases h : l.length ≤ 8
  · by_cases ht : ∀ t ∈ l, IsStep t
    · exact ⟨0, .inr (.inr ⟨h, ht, rfl⟩)⟩
    · refine ⟨1, .inr (.inl ⟨h, ?_, rfl⟩)⟩
      refine Classical.byContradiction fun hn => ht fun t ht => Classical.byContradiction fun hs => hn ⟨t, ht, hs⟩
  · exact ⟨3, .inl ⟨by omega, rfl⟩⟩

def opp (l : List Int) : List Int := (l.map fun t => -t).reverse
theorem opp_len (l : List Int) : (opp l).length = l.length := by simp [opp]
theorem opp_step (l : List Int) (k : Nat) (hk : k < l.length) : opp (l.take (k + 1)) = -l[k] :: opp (l.take k) := by
  unfold opp
  rw [List.take_succ_eq_append_getElem hk, List.map_append, List.reverse_append]
  rfl
theorem opp_down (l : List Int) (k : Nat) (hk : k < l.length) : opp (l.drop k) = opp (l.drop (k + 1)) ++ [-l[k]] := by
  unfold opp
  rw [List.drop_eq_getElem_cons hk, List.map_cons, List.reverse_cons]

/-- a stack of steps, its last one first -/
def push : List Int → Int → List Int
  | [], t => [t]
  | x :: st, t => if x = -t then st else t :: x :: st
def redS (l : List Int) : List Int := l.foldl push []
def red (l : List Int) : List Int := (redS l).reverse
theorem redS_step (l : List Int) (k : Nat) (hk : k < l.length) : redS (l.take (k + 1)) = push (redS (l.take k)) l[k] := by
  unfold redS
  rw [List.take_succ_eq_append_getElem hk, List.foldl_append]
  rfl
theorem push_len (st : List Int) (t : Int) : (push st t).length ≤ st.length + 1 := by
  cases st with
  | nil => simp [push]
  | cons x st =>
    simp only [push]
    split
    · simp; omega
    · simp
theorem redS_len (l : List Int) : (redS l).length ≤ l.length := by
  have : ∀ (l st : List Int), (l.foldl push st).length ≤ st.length + l.length := fun l => by
    induction l with
    | nil => intro st; simp
    | cons t l ih =>
      intro st
      have := ih (push st t)
      have := push_len st t
      simp only [List.foldl_cons, List.length_cons]
      omega
  have h := this l []
  simpa [redS] using h
theorem red_len (l : List Int) : (red l).length ≤ l.length := by
  rw [red, List.length_reverse]
  exact redS_len l

/-- no two neighbours undo each other -/
def Good : List Int → Prop
  | [] => True
  | [_] => True
  | x :: y :: st => y ≠ -x ∧ Good (y :: st)
theorem good_tail {x : Int} {st : List Int} (h : Good (x :: st)) : Good st := by
  cases st with
  | nil => trivial
  | cons y st => exact h.2
theorem good_push {st : List Int} (h : Good st) (t : Int) : Good (push st t) := by
  cases st with
  | nil => trivial
  | cons x st =>
    simp only [push]
    split
    · exact good_tail h
    · rename_i hne
      exact ⟨hne, h⟩
theorem redS_good (l : List Int) : Good (redS l) := by
  have : ∀ (l st : List Int), Good st → Good (l.foldl push st) := fun l => by
    induction l with
    | nil => intro st h; exact h
    | cons t l ih => intro st h; exact ih _ (good_push h t)
  exact this l [] trivial
theorem redS_rev (st : List Int) (h : Good st) : redS st.reverse = st := by
  induction st with
  | nil => rfl
  | cons x st ih =>
    have hs := ih (good_tail h)
    unfold redS at hs ⊢
    rw [List.reverse_cons, List.foldl_append, hs]
    cases st with
    | nil => rfl
    | cons y st =>
      simp only [List.foldl_cons, List.foldl_nil, push]
      rw [if_neg h.1]
theorem red_red (l : List Int) : red (red l) = red l := by
  unfold red
  rw [redS_rev _ (redS_good l)]
theorem push_mem {st : List Int} {t u : Int} (h : u ∈ push st t) : u = t ∨ u ∈ st := by
  cases st with
  | nil => simp [push] at h; exact .inl h
  | cons x st =>
    simp only [push] at h
    split at h
    · exact .inr (List.mem_cons_of_mem _ h)
    · simp at h
      rcases h with h | h | h
      · exact .inl h
      · exact .inr (by simp [h])
      · exact .inr (by simp [h])
theorem red_mem {l : List Int} {u : Int} (h : u ∈ red l) : u ∈ l := by
  have : ∀ (l st : List Int), u ∈ l.foldl push st → u ∈ l ∨ u ∈ st := fun l => by
    induction l with
    | nil => intro st h; exact .inr h
    | cons t l ih =>
      intro st h
      rcases ih _ h with h | h
      · exact .inl (by simp [h])
      · rcases push_mem h with h | h
        · exact .inl (by simp [h])
        · exact .inr h
  rw [red, List.mem_reverse] at h
  rcases this l [] h with h | h
  · exact h
  · simp at h
theorem red_steps {l : List Int} (h : ∀ t ∈ l, IsStep t) : ∀ t ∈ red l, IsStep t := fun t ht => h t (red_mem ht)
theorem opp_steps {l : List Int} (h : ∀ t ∈ l, IsStep t) : ∀ t ∈ opp l, IsStep t := fun t ht => by
  simp only [opp, List.mem_reverse, List.mem_map] at ht
  obtain ⟨u, hu, rfl⟩ := ht
  obtain ⟨h0, h1, h2⟩ := h u hu
  exact ⟨by omega, by omega, by omega⟩
end Tm

/- Plain mathematics of walks: through which sites a path leads, where it ends, and when it is closed; no Go.
Conditions: none. -/
set_option autoImplicit false
namespace Tm
set_option linter.unusedVariables false
set_option linter.unusedSimpArgs false

def en (a b c s : Int) (l : List Int) : Int := l.foldl (nx a b c) s
def wl (a b c : Int) : Int → List Int → List Int
  | s, [] => [s]
  | s, t :: l => s :: wl a b c (nx a b c s t) l
theorem en_snoc (a b c s : Int) (l : List Int) (t : Int) : en a b c s (l ++ [t]) = nx a b c (en a b c s l) t := by simp [en, List.foldl_append]
theorem wl_snoc (a b c s : Int) (l : List Int) (t : Int) : wl a b c s (l ++ [t]) = wl a b c s l ++ [nx a b c (en a b c s l) t] := by
  induction l generalizing s with
  | nil => simp [wl, en]
  | cons u l ih => simp only [List.cons_append, wl, ih]; simp [en]
theorem wl_len (a b c s : Int) (l : List Int) : (wl a b c s l).length = l.length + 1 := by
  induction l generalizing s with
  | nil => rfl
  | cons u l ih => simp [wl, ih]
theorem wl_last (a b c s : Int) (l : List Int) : (wl a b c s l)[l.length]? = some (en a b c s l) := by
  induction l generalizing s with
  | nil => rfl
  | cons u l ih => simp only [wl, List.length_cons, List.getElem?_cons_succ, ih]; simp [en]
theorem en_take (a b c s : Int) (l : List Int) (k : Nat) (hk : k < l.length) : en a b c s (l.take (k + 1)) = nx a b c (en a b c s (l.take k)) l[k] := by
  rw [List.take_succ_eq_append_getElem hk, en_snoc]
theorem wl_take (a b c s : Int) (l : List Int) (k : Nat) (hk : k < l.length) : wl a b c s (l.take (k + 1)) = wl a b c s (l.take k) ++ [en a b c s (l.take (k + 1))] := by
  rw [List.take_succ_eq_append_getElem hk, wl_snoc, en_snoc]
theorem en_rng {a b c s : Int} (h : Sz a b c) (h0 : 0 ≤ s) (h1 : s < a * b * c) (l : List Int) : 0 ≤ en a b c s l ∧ en a b c s l < a * b * c := by
  have : ∀ (l : List Int) (s : Int), 0 ≤ s ∧ s < a * b * c → 0 ≤ en a b c s l ∧ en a b c s l < a * b * c := fun l => by
    induction l with
    | nil => intro s h; exact h
    | cons t l ih => intro s _; exact ih _ (nx_rng h s t)
  exact this l s ⟨h0, h1⟩

/-- how far a path leads in a direction -/
def sm (k : Int) (l : List Int) : Int := l.foldl (fun x t => x + dlt k t) 0
theorem sm_take (k : Int) (l : List Int) (i : Nat) (hi : i < l.length) : sm k (l.take (i + 1)) = sm k (l.take i) + dlt k l[i] := by
  unfold sm
  rw [List.take_succ_eq_append_getElem hi, List.foldl_append]
  rfl
theorem sm_snoc (k : Int) (l : List Int) (t : Int) : sm k (l ++ [t]) = sm k l + dlt k t := by
  unfold sm
  rw [List.foldl_append]
  rfl
theorem dlt_rng (k t : Int) : -1 ≤ dlt k t ∧ dlt k t ≤ 1 := by
  unfold dlt
  repeat' split
  all_goals omega
theorem sm_bnd (k : Int) (l : List Int) (i : Nat) (hi : i ≤ l.length) : -(i : Int) ≤ sm k (l.take i) ∧ sm k (l.take i) ≤ i := by
  induction i with
  | zero => simp [sm]
  | succ i ih =>
    have h := ih (by omega)
    have d := dlt_rng k (l[i]'(by omega))
    rw [sm_take k l i (by omega)]
    omega
theorem nx_site {a b c : Int} (h : Sz a b c) (x y z t : Int) : nx a b c (site a b c x y z) t = site a b c (x + dlt 1 t) (y + dlt 2 t) (z + dlt 3 t) := by
  unfold nx
  rw [px_site h, py_site h, pz_site h, site_add]
theorem snoc_ind {p : List Int → Prop} (h0 : p []) (h1 : ∀ l t, p l → p (l ++ [t])) (l : List Int) : p l := by
  have : ∀ m : List Int, p m.reverse := fun m => by
    induction m with
    | nil => exact h0
    | cons t m ih => rw [List.reverse_cons]; exact h1 _ _ ih
  have := this l.reverse
  rwa [List.reverse_reverse] at this
theorem en_site {a b c s : Int} (h : Sz a b c) (h0 : 0 ≤ s) (h1 : s < a * b * c) (l : List Int) : en a b c s l = site a b c (s % a + sm 1 l) (s / a % b + sm 2 l) (s / a / b + sm 3 l) := by
  refine snoc_ind (p := fun l => en a b c s l = site a b c (s % a + sm 1 l) (s / a % b + sm 2 l) (s / a / b + sm 3 l)) ?_ (fun l t ih => ?_) l
  · show s = _
    simp only [sm, List.foldl_nil, Int.add_zero]
    exact (site_place h h0 h1).symm
  · rw [en_snoc, ih, nx_site h, sm_snoc, sm_snoc, sm_snoc]
    simp only [Int.add_assoc]
theorem mod_add_iff (x y n : Int) : (x % n + y) % n = x % n ↔ n ∣ y := by
  constructor
  · intro h
    have e := Int.emod_add_mul_ediv (x % n + y) n
    rw [h] at e
    exact ⟨(x % n + y) / n, by omega⟩
  · rintro ⟨q, rfl⟩
    rw [Int.add_mul_emod_self_left, Int.emod_emod]
def Clo (a b c : Int) (l : List Int) : Prop := a ∣ sm 1 l ∧ b ∣ sm 2 l ∧ c ∣ sm 3 l
theorem closed_iff {a b c s : Int} (h : Sz a b c) (h0 : 0 ≤ s) (h1 : s < a * b * c) (l : List Int) : en a b c s l = s ↔ Clo a b c l := by
  have e := en_site h h0 h1 l
  have hz := pz_mod h h0 h1
  constructor
  · intro he
    rw [he] at e
    have x1 := px_site h (s % a + sm 1 l) (s / a % b + sm 2 l) (s / a / b + sm 3 l)
    have x2 := py_site h (s % a + sm 1 l) (s / a % b + sm 2 l) (s / a / b + sm 3 l)
    have x3 := pz_site h (s % a + sm 1 l) (s / a % b + sm 2 l) (s / a / b + sm 3 l)
    rw [← e] at x1 x2 x3
    refine ⟨(mod_add_iff s (sm 1 l) a).1 x1.symm, (mod_add_iff (s / a) (sm 2 l) b).1 x2.symm, (mod_add_iff (s / a / b) (sm 3 l) c).1 ?_⟩
    rw [hz]
    exact x3.symm
  · rintro ⟨⟨p, hp⟩, ⟨q, hq⟩, ⟨r, hr⟩⟩
    rw [e, hp, hq, hr]
    have := site_place h h0 h1
    conv => rhs; rw [← this]
    unfold site
    rw [Int.add_mul_emod_self_left, Int.add_mul_emod_self_left, Int.add_mul_emod_self_left]
end Tm

/- Plain mathematics of units along paths: products of few links keep the limit, a path from its end has the inverse, a reduced path the same unit, shifted and turned fields; no Go.
Conditions: none. -/
set_option autoImplicit false
namespace Tm
set_option linter.unusedVariables false
set_option linter.unusedSimpArgs false
open Um

/-! ### Products without a limit -/
def fm (l : List Q) : Q := l.foldl mul one
theorem foldl_mul (x : Q) (l : List Q) : l.foldl mul x = mul x (fm l) := by
  unfold fm
  induction l generalizing x with
  | nil => exact (mul_one' x).symm
  | cons y l ih =>
    simp only [List.foldl_cons]
    rw [ih (mul x y), ih (mul one y), one_mul', mul_assoc]
theorem fm_app (l m : List Q) : fm (l ++ m) = mul (fm l) (fm m) := by
  rw [fm, List.foldl_append, ← fm, foldl_mul]
theorem fm_cons (x : Q) (l : List Q) : fm (x :: l) = mul x (fm l) := by
  rw [fm, List.foldl_cons, one_mul', foldl_mul]
theorem fm_one (x : Q) : fm [x] = x := by rw [fm_cons, show fm [] = one from rfl, mul_one']
theorem bar_mul' (x y : Q) : bar (mul x y) = mul (bar y) (bar x) := by
  simp only [bar, mul, Q.mk.injEq]
  refine ⟨?_, ?_, ?_, ?_, ?_⟩ <;> grind
theorem bar_bar (x : Q) : bar (bar x) = x := by cases x; simp [bar]
theorem bar_one : bar one = one := by decide
theorem fm_bar (l : List Q) : fm (l.reverse.map bar) = bar (fm l) := by
  induction l with
  | nil => exact bar_one.symm
  | cons x l ih => rw [List.reverse_cons, List.map_append, fm_app, ih, fm_cons, bar_mul', List.map_cons, List.map_nil, fm_one]
theorem low_bar (x : Q) (h : 0 < x.n) : low (bar x) = bar (low x) := by
  obtain ⟨-, hb, hc, hd, -⟩ := g_dvd x
  unfold low
  rw [g_bar]
  simp only [bar, Q.mk.injEq, true_and, and_true]
  exact ⟨Int.neg_ediv_of_dvd hb, Int.neg_ediv_of_dvd hc, Int.neg_ediv_of_dvd hd⟩
theorem fm_U (l : List Q) (h : ∀ x ∈ l, V x) : U (fm l) := by
  induction l with
  | nil => exact one_len
  | cons x l ih => rw [fm_cons]; exact mul_len _ _ (h x (List.mem_cons_self ..)).u (ih fun y hy => h y (List.mem_cons_of_mem _ hy))

/-- few links: the limit is never reached -/
theorem prod_few (l : List Q) (p : Q) (m : Nat) (hp : V p) (hpn : p.n ≤ 5 ^ m) (hl : ∀ x ∈ l, V x ∧ x.n ≤ 5) (h : m + l.length ≤ 8) : prodFrom p l = (low (mul p (fm l)), 0) := by
  induction l generalizing p m with
  | nil => simp only [prodFrom, show fm [] = one from rfl, mul_one', hp.low]
  | cons x l ih =>
    obtain ⟨hx, hx5⟩ := hl x (List.mem_cons_self ..)
    have hu := mul_len p x hp.u hx.u
    have h1 : (mul p x).n ≤ 5 ^ (m + 1) := by
      have := Int.mul_le_mul hpn hx5 (by have := hx.u.pos; omega) (by exact Int.pow_nonneg (by decide))
      simpa [mul, Int.pow_succ] using this
    have h2 : (low (mul p x)).n ≤ 5 ^ (m + 1) := Int.le_trans (low_le _ hu.pos) h1
    have hm : m + 1 ≤ 8 := by simp at h; omega
    have h3 : (5 : Int) ^ (m + 1) ≤ 390625 := by
      have : m + 1 = 1 ∨ m + 1 = 2 ∨ m + 1 = 3 ∨ m + 1 = 4 ∨ m + 1 = 5 ∨ m + 1 = 6 ∨ m + 1 = 7 ∨ m + 1 = 8 := by omega
      rcases this with h | h | h | h | h | h | h | h <;> rw [h] <;> decide
    have h4 : ¬ 1048576 < (low (mul p x)).n := by omega
    simp only [prodFrom]
    rw [if_neg h4, ih _ (m + 1) (V.of_low hu (by omega)) h2 (fun y hy => hl y (List.mem_cons_of_mem _ hy)) (by simp at h; omega), fm_cons, low_mul_left _ _ hu.pos, mul_assoc]
theorem prod_links (l : List Q) (hl : ∀ x ∈ l, V x ∧ x.n ≤ 5) (h : l.length ≤ 8) : prodFrom one l = (low (fm l), 0) := by
  rw [prod_few l one 0 V.one (by decide) hl (by omega), one_mul']
theorem few_le (l : List Q) (hl : ∀ x ∈ l, V x ∧ x.n ≤ 5) (h : l.length ≤ 8) : (fm l).n ≤ 390625 := by
  have key : ∀ (l : List Q), (∀ x ∈ l, V x ∧ x.n ≤ 5) → 0 < (fm l).n ∧ (fm l).n ≤ 5 ^ l.length := by
    intro l
    induction l with
    | nil => intro _; exact ⟨by decide, by decide⟩
    | cons x l ih =>
      intro hl
      obtain ⟨hx, hx5⟩ := hl x (List.mem_cons_self ..)
      obtain ⟨i1, i2⟩ := ih fun y hy => hl y (List.mem_cons_of_mem _ hy)
      rw [fm_cons]
      refine ⟨Int.mul_pos hx.u.pos i1, ?_⟩
      have := Int.mul_le_mul hx5 i2 (by omega) (by decide)
      rw [List.length_cons, Int.pow_succ, Int.mul_comm]
      simpa [mul] using this
  have h1 := (key l hl).2
  have h3 : (5 : Int) ^ l.length ≤ 390625 := by
    have : l.length = 0 ∨ l.length = 1 ∨ l.length = 2 ∨ l.length = 3 ∨ l.length = 4 ∨ l.length = 5 ∨ l.length = 6 ∨ l.length = 7 ∨ l.length = 8 := by omega
    rcases this with h | h | h | h | h | h | h | h | h <;> rw [h] <;> decide
  omega
theorem few_V (l : List Q) (hl : ∀ x ∈ l, V x ∧ x.n ≤ 5) (h : l.length ≤ 8) : V (low (fm l)) := by
  have hu := fm_U l fun x hx => (hl x hx).1
  have := few_le l hl h
  have := low_le _ hu.pos
  exact V.of_low hu (by omega)

/-! ### Units along paths -/
/-- the link with a number -/
def lk (L : List Q) (i : Int) : Q := L.getD i.toNat one
theorem lk_get {L : List Q} {i : Int} (h0 : 0 ≤ i) (h1 : i < (L.length : Int)) : L[i.toNat]? = some (lk L i) := by
  have h : i.toNat < L.length := by omega
  rw [lk, List.getD_eq_getElem?_getD, List.getElem?_eq_getElem h]
  rfl
/-- the unit of a step -/
def up (a b c : Int) (L : List Q) (s t : Int) : Q := if 0 < t then lk L (3 * s + t - 1) else bar (lk L (3 * nx a b c s t - t - 1))
def ups (a b c : Int) (L : List Q) : Int → List Int → List Q
  | _, [] => []
  | s, t :: l => up a b c L s t :: ups a b c L (nx a b c s t) l
theorem ups_len (a b c : Int) (L : List Q) (s : Int) (l : List Int) : (ups a b c L s l).length = l.length := by
  induction l generalizing s with
  | nil => rfl
  | cons t l ih => simp [ups, ih]
theorem ups_app (a b c : Int) (L : List Q) (s : Int) (l m : List Int) : ups a b c L s (l ++ m) = ups a b c L s l ++ ups a b c L (en a b c s l) m := by
  induction l generalizing s with
  | nil => rfl
  | cons t l ih => simp only [List.cons_append, ups, ih]; rfl
theorem ups_take (a b c : Int) (L : List Q) (s : Int) (l : List Int) (k : Nat) (hk : k < l.length) : ups a b c L s (l.take (k + 1)) = ups a b c L s (l.take k) ++ [up a b c L (en a b c s (l.take k)) l[k]] := by
  rw [List.take_succ_eq_append_getElem hk, ups_app]
  rfl
/-- a field's links -/
structure Fl (a b c : Int) (L : List Q) : Prop where
  z : Sz a b c
  n : (L.length : Int) = 3 * (a * b * c)
  v : ∀ (i : Nat) (x : Q), L[i]? = some x → V x ∧ x.n ≤ 5
theorem Fl.lk {a b c : Int} {L : List Q} (h : Fl a b c L) {i : Int} (h0 : 0 ≤ i) (h1 : i < 3 * (a * b * c)) : V (lk L i) ∧ (lk L i).n ≤ 5 := h.v _ _ (lk_get h0 (by rw [h.n]; exact h1))
theorem idx_pos {a b c s t : Int} (h0 : 0 ≤ s) (h1 : s < a * b * c) (ht : 0 < t) (h3 : t ≤ 3) : 0 ≤ 3 * s + t - 1 ∧ 3 * s + t - 1 < 3 * (a * b * c) := by omega
theorem idx_neg {a b c s t : Int} (h : Sz a b c) (ht : IsStep t) (hn : ¬ 0 < t) : 0 ≤ 3 * nx a b c s t - t - 1 ∧ 3 * nx a b c s t - t - 1 < 3 * (a * b * c) := by
  have h1 := nx_rng h s t
  obtain ⟨t0, t1, t2⟩ := ht
  omega
theorem Fl.up {a b c : Int} {L : List Q} (h : Fl a b c L) {s t : Int} (h0 : 0 ≤ s) (h1 : s < a * b * c) (ht : IsStep t) : V (up a b c L s t) ∧ (up a b c L s t).n ≤ 5 := by
  unfold Tm.up
  split
  · rename_i hp
    have := idx_pos h0 h1 hp ht.2.2
    exact h.lk this.1 this.2
  · rename_i hn
    have := idx_neg (s := s) h.z ht hn
    have := h.lk this.1 this.2
    exact ⟨this.1.bar, this.2⟩
theorem Fl.ups {a b c : Int} {L : List Q} (h : Fl a b c L) (s : Int) (l : List Int) (h0 : 0 ≤ s) (h1 : s < a * b * c) (hl : ∀ t ∈ l, IsStep t) : ∀ x ∈ ups a b c L s l, V x ∧ x.n ≤ 5 := by
  induction l generalizing s with
  | nil => intro x hx; cases hx
  | cons t l ih =>
    intro x hx
    simp only [Tm.ups, List.mem_cons] at hx
    rcases hx with rfl | hx
    · exact h.up h0 h1 (hl t (List.mem_cons_self ..))
    · have hr := nx_rng h.z s t
      exact ih _ hr.1 hr.2 (fun u hu => hl u (List.mem_cons_of_mem _ hu)) x hx

/-- the unit along a path -/
def al (a b c : Int) (L : List Q) (s : Int) (l : List Int) : Q := low (fm (ups a b c L s l))
theorem Fl.al {a b c : Int} {L : List Q} (h : Fl a b c L) (s : Int) (l : List Int) (h0 : 0 ≤ s) (h1 : s < a * b * c) (hl : ∀ t ∈ l, IsStep t) (h8 : l.length ≤ 8) : prodFrom one (Tm.ups a b c L s l) = (Tm.al a b c L s l, 0) ∧ V (Tm.al a b c L s l) :=
  ⟨prod_links _ (h.ups s l h0 h1 hl) (by rw [ups_len]; exact h8), few_V _ (h.ups s l h0 h1 hl) (by rw [ups_len]; exact h8)⟩

/-! ### From the end -/
theorem up_back {a b c s t : Int} (h : Sz a b c) (L : List Q) (h0 : 0 ≤ s) (h1 : s < a * b * c) (ht : IsStep t) : up a b c L (nx a b c s t) (-t) = bar (up a b c L s t) := by
  unfold up
  obtain ⟨t0, -, -⟩ := ht
  by_cases hp : 0 < t
  · rw [if_pos hp, if_neg (by omega), nx_back h h0 h1]
    congr 2; omega
  · rw [if_neg hp, if_pos (by omega), bar_bar]
    congr 1
theorem opp_cons (t : Int) (l : List Int) : opp (t :: l) = opp l ++ [-t] := by simp [opp]
theorem en_app (a b c s : Int) (l m : List Int) : en a b c s (l ++ m) = en a b c (en a b c s l) m := by simp [en, List.foldl_append]
theorem en_opp {a b c s : Int} (h : Sz a b c) (h0 : 0 ≤ s) (h1 : s < a * b * c) (l : List Int) : en a b c (en a b c s l) (opp l) = s := by
  induction l generalizing s with
  | nil => rfl
  | cons t l ih =>
    have hr := nx_rng h s t
    rw [opp_cons, en_app]
    have e : en a b c s (t :: l) = en a b c (nx a b c s t) l := rfl
    rw [e, ih hr.1 hr.2]
    exact nx_back h h0 h1 t
theorem ups_opp {a b c s : Int} (h : Sz a b c) (L : List Q) (h0 : 0 ≤ s) (h1 : s < a * b * c) (l : List Int) (hl : ∀ t ∈ l, IsStep t) : ups a b c L (en a b c s l) (opp l) = (ups a b c L s l).reverse.map bar := by
  induction l generalizing s with
  | nil => rfl
  | cons t l ih =>
    have hr := nx_rng h s t
    have e : en a b c s (t :: l) = en a b c (nx a b c s t) l := rfl
    rw [opp_cons, ups_app, e, ih hr.1 hr.2 (fun u hu => hl u (List.mem_cons_of_mem _ hu)), en_opp h hr.1 hr.2]
    simp only [ups, List.reverse_cons, List.map_append, List.map_cons, List.map_nil]
    rw [up_back h L h0 h1 (hl t (List.mem_cons_self ..))]
theorem al_opp {a b c s : Int} {L : List Q} (h : Fl a b c L) (h0 : 0 ≤ s) (h1 : s < a * b * c) (l : List Int) (hl : ∀ t ∈ l, IsStep t) : al a b c L (en a b c s l) (opp l) = bar (al a b c L s l) := by
  unfold al
  rw [ups_opp h.z L h0 h1 l hl, fm_bar, low_bar _ (fm_U _ fun x hx => (h.ups s l h0 h1 hl x hx).1).pos]

/-! ### Reduced paths -/
theorem fm_cancel (u : List Q) (x : Q) (hx : U x) (m : List Q) : low (fm (u ++ [x, bar x] ++ m)) = low (fm (u ++ m)) := by
  have e : fm [x, bar x] = scale (x.n * x.n) one := by rw [fm_cons, fm_one, mul_bar x hx]
  rw [fm_app, fm_app, fm_app, e, mul_scale, mul_one', scale_mul, low_scale _ _ (Int.mul_pos hx.pos hx.pos)]
theorem redS_up {a b c s : Int} {L : List Q} (h : Fl a b c L) (h0 : 0 ≤ s) (h1 : s < a * b * c) (l : List Int) (hl : ∀ t ∈ l, IsStep t) : al a b c L s (redS l).reverse = al a b c L s l ∧ en a b c s (redS l).reverse = en a b c s l := by
  revert hl
  refine snoc_ind (p := fun l => (∀ t ∈ l, IsStep t) → al a b c L s (redS l).reverse = al a b c L s l ∧ en a b c s (redS l).reverse = en a b c s l) (fun _ => ⟨rfl, rfl⟩) (fun l t ih hl => ?_) l
  have hl' : ∀ u ∈ l, IsStep u := fun u hu => hl u (List.mem_append_left _ hu)
  have ht : IsStep t := hl t (List.mem_append_right _ (List.mem_singleton.2 rfl))
  obtain ⟨i1, i2⟩ := ih hl'
  have e : redS (l ++ [t]) = push (redS l) t := by unfold redS; rw [List.foldl_append]; rfl
  have hst : ∀ u ∈ (redS l).reverse, IsStep u := fun u hu => red_steps hl' u hu
  have hU : ∀ m : List Int, (∀ u ∈ m, IsStep u) → U (fm (ups a b c L s m)) := fun m hm => fm_U _ fun x hx => (h.ups s m h0 h1 hm x hx).1
  have key : ∀ m, (∀ u ∈ m, IsStep u) → al a b c L s m = al a b c L s l → en a b c s m = en a b c s l → al a b c L s (m ++ [t]) = al a b c L s (l ++ [t]) ∧ en a b c s (m ++ [t]) = en a b c s (l ++ [t]) := by
    intro m hm k1 k2
    refine ⟨?_, by rw [en_app, en_app, k2]⟩
    unfold al at k1 ⊢
    rw [ups_app, ups_app, fm_app, fm_app, k2, ← low_mul_left _ _ (hU m hm).pos, k1, low_mul_left _ _ (hU l hl').pos]
  obtain ⟨k1, k2⟩ := key _ hst i1 i2
  rw [e]
  cases hr : redS l with
  | nil => rw [hr] at k1 k2; exact ⟨k1, k2⟩
  | cons x st =>
    rw [hr] at k1 k2 hst
    simp only [push]
    split
    · rename_i hx
      subst hx
      have hx : IsStep (-t) := hst _ (by simp)
      have hst' : ∀ u ∈ st.reverse, IsStep u := fun u hu => hst u (by simp at hu; simp [hu])
      have hen := en_rng h.z h0 h1 st.reverse
      have e1 : (-t :: st).reverse ++ [t] = st.reverse ++ [-t, t] := by simp
      rw [e1] at k1 k2
      have hb := up_back h.z L hen.1 hen.2 hx
      rw [Int.neg_neg] at hb
      have e2 : ups a b c L s (st.reverse ++ [-t, t]) = ups a b c L s st.reverse ++ [up a b c L (en a b c s st.reverse) (-t), bar (up a b c L (en a b c s st.reverse) (-t))] ++ [] := by
        rw [ups_app, List.append_nil]
        simp only [ups, hb]
      have e3 : en a b c s (st.reverse ++ [-t, t]) = en a b c s st.reverse := by
        rw [en_app]
        have := nx_back h.z hen.1 hen.2 (-t)
        rw [Int.neg_neg] at this
        exact this
      refine ⟨?_, by rw [← k2, e3]⟩
      rw [← k1]
      unfold al
      rw [e2, fm_cancel _ _ (h.up hen.1 hen.2 hx).1.u, List.append_nil]
    · have e1 : (t :: x :: st).reverse = (x :: st).reverse ++ [t] := by simp
      rw [e1]
      exact ⟨k1, k2⟩
theorem al_red {a b c s : Int} {L : List Q} (h : Fl a b c L) (h0 : 0 ≤ s) (h1 : s < a * b * c) (l : List Int) (hl : ∀ t ∈ l, IsStep t) : al a b c L s (red l) = al a b c L s l ∧ en a b c s (red l) = en a b c s l := redS_up h h0 h1 l hl

/-! ### Shifted fields -/
/-- where a shift brings a site -/
def sh (a b c x y z s : Int) : Int := site a b c (s % a + x) (s / a % b + y) (s / a / b + z)
theorem sh_rng {a b c : Int} (h : Sz a b c) (x y z s : Int) : 0 ≤ sh a b c x y z s ∧ sh a b c x y z s < a * b * c := site_rng h _ _ _
theorem sh_site {a b c : Int} (h : Sz a b c) (x y z u v t : Int) : sh a b c x y z (site a b c u v t) = site a b c (u + x) (v + y) (t + z) := by
  unfold sh
  rw [px_site h, py_site h, pz_site h, site_add]
theorem sh_back {a b c s : Int} (h : Sz a b c) (h0 : 0 ≤ s) (h1 : s < a * b * c) (x y z : Int) : sh a b c (-x) (-y) (-z) (sh a b c x y z s) = s := by
  rw [sh, sh]
  rw [px_site h, py_site h, pz_site h, site_add]
  rw [show s % a + x + -x = s % a by omega, show s / a % b + y + -y = s / a % b by omega, show s / a / b + z + -z = s / a / b by omega]
  exact site_place h h0 h1
theorem sh_nx {a b c : Int} (h : Sz a b c) (x y z s t : Int) : sh a b c x y z (nx a b c s t) = nx a b c (sh a b c x y z s) t := by
  rw [nx, sh_site h, sh, nx_site h]
  rw [show s % a + dlt 1 t + x = s % a + x + dlt 1 t by omega, show s / a % b + dlt 2 t + y = s / a % b + y + dlt 2 t by omega, show s / a / b + dlt 3 t + z = s / a / b + z + dlt 3 t by omega]
theorem sh_en {a b c : Int} (h : Sz a b c) (x y z s : Int) (l : List Int) : sh a b c x y z (en a b c s l) = en a b c (sh a b c x y z s) l := by
  induction l generalizing s with
  | nil => rfl
  | cons t l ih => exact (ih (nx a b c s t)).trans (by rw [sh_nx h]; rfl)
/-- the links of the shifted field -/
structure Shd (a b c x y z : Int) (L G : List Q) : Prop where
  n : G.length = L.length
  g : ∀ s d : Int, 0 ≤ s → s < a * b * c → 0 ≤ d → d < 3 → lk G (3 * sh a b c x y z s + d) = lk L (3 * s + d)
theorem Shd.up {a b c x y z : Int} {L G : List Q} (k : Shd a b c x y z L G) (h : Sz a b c) {s t : Int} (h0 : 0 ≤ s) (h1 : s < a * b * c) (ht : IsStep t) : Tm.up a b c G (sh a b c x y z s) t = Tm.up a b c L s t := by
  unfold Tm.up
  obtain ⟨t0, t1, t2⟩ := ht
  by_cases hp : 0 < t
  · rw [if_pos hp, if_pos hp]
    have := k.g s (t - 1) h0 h1 (by omega) (by omega)
    rwa [show 3 * sh a b c x y z s + (t - 1) = 3 * sh a b c x y z s + t - 1 by omega, show 3 * s + (t - 1) = 3 * s + t - 1 by omega] at this
  · rw [if_neg hp, if_neg hp, ← sh_nx h]
    have hr := nx_rng h s t
    have := k.g (nx a b c s t) (-t - 1) hr.1 hr.2 (by omega) (by omega)
    rw [show 3 * sh a b c x y z (nx a b c s t) + (-t - 1) = 3 * sh a b c x y z (nx a b c s t) - t - 1 by omega, show 3 * nx a b c s t + (-t - 1) = 3 * nx a b c s t - t - 1 by omega] at this
    rw [this]
theorem Shd.ups {a b c x y z : Int} {L G : List Q} (k : Shd a b c x y z L G) (h : Sz a b c) {s : Int} (h0 : 0 ≤ s) (h1 : s < a * b * c) (l : List Int) (hl : ∀ t ∈ l, IsStep t) : Tm.ups a b c G (sh a b c x y z s) l = Tm.ups a b c L s l := by
  induction l generalizing s with
  | nil => rfl
  | cons t l ih =>
    have hr := nx_rng h s t
    simp only [Tm.ups]
    rw [k.up h h0 h1 (hl t (List.mem_cons_self ..)), ← sh_nx h, ih hr.1 hr.2 fun u hu => hl u (List.mem_cons_of_mem _ hu)]
theorem Shd.al {a b c x y z : Int} {L G : List Q} (k : Shd a b c x y z L G) (h : Sz a b c) {s : Int} (h0 : 0 ≤ s) (h1 : s < a * b * c) (l : List Int) (hl : ∀ t ∈ l, IsStep t) : Tm.al a b c G (sh a b c x y z s) l = Tm.al a b c L s l := by
  unfold Tm.al
  rw [k.ups h h0 h1 l hl]
end Tm

/- Plain mathematics of seeds and draws: the next seed, leaps, and what sorting and leaving out equal neighbours make of integers; no Go.
Conditions: none. -/
set_option autoImplicit false
namespace Cm
set_option linter.unusedVariables false
set_option linter.unusedSimpArgs false
def P : Int := 2147483647
/-- the next seed -/
def nxt (s : Int) : Int := s * 48271 % 2147483647
def IsSeed (s : Int) : Prop := 1 ≤ s ∧ s ≤ 2147483646
theorem nxt_rng (s : Int) : 0 ≤ nxt s ∧ nxt s ≤ 2147483646 := by unfold nxt; omega
theorem nxt_seed {s : Int} (h : IsSeed s) : IsSeed (nxt s) := by
  obtain ⟨h1, h2⟩ := h
  obtain ⟨r1, r2⟩ := nxt_rng s
  refine ⟨?_, r2⟩
  rcases Int.lt_or_eq_of_le r1 with h | h
  · omega
  · exfalso
    unfold nxt at h
    have hd : (2147483647 : Int) ∣ s * 48271 := Int.dvd_of_emod_eq_zero h.symm
    obtain ⟨n, rfl⟩ := Int.eq_ofNat_of_zero_le (show 0 ≤ s by omega)
    have hd' : 2147483647 ∣ n * 48271 := by
      have : ((2147483647 : Nat) : Int) ∣ ((n * 48271 : Nat) : Int) := by simpa using hd
      exact Int.natCast_dvd_natCast.1 this
    have hc : Nat.Coprime 2147483647 48271 := by decide
    have := hc.dvd_of_dvd_mul_right hd'
    have := Nat.le_of_dvd (by omega) this
    omega
/-- a draw among n -/
def drw (s n : Int) : Int := ((nxt s - 1) * 2147483646 + (nxt (nxt s) - 1)) % n
def adv (s : Int) : Int := nxt (nxt s)
theorem drw_rng {s n : Int} (hn : 1 ≤ n) : 0 ≤ drw s n ∧ drw s n < n := ⟨Int.emod_nonneg _ (by omega), Int.emod_lt_of_pos _ (by omega)⟩
theorem adv_seed {s : Int} (h : IsSeed s) : IsSeed (adv s) := nxt_seed (nxt_seed h)
theorem draw_bnd {s : Int} (h : IsSeed s) : 0 ≤ nxt s - 1 ∧ nxt s - 1 ≤ 2147483645 ∧ 0 ≤ nxt (nxt s) - 1 ∧ nxt (nxt s) - 1 ≤ 2147483645 ∧ 0 ≤ (nxt s - 1) * 2147483646 ∧ (nxt s - 1) * 2147483646 ≤ 4611686011984936670 := by
  obtain ⟨h1, h2⟩ := nxt_seed h
  obtain ⟨h3, h4⟩ := nxt_seed (nxt_seed h)
  omega
/-- the seed behind many steps -/
def leap (s : Int) (n : Nat) : Int := s * 48271 ^ n % 2147483647
theorem leap_add (s : Int) (n m : Nat) : leap (leap s n) m = leap s (n + m) := by
  unfold leap
  rw [Int.mul_emod, Int.emod_emod, ← Int.mul_emod, Int.mul_assoc, ← Int.pow_add]
/-- what holds while a leap is made: t steps of the factor f are left -/
def lp (s : Int) (n : Nat) (t f : Int) (k : Nat) : Prop := t * f ^ k % 2147483647 = leap s n ∧ 0 ≤ t ∧ t ≤ 2147483646 ∧ 0 ≤ f ∧ f ≤ 2147483646
theorem lp_start {s : Int} (n : Nat) (h : IsSeed s) : lp s n s 48271 n := ⟨rfl, by have := h.1; omega, h.2, by omega, by omega⟩
theorem lp_end {s : Int} {n : Nat} {t f : Int} (h : lp s n t f 0) : t = leap s n := by
  obtain ⟨h, h1, h2, -⟩ := h
  rw [Int.pow_zero, Int.mul_one, Int.emod_eq_of_lt h1 (by omega)] at h
  exact h
theorem pow_emod (f : Int) (k : Nat) : (f % 2147483647) ^ k % 2147483647 = f ^ k % 2147483647 := by
  induction k with
  | zero => rw [Int.pow_zero, Int.pow_zero]
  | succ k ih => rw [Int.pow_succ, Int.pow_succ, Int.mul_emod, ih, Int.emod_emod, ← Int.mul_emod]
theorem lp_odd {s : Int} {n : Nat} {t f : Int} {k : Nat} (h : lp s n t f (2 * k + 1)) : lp s n (t * f % 2147483647) (f * f % 2147483647) k := by
  obtain ⟨h, h1, h2, h3, h4⟩ := h
  refine ⟨?_, Int.emod_nonneg _ (by omega), by omega, Int.emod_nonneg _ (by omega), by omega⟩
  rw [Int.mul_emod, Int.emod_emod, pow_emod, ← Int.mul_emod, ← h]
  congr 1
  rw [Int.pow_succ, Int.pow_mul, show f ^ 2 = f * f by rw [Int.pow_succ, Int.pow_succ, Int.pow_zero, Int.one_mul], Int.mul_assoc, Int.mul_comm f]
theorem lp_even {s : Int} {n : Nat} {t f : Int} {k : Nat} (h : lp s n t f (2 * k)) : lp s n t (f * f % 2147483647) k := by
  obtain ⟨h, h1, h2, h3, h4⟩ := h
  refine ⟨?_, h1, h2, Int.emod_nonneg _ (by omega), by omega⟩
  rw [Int.mul_emod, pow_emod, ← Int.mul_emod, ← h, Int.pow_mul, show f ^ 2 = f * f by rw [Int.pow_succ, Int.pow_succ, Int.pow_zero, Int.one_mul]]
theorem lp_mul {a b : Int} (h1 : 0 ≤ a) (h2 : a ≤ 2147483646) (h3 : 0 ≤ b) (h4 : b ≤ 2147483646) : 0 ≤ a * b ∧ a * b ≤ 4611686014132420000 := by
  refine ⟨Int.mul_nonneg h1 h3, ?_⟩
  calc a * b ≤ 2147483646 * b := Int.mul_le_mul_of_nonneg_right h2 h3
    _ ≤ 2147483646 * 2147483646 := Int.mul_le_mul_of_nonneg_left h4 (by omega)
    _ ≤ _ := by omega
def ins (x : Int) : List Int → List Int
  | [] => [x]
  | y :: ys => if x ≤ y then x :: y :: ys else y :: ins x ys
def isort : List Int → List Int
  | [] => []
  | x :: xs => ins x (isort xs)
theorem ins_perm (x : Int) (l : List Int) : (ins x l).Perm (x :: l) := by
  induction l with
  | nil => exact List.Perm.refl _
  | cons y ys ih =>
    unfold ins
    split
    · exact List.Perm.refl _
    · exact (ih.cons y).trans (List.Perm.swap x y ys)
theorem isort_perm (l : List Int) : (isort l).Perm l := by
  induction l with
  | nil => exact List.Perm.refl _
  | cons x xs ih => exact (ins_perm x _).trans (ih.cons x)
theorem ins_sorted (x : Int) (l : List Int) (h : List.Pairwise (· ≤ ·) l) : List.Pairwise (· ≤ ·) (ins x l) := by
  induction l with
  | nil => simp [ins]
  | cons y ys ih =>
    unfold ins
    have h1 := List.pairwise_cons.1 h
    split
    · rename_i hxy
      refine List.pairwise_cons.2 ⟨fun z hz => ?_, h⟩
      rcases List.mem_cons.1 hz with rfl | hz
      · exact hxy
      · have := h1.1 z hz; omega
    · refine List.pairwise_cons.2 ⟨fun z hz => ?_, ih h1.2⟩
      have := (ins_perm x ys).mem_iff.1 hz
      rcases List.mem_cons.1 this with rfl | hz
      · omega
      · exact h1.1 z hz
theorem isort_sorted (l : List Int) : List.Pairwise (· ≤ ·) (isort l) := by
  induction l with
  | nil => simp [isort]
  | cons x xs ih => exact ins_sorted x _ ih
theorem merge_isort (l : List Int) : l.mergeSort (fun x y => decide (x ≤ y)) = isort l := by
  refine List.Perm.eq_of_pairwise (le := (· ≤ ·)) (fun a b _ _ h k => by omega) ?_ (isort_sorted l) ((List.mergeSort_perm l _).trans (isort_perm l).symm)
  have := List.pairwise_mergeSort (le := fun x y : Int => decide (x ≤ y)) (fun a b c h k => by simp at *; omega) (fun a b => by simp; omega) l
  exact this.imp (fun h => by simpa using h)
end Cm

/- Plain mathematics of momenta: centered numbers, turners, opposites, which changes a draw accepts; no Go.
Conditions: none. -/
set_option autoImplicit false
namespace Km
set_option linter.unusedVariables false
set_option linter.unusedSimpArgs false
open Um
/-- the three numbers of a momentum -/
structure Kk where
  a : Int
  b : Int
  c : Int
deriving DecidableEq
def IsN (n : Int) : Prop := 0 ≤ n ∧ n ≤ 7
instance (n : Int) : Decidable (IsN n) := by unfold IsN; infer_instance
def IsK (k : Kk) : Prop := IsN k.a ∧ IsN k.b ∧ IsN k.c
instance (k : Kk) : Decidable (IsK k) := by unfold IsK; infer_instance
/-- a number, centered -/
def ctr (n : Int) : Int := if 4 < n % 8 then n % 8 - 8 else n % 8
/-- plus, minus or none -/
def sd (n : Int) : Int := if ctr n < 0 then -1 else if ctr n = 0 ∨ ctr n = 4 then 0 else 1
def turn (k : Kk) : Q := if sd k.a ≠ 0 ∧ sd k.b ≠ 0 ∧ sd k.c ≠ 0 then ⟨1, sd k.a, sd k.b, sd k.c, 2⟩ else if sd k.a ≠ 0 then ⟨0, sd k.a, 0, 0, 1⟩ else if sd k.b ≠ 0 then ⟨0, 0, sd k.b, 0, 1⟩ else if sd k.c ≠ 0 then ⟨0, 0, 0, sd k.c, 1⟩ else ⟨1, 0, 0, 0, 1⟩
/-- the number of the opposite -/
def oppN (n : Int) : Int := (8 - n) % 8
def opp (k : Kk) : Kk := ⟨oppN k.a, oppN k.b, oppN k.c⟩
theorem isN_cases {n : Int} (h : IsN n) : n = 0 ∨ n = 1 ∨ n = 2 ∨ n = 3 ∨ n = 4 ∨ n = 5 ∨ n = 6 ∨ n = 7 := by
  obtain ⟨h1, h2⟩ := h; omega
theorem isN_nat {n : Int} (h : IsN n) : ∃ k : Nat, k < 8 ∧ n = k := by
  obtain ⟨k, rfl⟩ := Int.eq_ofNat_of_zero_le h.1
  exact ⟨k, by have := h.2; omega, rfl⟩
theorem oppN_rng {n : Int} (h : IsN n) : IsN (oppN n) := by unfold oppN IsN; omega
theorem oppN_opp {n : Int} (h : IsN n) : oppN (oppN n) = n := by obtain ⟨h1, h2⟩ := h; unfold oppN; omega
theorem oppN_neg (n : Int) : (-n) % 8 = oppN n := by unfold oppN; omega
theorem opp_isK {k : Kk} (h : IsK k) : IsK (opp k) := ⟨oppN_rng h.1, oppN_rng h.2.1, oppN_rng h.2.2⟩
theorem opp_opp {k : Kk} (h : IsK k) : opp (opp k) = k := by
  cases k; simp only [opp, Kk.mk.injEq]; exact ⟨oppN_opp h.1, oppN_opp h.2.1, oppN_opp h.2.2⟩
theorem sd_vals (n : Int) : sd n = 0 ∨ sd n = 1 ∨ sd n = -1 := by
  unfold sd; split
  · exact .inr (.inr rfl)
  · split
    · exact .inl rfl
    · exact .inr (.inl rfl)
theorem ctr_opp {n : Int} (h : IsN n) : ctr (oppN n) * ctr (oppN n) = ctr n * ctr n := by
  rcases isN_cases h with rfl | rfl | rfl | rfl | rfl | rfl | rfl | rfl <;> decide
theorem turn_bar : ∀ a : Nat, a < 8 → ∀ b : Nat, b < 8 → ∀ c : Nat, c < 8 → turn (opp ⟨a, b, c⟩) = bar (turn ⟨a, b, c⟩) ∧ g (turn ⟨a, b, c⟩) = 1 ∧ ∃ j : Nat, j < 24 ∧ small j = turn ⟨a, b, c⟩ := by decide +kernel
/-- a draw that accepts a change accepts the smaller ones -/
def acc (ch d : Int) : Bool := decide (ch ≤ 0) || (decide (ch ≤ 30) && decide (d % 2 ^ ch.toNat = 0))
theorem acc_less {ch d l : Int} (h : acc ch d = true) (hl : l ≤ ch) : acc l d = true := by
  unfold acc at *
  by_cases h0 : l ≤ 0
  · simp [h0]
  · have h1 : ¬ ch ≤ 0 := by omega
    simp only [h1, decide_false, Bool.false_or, Bool.and_eq_true, decide_eq_true_eq] at h
    obtain ⟨h2, h3⟩ := h
    simp only [h0, decide_false, Bool.false_or, Bool.and_eq_true, decide_eq_true_eq]
    refine ⟨by omega, ?_⟩
    obtain ⟨m, hm⟩ : ∃ m : Nat, ch.toNat = l.toNat + m := ⟨ch.toNat - l.toNat, by omega⟩
    rw [hm, Int.pow_add] at h3
    have hd : (2 : Int) ^ l.toNat * 2 ^ m ∣ d := Int.dvd_of_emod_eq_zero h3
    exact Int.emod_eq_zero_of_dvd (Int.dvd_trans (Int.dvd_mul_right _ _) hd)
open Cm in
/-- the seed behind k draws -/
def adm (s : Int) : Nat → Int
  | 0 => s
  | k + 1 => Cm.adv (adm s k)
theorem adm_seed {s : Int} (h : Cm.IsSeed s) : ∀ k, Cm.IsSeed (adm s k)
  | 0 => h
  | k + 1 => Cm.adv_seed (adm_seed h k)
/-- the numbers of the momenta that are drawn, one behind another -/
def dr (s : Int) (k : Nat) : Int := Cm.drw (adm s k) 8
def moms (s : Int) : Nat → List Int
  | 0 => []
  | k + 1 => moms s k ++ [dr s k]
theorem moms_len (s : Int) : ∀ k, (moms s k).length = k
  | 0 => rfl
  | k + 1 => by simp [moms, moms_len s k]
theorem moms_set (s : Int) (k r : Nat) : (moms s k ++ List.replicate (r + 1) 0).set k (dr s k) = moms s (k + 1) ++ List.replicate r 0 := by
  rw [List.set_append_right _ _ (by rw [moms_len]; exact Nat.le_refl k), moms_len, Nat.sub_self, List.replicate_succ, List.set_cons_zero, moms, List.append_assoc]
  rfl
end Km

/- Plain mathematics of energies: small units and their products, traces of small units, sums of squares; no Go.
Conditions: none but those written at each theorem. -/
set_option autoImplicit false
namespace Km
set_option linter.unusedVariables false
set_option linter.unusedSimpArgs false
open Um Tm
def IsS (x : Q) : Prop := ∃ j : Nat, j < 24 ∧ small j = x
theorem small_bar_ex : ∀ k : Nat, k < 24 → ∃ j : Nat, j < 24 ∧ small j = bar (small k) := by decide +kernel
theorem small_mul_ex' : ∀ k : Nat, k < 24 → ∀ m : Nat, m < 24 → ∃ j : Nat, j < 24 ∧ small j = low (mul (small k) (small m)) := by decide +kernel
theorem IsS.V {x : Q} (h : IsS x) : V x := by
  obtain ⟨k, hk, rfl⟩ := h
  have h := small_v k hk
  have h2 := small_ok k hk
  exact ⟨⟨h.2.2, h.2.1⟩, h.1, by rcases h2 with h2 | h2 <;> omega⟩
theorem IsS.bar {x : Q} (h : IsS x) : IsS (bar x) := by
  obtain ⟨k, hk, rfl⟩ := h
  exact small_bar_ex k hk
theorem IsS.mul {x y : Q} (h : IsS x) (h2 : IsS y) : IsS (low (mul x y)) := by
  obtain ⟨k, hk, rfl⟩ := h
  obtain ⟨m, hm, rfl⟩ := h2
  exact small_mul_ex' k hk m hm
theorem IsS.one : IsS one := ⟨0, by decide, by decide⟩
theorem IsS.fm : ∀ (l : List Q), (∀ x ∈ l, IsS x) → IsS (low (fm l))
  | [], _ => by
    have : low (Tm.fm []) = Um.one := by decide +kernel
    rw [this]; exact IsS.one
  | x :: l, h => by
    have hl : ∀ y ∈ l, IsS y := fun y hy => h y (List.mem_cons_of_mem _ hy)
    have hu : U (Tm.fm l) := fm_U l (fun y hy => (hl y hy).V)
    rw [fm_cons, ← low_mul_right x _ hu.pos]
    exact (h x (List.mem_cons_self ..)).mul (IsS.fm l hl)
theorem lk_S {L : List Q} (h : ∀ x ∈ L, IsS x) {i : Int} (h0 : 0 ≤ i) (h1 : i < (L.length : Int)) : IsS (lk L i) := h _ (List.mem_of_getElem? (lk_get h0 h1))
theorem up_S {a b c : Int} {L : List Q} (hF : Fl a b c L) (h : ∀ x ∈ L, IsS x) {s t : Int} (h0 : 0 ≤ s) (h1 : s < a * b * c) (ht : IsStep t) : IsS (up a b c L s t) := by
  have hn := hF.n
  unfold Tm.up
  split
  · rename_i hp
    have := idx_pos h0 h1 hp ht.2.2
    exact lk_S h this.1 (by omega)
  · rename_i hp
    have := idx_neg (s := s) hF.z ht hp
    exact (lk_S h this.1 (by omega)).bar
theorem ups_S {a b c : Int} {L : List Q} (hF : Fl a b c L) (h : ∀ x ∈ L, IsS x) (s : Int) (l : List Int) (h0 : 0 ≤ s) (h1 : s < a * b * c) (hl : ∀ t ∈ l, IsStep t) : ∀ x ∈ ups a b c L s l, IsS x := by
  induction l generalizing s with
  | nil => intro x hx; cases hx
  | cons t l ih =>
    intro x hx
    simp only [Tm.ups, List.mem_cons] at hx
    rcases hx with rfl | hx
    · exact up_S hF h h0 h1 (hl t (List.mem_cons_self ..))
    · have hr := nx_rng hF.z s t
      exact ih _ hr.1 hr.2 (fun u hu => hl u (List.mem_cons_of_mem _ hu)) x hx
theorem al_S {a b c : Int} {L : List Q} (hF : Fl a b c L) (h : ∀ x ∈ L, IsS x) (s : Int) (l : List Int) (h0 : 0 ≤ s) (h1 : s < a * b * c) (hl : ∀ t ∈ l, IsStep t) : IsS (al a b c L s l) :=
  IsS.fm _ (ups_S hF h s l h0 h1 hl)

/-- the trace of a small unit -/
def trI (x : Q) : Int := (tr x).1
theorem small_tr : ∀ k : Nat, k < 24 → (tr (small k)).2 = 1 ∧ -2 ≤ (tr (small k)).1 ∧ (tr (small k)).1 ≤ 2 := by decide +kernel
theorem IsS.tr {x : Q} (h : IsS x) : tr x = (trI x, 1) ∧ -2 ≤ trI x ∧ trI x ≤ 2 := by
  obtain ⟨k, hk, rfl⟩ := h
  obtain ⟨h1, h2, h3⟩ := small_tr k hk
  exact ⟨Prod.ext rfl h1, h2, h3⟩
/-- the sum of 2 minus the traces -/
def pot : List Q → Int
  | [] => 0
  | x :: l => (2 - trI x) + pot l
theorem pot_app (l m : List Q) : pot (l ++ m) = pot l + pot m := by
  induction l with
  | nil => simp [pot]
  | cons x l ih => simp only [List.cons_append, pot, ih]; omega
theorem pot_snoc (l : List Q) (x : Q) : pot (l ++ [x]) = pot l + (2 - trI x) := by rw [pot_app]; simp [pot]
theorem pot_rng (l : List Q) (h : ∀ x ∈ l, IsS x) : 0 ≤ pot l ∧ pot l ≤ 4 * l.length := by
  induction l with
  | nil => simp [pot]
  | cons x l ih =>
    have h1 := ih (fun y hy => h y (List.mem_cons_of_mem _ hy))
    have h2 := (h x (List.mem_cons_self ..)).tr
    simp only [pot, List.length_cons]
    omega
/-- the sum of the squares of the centered numbers -/
def kin : List Int → Int
  | [] => 0
  | x :: l => ctr x * ctr x + kin l
theorem kin_app (l m : List Int) : kin (l ++ m) = kin l + kin m := by
  induction l with
  | nil => simp [kin]
  | cons x l ih => simp only [List.cons_append, kin, ih]; omega
theorem ctr_rg (n : Int) : -3 ≤ ctr n ∧ ctr n ≤ 4 := by unfold ctr; split <;> omega
theorem sq_rng (n : Int) : 0 ≤ ctr n * ctr n ∧ ctr n * ctr n ≤ 16 := by
  obtain ⟨h1, h2⟩ := ctr_rg n
  have : ctr n = -3 ∨ ctr n = -2 ∨ ctr n = -1 ∨ ctr n = 0 ∨ ctr n = 1 ∨ ctr n = 2 ∨ ctr n = 3 ∨ ctr n = 4 := by omega
  rcases this with h | h | h | h | h | h | h | h <;> rw [h] <;> decide
theorem kin_rng (l : List Int) : 0 ≤ kin l ∧ kin l ≤ 16 * l.length := by
  induction l with
  | nil => simp [kin]
  | cons x l ih =>
    have h2 := sq_rng x
    simp only [kin, List.length_cons]
    omega
theorem kin_three (l : List Int) (x y z : Int) : kin (l ++ [x, y, z]) = kin l + ctr x * ctr x + ctr y * ctr y + ctr z * ctr z := by
  rw [kin_app]; simp only [kin]; omega
theorem kin_opp (l : List Int) (h : ∀ x ∈ l, IsN x) : kin (l.map oppN) = kin l := by
  induction l with
  | nil => rfl
  | cons x l ih =>
    simp only [List.map_cons, kin, ctr_opp (h x (List.mem_cons_self ..)), ih (fun y hy => h y (List.mem_cons_of_mem _ hy))]
end Km
