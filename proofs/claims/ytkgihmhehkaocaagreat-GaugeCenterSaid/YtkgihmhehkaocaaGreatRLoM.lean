/- Plain mathematics of sums of loops: how paths are ordered, and what the plain form of a list of terms is; no Go.
Conditions: none. -/
import Derived.Test.YtkgihmhehkaocaaGreatRMathA
import Derived.RowKit
set_option autoImplicit false
namespace Lm
set_option linter.unusedVariables false
set_option linter.unusedSimpArgs false
open Tm

def cmpI (x y : Int) : Int := if x < y then -1 else if y < x then 1 else 0
def cmpL : List Int → List Int → Int
  | [], [] => 0
  | [], _ :: _ => -1
  | _ :: _, [] => 1
  | x :: l, y :: m => if cmpI x y = 0 then cmpL l m else cmpI x y
/-- the one of two lists that comes first -/
def mnL (l m : List Int) : List Int := if cmpL l m ≤ 0 then l else m
/-- the plain path -/
def plL (l : List Int) : List Int := mnL (red l) (opp (red l))

/-! ### terms -/
abbrev Trm := Int × List Int
def ad (x y : Int) : Int := Go.RowKit.wrap64 (x + y)
/-- a term is put into a list of terms whose paths ascend -/
def ins (t : Trm) : List Trm → List Trm
  | [] => [t]
  | s :: r => if cmpL s.2 t.2 < 0 then s :: ins t r else if s.2 = t.2 then (ad s.1 t.1, s.2) :: r else t :: s :: r
def coll (ts : List Trm) : List Trm := ts.foldl (fun o t => ins t o) []
/-- the paths ascend -/
def Asc (o : List Trm) : Prop := o.Pairwise fun s t => cmpL s.2 t.2 < 0
/-- the coefficient of a path in a list -/
def look (p : List Int) : List Trm → Option Int
  | [] => none
  | s :: r => if s.2 = p then some s.1 else look p r
/-- the plain form -/
def plT (ts : List Trm) : List Trm := (coll ts).filter fun t => t.1 ≠ 0
/-! ### paths one behind the other -/
/-- a stack (its last step first) and the path behind it: what is left where they meet -/
def jn : List Int → List Int → List Int
  | [], q => q.reverse
  | x :: st, [] => x :: st
  | x :: st, y :: q => if x = -y then jn st q else (y :: q).reverse ++ x :: st
/-- two paths, joined -/
def jnL (p q : List Int) : List Int := (jn p.reverse q).reverse
end Lm

/- Plain mathematics of sums of traces: the denominators of traces along short paths, and sums over a common denominator; no Go.
Conditions: none. -/
set_option autoImplicit false
namespace Lm
set_option linter.unusedVariables false
set_option linter.unusedSimpArgs false
open Tm Um

/-! ### denominators of traces -/
theorem sq8 (x : Int) : (x % 2 = 0 ∧ (x * x) % 4 = 0) ∨ (x % 2 = 1 ∧ (x * x) % 8 = 1) := by
  rcases Int.emod_two_eq x with h | h
  · refine .inl ⟨h, ?_⟩
    obtain ⟨k, rfl⟩ : ∃ k, x = 2 * k := ⟨x / 2, by omega⟩
    rw [show 2 * k * (2 * k) = 4 * (k * k) by grind]
    omega
  · refine .inr ⟨h, ?_⟩
    obtain ⟨k, rfl⟩ : ∃ k, x = 2 * k + 1 := ⟨x / 2, by omega⟩
    have e : (2 * k + 1) * (2 * k + 1) = 4 * (k * (k + 1)) + 1 := by grind
    have e2 : (k * (k + 1)) % 2 = 0 := by
      rcases Int.emod_two_eq k with h | h
      · obtain ⟨m, rfl⟩ : ∃ m, k = 2 * m := ⟨k / 2, by omega⟩
        rw [show 2 * m * (2 * m + 1) = 2 * (m * (2 * m + 1)) by grind]
        omega
      · obtain ⟨m, rfl⟩ : ∃ m, k = 2 * m + 1 := ⟨k / 2, by omega⟩
        rw [show (2 * m + 1) * (2 * m + 1 + 1) = 2 * ((2 * m + 1) * (m + 1)) by grind]
        omega
    rw [e]
    omega
theorem V.four {x : Q} (h : V x) : ¬ (4 : Int) ∣ x.n := by
  intro hd
  have hl := h.u.len
  obtain ⟨k, hk⟩ := hd
  have e : x.n * x.n = 16 * (k * k) := by rw [hk]; grind
  rw [e] at hl
  have sa := sq8 x.a
  have sb := sq8 x.b
  have sc := sq8 x.c
  have sd := sq8 x.d
  have hp := h.prim
  have hg := dvd_g x 2
  generalize x.a * x.a = A at *
  generalize x.b * x.b = B at *
  generalize x.c * x.c = C at *
  generalize x.d * x.d = D at *
  generalize k * k = K at *
  have all : x.a % 2 = 0 ∧ x.b % 2 = 0 ∧ x.c % 2 = 0 ∧ x.d % 2 = 0 := by omega
  have h2 := hg (by omega) (by omega) (by omega) (by omega) (by omega)
  rw [hp] at h2
  omega
theorem tr_odd {x : Q} (h : V x) : (tr x).2 % 2 = 1 ∧ (tr x).2 ∣ x.n := by
  have hp := rat_part (2 * x.a) x.n
  have hpos := h.u.pos
  have h4 := V.four h
  have hdv : ((2 * x.a).natAbs.gcd x.n.natAbs : Int) ∣ x.n := Int.ofNat_dvd_left.2 (Nat.gcd_dvd_right _ _)
  unfold tr
  refine ⟨?_, ⟨_, by rw [Int.mul_comm]; exact hp.2⟩⟩
  have h2 : x.n % 2 = 0 → (2 : Int) ∣ ((2 * x.a).natAbs.gcd x.n.natAbs : Int) := fun e => by
    have : 2 ∣ (2 * x.a).natAbs.gcd x.n.natAbs := Nat.dvd_gcd (by omega) (by omega)
    omega
  generalize ((2 * x.a).natAbs.gcd x.n.natAbs : Int) = G at *
  generalize (rat (2 * x.a) x.n).2 = d at *
  rcases Int.emod_two_eq d with e | e
  · exfalso
    obtain ⟨m, rfl⟩ : ∃ m, d = 2 * m := ⟨d / 2, by omega⟩
    have e1 : x.n = 2 * (G * m) := by rw [hp.2]; grind
    obtain ⟨j, rfl⟩ := h2 (by omega)
    exact h4 ⟨j * m, by rw [hp.2]; grind⟩
  · exact e
theorem n_thirty {x : Q} (h : V x) (h5 : x.n ≤ 5) : x.n ∣ 30 := by
  have hp := h.u.pos
  have h4 := V.four h
  have : x.n = 1 ∨ x.n = 2 ∨ x.n = 3 ∨ x.n = 4 ∨ x.n = 5 := by omega
  rcases this with e | e | e | e | e <;> rw [e] at h4 ⊢ <;> first | decide | (exact absurd (by decide) h4)
theorem fm_thirty (l : List Q) (hl : ∀ x ∈ l, V x ∧ x.n ≤ 5) : (fm l).n ∣ 30 ^ l.length := by
  induction l with
  | nil => exact ⟨1, by decide⟩
  | cons x l ih =>
    rw [fm_cons, List.length_cons, Int.pow_succ, Int.mul_comm (30 ^ _)]
    have := n_thirty (hl x (by simp)).1 (hl x (by simp)).2
    exact Int.mul_dvd_mul this (ih fun y hy => hl y (by simp [hy]))
def MM : Int := 2562890625
theorem odd_dvd {d : Int} (h1 : d % 2 = 1) (h2 : d ∣ 30 ^ 8) : d ∣ MM := by
  have h3 : d.natAbs ∣ 2 ^ 8 * 2562890625 := by
    have := Int.natAbs_dvd_natAbs.2 h2
    simpa using this
  have hc : Nat.Coprime d.natAbs (2 ^ 8) := by
    refine Nat.Coprime.pow_right _ ?_
    have hg := Nat.gcd_dvd_right d.natAbs 2
    have hg1 := Nat.gcd_dvd_left d.natAbs 2
    have hle := Nat.le_of_dvd (by decide) hg
    have : Nat.gcd d.natAbs 2 = 0 ∨ Nat.gcd d.natAbs 2 = 1 ∨ Nat.gcd d.natAbs 2 = 2 := by omega
    rcases this with e | e | e
    · rw [e] at hg; omega
    · exact e
    · rw [e] at hg1; omega
  have := hc.dvd_of_dvd_mul_left h3
  exact Int.natAbs_dvd_natAbs.1 (by simpa [MM] using this)
/-- a number that may be added: its denominator divides the common one -/
structure Rt (k : Int) (r : Int × Int) : Prop where
  pos : 0 < r.2
  dvd : r.2 ∣ MM
  lo : -(k * r.2) ≤ r.1
  hi : r.1 ≤ k * r.2
theorem tr_rt (l : List Q) (hl : ∀ x ∈ l, V x ∧ x.n ≤ 5) (h8 : l.length ≤ 8) : Rt 2 (tr (low (fm l))) := by
  have hv := few_V l hl h8
  have ho := tr_odd hv
  have hb := hv.le_two
  have hpos := hv.u.pos
  have ha := rat_abs (2 * (low (fm l)).a) (low (fm l)).n 2 hpos (by omega) (by omega)
  have h30 : (low (fm l)).n ∣ 30 ^ 8 := by
    have h1 : (low (fm l)).n ∣ (fm l).n := ⟨_, by rw [Int.mul_comm]; exact (low_part (fm l)).2.2.2.2⟩
    have h2 := fm_thirty l hl
    have h3 : (30 : Int) ^ l.length ∣ 30 ^ 8 := ⟨30 ^ (8 - l.length), by rw [← Int.pow_add]; congr 1; omega⟩
    exact Int.dvd_trans h1 (Int.dvd_trans h2 h3)
  exact ⟨rat_pos _ _ hpos, odd_dvd ho.1 (Int.dvd_trans ho.2 h30), by have := ha.1; unfold tr; omega, ha.2⟩

/-! ### sums -/
def wt (r : Int × Int) : Int := r.1 * (MM / r.2)
def sumR (l : List (Int × Int)) : Int := (l.map wt).sum
theorem sumR_snoc (l : List (Int × Int)) (r : Int × Int) : sumR (l ++ [r]) = sumR l + wt r := by simp [sumR, List.sum_append]
theorem sumR_take (l : List (Int × Int)) (k : Nat) (hk : k < l.length) : sumR (l.take (k + 1)) = sumR (l.take k) + wt l[k] := by
  rw [List.take_succ_eq_append_getElem hk, sumR_snoc]
def plusR (a b : Int × Int) : Int × Int := rat (a.1 * b.2 + b.1 * a.2) (a.2 * b.2)
theorem MM_pos : 0 < MM := by decide
theorem wt_dvd {k : Int} {r : Int × Int} (h : Rt k r) : r.2 * (MM / r.2) = MM := Int.mul_ediv_cancel' h.dvd
theorem plus_step {k : Int} (S : Int) {r : Int × Int} (h : Rt k r) : plusR (rat S MM) r = rat (S + wt r) MM := by
  have hc := rat_cross S MM
  have hq := rat_pos S MM MM_pos
  have hd := wt_dvd h
  have hpos := h.pos
  unfold plusR wt
  generalize (rat S MM).1 = p at *
  generalize (rat S MM).2 = q at *
  generalize MM / r.2 = m at *
  refine rat_eq _ _ _ _ (Int.mul_pos hq hpos) MM_pos ?_
  grind
theorem wt_rng {k : Int} {r : Int × Int} (h : Rt k r) : -(k * MM) ≤ wt r ∧ wt r ≤ k * MM := by
  have hd := wt_dvd h
  have hpos := h.pos
  have hm : 0 ≤ MM / r.2 := Int.ediv_nonneg (by decide) (by omega)
  unfold wt
  generalize MM / r.2 = m at *
  have h1 := Int.mul_le_mul_of_nonneg_right h.lo hm
  have h2 := Int.mul_le_mul_of_nonneg_right h.hi hm
  rw [Int.neg_mul, Int.mul_assoc, hd] at h1
  rw [Int.mul_assoc, hd] at h2
  exact ⟨h1, h2⟩
theorem sumR_rng {k : Int} {l : List (Int × Int)} (h : ∀ r ∈ l, Rt k r) : -(k * MM * l.length) ≤ sumR l ∧ sumR l ≤ k * MM * l.length := by
  induction l with
  | nil => simp [sumR]
  | cons r l ih =>
    have h1 := wt_rng (h r (by simp))
    have h2 := ih fun s hs => h s (by simp [hs])
    have e : sumR (r :: l) = wt r + sumR l := by simp [sumR]
    rw [e, List.length_cons]
    have e2 : k * MM * ((l.length + 1 : Nat) : Int) = k * MM * (l.length : Int) + k * MM := by rw [Int.natCast_add, Int.mul_add]; simp
    rw [e2]
    omega
/-- a sum of numbers may be added, too -/
theorem rat_rt {k : Int} {S : Int} (h1 : -(k * MM) ≤ S) (h2 : S ≤ k * MM) : Rt k (rat S MM) := by
  have hp := rat_part S MM
  have ha := rat_abs S MM k MM_pos (by rw [Int.neg_mul]; exact h1) h2
  refine ⟨rat_pos _ _ MM_pos, ⟨_, by rw [Int.mul_comm]; exact hp.2⟩, ?_, ha.2⟩
  have := ha.1
  rwa [Int.neg_mul] at this
theorem Rt.le {k m : Int} {r : Int × Int} (h : Rt k r) (hk : k ≤ m) : Rt m r := by
  have := Int.mul_le_mul_of_nonneg_right hk (Int.le_of_lt h.pos)
  exact ⟨h.pos, h.dvd, by have := h.lo; omega, by have := h.hi; omega⟩
/-- the least common denominator of the first ones, as the document takes it -/
def lcmR (l : List (Int × Int)) : Int := l.foldl (fun m r => m / (Nat.gcd m.natAbs r.2.natAbs : Int) * r.2) 1
theorem lcm_eq {m d : Int} (hm : 0 < m) (hd : 0 < d) : m / (Nat.gcd m.natAbs d.natAbs : Int) * d = (Nat.lcm m.natAbs d.natAbs : Int) := by
  obtain ⟨a, rfl⟩ := Int.eq_ofNat_of_zero_le (Int.le_of_lt hm)
  obtain ⟨b, rfl⟩ := Int.eq_ofNat_of_zero_le (Int.le_of_lt hd)
  simp only [Int.natAbs_natCast]
  rw [Nat.lcm_eq_mul_div, Nat.mul_div_right_comm (Nat.gcd_dvd_left a b)]
  simp
theorem lcm_ok {m d : Int} (hm : 0 < m) (hd : 0 < d) (h1 : m ∣ MM) (h2 : d ∣ MM) : 0 < m / (Nat.gcd m.natAbs d.natAbs : Int) * d ∧ m / (Nat.gcd m.natAbs d.natAbs : Int) * d ∣ MM ∧ m ∣ m / (Nat.gcd m.natAbs d.natAbs : Int) * d ∧ d ∣ m / (Nat.gcd m.natAbs d.natAbs : Int) * d := by
  rw [lcm_eq hm hd]
  have hp : 0 < Nat.lcm m.natAbs d.natAbs := Nat.lcm_pos (by omega) (by omega)
  have e1 := Nat.dvd_lcm_left m.natAbs d.natAbs
  have e2 := Nat.dvd_lcm_right m.natAbs d.natAbs
  have e3 : Nat.lcm m.natAbs d.natAbs ∣ MM.natAbs := Nat.lcm_dvd (Int.natAbs_dvd_natAbs.2 h1) (Int.natAbs_dvd_natAbs.2 h2)
  refine ⟨by omega, Int.natAbs_dvd_natAbs.1 (by simpa using e3), Int.natAbs_dvd_natAbs.1 (by simpa using e1), Int.natAbs_dvd_natAbs.1 (by simpa using e2)⟩
structure Cm (m : Int) (l : List (Int × Int)) : Prop where
  pos : 0 < m
  dvd : m ∣ MM
  all : ∀ r ∈ l, r.2 ∣ m
def wtA (m : Int) (r : Int × Int) : Int := r.1 * (m / r.2)
def sumA (m : Int) (l : List (Int × Int)) : Int := (l.map (wtA m)).sum
theorem mean_low (S n : Int) (hn : 0 < n) : rat (rat S MM).1 ((rat S MM).2 * n) = rat S (MM * n) := by
  have hc := rat_cross S MM
  have hq := rat_pos S MM MM_pos
  refine rat_eq _ _ _ _ (Int.mul_pos hq hn) (Int.mul_pos MM_pos hn) ?_
  generalize (rat S MM).1 = p at *
  generalize (rat S MM).2 = q at *
  grind
end Lm

/- Plain mathematics of the sum of two numbers over their least common denominator; no Go.
Conditions: none. -/
set_option autoImplicit false
namespace Lm
set_option linter.unusedVariables false
set_option linter.unusedSimpArgs false
open Tm Um

structure Pl2 (a b : Int × Int) (k m p q G : Int) : Prop where
  G0 : 0 < G
  e1 : a.2 = G * p
  e2 : b.2 = G * q
  p0 : 0 < p
  q0 : 0 < q
  pm : p ≤ MM
  qm : q ≤ MM
  l0 : 0 < p * b.2
  l1 : p * b.2 ≤ MM
  x0 : -(k * MM) ≤ a.1 * q
  x1 : a.1 * q ≤ k * MM
  y0 : -(m * MM) ≤ b.1 * p
  y1 : b.1 * p ≤ m * MM
  r : rat (a.1 * q + b.1 * p) (p * b.2) = plusR a b
theorem pl2 {k m : Int} {a b : Int × Int} (ha : Rt k a) (hb : Rt m b) (hk : 0 ≤ k) (hm : 0 ≤ m) : ∃ p q, Pl2 a b k m p q (Nat.gcd a.2.natAbs b.2.natAbs : Int) := by
  obtain ⟨a1, a2⟩ := a
  obtain ⟨b1, b2⟩ := b
  have a0 : 0 < a2 := ha.pos
  have b0 : 0 < b2 := hb.pos
  have hl := lcm_ok a0 b0 ha.dvd hb.dvd
  have hG := gcd_pos a2 b2 b0
  have d1 : (Nat.gcd a2.natAbs b2.natAbs : Int) ∣ a2 := Int.ofNat_dvd_left.2 (Nat.gcd_dvd_left _ _)
  have d2 : (Nat.gcd a2.natAbs b2.natAbs : Int) ∣ b2 := Int.ofNat_dvd_left.2 (Nat.gcd_dvd_right _ _)
  have aL : -(k * a2) ≤ a1 := ha.lo
  have aH : a1 ≤ k * a2 := ha.hi
  have bL : -(m * b2) ≤ b1 := hb.lo
  have bH : b1 ≤ m * b2 := hb.hi
  clear ha hb
  simp only at hl ⊢
  generalize (Nat.gcd a2.natAbs b2.natAbs : Int) = G at *
  obtain ⟨p, hp⟩ := d1
  obtain ⟨q, hq⟩ := d2
  have ep : a2 / G = p := by rw [hp]; exact Int.mul_ediv_cancel_left _ (by omega)
  rw [ep] at hl
  have p0 : 0 < p := by rw [hp] at a0; exact Int.pos_of_mul_pos_right a0 (by omega)
  have q0 : 0 < q := by rw [hq] at b0; exact Int.pos_of_mul_pos_right b0 (by omega)
  have hle := Int.le_of_dvd MM_pos hl.2.1
  subst hp hq
  have hM : G * p * q = p * (G * q) := by grind
  have u1 := Int.mul_le_mul_of_nonneg_right aL (Int.le_of_lt q0)
  have u2 := Int.mul_le_mul_of_nonneg_right aH (Int.le_of_lt q0)
  have v1 := Int.mul_le_mul_of_nonneg_right bL (Int.le_of_lt p0)
  have v2 := Int.mul_le_mul_of_nonneg_right bH (Int.le_of_lt p0)
  have w1 := Int.mul_le_mul_of_nonneg_left hle hk
  have w2 := Int.mul_le_mul_of_nonneg_left hle hm
  have t1 : k * (G * p) * q = k * (p * (G * q)) := by grind
  have t2 : m * (G * q) * p = m * (p * (G * q)) := by grind
  have t3 : -(k * (G * p)) * q = -(k * (p * (G * q))) := by grind
  have t4 : -(m * (G * q)) * p = -(m * (p * (G * q))) := by grind
  have hb1 : q ≤ G * q := by have := Int.mul_le_mul_of_nonneg_right (show 1 ≤ G by omega) (Int.le_of_lt q0); omega
  have pq1 : p ≤ p * (G * q) := by have := Int.mul_le_mul_of_nonneg_left (show 1 ≤ G * q by omega) (Int.le_of_lt p0); omega
  have pq2 : G * q ≤ p * (G * q) := by have := Int.mul_le_mul_of_nonneg_right (show 1 ≤ p by omega) (show 0 ≤ G * q by omega); omega
  refine ⟨p, q, hG, rfl, rfl, p0, q0, by omega, by omega, hl.1, hle, by (simp only; omega), by (simp only; omega), by (simp only; omega), by (simp only; omega), ?_⟩
  have e : a1 * (G * q) + b1 * (G * p) = G * (a1 * q + b1 * p) := by grind
  show rat (a1 * q + b1 * p) (p * (G * q)) = rat (a1 * (G * q) + b1 * (G * p)) (G * p * (G * q))
  rw [e, show G * p * (G * q) = G * (p * (G * q)) by grind, rat_scale _ _ _ hG]
/-- the sum of the first ones, as the program adds -/
def acR (l : List (Int × Int)) : Int × Int := rat (sumR l) MM
theorem acR_nil : acR [] = (0, 1) := by decide
theorem acR_take {k : Int} {l : List (Int × Int)} (h : ∀ r ∈ l, Rt k r) (i : Nat) (hi : i < l.length) : plusR (acR (l.take i)) l[i] = acR (l.take (i + 1)) := by
  unfold acR
  rw [sumR_take l i hi]
  exact plus_step _ (h _ (List.getElem_mem hi))
theorem acR_rt {k : Int} {l : List (Int × Int)} (hk : 0 ≤ k) (h : ∀ r ∈ l, Rt k r) (n : Nat) (hn : l.length ≤ n) (i : Nat) : Rt (k * n) (acR (l.take i)) := by
  have h1 := sumR_rng (l := l.take i) fun r hr => h r (List.mem_of_mem_take hr)
  have h2 : ((l.take i).length : Int) ≤ n := by have := List.length_take_le' i l; omega
  have h3 : k * MM * ((l.take i).length : Int) ≤ k * MM * n := Int.mul_le_mul_of_nonneg_left h2 (Int.mul_nonneg hk (by decide))
  have e : k * (n : Int) * MM = k * MM * n := by grind
  exact rat_rt (by rw [e]; omega) (by rw [e]; omega)
/-- the mean of numbers -/
def meanR (l : List (Int × Int)) : Int × Int := rat (sumR l) (MM * l.length)
theorem mean_ac (l : List (Int × Int)) (hl : 0 < l.length) : rat (acR l).1 ((acR l).2 * l.length) = meanR l := mean_low _ _ (by omega)
end Lm
