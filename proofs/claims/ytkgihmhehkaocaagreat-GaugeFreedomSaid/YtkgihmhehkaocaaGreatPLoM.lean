/- Plain mathematics of sums of loops: how paths are ordered, and what the plain form of a list of terms is; no Go.
Conditions: none. -/
import Derived.Test.YtkgihmhehkaocaaGreatPMathA
import Derived.RowKit
set_option autoImplicit false
namespace Lm
set_option linter.unusedVariables false
set_option linter.unusedSimpArgs false
open Tm

def cmpI (x y : Int) : Int := if x < y then -1 else if y < x then 1 else 0
def cmpL : List Int → List Int → Int
  | [], [] => 0
  | [], _ :: _ => -1
  | _ :: _, [] => 1
  | x :: l, y :: m => if cmpI x y = 0 then cmpL l m else cmpI x y
/-- the one of two lists that comes first -/
def mnL (l m : List Int) : List Int := if cmpL l m ≤ 0 then l else m
/-- the plain path -/
def plL (l : List Int) : List Int := mnL (red l) (opp (red l))

/-! ### terms -/
abbrev Trm := Int × List Int
def ad (x y : Int) : Int := Go.RowKit.wrap64 (x + y)
/-- a term is put into a list of terms whose paths ascend -/
def ins (t : Trm) : List Trm → List Trm
  | [] => [t]
  | s :: r => if cmpL s.2 t.2 < 0 then s :: ins t r else if s.2 = t.2 then (ad s.1 t.1, s.2) :: r else t :: s :: r
def coll (ts : List Trm) : List Trm := ts.foldl (fun o t => ins t o) []
/-- the paths ascend -/
def Asc (o : List Trm) : Prop := o.Pairwise fun s t => cmpL s.2 t.2 < 0
/-- the coefficient of a path in a list -/
def look (p : List Int) : List Trm → Option Int
  | [] => none
  | s :: r => if s.2 = p then some s.1 else look p r
/-- the plain form -/
def plT (ts : List Trm) : List Trm := (coll ts).filter fun t => t.1 ≠ 0
/-! ### paths one behind the other -/
/-- a stack (its last step first) and the path behind it: what is left where they meet -/
def jn : List Int → List Int → List Int
  | [], q => q.reverse
  | x :: st, [] => x :: st
  | x :: st, y :: q => if x = -y then jn st q else (y :: q).reverse ++ x :: st
/-- two paths, joined -/
def jnL (p q : List Int) : List Int := (jn p.reverse q).reverse
end Lm

/- Plain mathematics of sums of traces: the denominators of traces along short paths, and sums over a common denominator; no Go.
Conditions: none. -/
set_option autoImplicit false
namespace Lm
set_option linter.unusedVariables false
set_option linter.unusedSimpArgs false
open Tm Um

/-! ### denominators of traces -/
theorem sq8 (x : Int) : (x % 2 = 0 ∧ (x * x) % 4 = 0) ∨ (x % 2 = 1 ∧ (x * x) % 8 = 1) := by
  rcases Int.emod_two_eq x with h | h
  · refine .inl ⟨h, ?_⟩
    obtain ⟨k, rfl⟩ : ∃ k, x = 2 * k := ⟨x / 2, by omega⟩
    rw [show 2 * k * (2 * k) = 4 * (k * k) by grind]
    omega
  · refine .inr ⟨h, ?_⟩
    obtain ⟨k, rfl⟩ : ∃ k, x = 2 * k + 1 := ⟨x / 2, by omega⟩
    have e : (2 * k + 1) * (2 * k + 1) = 4 * (k * (k + 1)) + 1 := by grind
    have e2 : (k * (k + 1)) % 2 = 0 := by
      rcases Int.emod_two_eq k with h | h
      · obtain ⟨m, rfl⟩ : ∃ m, k = 2 * m := ⟨k / 2, by omega⟩
        rw [show 2 * m * (2 * m + 1) = 2 * (m * (2 * m + 1)) by grind]
        omega
      · obtain ⟨m, rfl⟩ : ∃ m, k = 2 * m + 1 := ⟨k / 2, by omega⟩
        rw [show (2 * m + 1) * (2 * m + 1 + 1) = 2 * ((2 * m + 1) * (m + 1)) by grind]
        omega
    rw [e]
    omega
theorem V.four {x : Q} (h : V x) : ¬ (4 : Int) ∣ x.n := by
  intro hd
  have hl := h.u.len
  obtain ⟨k, hk⟩ := hd
  have e : x.n * x.n = 16 * (k * k) := by rw [hk]; grind
  rw [e] at hl
  have sa := sq8 x.a
  have sb := sq8 x.b
  have sc := sq8 x.c
  have sd := sq8 x.d
  have hp := h.prim
  have hg := dvd_g x 2
  generalize x.a * x.a = A at *
  generalize x.b * x.b = B at *
  generalize x.c * x.c = C at *
  generalize x.d * x.d = D at *
  generalize k * k = K at *
  have all : x.a % 2 = 0 ∧ x.b % 2 = 0 ∧ x.c % 2 = 0 ∧ x.d % 2 = 0 := by omega
  have h2 := hg (by omega) (by omega) (by omega) (by omega) (by omega)
  rw [hp] at h2
  omega
def MM : Int := 2562890625
/-- a number that may be added: its denominator divides the common one -/
structure Rt (k : Int) (r : Int × Int) : Prop where
  pos : 0 < r.2
  dvd : r.2 ∣ MM
  lo : -(k * r.2) ≤ r.1
  hi : r.1 ≤ k * r.2
/-! ### sums -/
def wt (r : Int × Int) : Int := r.1 * (MM / r.2)
def sumR (l : List (Int × Int)) : Int := (l.map wt).sum
def plusR (a b : Int × Int) : Int × Int := rat (a.1 * b.2 + b.1 * a.2) (a.2 * b.2)
theorem Rt.le {k m : Int} {r : Int × Int} (h : Rt k r) (hk : k ≤ m) : Rt m r := by
  have := Int.mul_le_mul_of_nonneg_right hk (Int.le_of_lt h.pos)
  exact ⟨h.pos, h.dvd, by have := h.lo; omega, by have := h.hi; omega⟩
/-- the least common denominator of the first ones, as the document takes it -/
def lcmR (l : List (Int × Int)) : Int := l.foldl (fun m r => m / (Nat.gcd m.natAbs r.2.natAbs : Int) * r.2) 1
structure Cm (m : Int) (l : List (Int × Int)) : Prop where
  pos : 0 < m
  dvd : m ∣ MM
  all : ∀ r ∈ l, r.2 ∣ m
def wtA (m : Int) (r : Int × Int) : Int := r.1 * (m / r.2)
def sumA (m : Int) (l : List (Int × Int)) : Int := (l.map (wtA m)).sum
end Lm

/- Plain mathematics of the sum of two numbers over their least common denominator; no Go.
Conditions: none. -/
set_option autoImplicit false
namespace Lm
set_option linter.unusedVariables false
set_option linter.unusedSimpArgs false
open Tm Um

structure Pl2 (a b : Int × Int) (k m p q G : Int) : Prop where
  G0 : 0 < G
  e1 : a.2 = G * p
  e2 : b.2 = G * q
  p0 : 0 < p
  q0 : 0 < q
  pm : p ≤ MM
  qm : q ≤ MM
  l0 : 0 < p * b.2
  l1 : p * b.2 ≤ MM
  x0 : -(k * MM) ≤ a.1 * q
  x1 : a.1 * q ≤ k * MM
  y0 : -(m * MM) ≤ b.1 * p
  y1 : b.1 * p ≤ m * MM
  r : rat (a.1 * q + b.1 * p) (p * b.2) = plusR a b
/-- the sum of the first ones, as the program adds -/
def acR (l : List (Int × Int)) : Int × Int := rat (sumR l) MM
/-- the mean of numbers -/
def meanR (l : List (Int × Int)) : Int × Int := rat (sumR l) (MM * l.length)
end Lm
