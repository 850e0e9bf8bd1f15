/- A field that is transformed and transformed back, and the answers of Transform.
Conditions: those written at each theorem. -/
import Derived.Test.YtkgihmhehkaocaaGreatRGauC
import Derived.Test.YtkgihmhehkaocaaGreatRGauG
import Derived.Test.YtkgihmhehkaocaaGreatRCloC
import Derived.Test.YtkgihmhehkaocaaGreatRAlongC
import Derived.Test.YtkgihmhehkaocaaGreatRGauF
import Derived.Test.YtkgihmhehkaocaaGreatRIBox
import Derived.Test.YtkgihmhehkaocaaGreatRQuatA
import Derived.Scope
import Derived.ScopeJumps
import Derived.WalkMore
namespace Go.Proofs.YtkgihmhehkaocaaGreat
set_option linter.unusedVariables false
set_option linter.unusedSimpArgs false
set_option maxRecDepth 1000000
open Go.RowKit
open Um Tm

end Go.Proofs.YtkgihmhehkaocaaGreat

/- Two gauge transformations, one behind the other: mathematics; and the answers of Compose.
Conditions: those written at each theorem. -/
namespace Go.Proofs.YtkgihmhehkaocaaGreat
set_option linter.unusedVariables false
set_option linter.unusedSimpArgs false
set_option maxRecDepth 1000000
open Go.RowKit
open Um Tm

/-- the units of two transformations' product -/
def coL (G H : List Q) : List Q := (List.range G.length).map fun (k : Nat) => low (mul (lk G (k : Int)) (lk H (k : Int)))
end Go.Proofs.YtkgihmhehkaocaaGreat

/- The fixed field: its links in the tree are 1, and it is its own fixed field; mathematics.
Conditions: those written at each theorem. -/
namespace Go.Proofs.YtkgihmhehkaocaaGreat
set_option linter.unusedVariables false
set_option linter.unusedSimpArgs false
set_option maxRecDepth 1000000
open Go.RowKit
open Um Tm

/-- no later link of the list leads to where this one begins or ends -/
def gdB (a b c : Int) : List Int → Bool
  | [] => true
  | k :: l => (k :: l).all (fun m => decide (ahd a b c m.toNat ≠ ((k.toNat / 3 : Nat) : Int))) && l.all (fun m => decide (ahd a b c m.toNat ≠ ahd a b c k.toNat)) && gdB a b c l
def fxB (a b c : Int) (N : Nat) : List Int → Bool := fun l => decide (l.length + 1 = N) && gdB a b c l
def fxAll : Bool := (List.range 4).all fun a => (List.range 4).all fun b => (List.range 4).all fun c => decide (16 < (a + 1) * (b + 1) * (c + 1)) || fxB (a + 1) (b + 1) (c + 1) ((a + 1) * (b + 1) * (c + 1)) (trAt (a + 1) (b + 1) (c + 1) (3 * ((a + 1) * (b + 1) * (c + 1)))).2
end Go.Proofs.YtkgihmhehkaocaaGreat

/- A field that is transformed by small units: its branches, its fixed field, its loops. Mathematics.
Conditions: those written at each theorem. -/
namespace Go.Proofs.YtkgihmhehkaocaaGreat
set_option linter.unusedVariables false
set_option linter.unusedSimpArgs false
set_option maxRecDepth 1000000
open Um Tm

/-- each link of the list leads from a site that is reached to one that is not -/
def ordB (a b c : Int) (N : Nat) : List Int → List Int → Bool
  | R, [] => (List.range N).all fun s => R.contains (s : Int)
  | R, k :: l => R.contains ((k.toNat / 3 : Nat) : Int) && !(R.contains (ahd a b c k.toNat)) && ordB a b c N (ahd a b c k.toNat :: R) l
def orAll : Bool := (List.range 4).all fun a => (List.range 4).all fun b => (List.range 4).all fun c => decide (16 < (a + 1) * (b + 1) * (c + 1)) || ordB (a + 1) (b + 1) (c + 1) ((a + 1) * (b + 1) * (c + 1)) [0] (trAt (a + 1) (b + 1) (c + 1) (3 * ((a + 1) * (b + 1) * (c + 1)))).2
/-- turned by a unit -/
def cj (g x : Q) : Q := low (mul (mul g x) (bar g))
end Go.Proofs.YtkgihmhehkaocaaGreat

/- The unit along a path of a transformed field; mathematics, no Go.
Conditions: those written at each theorem. -/
namespace Go.Proofs.YtkgihmhehkaocaaGreat
set_option linter.unusedVariables false
set_option linter.unusedSimpArgs false
set_option maxRecDepth 1000000
open Go.RowKit
open Um Tm

end Go.Proofs.YtkgihmhehkaocaaGreat

/- Bases of the solutions of equations with integers: what narrowing keeps; mathematics, no Go.
Conditions: those written at each theorem. -/
namespace Go.Proofs.YtkgihmhehkaocaaGreat
set_option linter.unusedVariables false
set_option linter.unusedSimpArgs false
set_option maxRecDepth 1000000
open Um Tm

/-- a sum of multiples -/
def smf (f : Q → Int) : List Int → List Q → Int
  | c :: cs, q :: B => c * f q + smf f cs B
  | _, _ => 0
/-- no combination is 0 but that of zeros -/
def Ind (B : List Q) : Prop := ∀ cs : List Int, cs.length = B.length → (∀ k, k < 4 → smf (cmp k) cs B = 0) → ∀ c ∈ cs, c = 0
/-- each solution has a multiple that is a combination -/
def Spn (P : Q → Prop) (B : List Q) : Prop := ∀ q, P q → ∃ (m : Int) (cs : List Int), m ≠ 0 ∧ cs.length = B.length ∧ ∀ k, k < 4 → m * cmp k q = smf (cmp k) cs B
/-- what narrowing makes of a quaternion, in lowest terms -/
def Nr (e w q q' : Q) : Prop := ∃ k : Int, k ≠ 0 ∧ ∀ j, j < 4 → dot4 e w * cmp j q - dot4 e q * cmp j w = k * cmp j q'
inductive NrL (e w : Q) : List Q → List Q → Prop
  | nil : NrL e w [] []
  | cons {q q' : Q} {l l' : List Q} : Nr e w q q' → NrL e w l l' → NrL e w (q :: l) (q' :: l')
end Go.Proofs.YtkgihmhehkaocaaGreat

/- A quaternion of integers divided by what divides all its coordinates, as the program makes it.
Conditions: the bounds written at each theorem. -/
namespace Go.Proofs.YtkgihmhehkaocaaGreat
set_option linter.unusedVariables false
set_option linter.unusedSimpArgs false
set_option maxRecDepth 1000000
open Go.RowKit
open Um Tm

theorem B4.cmp {x : Q} {m : Int} (h : B4 x m) {k : Nat} (hk : k < 4) : -m ≤ cmp k x ∧ cmp k x ≤ m := by
  rcases cases4 hk with rfl | rfl | rfl | rfl
  · exact h.a
  · exact h.b
  · exact h.c
  · exact h.d
/-- nothing but 1 divides all four numbers -/
def Prm (q : Q) : Prop := ∀ d : Int, (∀ j, j < 4 → d ∣ cmp j q) → d ∣ 1
/-- bounded, and in lowest terms -/
structure BP (q : Q) (m : Int) : Prop where
  b : B4 q m
  p : Prm q
end Go.Proofs.YtkgihmhehkaocaaGreat

/- A basis that is narrowed by an equation, as the program makes it.
Conditions: the bounds written at each theorem. -/
namespace Go.Proofs.YtkgihmhehkaocaaGreat
set_option linter.unusedVariables false
set_option linter.unusedSimpArgs false
set_option maxRecDepth 1000000
open Go.RowKit
open Um Tm

def q4 (q : Q) : List Int := [q.a, q.b, q.c, q.d]
def flq (B : List Q) : List Int := B.flatMap q4
/-- what lies in memory while a basis is narrowed -/
structure Nw (w X : World) (wq e : Q) : Prop where
  e : IBox X w.heap.size (q4 e)
  q : IBox X (w.heap.size + 1) (q4 wq)
  b : Below w.heap.size w X
theorem Nw.later {w X Y : World} {wq e : Q} (h : Nw w X wq e) (hb : Below X.heap.size X Y) : Nw w Y wq e := ⟨h.e.later hb, h.q.later hb, h.b.trans (hb.mono h.b.size)⟩
theorem Nw.put {w X : World} {wq e : Q} (h : Nw w X wq e) {b o : Nat} (v : Value) (hb : w.heap.size + 1 < b) : Nw w (X.setCell ⟨b, o, none⟩ v) wq e := ⟨h.e.other (by omega), h.q.other (by omega), h.b.setCell (p := ⟨b, o, none⟩) (by show w.heap.size ≤ b; omega) v⟩
theorem Nw.grown {w X Y : World} {wq e : Q} {row : Option Nat} (h : Nw w X wq e) (hg : X.grownBy Y row) (hne : ∀ j, row = some j → w.heap.size + 2 ≤ j) : Nw w Y wq e := ⟨h.e.grown hg (fun e => by have := hne _ e.symm; omega), h.q.grown hg (fun e => by have := hne _ e.symm; omega), h.b.grown hg h.b.size (fun j hj => by have := hne j hj; omega)⟩
/-- the vector that is taken, coordinate by coordinate -/
def nrv (e w q : Q) : Q := ⟨dot4 e w * q.a - dot4 e q * w.a, dot4 e w * q.b - dot4 e q * w.b, dot4 e w * q.c - dot4 e q * w.c, dot4 e w * q.d - dot4 e q * w.d, 0⟩
end Go.Proofs.YtkgihmhehkaocaaGreat

/- A basis of the solutions of equations: what each step keeps.
Conditions: the bounds written at each theorem. -/
namespace Go.Proofs.YtkgihmhehkaocaaGreat
set_option linter.unusedVariables false
set_option linter.unusedSimpArgs false
set_option maxRecDepth 1000000
open Go.RowKit
open Um Tm

/-- how great the numbers of a basis of so many quaternions are -/
def bd (n : Nat) : Int := if n = 4 then 1 else if n = 3 then 32 else if n = 2 then 32768 else 34359738368
/-- a basis of the quaternions that solve the first k equations -/
structure Bas (E : Nat → Q) (k : Nat) (B : List Q) : Prop where
  i : Ind B
  z : ∀ j, j < k → ∀ q ∈ B, dot4 (E j) q = 0
  s : Spn (fun q => ∀ j, j < k → dot4 (E j) q = 0) B
  l : B.length ≤ 4
  b : ∀ q ∈ B, B4 q (bd B.length)
  p : ∀ q ∈ B, Prm q
end Go.Proofs.YtkgihmhehkaocaaGreat

/- A basis of solutions is known up to signs: mathematics, no Go.
Conditions: those written at each theorem. -/
namespace Go.Proofs.YtkgihmhehkaocaaGreat
set_option linter.unusedVariables false
set_option linter.unusedSimpArgs false
set_option maxRecDepth 1000000
open Um Tm

/-- the same up to the sign -/
def Pm (q q' : Q) : Prop := ∃ s : Int, (s = 1 ∨ s = -1) ∧ ∀ j, j < 4 → cmp j q' = s * cmp j q
inductive PmL : List Q → List Q → Prop
  | nil : PmL [] []
  | cons {q q' : Q} {l l' : List Q} : Pm q q' → PmL l l' → PmL (q :: l) (q' :: l')
theorem Pm.refl (q : Q) : Pm q q := ⟨1, .inl rfl, fun j _ => by omega⟩
theorem PmL.refl : ∀ l : List Q, PmL l l
  | [] => .nil
  | q :: l => .cons (Pm.refl q) (PmL.refl l)
theorem PmL.app {B1 C1 B2 C2 : List Q} (h : PmL B1 C1) (h2 : PmL B2 C2) : PmL (B1 ++ B2) (C1 ++ C2) := by
  induction h with
  | nil => exact h2
  | cons h1 _ ih => exact .cons h1 ih
/-- the greatest common divisor of the four numbers -/
def gc4 (v : Q) : Nat := Nat.gcd (Nat.gcd v.a.natAbs v.b.natAbs) (Nat.gcd v.c.natAbs v.d.natAbs)
def lowF (v : Q) : Q := ⟨v.a / (gc4 v : Int), v.b / (gc4 v : Int), v.c / (gc4 v : Int), v.d / (gc4 v : Int), 0⟩
def nrF (e w q : Q) : Q := lowF (nrv e w q)
/-- one equation, by the numbers alone -/
def stepF (e : Q) : List Q → List Q → List Q
  | pre, [] => pre
  | pre, q :: B => if dot4 e q = 0 then stepF e (pre ++ [q]) B else (pre ++ B).map (nrF e q)
def solF (E : Nat → Q) : Nat → List Q
  | 0 => [un 0, un 1, un 2, un 3]
  | k + 1 => stepF (E k) [] (solF E k)
end Go.Proofs.YtkgihmhehkaocaaGreat

/- One narrowing on the way to the solutions.
Conditions: the bounds written at each theorem. -/
namespace Go.Proofs.YtkgihmhehkaocaaGreat
set_option linter.unusedVariables false
set_option linter.unusedSimpArgs false
set_option maxRecDepth 1000000
open Go.RowKit
open Um Tm

end Go.Proofs.YtkgihmhehkaocaaGreat

/- A basis of the solutions of equations, as the program makes it.
Conditions: the bounds written at each theorem. -/
namespace Go.Proofs.YtkgihmhehkaocaaGreat
set_option linter.unusedVariables false
set_option linter.unusedSimpArgs false
set_option maxRecDepth 1000000
open Go.RowKit
open Um Tm

end Go.Proofs.YtkgihmhehkaocaaGreat

/- Independent solutions are never more than those that span: mathematics, no Go.
Conditions: those written at each theorem. -/
namespace Go.Proofs.YtkgihmhehkaocaaGreat
set_option linter.unusedVariables false
set_option linter.unusedSimpArgs false
set_option maxRecDepth 1000000
open Um Tm

/-- a sum of multiples, over anything -/
def sg {α : Type} (f : α → Int) : List Int → List α → Int
  | c :: cs, q :: B => c * f q + sg f cs B
  | _, _ => 0
/-- a sum with coefficients by their numbers -/
def sfn (f : Q → Int) : (Nat → Int) → List Q → Int
  | g, q :: B => g 0 * f q + sfn f (fun j => g (j + 1)) B
  | _, [] => 0
end Go.Proofs.YtkgihmhehkaocaaGreat

/- The number of independent rows and that of independent solutions are four together; rows that are reduced by one another: mathematics, no Go.
Conditions: those written at each theorem. -/
namespace Go.Proofs.YtkgihmhehkaocaaGreat
set_option linter.unusedVariables false
set_option linter.unusedSimpArgs false
set_option maxRecDepth 1000000
open Um Tm

def vecQ (q : Q) : List Int := [q.a, q.b, q.c, q.d]
/-- the place of the first element that is not 0, or 4 -/
def fstq (r : Q) : Nat := if r.a ≠ 0 then 0 else if r.b ≠ 0 then 1 else if r.c ≠ 0 then 2 else if r.d ≠ 0 then 3 else 4
/-- rows, each 0 where an earlier one has its first element -/
structure Ech (R : List Q) : Prop where
  n : ∀ r ∈ R, fstq r < 4
  p : R.Pairwise fun r r' => cmp (fstq r) r' = 0
/-- a row reduced by a row -/
def Rd (row r r' : Q) : Prop := ∃ g : Int, g ≠ 0 ∧ ∀ k, k < 4 → cmp k r * cmp (fstq row) row - cmp k row * cmp (fstq row) r = g * cmp k r'
inductive RdL : List Q → Q → Q → Prop
  | nil (r : Q) : RdL [] r r
  | cons {row r r1 r' : Q} {R : List Q} : Rd row r r1 → RdL R r1 r' → RdL (row :: R) r r'
/-- rows that have the solutions of the first n equations -/
structure Rws (E : Nat → Q) (n : Nat) (R : List Q) : Prop where
  e : Ech R
  s : ∀ q, (∀ r ∈ R, dot4 r q = 0) ↔ ∀ j, j < n → dot4 (E j) q = 0
end Go.Proofs.YtkgihmhehkaocaaGreat

/- Certificates, equivalence and freedom, as the program finds them.
Conditions: those written at each theorem. -/
namespace Go.Proofs.YtkgihmhehkaocaaGreat
set_option linter.unusedVariables false
set_option linter.unusedSimpArgs false
set_option maxRecDepth 1000000
open Go.RowKit
open Um Tm

/-- the rows of the equations between loops -/
def rwE (X Y : List Q) : Nat → Q := rowQ (eqL X Y X.length)
/-- a basis of the solutions -/
def BasE (X Y : List Q) (B : List Q) : Prop := Bas (rwE X Y) (X.length * 4) B ∧ PmL B (solF (rwE X Y) (X.length * 4))
/-! ### Freedom -/
/-! ### Certificate and Equivalent -/
/-- no certificate and the error r are answered -/
def NoCe (r : Int) : Value := .tuple #[.agg #[.int .i64 0, .int .i64 0, .int .i64 0, .int .i64 0], .bool false, .int .i64 r]
end Go.Proofs.YtkgihmhehkaocaaGreat

/- Fields with a certificate have the same traces, and the opposite certificate: mathematics.
Conditions: those written at each theorem. -/
namespace Go.Proofs.YtkgihmhehkaocaaGreat
set_option linter.unusedVariables false
set_option linter.unusedSimpArgs false
set_option maxRecDepth 1000000
open Um Tm

end Go.Proofs.YtkgihmhehkaocaaGreat

/- Answers that are fields, in one form.
Conditions: none. -/
namespace Go.Proofs.YtkgihmhehkaocaaGreat
set_option linter.unusedVariables false
set_option linter.unusedSimpArgs false
set_option maxRecDepth 1000000
open Go.RowKit
open Um Tm

/-- a field and no error are answered -/
def RetTf (a b c : Int) (n : Nat) (T : List Q) (e : Ending) (w' : World) : Prop := ∃ g k : Nat, e = .returned (.tuple #[.agg #[.int .i64 a, .int .i64 b, .int .i64 c, .slice (some ⟨g, 0, none⟩) n k], .int .i64 0]) ∧ LBox w' g T
/-- a field and the error r are answered -/
def AnyF (r : Int) (e : Ending) : Prop := ∃ (x y z : Int) (so : Option Addr) (n k : Nat), e = .returned (.tuple #[.agg #[.int .i64 x, .int .i64 y, .int .i64 z, .slice so n k], .int .i64 r])
end Go.Proofs.YtkgihmhehkaocaaGreat
