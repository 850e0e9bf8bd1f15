/- Sums and means of rational numbers, as the program makes them.
Conditions: those written at each theorem. -/
import Derived.Test.YtkgihmhehkaocaaGreatPQuatA
import Derived.Test.YtkgihmhehkaocaaGreatPLoM
import Derived.Test.YtkgihmhehkaocaaGreatPInts
import Derived.Test.YtkgihmhehkaocaaGreatPWlkA
namespace Go.Proofs.YtkgihmhehkaocaaGreat
set_option linter.unusedVariables false
set_option linter.unusedSimpArgs false
set_option maxRecDepth 1000000
open Go.RowKit
open Um Tm Lm

/-! ### lists of numbers -/
/-- a number in a box -/
structure RB (w : World) (b : Nat) (r : Int × Int) : Prop where
  c0 : w.cell? ⟨b, 0, none⟩ = some (.int .i64 r.1)
  c1 : w.cell? ⟨b, 1, none⟩ = some (.int .i64 r.2)
  free : ∀ j, w.frozen? ⟨b, j, none⟩ = false
  lt : b < w.heap.size
theorem RB.later {w w1 : World} {b : Nat} {r : Int × Int} (h : RB w b r) (hb : Below w.heap.size w w1) : RB w1 b r :=
  ⟨(hb.cell h.lt).trans h.c0, (hb.cell h.lt).trans h.c1, fun j => (hb.frozen (p := ⟨b, j, none⟩) h.lt).trans (h.free j), Nat.lt_of_lt_of_le h.lt hb.size⟩
theorem RB.put {w : World} {b : Nat} {r : Int × Int} (h : RB w b r) (s : Int × Int) : RB ((w.setCell ⟨b, 0, none⟩ (.int .i64 s.1)).setCell ⟨b, 1, none⟩ (.int .i64 s.2)) b s := by
  have h1 : (w.setCell ⟨b, 0, none⟩ (.int .i64 s.1)).cell? ⟨b, 1, none⟩ = some (.int .i64 r.2) := (World.cell?_setCell_other _ _ _ _ (by simp)).trans h.c1
  exact ⟨(World.cell?_setCell_other _ _ _ _ (by simp)).trans (World.cell?_setCell_same _ _ _ h.c0), World.cell?_setCell_same _ _ _ h1, fun j => by simp only [World.frozen?_setCell]; exact h.free j, by simp [World.setCell]; exact h.lt⟩
def rl (l : List (Int × Int)) : List Int := l.flatMap fun r => [r.1, r.2]
end Go.Proofs.YtkgihmhehkaocaaGreat

/- Sums of rational numbers over their least common denominator, as the document's answers make them.
Conditions: those written at each theorem. -/
namespace Go.Proofs.YtkgihmhehkaocaaGreat
set_option linter.unusedVariables false
set_option linter.unusedSimpArgs false
set_option maxRecDepth 1000000
open Go.RowKit
open Um Tm Lm

structure LcS (m d p : Int) : Prop where
  g0 : 0 < gc m d
  e : m = gc m d * p
  p0 : 0 ≤ p
  pM : p ≤ MM
  m0 : 0 < m
  mM : m ≤ MM
  d0 : 0 < d
  dM : d ≤ MM
  q0 : 0 < p * d
  qM : p * d ≤ MM
structure SmS (m k s : Int) (r : Int × Int) (u : Int) : Prop where
  d0 : 0 < r.2
  e : m = r.2 * u
  u0 : 0 ≤ u
  uM : u ≤ MM
  x0 : -(k * MM) ≤ r.1 * u
  x1 : r.1 * u ≤ k * MM
  s0 : -(k * MM * 48) ≤ s
  s1 : s ≤ k * MM * 48
end Go.Proofs.YtkgihmhehkaocaaGreat
