/- Products of two quaternions, not in lowest terms, as the program and the document's answers make them.
Conditions: the bounds written at each theorem. -/
import Derived.Test.YthloceljgmmdbaaLow
namespace Go.Proofs.Ythloceljgmmdbaa
set_option linter.unusedVariables false
set_option linter.unusedSimpArgs false
open Go.RowKit
open Um

theorem mul_bnd {a b X Y : Int} (hX : 0 ≤ X) (ha : -X ≤ a ∧ a ≤ X) (hb : -Y ≤ b ∧ b ≤ Y) : -(X * Y) ≤ a * b ∧ a * b ≤ X * Y := by
  have h1 : (a * b).natAbs ≤ X.natAbs * Y.natAbs := by
    rw [Int.natAbs_mul]
    exact Nat.mul_le_mul (by omega) (by omega)
  have h2 : ((X.natAbs * Y.natAbs : Nat) : Int) = X * Y := by
    rw [Int.natCast_mul, Int.natAbs_of_nonneg (by omega), Int.natAbs_of_nonneg (by omega)]
  omega

/-- Bounds of the parts bound the products. -/
theorem Small2.of {x y : Q} {X Y : Int} (hX : 0 ≤ X) (h : X * Y ≤ 1152921504606846976) (hx : ∀ p : Int, (p = x.a ∨ p = x.b ∨ p = x.c ∨ p = x.d ∨ p = x.n) → -X ≤ p ∧ p ≤ X) (hy : ∀ q : Int, (q = y.a ∨ q = y.b ∨ q = y.c ∨ q = y.d ∨ q = y.n) → -Y ≤ q ∧ q ≤ Y) : Small2 x y := by
  refine ⟨fun p q hp hq => ?_⟩
  have := mul_bnd hX (hx p hp) (hy q hq)
  omega

end Go.Proofs.Ythloceljgmmdbaa
