/- Products of two quaternions, not in lowest terms, as the program and the document's answers make them.
Conditions: the bounds written at each theorem. -/
import Derived.Test.YtdplojcbfdbgnaaLow
namespace Go.Proofs.Ytdplojcbfdbgnaa
set_option linter.unusedVariables false
set_option linter.unusedSimpArgs false
open Go.RowKit
open Um

theorem mul_bnd {a b X Y : Int} (hX : 0 ≤ X) (ha : -X ≤ a ∧ a ≤ X) (hb : -Y ≤ b ∧ b ≤ Y) : -(X * Y) ≤ a * b ∧ a * b ≤ X * Y := by
  have h1 : (a * b).natAbs ≤ X.natAbs * Y.natAbs := by
    rw [Int.natAbs_mul]
    exact Nat.mul_le_mul (by omega) (by omega)
  have h2 : ((X.natAbs * Y.natAbs : Nat) : Int) = X * Y := by
    rw [Int.natCast_mul, Int.natAbs_of_nonneg (by omega), Int.natAbs_of_nonneg (by omega)]
  omega

/-- Bounds of the parts bound the products. -/
theorem Small2.of {x y : Q} {X Y : Int} (hX : 0 ≤ X) (h : X * Y ≤ 1152921504606846976) (hx : ∀ p : Int, (p = x.a ∨ p = x.b ∨ p = x.c ∨ p = x.d ∨ p = x.n) → -X ≤ p ∧ p ≤ X) (hy : ∀ q : Int, (q = y.a ∨ q = y.b ∨ q = y.c ∨ q = y.d ∨ q = y.n) → -Y ≤ q ∧ q ≤ Y) : Small2 x y := by
  refine ⟨fun p q hp hq => ?_⟩
  have := mul_bnd hX (hx p hp) (hy q hq)
  omega

set_option maxRecDepth 100000 in
set_option maxHeartbeats 1600000 in
theorem raw_any (x y : Q) (w : World) (h : Small2 x y) : Calls Try.prog 140 #[.agg #[.int .i64 x.a, .int .i64 x.b, .int .i64 x.c, .int .i64 x.d, .int .i64 x.n], .agg #[.int .i64 y.a, .int .i64 y.b, .int .i64 y.c, .int .i64 y.d, .int .i64 y.n]] w fun e w' => e = .returned (.agg #[.int .i64 (mul x y).a, .int .i64 (mul x y).b, .int .i64 (mul x y).c, .int .i64 (mul x y).d, .int .i64 (mul x y).n]) ∧ Below w.heap.size w w' := by
  obtain ⟨aa1, aa2⟩ := h.h x.a y.a (by simp) (by simp)
  obtain ⟨ab1, ab2⟩ := h.h x.a y.b (by simp) (by simp)
  obtain ⟨ac1, ac2⟩ := h.h x.a y.c (by simp) (by simp)
  obtain ⟨ad1, ad2⟩ := h.h x.a y.d (by simp) (by simp)
  obtain ⟨ba1, ba2⟩ := h.h x.b y.a (by simp) (by simp)
  obtain ⟨bb1, bb2⟩ := h.h x.b y.b (by simp) (by simp)
  obtain ⟨bc1, bc2⟩ := h.h x.b y.c (by simp) (by simp)
  obtain ⟨bd1, bd2⟩ := h.h x.b y.d (by simp) (by simp)
  obtain ⟨ca1, ca2⟩ := h.h x.c y.a (by simp) (by simp)
  obtain ⟨cb1, cb2⟩ := h.h x.c y.b (by simp) (by simp)
  obtain ⟨cc1, cc2⟩ := h.h x.c y.c (by simp) (by simp)
  obtain ⟨cd1, cd2⟩ := h.h x.c y.d (by simp) (by simp)
  obtain ⟨da1, da2⟩ := h.h x.d y.a (by simp) (by simp)
  obtain ⟨db1, db2⟩ := h.h x.d y.b (by simp) (by simp)
  obtain ⟨dc1, dc2⟩ := h.h x.d y.c (by simp) (by simp)
  obtain ⟨dd1, dd2⟩ := h.h x.d y.d (by simp) (by simp)
  obtain ⟨nn1, nn2⟩ := h.h x.n y.n (by simp) (by simp)
  clear h
  go_enter Try.func140, Try.ntmps140
  go_wp2
  refine bodyPost_ret (v := .agg #[.int .i64 (mul x y).a, .int .i64 (mul x y).b, .int .i64 (mul x y).c, .int .i64 (mul x y).d, .int .i64 (mul x y).n]) ?_ rfl ⟨rfl, ?_⟩
  · simp [results, Try.results140, go_sem, mul]
  · repeat (first | exact Below.refl _ _ | refine Below.setCell ?_ (by simp) _ | refine Below.alloc ?_ (by simp; try omega) _)
end Go.Proofs.Ytdplojcbfdbgnaa
