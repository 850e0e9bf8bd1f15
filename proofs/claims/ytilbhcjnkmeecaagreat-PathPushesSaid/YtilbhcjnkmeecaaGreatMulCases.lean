/- What the program and the document's answers hand back of a product, in cases.
Conditions: none. -/
import Derived.Test.YtilbhcjnkmeecaaGreatOpen
namespace Go.Proofs.YtilbhcjnkmeecaaGreat
set_option linter.unusedVariables false
set_option linter.unusedSimpArgs false
open Go.ChangeShapes Go.WideShapes Go.ChangeAt Go.RowKit
open Um

/-- What both answer to a product, in cases. -/
theorem mul_cases (x y : Q) : ∃ (r : Q) (er : Int), (∀ W : World, Calls Tryz.prog 83 #[.agg #[.int .i64 x.a, .int .i64 x.b, .int .i64 x.c, .int .i64 x.d, .int .i64 x.n], .agg #[.int .i64 y.a, .int .i64 y.b, .int .i64 y.c, .int .i64 y.d, .int .i64 y.n]] W fun e w' => e = .returned (.tuple #[.agg #[.int .i64 r.a, .int .i64 r.b, .int .i64 r.c, .int .i64 r.d, .int .i64 r.n], .int .i64 er]) ∧ Below W.heap.size W w') ∧ (∀ W : World, Calls Tryz.prog 67 #[.agg #[.int .i64 x.a, .int .i64 x.b, .int .i64 x.c, .int .i64 x.d, .int .i64 x.n], .agg #[.int .i64 y.a, .int .i64 y.b, .int .i64 y.c, .int .i64 y.d, .int .i64 y.n]] W fun e w' => e = .returned (.tuple #[.agg #[.int .i64 r.a, .int .i64 r.b, .int .i64 r.c, .int .i64 r.d, .int .i64 r.n], .int .i64 er]) ∧ Below W.heap.size W w') ∧
    ((V x ∧ V y ∧ V r ∧ r = low (mul x y) ∧ er = 0) ∨ (V x ∧ V y ∧ 1048576 < (low (mul x y)).n ∧ r = zero ∧ er = 3) ∨ ((¬ V x ∨ ¬ V y) ∧ r = zero ∧ er = 1)) := by
  by_cases hx : V x
  · by_cases hy : V y
    · by_cases hl : (low (mul x y)).n ≤ 1048576
      · exact ⟨low (mul x y), 0, fun W => mul_good x y _ _ W hx hy (.inl ⟨hl, rfl, rfl⟩), fun W => refMul_good x y _ _ W hx hy (.inl ⟨hl, rfl, rfl⟩), .inl ⟨hx, hy, V.of_low (mul_len x y hx.u hy.u) hl, rfl, rfl⟩⟩
      · exact ⟨zero, 3, fun W => mul_good x y _ _ W hx hy (.inr ⟨by omega, rfl, rfl⟩), fun W => refMul_good x y _ _ W hx hy (.inr ⟨by omega, rfl, rfl⟩), .inr (.inl ⟨hx, hy, by omega, rfl, rfl⟩)⟩
    · exact ⟨zero, 1, fun W => mul_bad x y W (.inr hy), fun W => refMul_bad x y W (.inr hy), .inr (.inr ⟨.inr hy, rfl, rfl⟩)⟩
  · exact ⟨zero, 1, fun W => mul_bad x y W (.inl hx), fun W => refMul_bad x y W (.inl hx), .inr (.inr ⟨.inl hx, rfl, rfl⟩)⟩

theorem not_V_zero : ¬ V zero := fun h => absurd h.u.pos (by decide)

end Go.Proofs.YtilbhcjnkmeecaaGreat
