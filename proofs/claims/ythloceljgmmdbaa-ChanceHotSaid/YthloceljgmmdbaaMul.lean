/- Products of two units, as the program makes them.
Conditions: none. -/
import Derived.Test.YthloceljgmmdbaaLists
import Derived.Test.YthloceljgmmdbaaTimes
namespace Go.Proofs.Ythloceljgmmdbaa
set_option linter.unusedVariables false
set_option linter.unusedSimpArgs false
open Go.RowKit
open Um

theorem V.small2 {x y : Q} (hx : V x) (hy : V y) : Small2 x y := by
  have ix := V.in hx
  have iy := V.in hy
  have a1 := ix.a; have a2 := ix.b; have a3 := ix.c; have a4 := ix.d; have a5 := ix.n
  have b1 := iy.a; have b2 := iy.b; have b3 := iy.c; have b4 := iy.d; have b5 := iy.n
  exact Small2.of (X := 1048576) (Y := 1048576) (by omega) (by omega) (by rintro p (rfl | rfl | rfl | rfl | rfl) <;> omega) (by rintro p (rfl | rfl | rfl | rfl | rfl) <;> omega)
theorem V.mul_in {x y : Q} (hx : V x) (hy : V y) : In (mul x y) 4611686018427387904 := by
  have h := mul_len x y hx.u hy.u
  refine U.in h ?_
  have := (V.small2 hx hy).h x.n y.n (by simp) (by simp)
  have e : (mul x y).n = x.n * y.n := rfl
  omega

/-- What the program answers to a product. -/
def mulR (x y r : Q) (e : Int) : Prop :=
  (V x ∧ V y ∧ (low (mul x y)).n ≤ 1048576 ∧ r = low (mul x y) ∧ e = 0) ∨ (V x ∧ V y ∧ 1048576 < (low (mul x y)).n ∧ r = zero ∧ e = 3) ∨ ((¬ V x ∨ ¬ V y) ∧ r = zero ∧ e = 1)

theorem vAll2 {x y : Q} {r : Int} (h : (V x ∧ V y ∧ r = 0) ∨ ((¬ V x ∨ ¬ V y) ∧ r = 1)) : vAll [x, y] r := by
  rcases h with ⟨h1, h2, h3⟩ | ⟨h1, h3⟩
  · exact .inl ⟨fun z hz => by simp at hz; rcases hz with rfl | rfl <;> assumption, h3⟩
  · refine .inr ⟨?_, h3⟩
    rcases h1 with h | h
    · exact ⟨x, by simp, h⟩
    · exact ⟨y, by simp, h⟩

end Go.Proofs.Ythloceljgmmdbaa
