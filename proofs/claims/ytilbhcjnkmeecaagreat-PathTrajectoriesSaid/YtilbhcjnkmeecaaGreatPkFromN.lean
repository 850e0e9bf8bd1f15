/- Fields of given numbers, as the program and the document's answers make them.
Conditions: those written at each theorem. -/
import Derived.Test.YtilbhcjnkmeecaaGreatPkCold
import Derived.Test.YtilbhcjnkmeecaaGreatPkNumC
import Derived.Test.YtilbhcjnkmeecaaGreatPkRefSmall
namespace Go.Proofs.YtilbhcjnkmeecaaGreat
set_option linter.unusedVariables false
set_option linter.unusedSimpArgs false
set_option maxRecDepth 1000000
open Go.RowKit
open Um Tm

def Gd (x : Int) : Prop := 0 ≤ x ∧ x ≤ 23
/-- What a call returns that makes a field of these numbers. -/
def RetFN (a b c : Int) (l : List Int) (e : Ending) (w' : World) : Prop := ((∀ (i : Nat) (x : Int), l[i]? = some x → Gd x) ∧ RetF a b c (l.map small) e w') ∨ ((∃ (i : Nat) (x : Int), l[i]? = some x ∧ ¬ Gd x) ∧ e = .returned (.tuple #[.agg #[.int .i64 0, .int .i64 0, .int .i64 0, .slice none 0 0], .int .i64 1]))

theorem good_next {l : List Int} {k : Nat} {x : Int} (h : ∀ (i : Nat) (y : Int), i < k → l[i]? = some y → Gd y) (hx : l[k]? = some x) (hg : Gd x) : ∀ (i : Nat) (y : Int), i < k + 1 → l[i]? = some y → Gd y := fun i y hi hy => by
  by_cases he : i < k
  · exact h i y he hy
  · obtain rfl : i = k := by omega
    rw [hx] at hy
    simp only [Option.some.injEq] at hy
    rw [← hy]
    exact hg

end Go.Proofs.YtilbhcjnkmeecaaGreat
