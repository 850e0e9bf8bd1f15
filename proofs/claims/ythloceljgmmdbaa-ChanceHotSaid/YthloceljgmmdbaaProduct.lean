/- Products of lists, from the units on, as the program makes them.
Conditions: the list lies in memory as it is written at each theorem, and is not longer than 100000. -/
import Derived.Test.YthloceljgmmdbaaRows5
import Derived.Test.YthloceljgmmdbaaRefProd
import Derived.Test.YthloceljgmmdbaaEqU
namespace Go.Proofs.Ythloceljgmmdbaa
set_option linter.unusedVariables false
set_option linter.unusedSimpArgs false
open Go.RowKit
open Um

theorem infoU : (Try.prog.info? 59).map (fun i => (i.zero, i.size, i.bytes)) = some (some (.agg #[.int .i64 0, .int .i64 0, .int .i64 0, .int .i64 0, .int .i64 0]), 5, 40) := by kernel_rfl

theorem five_cells {w : World} {b : Nat} {vs : List Value} {v0 v1 v2 v3 v4 : Value} (hv : vs = [v0, v1, v2, v3, v4]) (h0 : w.cell? ⟨b, 0, none⟩ = some v0) (h1 : w.cell? ⟨b, 1, none⟩ = some v1) (h2 : w.cell? ⟨b, 2, none⟩ = some v2) (h3 : w.cell? ⟨b, 3, none⟩ = some v3) (h4 : w.cell? ⟨b, 4, none⟩ = some v4) : ∀ j u, vs[j]? = some u → w.cell? (Addr.add ⟨b, 0, none⟩ j) = some u := by
  subst hv
  intro j u hj
  match j, hj with
  | 0, hj => simp at hj; subst hj; exact h0
  | 1, hj => simp at hj; subst hj; exact h1
  | 2, hj => simp at hj; subst hj; exact h2
  | 3, hj => simp at hj; subst hj; exact h3
  | 4, hj => simp at hj; subst hj; exact h4
  | n + 5, hj => simp at hj
theorem five_one {vs : List Value} {a b c d e : Int} (hv : vs = [.int .i64 a, .int .i64 b, .int .i64 c, .int .i64 d, .int .i64 e]) : ∀ u ∈ vs, u.oneCell' = true := by
  subst hv
  intro u hu
  simp at hu
  rcases hu with rfl | rfl | rfl | rfl | rfl <;> rfl

end Go.Proofs.Ythloceljgmmdbaa
