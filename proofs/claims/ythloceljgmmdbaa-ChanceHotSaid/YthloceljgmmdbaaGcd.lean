/- Greatest common divisors as the program and the document's answers make them.
Conditions: the bounds written at each theorem. -/
import Derived.Test.YthloceljgmmdbaaRows
import Derived.Test.YthloceljgmmdbaaMathA
import Derived.Test.YthloceljgmmdbaaRegA
import Derived.WalkKit
import Derived.WalkSpells
import Derived.WalkLawsBesides
import Derived.Lib.Hide
import Derived.BigQuiet
import Derived.Deep.DeepFit
namespace Go.Proofs.Ythloceljgmmdbaa
set_option linter.unusedVariables false
set_option linter.unusedSimpArgs false
open Go.RowKit
open Um

def gc (m n : Int) : Int := (Nat.gcd m.natAbs n.natAbs : Int)

theorem gc_step (m n : Int) : gc n (m.tmod n) = gc m n := by
  unfold gc
  rw [Int.natAbs_tmod, Nat.gcd_comm, ← Nat.gcd_rec, Nat.gcd_comm]
theorem gc_step' (m n : Int) (hm : 0 ≤ m) : gc n (m % n) = gc m n := by
  rw [← Int.tmod_eq_emod_of_nonneg hm]; exact gc_step m n
theorem gc_zero (m : Int) : gc m 0 = (m.natAbs : Int) := by simp [gc]
theorem tmod_small (m n : Int) (hn : n ≠ 0) : (m.tmod n).natAbs < n.natAbs := by
  rw [Int.natAbs_tmod]; exact Nat.mod_lt _ (by omega)

end Go.Proofs.Ythloceljgmmdbaa
