/- Closed facts about the whole program, which each statement's frame asks: each evaluated once.
Conditions: none. -/
import Derived.Test.YtojmagooapjohaaChecked
import Derived.Test.YtojmagooapjohaaRows
import Derived.JoinedOf
import Derived.KernelRfl
namespace Go.Proofs.Ytojmagooapjohaa
set_option linter.unusedVariables false
set_option linter.unusedSimpArgs false
set_option maxRecDepth 1000000
open Go Go.Proofs

theorem band {a b : Bool} (ha : a = true) (hb : b = true) : (a && b) = true := by rw [ha, hb]; rfl
theorem jf1 : (laidOutB Try.prog) = true := by kernel_rfl
theorem jf2 : (mapsRowed Try.prog) = true := by kernel_rfl
theorem jf6 : ((Try.prog.stops == [])) = true := by kernel_rfl
theorem jf8 : ((Try.prog.stopKnobs == [])) = true := by kernel_rfl
theorem jf24 : (Try.prog.stopsHeard) = true := by kernel_rfl
theorem jf25 : (Try.prog.mayEnter) = true := by kernel_rfl
theorem jf26 : (false == Try.prog.liftsFinal) = true := by kernel_rfl
theorem jf27 : (Try.prog.make == some Make.cut) = true := by kernel_rfl
end Go.Proofs.Ytojmagooapjohaa
