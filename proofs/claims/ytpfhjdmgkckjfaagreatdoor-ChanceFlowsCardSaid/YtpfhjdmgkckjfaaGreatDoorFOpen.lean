/- The program's product that the statements ask of it, and how a unit is read off an argument.
Conditions: none. -/
import Derived.Test.YtpfhjdmgkckjfaaGreatDoorFQuatB
import Derived.ProofKit
import Derived.Lib.SmallJoins
import Derived.Carry
import Derived.OpenShut
import Derived.Test.YtpfhjdmgkckjfaaGreatDoorRows
import Derived.Test.YtpfhjdmgkckjfaaGreatDoorFMathA
import Derived.Test.YtpfhjdmgkckjfaaGreatDoorFRegA
import Derived.WalkKit
import Derived.WalkSpells
import Derived.WalkLawsBesides
import Derived.Lib.Hide
import Derived.BigQuiet
import Derived.Deep.DeepFit
namespace Go.Proofs.YtpfhjdmgkckjfaaGreatDoor
set_option linter.unusedVariables false
set_option linter.unusedSimpArgs false
set_option maxRecDepth 1000000
open Go.RowKit
open Um

theorem own : ownKnob Tryz.prog.godebug = none := by kernel_rfl
theorem laidOut : laidOutB Tryz.prog = true := by kernel_rfl
theorem cells3 : Tryz.prog.cellsOf 3 = 1 := by kernel_rfl
theorem cells23 : Tryz.prog.cellsOf 73 = 5 := by kernel_rfl
section
open Go.ChangeShapes Go.WideShapes Go.ChangeAt Go.RowKit Go.Joins Go.Deep
open Go.ChangeShapes Go.Deep Go.Joins in
theorem one_of {fs : Array Field} (_ : Tryz.prog.underlying 73 = some (.struct fs)) (h : oneCellFields Tryz.prog fs = true) : oneCellFields Tryz.prog fs = true := h
variable {H : Type} {enc : TypeId × Value → H} {w : World} {base : Nat} {spare : Nat → Bool} {held : Bool}
end
end Go.Proofs.YtpfhjdmgkckjfaaGreatDoor

namespace Go.Proofs.YtpfhjdmgkckjfaaGreatDoor
set_option linter.unusedVariables false
set_option linter.unusedSimpArgs false
open Go.ChangeShapes Go.WideShapes Go.ChangeAt Go.RowKit
open Um

end Go.Proofs.YtpfhjdmgkckjfaaGreatDoor

namespace Go.Proofs.YtpfhjdmgkckjfaaGreatDoor
set_option linter.unusedVariables false
set_option linter.unusedSimpArgs false
set_option maxRecDepth 1000000
open Go.ChangeShapes Go.WideShapes Go.ChangeAt Go.RowKit
open Um
section
variable {H : Type} {enc : TypeId × Value → H} {w : World} {base : Nat} {spare : Nat → Bool} {held : Bool}
end
end Go.Proofs.YtpfhjdmgkckjfaaGreatDoor

namespace Go.Proofs.YtpfhjdmgkckjfaaGreatDoor
set_option linter.unusedVariables false
set_option linter.unusedSimpArgs false
set_option maxRecDepth 1000000
open Go.RowKit
open Cm

set_option maxHeartbeats 400000 in
theorem chNext_any (s : Int) (w : World) (h : IsSeed s) : Calls Tryz.prog 70 #[.int .i64 s] w fun e w' => e = .returned (.int .i64 (nxt s)) ∧ w = w' := by
  obtain ⟨h1, h2⟩ := h
  go_enter Tryz.func70, Tryz.ntmps70
  go_wp2
  go_ret
  exact ⟨rfl, rfl⟩
/-- the error of a seed -/
def sdR (s r : Int) : Prop := (IsSeed s ∧ r = 0) ∨ (¬ IsSeed s ∧ r = 1)
set_option maxHeartbeats 400000 in
theorem checkSeed_any (s r : Int) (w : World) (h : sdR s r) : Calls Tryz.prog 69 #[.int .i64 s] w fun e w' => e = .returned (.int .i64 r) ∧ w = w' := by
  rcases h with ⟨⟨h1, h2⟩, rfl⟩ | ⟨h, rfl⟩
  · go_enter Tryz.func69, Tryz.ntmps69
    go_wp2
    go_ret
    exact ⟨rfl, rfl⟩
  · unfold IsSeed at h
    by_cases h1 : s < 1
    · clear h
      go_enter Tryz.func69, Tryz.ntmps69
      go_wp2
      go_ret
      exact ⟨rfl, rfl⟩
    · have h2 : 2147483647 ≤ s := by omega
      clear h
      go_enter Tryz.func69, Tryz.ntmps69
      go_wp2
      go_ret
      exact ⟨rfl, rfl⟩
end Go.Proofs.YtpfhjdmgkckjfaaGreatDoor
