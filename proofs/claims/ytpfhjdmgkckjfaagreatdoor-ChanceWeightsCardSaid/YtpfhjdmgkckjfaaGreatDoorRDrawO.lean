/- How three numbers are read off an argument.
Conditions: none. -/
import Derived.Test.YtpfhjdmgkckjfaaGreatDoorRDraws
import Derived.OpenShut
import Derived.Test.YtpfhjdmgkckjfaaGreatDoorRProd
import Derived.Test.YtpfhjdmgkckjfaaGreatDoorRMid
namespace Go.Proofs.YtpfhjdmgkckjfaaGreatDoor
set_option linter.unusedVariables false
set_option linter.unusedSimpArgs false
set_option maxRecDepth 1000000
open Go.ChangeShapes Go.WideShapes Go.ChangeAt Go.RowKit
open Um
section
variable {H : Type} {enc : TypeId × Value → H} {w : World} {base : Nat} {spare : Nat → Bool} {held : Bool}
end
end Go.Proofs.YtpfhjdmgkckjfaaGreatDoor

namespace Go.Proofs.YtpfhjdmgkckjfaaGreatDoor
set_option linter.unusedVariables false
set_option linter.unusedSimpArgs false
open Go.RowKit
open Um

end Go.Proofs.YtpfhjdmgkckjfaaGreatDoor

namespace Go.Proofs.YtpfhjdmgkckjfaaGreatDoor
set_option linter.unusedVariables false
set_option linter.unusedSimpArgs false
set_option maxRecDepth 1000000
open Go.RowKit
open Cm

def stepR (s r e : Int) : Prop := (IsSeed s ∧ r = nxt s ∧ e = 0) ∨ (¬ IsSeed s ∧ r = 0 ∧ e = 1)
set_option maxHeartbeats 400000 in
theorem step_any (s r er : Int) (w : World) (h : stepR s r er) : Calls Tryz.prog 34 #[.int .i64 s] w fun e w' => e = .returned (.tuple #[.int .i64 r, .int .i64 er]) ∧ w = w' := by
  rcases h with ⟨h, rfl, rfl⟩ | ⟨h, rfl, rfl⟩
  · have c1 := fun W : World => checkSeed_any s 0 W (.inl ⟨h, rfl⟩)
    have c2 := fun W : World => chNext_any s W h
    clear h
    go_enter Tryz.func34, Tryz.ntmps34
    go_wp2_with (first | ((with_reducible refine (c1 _).mono ?_); rintro e w1 ⟨rfl, rfl⟩) | ((with_reducible refine (c2 _).mono ?_); rintro e w1 ⟨rfl, rfl⟩))
    go_ret2
    exact ⟨rfl, rfl⟩
  · have c1 := fun W : World => checkSeed_any s 1 W (.inr ⟨h, rfl⟩)
    clear h
    go_enter Tryz.func34, Tryz.ntmps34
    go_wp2_with ((with_reducible refine (c1 _).mono ?_); rintro e w1 ⟨rfl, rfl⟩)
    go_ret2
    exact ⟨rfl, rfl⟩
def drawR (s n d t e : Int) : Prop := (IsSeed s ∧ (1 ≤ n ∧ n ≤ 1099511627776) ∧ d = drw s n ∧ t = adv s ∧ e = 0) ∨ (IsSeed s ∧ ¬ (1 ≤ n ∧ n ≤ 1099511627776) ∧ d = 0 ∧ t = 0 ∧ e = 1) ∨ (¬ IsSeed s ∧ d = 0 ∧ t = 0 ∧ e = 1)
end Go.Proofs.YtpfhjdmgkckjfaaGreatDoor
