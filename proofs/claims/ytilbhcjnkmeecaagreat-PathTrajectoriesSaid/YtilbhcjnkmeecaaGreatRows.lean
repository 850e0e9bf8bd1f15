/-
  No cell of these rows narrows 'for every input' (looked for: loops, veiled, ifaces, maps, wideKeys, modest, calm, conditions, laid).
  DERIVED. THE GIVEN ROWS OF THIS SEAT. 5 by the template 'for every input the law returns true; each argument reads behind the call as it read before'; 0 by the template 'total and deterministic' (their statements: YtilbhcjnkmeecaaGreatTotals.lean).
  GIVEN WITH THE SEED: the statements are not yours to turn. If you find one false, say at which input.
  Laid BY PROGRAM, IN A SANDBOX (cutbox-rows.mjs): the forced cells as the released guide's own fill.sh prints them over the translation 5909640c8686fd44… (all of the seat's roots in one cut). By AI agents, Wed Nov 11 2026. No macro, syntax, notation, axiom, sorry.
-/
import Derived.Test.YtilbhcjnkmeecaaGreatChecked
import GoSem.Claim
import GoSem.ClaimJoined
import GoSem.ClaimMapViews
import Derived.JoinedTies
import Derived.KernelRfl
namespace Go.Proofs.YtilbhcjnkmeecaaGreat
/- THE CELL 'sum', in the pinned program and in every row, IS THE sha256 OF THE DUMP (.gsa) THAT YtilbhcjnkmeecaaGreatProg.lean LOADS. Nothing in Lean hashes anything: it is a label: what it is worth is what the hold of that sum in a sandbox is worth. -/
noncomputable def Tryz.pinned : Pinned := { name := "ytilbhcjnkmeecaagreat", sum := "5909640c8686fd44e7d9845da345dd9056fbc99755408eafeab6a7289b7b6600", checked := Tryz.checked }
namespace Rows
def none {H : Type} : Left H := { results := [], args := [] }

/-- 'plaquettelaw06.PathPushes': WHATEVER THE INPUT: true; the input reads as it did. -/
def pathPushesSpec : ChangeSpec := { name := "pathPushes", fn := fun _ => fun
  | [d1, d2] => { results := [.lit (.bool true)], args := [d1, d2] }
  | _ => none }
def pathPushesRow : OpenClaim := { program := "ytilbhcjnkmeecaagreat", sum := "5909640c8686fd44e7d9845da345dd9056fbc99755408eafeab6a7289b7b6600", func := "plaquette/plaquettelaw06.PathPushes", spec := "pathPushes", apart := false }
def PathPushesSaid : Prop := pathPushesRow.holds Tryz.pinned (OpenSpec.ofChange pathPushesSpec)

/-- ITS FALSE NEIGHBOUR: 'it returns false'. Refute it at one input. -/
def pathPushesWrong : ChangeSpec := { name := "pathPushes", fn := fun _ => fun
  | [d1, d2] => { results := [.lit (.bool false)], args := [d1, d2] }
  | _ => none }
def PathPushesWrongFalsely : Prop := pathPushesRow.holds Tryz.pinned (OpenSpec.ofChange pathPushesWrong)

/-- 'plaquettelaw06.PathSteps': WHATEVER THE INPUT: true; the input reads as it did. -/
def pathStepsSpec : ChangeSpec := { name := "pathSteps", fn := fun _ => fun
  | [d1, d2] => { results := [.lit (.bool true)], args := [d1, d2] }
  | _ => none }
def pathStepsRow : OpenClaim := { program := "ytilbhcjnkmeecaagreat", sum := "5909640c8686fd44e7d9845da345dd9056fbc99755408eafeab6a7289b7b6600", func := "plaquette/plaquettelaw06.PathSteps", spec := "pathSteps", apart := false }
def PathStepsSaid : Prop := pathStepsRow.holds Tryz.pinned (OpenSpec.ofChange pathStepsSpec)

/-- ITS FALSE NEIGHBOUR: 'it returns false'. Refute it at one input. -/
def pathStepsWrong : ChangeSpec := { name := "pathSteps", fn := fun _ => fun
  | [d1, d2] => { results := [.lit (.bool false)], args := [d1, d2] }
  | _ => none }
def PathStepsWrongFalsely : Prop := pathStepsRow.holds Tryz.pinned (OpenSpec.ofChange pathStepsWrong)

/-- 'plaquettelaw06.PathRuns': WHATEVER THE INPUT: true; the input reads as it did. -/
def pathRunsSpec : ChangeSpec := { name := "pathRuns", fn := fun _ => fun
  | [d1, d2, d3] => { results := [.lit (.bool true)], args := [d1, d2, d3] }
  | _ => none }
def pathRunsRow : OpenClaim := { program := "ytilbhcjnkmeecaagreat", sum := "5909640c8686fd44e7d9845da345dd9056fbc99755408eafeab6a7289b7b6600", func := "plaquette/plaquettelaw06.PathRuns", spec := "pathRuns", apart := false }
def PathRunsSaid : Prop := pathRunsRow.holds Tryz.pinned (OpenSpec.ofChange pathRunsSpec)

/-- ITS FALSE NEIGHBOUR: 'it returns false'. Refute it at one input. -/
def pathRunsWrong : ChangeSpec := { name := "pathRuns", fn := fun _ => fun
  | [d1, d2, d3] => { results := [.lit (.bool false)], args := [d1, d2, d3] }
  | _ => none }
def PathRunsWrongFalsely : Prop := pathRunsRow.holds Tryz.pinned (OpenSpec.ofChange pathRunsWrong)

/-- 'plaquettelaw06.PathTrajectories': WHATEVER THE INPUT: true; the input reads as it did. -/
def pathTrajectoriesSpec : ChangeSpec := { name := "pathTrajectories", fn := fun _ => fun
  | [d1, d2] => { results := [.lit (.bool true)], args := [d1, d2] }
  | _ => none }
def pathTrajectoriesRow : OpenClaim := { program := "ytilbhcjnkmeecaagreat", sum := "5909640c8686fd44e7d9845da345dd9056fbc99755408eafeab6a7289b7b6600", func := "plaquette/plaquettelaw06.PathTrajectories", spec := "pathTrajectories", unfollowed := true, recurses := true, apart := false }
def PathTrajectoriesSaid : Prop := pathTrajectoriesRow.holds Tryz.pinned (OpenSpec.ofChange pathTrajectoriesSpec)

/-- ITS FALSE NEIGHBOUR: 'it returns false'. Refute it at one input. -/
def pathTrajectoriesWrong : ChangeSpec := { name := "pathTrajectories", fn := fun _ => fun
  | [d1, d2] => { results := [.lit (.bool false)], args := [d1, d2] }
  | _ => none }
def PathTrajectoriesWrongFalsely : Prop := pathTrajectoriesRow.holds Tryz.pinned (OpenSpec.ofChange pathTrajectoriesWrong)

/-- 'plaquettelaw06.PathPeriods': WHATEVER THE INPUT: true; the input reads as it did. -/
def pathPeriodsSpec : ChangeSpec := { name := "pathPeriods", fn := fun _ => fun
  | [d1, d2, d3] => { results := [.lit (.bool true)], args := [d1, d2, d3] }
  | _ => none }
def pathPeriodsRow : OpenClaim := { program := "ytilbhcjnkmeecaagreat", sum := "5909640c8686fd44e7d9845da345dd9056fbc99755408eafeab6a7289b7b6600", func := "plaquette/plaquettelaw06.PathPeriods", spec := "pathPeriods", apart := false }
def PathPeriodsSaid : Prop := pathPeriodsRow.holds Tryz.pinned (OpenSpec.ofChange pathPeriodsSpec)

/-- ITS FALSE NEIGHBOUR: 'it returns false'. Refute it at one input. -/
def pathPeriodsWrong : ChangeSpec := { name := "pathPeriods", fn := fun _ => fun
  | [d1, d2, d3] => { results := [.lit (.bool false)], args := [d1, d2, d3] }
  | _ => none }
def PathPeriodsWrongFalsely : Prop := pathPeriodsRow.holds Tryz.pinned (OpenSpec.ofChange pathPeriodsWrong)

/- THE SECOND FORM. 'bulk': how many values and letters a reading holds, each counted each time it is reached (what is shared counts as often as it is met; a slice's spare places count too). A statement '..UptoSaid' is the law's where the arguments, and the package variables that the reading takes, are together of bulk at most 1048576: NARROWER than '..Said'. Prove '..Said' where nothing that the law and all that it calls make is longer than what came in: it says more and counts as full. Else prove '..UptoSaid'. A law counts once. -/
mutual
def uptoBulk {H : Type} : DataW H → Nat
  | .lit (.string bytes) => bytes.length + 1
  | .lit _ => 1
  | .nil => 1
  | .ptr d => uptoBulk d + 1
  | .slice elems spare => uptoBulkAll elems + uptoBulkAll spare + 1
  | .agg parts => uptoBulkAll parts + 1
  | .iface _ d => uptoBulk d + 1
  | .map entries => uptoBulkEntries entries + 1
  | .held _ => 1
def uptoBulkAll {H : Type} : List (DataW H) → Nat
  | [] => 0
  | d :: r => uptoBulk d + uptoBulkAll r
def uptoBulkEntries {H : Type} : List (Lit × DataW H) → Nat
  | [] => 0
  | x :: r => uptoBulkEntry x + uptoBulkEntries r
def uptoBulkEntry {H : Type} : Lit × DataW H → Nat
  | (.string bytes, d) => bytes.length + uptoBulk d + 1
  | (_, d) => uptoBulk d + 1
 end
def uptoSmall : (H : Type) → List (DataW H) → Bool := fun _ ds => decide (uptoBulkAll ds ≤ 1048576)
def OpenSpec.upto (s : _root_.Go.ChangeSpec) : _root_.Go.OpenSpec := { _root_.Go.OpenSpec.ofChange s with cond := some uptoSmall }

/-- 'plaquettelaw06.PathPushes', WHERE WHAT IT READS IS OF BULK AT MOST 1048576: true; the input reads as it did. -/
def pathPushesUptoRow : OpenClaim := { program := "ytilbhcjnkmeecaagreat", sum := "5909640c8686fd44e7d9845da345dd9056fbc99755408eafeab6a7289b7b6600", func := "plaquette/plaquettelaw06.PathPushes", spec := "pathPushes", apart := false, narrowed := true }
def PathPushesUptoSaid : Prop := pathPushesUptoRow.holds Tryz.pinned (OpenSpec.upto pathPushesSpec)

/-- 'plaquettelaw06.PathSteps', WHERE WHAT IT READS IS OF BULK AT MOST 1048576: true; the input reads as it did. -/
def pathStepsUptoRow : OpenClaim := { program := "ytilbhcjnkmeecaagreat", sum := "5909640c8686fd44e7d9845da345dd9056fbc99755408eafeab6a7289b7b6600", func := "plaquette/plaquettelaw06.PathSteps", spec := "pathSteps", apart := false, narrowed := true }
def PathStepsUptoSaid : Prop := pathStepsUptoRow.holds Tryz.pinned (OpenSpec.upto pathStepsSpec)

/-- 'plaquettelaw06.PathRuns', WHERE WHAT IT READS IS OF BULK AT MOST 1048576: true; the input reads as it did. -/
def pathRunsUptoRow : OpenClaim := { program := "ytilbhcjnkmeecaagreat", sum := "5909640c8686fd44e7d9845da345dd9056fbc99755408eafeab6a7289b7b6600", func := "plaquette/plaquettelaw06.PathRuns", spec := "pathRuns", apart := false, narrowed := true }
def PathRunsUptoSaid : Prop := pathRunsUptoRow.holds Tryz.pinned (OpenSpec.upto pathRunsSpec)

/-- 'plaquettelaw06.PathTrajectories', WHERE WHAT IT READS IS OF BULK AT MOST 1048576: true; the input reads as it did. -/
def pathTrajectoriesUptoRow : OpenClaim := { program := "ytilbhcjnkmeecaagreat", sum := "5909640c8686fd44e7d9845da345dd9056fbc99755408eafeab6a7289b7b6600", func := "plaquette/plaquettelaw06.PathTrajectories", spec := "pathTrajectories", unfollowed := true, recurses := true, apart := false, narrowed := true }
def PathTrajectoriesUptoSaid : Prop := pathTrajectoriesUptoRow.holds Tryz.pinned (OpenSpec.upto pathTrajectoriesSpec)

/-- 'plaquettelaw06.PathPeriods', WHERE WHAT IT READS IS OF BULK AT MOST 1048576: true; the input reads as it did. -/
def pathPeriodsUptoRow : OpenClaim := { program := "ytilbhcjnkmeecaagreat", sum := "5909640c8686fd44e7d9845da345dd9056fbc99755408eafeab6a7289b7b6600", func := "plaquette/plaquettelaw06.PathPeriods", spec := "pathPeriods", apart := false, narrowed := true }
def PathPeriodsUptoSaid : Prop := pathPeriodsUptoRow.holds Tryz.pinned (OpenSpec.upto pathPeriodsSpec)

end Rows
end Go.Proofs.YtilbhcjnkmeecaaGreat
