/-
  NARROWER THAN 'FOR EVERY INPUT', by the rows' own cells (each row's printed sentence says how): ChanceWeights: laid · ChanceHeats: laid · ChanceFlows: laid · ChanceProposes: laid · ChanceSweeps: laid · ChanceTouches: laid · ChanceAudits: laid · TopBalance: laid.
  DERIVED. THE GIVEN ROWS OF THIS SEAT. 8 by the template 'for every input the law returns true; each argument reads behind the call as it read before'; 0 by the template 'total and deterministic' (their statements: YtpfhjdmgkckjfaaGreatDoorTotals.lean).
  GIVEN WITH THE SEED: the statements are not yours to turn. If you find one false, say at which input.
  Laid BY PROGRAM, IN A SANDBOX (cutbox-rows.mjs): the forced cells as the released guide's own fill.sh prints them over the translation 670d16be23f33cec… (all of the seat's roots in one cut). By AI agents, Wed Nov 11 2026. No macro, syntax, notation, axiom, sorry.
-/
import Derived.Test.YtpfhjdmgkckjfaaGreatDoorChecked
import GoSem.Claim
import GoSem.ClaimJoined
import GoSem.ClaimMapViews
import Derived.JoinedTies
import Derived.KernelRfl
namespace Go.Proofs.YtpfhjdmgkckjfaaGreatDoor
/- THE CELL 'sum', in the pinned program and in every row, IS THE sha256 OF THE DUMP (.gsa) THAT YtpfhjdmgkckjfaaGreatDoorProg.lean LOADS. Nothing in Lean hashes anything: it is a label: what it is worth is what the hold of that sum in a sandbox is worth. -/
noncomputable def Tryz.pinned : Pinned := { name := "ytpfhjdmgkckjfaagreatdoor", sum := "670d16be23f33cecbb9366c72a8805270ffadcc5643b4af0822cb060aa206543", checked := Tryz.checked }
namespace Rows
def none {H : Type} : Left H := { results := [], args := [] }

/- WHAT THE LISTED PACKAGE-LEVEL VARIABLES READ AS WHEN THE CALL BEGINS. Each datum BY PROGRAM (the guide's laid-datum.mjs) off the statement by which the dump's own 'gosem.cut.vars' lays the variable. In a bare row this is a premise. The card (YtpfhjdmgkckjfaaGreatDoorCards.lean) ties it to the program's text. -/
def laid_plaquette_chance_steps {H : Type} : DataW H := .agg [.agg [.lit (.int .i64 1), .lit (.int .i64 2)], .agg [.lit (.int .i64 1), .lit (.int .i64 3)], .agg [.lit (.int .i64 2), .lit (.int .i64 3)]]

/-- 'plaquettelaw05.ChanceWeights': WHATEVER THE INPUT: true; the input reads as it did. -/
def chanceWeightsSpec : ChangeSpec := { name := "chanceWeights", fn := fun _ => fun
  | [d1, d2, d3] => { results := [.lit (.bool true)], args := [d1, d2, d3] }
  | _ => none }
def chanceWeightsRow : OpenClaim := { program := "ytpfhjdmgkckjfaagreatdoor", sum := "670d16be23f33cecbb9366c72a8805270ffadcc5643b4af0822cb060aa206543", func := "plaquette/plaquettelaw05.ChanceWeights", spec := "chanceWeights", unfollowed := true, recurses := true, named := ["plaquette/chance.steps"], apart := false, laid := [("plaquette/chance.steps", laid_plaquette_chance_steps)] }
def ChanceWeightsSaid : Prop := chanceWeightsRow.holds Tryz.pinned (OpenSpec.ofChange chanceWeightsSpec)

/-- ITS FALSE NEIGHBOUR: 'it returns false'. Refute it at one input. -/
def chanceWeightsWrong : ChangeSpec := { name := "chanceWeights", fn := fun _ => fun
  | [d1, d2, d3] => { results := [.lit (.bool false)], args := [d1, d2, d3] }
  | _ => none }
def ChanceWeightsWrongFalsely : Prop := chanceWeightsRow.holds Tryz.pinned (OpenSpec.ofChange chanceWeightsWrong)

/-- 'plaquettelaw05.ChanceHeats': WHATEVER THE INPUT: true; the input reads as it did. -/
def chanceHeatsSpec : ChangeSpec := { name := "chanceHeats", fn := fun _ => fun
  | [d1, d2, d3] => { results := [.lit (.bool true)], args := [d1, d2, d3] }
  | _ => none }
def chanceHeatsRow : OpenClaim := { program := "ytpfhjdmgkckjfaagreatdoor", sum := "670d16be23f33cecbb9366c72a8805270ffadcc5643b4af0822cb060aa206543", func := "plaquette/plaquettelaw05.ChanceHeats", spec := "chanceHeats", unfollowed := true, recurses := true, named := ["plaquette/chance.steps"], apart := false, laid := [("plaquette/chance.steps", laid_plaquette_chance_steps)] }
def ChanceHeatsSaid : Prop := chanceHeatsRow.holds Tryz.pinned (OpenSpec.ofChange chanceHeatsSpec)

/-- ITS FALSE NEIGHBOUR: 'it returns false'. Refute it at one input. -/
def chanceHeatsWrong : ChangeSpec := { name := "chanceHeats", fn := fun _ => fun
  | [d1, d2, d3] => { results := [.lit (.bool false)], args := [d1, d2, d3] }
  | _ => none }
def ChanceHeatsWrongFalsely : Prop := chanceHeatsRow.holds Tryz.pinned (OpenSpec.ofChange chanceHeatsWrong)

/-- 'plaquettelaw05.ChanceFlows': WHATEVER THE INPUT: true; the input reads as it did. -/
def chanceFlowsSpec : ChangeSpec := { name := "chanceFlows", fn := fun _ => fun
  | [d1, d2, d3] => { results := [.lit (.bool true)], args := [d1, d2, d3] }
  | _ => none }
def chanceFlowsRow : OpenClaim := { program := "ytpfhjdmgkckjfaagreatdoor", sum := "670d16be23f33cecbb9366c72a8805270ffadcc5643b4af0822cb060aa206543", func := "plaquette/plaquettelaw05.ChanceFlows", spec := "chanceFlows", unfollowed := true, recurses := true, named := ["plaquette/chance.steps"], apart := false, laid := [("plaquette/chance.steps", laid_plaquette_chance_steps)] }
def ChanceFlowsSaid : Prop := chanceFlowsRow.holds Tryz.pinned (OpenSpec.ofChange chanceFlowsSpec)

/-- ITS FALSE NEIGHBOUR: 'it returns false'. Refute it at one input. -/
def chanceFlowsWrong : ChangeSpec := { name := "chanceFlows", fn := fun _ => fun
  | [d1, d2, d3] => { results := [.lit (.bool false)], args := [d1, d2, d3] }
  | _ => none }
def ChanceFlowsWrongFalsely : Prop := chanceFlowsRow.holds Tryz.pinned (OpenSpec.ofChange chanceFlowsWrong)

/-- 'plaquettelaw05.ChanceProposes': WHATEVER THE INPUT: true; the input reads as it did. -/
def chanceProposesSpec : ChangeSpec := { name := "chanceProposes", fn := fun _ => fun
  | [d1, d2, d3] => { results := [.lit (.bool true)], args := [d1, d2, d3] }
  | _ => none }
def chanceProposesRow : OpenClaim := { program := "ytpfhjdmgkckjfaagreatdoor", sum := "670d16be23f33cecbb9366c72a8805270ffadcc5643b4af0822cb060aa206543", func := "plaquette/plaquettelaw05.ChanceProposes", spec := "chanceProposes", unfollowed := true, recurses := true, named := ["plaquette/chance.steps"], apart := false, laid := [("plaquette/chance.steps", laid_plaquette_chance_steps)] }
def ChanceProposesSaid : Prop := chanceProposesRow.holds Tryz.pinned (OpenSpec.ofChange chanceProposesSpec)

/-- ITS FALSE NEIGHBOUR: 'it returns false'. Refute it at one input. -/
def chanceProposesWrong : ChangeSpec := { name := "chanceProposes", fn := fun _ => fun
  | [d1, d2, d3] => { results := [.lit (.bool false)], args := [d1, d2, d3] }
  | _ => none }
def ChanceProposesWrongFalsely : Prop := chanceProposesRow.holds Tryz.pinned (OpenSpec.ofChange chanceProposesWrong)

/-- 'plaquettelaw05.ChanceSweeps': WHATEVER THE INPUT: true; the input reads as it did. -/
def chanceSweepsSpec : ChangeSpec := { name := "chanceSweeps", fn := fun _ => fun
  | [d1, d2, d3] => { results := [.lit (.bool true)], args := [d1, d2, d3] }
  | _ => none }
def chanceSweepsRow : OpenClaim := { program := "ytpfhjdmgkckjfaagreatdoor", sum := "670d16be23f33cecbb9366c72a8805270ffadcc5643b4af0822cb060aa206543", func := "plaquette/plaquettelaw05.ChanceSweeps", spec := "chanceSweeps", unfollowed := true, recurses := true, named := ["plaquette/chance.steps"], apart := false, laid := [("plaquette/chance.steps", laid_plaquette_chance_steps)] }
def ChanceSweepsSaid : Prop := chanceSweepsRow.holds Tryz.pinned (OpenSpec.ofChange chanceSweepsSpec)

/-- ITS FALSE NEIGHBOUR: 'it returns false'. Refute it at one input. -/
def chanceSweepsWrong : ChangeSpec := { name := "chanceSweeps", fn := fun _ => fun
  | [d1, d2, d3] => { results := [.lit (.bool false)], args := [d1, d2, d3] }
  | _ => none }
def ChanceSweepsWrongFalsely : Prop := chanceSweepsRow.holds Tryz.pinned (OpenSpec.ofChange chanceSweepsWrong)

/-- 'plaquettelaw05.ChanceTouches': WHATEVER THE INPUT: true; the input reads as it did. -/
def chanceTouchesSpec : ChangeSpec := { name := "chanceTouches", fn := fun _ => fun
  | [d1, d2, d3] => { results := [.lit (.bool true)], args := [d1, d2, d3] }
  | _ => none }
def chanceTouchesRow : OpenClaim := { program := "ytpfhjdmgkckjfaagreatdoor", sum := "670d16be23f33cecbb9366c72a8805270ffadcc5643b4af0822cb060aa206543", func := "plaquette/plaquettelaw05.ChanceTouches", spec := "chanceTouches", unfollowed := true, recurses := true, named := ["plaquette/chance.steps"], apart := false, laid := [("plaquette/chance.steps", laid_plaquette_chance_steps)] }
def ChanceTouchesSaid : Prop := chanceTouchesRow.holds Tryz.pinned (OpenSpec.ofChange chanceTouchesSpec)

/-- ITS FALSE NEIGHBOUR: 'it returns false'. Refute it at one input. -/
def chanceTouchesWrong : ChangeSpec := { name := "chanceTouches", fn := fun _ => fun
  | [d1, d2, d3] => { results := [.lit (.bool false)], args := [d1, d2, d3] }
  | _ => none }
def ChanceTouchesWrongFalsely : Prop := chanceTouchesRow.holds Tryz.pinned (OpenSpec.ofChange chanceTouchesWrong)

/-- 'plaquettelaw05.ChanceAudits': WHATEVER THE INPUT: true; the input reads as it did. -/
def chanceAuditsSpec : ChangeSpec := { name := "chanceAudits", fn := fun _ => fun
  | [d1, d2, d3] => { results := [.lit (.bool true)], args := [d1, d2, d3] }
  | _ => none }
def chanceAuditsRow : OpenClaim := { program := "ytpfhjdmgkckjfaagreatdoor", sum := "670d16be23f33cecbb9366c72a8805270ffadcc5643b4af0822cb060aa206543", func := "plaquette/plaquettelaw05.ChanceAudits", spec := "chanceAudits", unfollowed := true, recurses := true, named := ["plaquette/chance.steps"], apart := false, laid := [("plaquette/chance.steps", laid_plaquette_chance_steps)] }
def ChanceAuditsSaid : Prop := chanceAuditsRow.holds Tryz.pinned (OpenSpec.ofChange chanceAuditsSpec)

/-- ITS FALSE NEIGHBOUR: 'it returns false'. Refute it at one input. -/
def chanceAuditsWrong : ChangeSpec := { name := "chanceAudits", fn := fun _ => fun
  | [d1, d2, d3] => { results := [.lit (.bool false)], args := [d1, d2, d3] }
  | _ => none }
def ChanceAuditsWrongFalsely : Prop := chanceAuditsRow.holds Tryz.pinned (OpenSpec.ofChange chanceAuditsWrong)

/-- 'plaquettetop.TopBalance': WHATEVER THE INPUT: true; the input reads as it did. -/
def topBalanceSpec : ChangeSpec := { name := "topBalance", fn := fun _ => fun
  | [d1, d2, d3] => { results := [.lit (.bool true)], args := [d1, d2, d3] }
  | _ => none }
def topBalanceRow : OpenClaim := { program := "ytpfhjdmgkckjfaagreatdoor", sum := "670d16be23f33cecbb9366c72a8805270ffadcc5643b4af0822cb060aa206543", func := "plaquette/plaquettetop.TopBalance", spec := "topBalance", unfollowed := true, recurses := true, named := ["plaquette/chance.steps"], apart := false, laid := [("plaquette/chance.steps", laid_plaquette_chance_steps)] }
def TopBalanceSaid : Prop := topBalanceRow.holds Tryz.pinned (OpenSpec.ofChange topBalanceSpec)

/-- ITS FALSE NEIGHBOUR: 'it returns false'. Refute it at one input. -/
def topBalanceWrong : ChangeSpec := { name := "topBalance", fn := fun _ => fun
  | [d1, d2, d3] => { results := [.lit (.bool false)], args := [d1, d2, d3] }
  | _ => none }
def TopBalanceWrongFalsely : Prop := topBalanceRow.holds Tryz.pinned (OpenSpec.ofChange topBalanceWrong)

/- THE SECOND FORM. 'bulk': how many values and letters a reading holds, each counted each time it is reached (what is shared counts as often as it is met; a slice's spare places count too). A statement '..UptoSaid' is the law's where the arguments, and the package variables that the reading takes, are together of bulk at most 1048576: NARROWER than '..Said'. Prove '..Said' where nothing that the law and all that it calls make is longer than what came in: it says more and counts as full. Else prove '..UptoSaid'. A law counts once. -/
mutual
def uptoBulk {H : Type} : DataW H → Nat
  | .lit (.string bytes) => bytes.length + 1
  | .lit _ => 1
  | .nil => 1
  | .ptr d => uptoBulk d + 1
  | .slice elems spare => uptoBulkAll elems + uptoBulkAll spare + 1
  | .agg parts => uptoBulkAll parts + 1
  | .iface _ d => uptoBulk d + 1
  | .map entries => uptoBulkEntries entries + 1
  | .held _ => 1
def uptoBulkAll {H : Type} : List (DataW H) → Nat
  | [] => 0
  | d :: r => uptoBulk d + uptoBulkAll r
def uptoBulkEntries {H : Type} : List (Lit × DataW H) → Nat
  | [] => 0
  | x :: r => uptoBulkEntry x + uptoBulkEntries r
def uptoBulkEntry {H : Type} : Lit × DataW H → Nat
  | (.string bytes, d) => bytes.length + uptoBulk d + 1
  | (_, d) => uptoBulk d + 1
 end
def uptoSmall : (H : Type) → List (DataW H) → Bool := fun _ ds => decide (uptoBulkAll ds ≤ 1048576)
def OpenSpec.upto (s : _root_.Go.ChangeSpec) : _root_.Go.OpenSpec := { _root_.Go.OpenSpec.ofChange s with cond := some uptoSmall }

/-- 'plaquettelaw05.ChanceWeights', WHERE WHAT IT READS IS OF BULK AT MOST 1048576: true; the input reads as it did. -/
def chanceWeightsUptoRow : OpenClaim := { program := "ytpfhjdmgkckjfaagreatdoor", sum := "670d16be23f33cecbb9366c72a8805270ffadcc5643b4af0822cb060aa206543", func := "plaquette/plaquettelaw05.ChanceWeights", spec := "chanceWeights", unfollowed := true, recurses := true, named := ["plaquette/chance.steps"], apart := false, laid := [("plaquette/chance.steps", laid_plaquette_chance_steps)], narrowed := true }
def ChanceWeightsUptoSaid : Prop := chanceWeightsUptoRow.holds Tryz.pinned (OpenSpec.upto chanceWeightsSpec)

/-- 'plaquettelaw05.ChanceHeats', WHERE WHAT IT READS IS OF BULK AT MOST 1048576: true; the input reads as it did. -/
def chanceHeatsUptoRow : OpenClaim := { program := "ytpfhjdmgkckjfaagreatdoor", sum := "670d16be23f33cecbb9366c72a8805270ffadcc5643b4af0822cb060aa206543", func := "plaquette/plaquettelaw05.ChanceHeats", spec := "chanceHeats", unfollowed := true, recurses := true, named := ["plaquette/chance.steps"], apart := false, laid := [("plaquette/chance.steps", laid_plaquette_chance_steps)], narrowed := true }
def ChanceHeatsUptoSaid : Prop := chanceHeatsUptoRow.holds Tryz.pinned (OpenSpec.upto chanceHeatsSpec)

/-- 'plaquettelaw05.ChanceFlows', WHERE WHAT IT READS IS OF BULK AT MOST 1048576: true; the input reads as it did. -/
def chanceFlowsUptoRow : OpenClaim := { program := "ytpfhjdmgkckjfaagreatdoor", sum := "670d16be23f33cecbb9366c72a8805270ffadcc5643b4af0822cb060aa206543", func := "plaquette/plaquettelaw05.ChanceFlows", spec := "chanceFlows", unfollowed := true, recurses := true, named := ["plaquette/chance.steps"], apart := false, laid := [("plaquette/chance.steps", laid_plaquette_chance_steps)], narrowed := true }
def ChanceFlowsUptoSaid : Prop := chanceFlowsUptoRow.holds Tryz.pinned (OpenSpec.upto chanceFlowsSpec)

/-- 'plaquettelaw05.ChanceProposes', WHERE WHAT IT READS IS OF BULK AT MOST 1048576: true; the input reads as it did. -/
def chanceProposesUptoRow : OpenClaim := { program := "ytpfhjdmgkckjfaagreatdoor", sum := "670d16be23f33cecbb9366c72a8805270ffadcc5643b4af0822cb060aa206543", func := "plaquette/plaquettelaw05.ChanceProposes", spec := "chanceProposes", unfollowed := true, recurses := true, named := ["plaquette/chance.steps"], apart := false, laid := [("plaquette/chance.steps", laid_plaquette_chance_steps)], narrowed := true }
def ChanceProposesUptoSaid : Prop := chanceProposesUptoRow.holds Tryz.pinned (OpenSpec.upto chanceProposesSpec)

/-- 'plaquettelaw05.ChanceSweeps', WHERE WHAT IT READS IS OF BULK AT MOST 1048576: true; the input reads as it did. -/
def chanceSweepsUptoRow : OpenClaim := { program := "ytpfhjdmgkckjfaagreatdoor", sum := "670d16be23f33cecbb9366c72a8805270ffadcc5643b4af0822cb060aa206543", func := "plaquette/plaquettelaw05.ChanceSweeps", spec := "chanceSweeps", unfollowed := true, recurses := true, named := ["plaquette/chance.steps"], apart := false, laid := [("plaquette/chance.steps", laid_plaquette_chance_steps)], narrowed := true }
def ChanceSweepsUptoSaid : Prop := chanceSweepsUptoRow.holds Tryz.pinned (OpenSpec.upto chanceSweepsSpec)

/-- 'plaquettelaw05.ChanceTouches', WHERE WHAT IT READS IS OF BULK AT MOST 1048576: true; the input reads as it did. -/
def chanceTouchesUptoRow : OpenClaim := { program := "ytpfhjdmgkckjfaagreatdoor", sum := "670d16be23f33cecbb9366c72a8805270ffadcc5643b4af0822cb060aa206543", func := "plaquette/plaquettelaw05.ChanceTouches", spec := "chanceTouches", unfollowed := true, recurses := true, named := ["plaquette/chance.steps"], apart := false, laid := [("plaquette/chance.steps", laid_plaquette_chance_steps)], narrowed := true }
def ChanceTouchesUptoSaid : Prop := chanceTouchesUptoRow.holds Tryz.pinned (OpenSpec.upto chanceTouchesSpec)

/-- 'plaquettelaw05.ChanceAudits', WHERE WHAT IT READS IS OF BULK AT MOST 1048576: true; the input reads as it did. -/
def chanceAuditsUptoRow : OpenClaim := { program := "ytpfhjdmgkckjfaagreatdoor", sum := "670d16be23f33cecbb9366c72a8805270ffadcc5643b4af0822cb060aa206543", func := "plaquette/plaquettelaw05.ChanceAudits", spec := "chanceAudits", unfollowed := true, recurses := true, named := ["plaquette/chance.steps"], apart := false, laid := [("plaquette/chance.steps", laid_plaquette_chance_steps)], narrowed := true }
def ChanceAuditsUptoSaid : Prop := chanceAuditsUptoRow.holds Tryz.pinned (OpenSpec.upto chanceAuditsSpec)

/-- 'plaquettetop.TopBalance', WHERE WHAT IT READS IS OF BULK AT MOST 1048576: true; the input reads as it did. -/
def topBalanceUptoRow : OpenClaim := { program := "ytpfhjdmgkckjfaagreatdoor", sum := "670d16be23f33cecbb9366c72a8805270ffadcc5643b4af0822cb060aa206543", func := "plaquette/plaquettetop.TopBalance", spec := "topBalance", unfollowed := true, recurses := true, named := ["plaquette/chance.steps"], apart := false, laid := [("plaquette/chance.steps", laid_plaquette_chance_steps)], narrowed := true }
def TopBalanceUptoSaid : Prop := topBalanceUptoRow.holds Tryz.pinned (OpenSpec.upto topBalanceSpec)

end Rows
end Go.Proofs.YtpfhjdmgkckjfaaGreatDoor
