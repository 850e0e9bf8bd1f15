/-
  NARROWER THAN 'FOR EVERY INPUT', by the rows' own cells (each row's printed sentence says how): ChanceBalances: laid · ChanceAccepts: laid · ChanceReplays: laid.
  DERIVED. THE GIVEN ROWS OF THIS SEAT. 3 by the template 'for every input the law returns true; each argument reads behind the call as it read before'; 0 by the template 'total and deterministic' (their statements: YtpfhjdmgkckjfaaDoorTotals.lean).
  GIVEN WITH THE SEED: the statements are not yours to turn. If you find one false, say at which input.
  Laid BY PROGRAM, IN A SANDBOX (cutbox-rows.mjs): the forced cells as the released guide's own fill.sh prints them over the translation 35335fa7286eaec5… (all of the seat's roots in one cut). By AI agents, Wed Nov 11 2026. No macro, syntax, notation, axiom, sorry.
-/
import Derived.Test.YtpfhjdmgkckjfaaDoorChecked
import GoSem.Claim
import GoSem.ClaimJoined
import GoSem.ClaimMapViews
import Derived.JoinedTies
import Derived.KernelRfl
namespace Go.Proofs.YtpfhjdmgkckjfaaDoor
/- THE CELL 'sum', in the pinned program and in every row, IS THE sha256 OF THE DUMP (.gsa) THAT YtpfhjdmgkckjfaaDoorProg.lean LOADS. Nothing in Lean hashes anything: it is a label: what it is worth is what the hold of that sum in a sandbox is worth. -/
noncomputable def Tryd.pinned : Pinned := { name := "ytpfhjdmgkckjfaadoor", sum := "35335fa7286eaec5cb0d2b8e3b1f7dcfd36f5fac356f180c080cc14ac50bc4be", checked := Tryd.checked }
namespace Rows
def none {H : Type} : Left H := { results := [], args := [] }

/- WHAT THE LISTED PACKAGE-LEVEL VARIABLES READ AS WHEN THE CALL BEGINS. Each datum BY PROGRAM (the guide's laid-datum.mjs) off the statement by which the dump's own 'gosem.cut.vars' lays the variable. In a bare row this is a premise. The card (YtpfhjdmgkckjfaaDoorCards.lean) ties it to the program's text. -/
def laid_plaquette_chance_steps {H : Type} : DataW H := .agg [.agg [.lit (.int .i64 1), .lit (.int .i64 2)], .agg [.lit (.int .i64 1), .lit (.int .i64 3)], .agg [.lit (.int .i64 2), .lit (.int .i64 3)]]

/-- 'plaquettelaw05.ChanceBalances': WHATEVER THE INPUT: true; the input reads as it did. -/
def chanceBalancesSpec : ChangeSpec := { name := "chanceBalances", fn := fun _ => fun
  | [d1, d2, d3] => { results := [.lit (.bool true)], args := [d1, d2, d3] }
  | _ => none }
def chanceBalancesRow : OpenClaim := { program := "ytpfhjdmgkckjfaadoor", sum := "35335fa7286eaec5cb0d2b8e3b1f7dcfd36f5fac356f180c080cc14ac50bc4be", func := "plaquette/plaquettelaw05.ChanceBalances", spec := "chanceBalances", unfollowed := true, recurses := true, named := ["plaquette/chance.steps"], apart := false, laid := [("plaquette/chance.steps", laid_plaquette_chance_steps)] }
def ChanceBalancesSaid : Prop := chanceBalancesRow.holds Tryd.pinned (OpenSpec.ofChange chanceBalancesSpec)

/-- ITS FALSE NEIGHBOUR: 'it returns false'. Refute it at one input. -/
def chanceBalancesWrong : ChangeSpec := { name := "chanceBalances", fn := fun _ => fun
  | [d1, d2, d3] => { results := [.lit (.bool false)], args := [d1, d2, d3] }
  | _ => none }
def ChanceBalancesWrongFalsely : Prop := chanceBalancesRow.holds Tryd.pinned (OpenSpec.ofChange chanceBalancesWrong)

/-- 'plaquettelaw05.ChanceAccepts': WHATEVER THE INPUT: true; the input reads as it did. -/
def chanceAcceptsSpec : ChangeSpec := { name := "chanceAccepts", fn := fun _ => fun
  | [d1, d2, d3] => { results := [.lit (.bool true)], args := [d1, d2, d3] }
  | _ => none }
def chanceAcceptsRow : OpenClaim := { program := "ytpfhjdmgkckjfaadoor", sum := "35335fa7286eaec5cb0d2b8e3b1f7dcfd36f5fac356f180c080cc14ac50bc4be", func := "plaquette/plaquettelaw05.ChanceAccepts", spec := "chanceAccepts", unfollowed := true, recurses := true, named := ["plaquette/chance.steps"], apart := false, laid := [("plaquette/chance.steps", laid_plaquette_chance_steps)] }
def ChanceAcceptsSaid : Prop := chanceAcceptsRow.holds Tryd.pinned (OpenSpec.ofChange chanceAcceptsSpec)

/-- ITS FALSE NEIGHBOUR: 'it returns false'. Refute it at one input. -/
def chanceAcceptsWrong : ChangeSpec := { name := "chanceAccepts", fn := fun _ => fun
  | [d1, d2, d3] => { results := [.lit (.bool false)], args := [d1, d2, d3] }
  | _ => none }
def ChanceAcceptsWrongFalsely : Prop := chanceAcceptsRow.holds Tryd.pinned (OpenSpec.ofChange chanceAcceptsWrong)

/-- 'plaquettelaw05.ChanceReplays': WHATEVER THE INPUT: true; the input reads as it did. -/
def chanceReplaysSpec : ChangeSpec := { name := "chanceReplays", fn := fun _ => fun
  | [d1, d2, d3] => { results := [.lit (.bool true)], args := [d1, d2, d3] }
  | _ => none }
def chanceReplaysRow : OpenClaim := { program := "ytpfhjdmgkckjfaadoor", sum := "35335fa7286eaec5cb0d2b8e3b1f7dcfd36f5fac356f180c080cc14ac50bc4be", func := "plaquette/plaquettelaw05.ChanceReplays", spec := "chanceReplays", unfollowed := true, recurses := true, named := ["plaquette/chance.steps"], apart := false, laid := [("plaquette/chance.steps", laid_plaquette_chance_steps)] }
def ChanceReplaysSaid : Prop := chanceReplaysRow.holds Tryd.pinned (OpenSpec.ofChange chanceReplaysSpec)

/-- ITS FALSE NEIGHBOUR: 'it returns false'. Refute it at one input. -/
def chanceReplaysWrong : ChangeSpec := { name := "chanceReplays", fn := fun _ => fun
  | [d1, d2, d3] => { results := [.lit (.bool false)], args := [d1, d2, d3] }
  | _ => none }
def ChanceReplaysWrongFalsely : Prop := chanceReplaysRow.holds Tryd.pinned (OpenSpec.ofChange chanceReplaysWrong)

/- THE SECOND FORM. 'bulk': how many values and letters a reading holds, each counted each time it is reached (what is shared counts as often as it is met; a slice's spare places count too). A statement '..UptoSaid' is the law's where the arguments, and the package variables that the reading takes, are together of bulk at most 1048576: NARROWER than '..Said'. Prove '..Said' where nothing that the law and all that it calls make is longer than what came in: it says more and counts as full. Else prove '..UptoSaid'. A law counts once. -/
mutual
def uptoBulk {H : Type} : DataW H → Nat
  | .lit (.string bytes) => bytes.length + 1
  | .lit _ => 1
  | .nil => 1
  | .ptr d => uptoBulk d + 1
  | .slice elems spare => uptoBulkAll elems + uptoBulkAll spare + 1
  | .agg parts => uptoBulkAll parts + 1
  | .iface _ d => uptoBulk d + 1
  | .map entries => uptoBulkEntries entries + 1
  | .held _ => 1
def uptoBulkAll {H : Type} : List (DataW H) → Nat
  | [] => 0
  | d :: r => uptoBulk d + uptoBulkAll r
def uptoBulkEntries {H : Type} : List (Lit × DataW H) → Nat
  | [] => 0
  | x :: r => uptoBulkEntry x + uptoBulkEntries r
def uptoBulkEntry {H : Type} : Lit × DataW H → Nat
  | (.string bytes, d) => bytes.length + uptoBulk d + 1
  | (_, d) => uptoBulk d + 1
 end
def uptoSmall : (H : Type) → List (DataW H) → Bool := fun _ ds => decide (uptoBulkAll ds ≤ 1048576)
def OpenSpec.upto (s : _root_.Go.ChangeSpec) : _root_.Go.OpenSpec := { _root_.Go.OpenSpec.ofChange s with cond := some uptoSmall }

/-- 'plaquettelaw05.ChanceBalances', WHERE WHAT IT READS IS OF BULK AT MOST 1048576: true; the input reads as it did. -/
def chanceBalancesUptoRow : OpenClaim := { program := "ytpfhjdmgkckjfaadoor", sum := "35335fa7286eaec5cb0d2b8e3b1f7dcfd36f5fac356f180c080cc14ac50bc4be", func := "plaquette/plaquettelaw05.ChanceBalances", spec := "chanceBalances", unfollowed := true, recurses := true, named := ["plaquette/chance.steps"], apart := false, laid := [("plaquette/chance.steps", laid_plaquette_chance_steps)], narrowed := true }
def ChanceBalancesUptoSaid : Prop := chanceBalancesUptoRow.holds Tryd.pinned (OpenSpec.upto chanceBalancesSpec)

/-- 'plaquettelaw05.ChanceAccepts', WHERE WHAT IT READS IS OF BULK AT MOST 1048576: true; the input reads as it did. -/
def chanceAcceptsUptoRow : OpenClaim := { program := "ytpfhjdmgkckjfaadoor", sum := "35335fa7286eaec5cb0d2b8e3b1f7dcfd36f5fac356f180c080cc14ac50bc4be", func := "plaquette/plaquettelaw05.ChanceAccepts", spec := "chanceAccepts", unfollowed := true, recurses := true, named := ["plaquette/chance.steps"], apart := false, laid := [("plaquette/chance.steps", laid_plaquette_chance_steps)], narrowed := true }
def ChanceAcceptsUptoSaid : Prop := chanceAcceptsUptoRow.holds Tryd.pinned (OpenSpec.upto chanceAcceptsSpec)

/-- 'plaquettelaw05.ChanceReplays', WHERE WHAT IT READS IS OF BULK AT MOST 1048576: true; the input reads as it did. -/
def chanceReplaysUptoRow : OpenClaim := { program := "ytpfhjdmgkckjfaadoor", sum := "35335fa7286eaec5cb0d2b8e3b1f7dcfd36f5fac356f180c080cc14ac50bc4be", func := "plaquette/plaquettelaw05.ChanceReplays", spec := "chanceReplays", unfollowed := true, recurses := true, named := ["plaquette/chance.steps"], apart := false, laid := [("plaquette/chance.steps", laid_plaquette_chance_steps)], narrowed := true }
def ChanceReplaysUptoSaid : Prop := chanceReplaysUptoRow.holds Tryd.pinned (OpenSpec.upto chanceReplaysSpec)

end Rows
end Go.Proofs.YtpfhjdmgkckjfaaDoor
