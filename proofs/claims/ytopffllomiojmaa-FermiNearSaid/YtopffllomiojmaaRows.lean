/-
  No cell of these rows narrows 'for every input' (looked for: loops, veiled, ifaces, maps, wideKeys, modest, calm, conditions, laid).
  DERIVED. THE GIVEN ROWS OF THIS SEAT. 14 by the template 'for every input the law returns true; each argument reads behind the call as it read before'; 0 by the template 'total and deterministic' (their statements: YtopffllomiojmaaTotals.lean).
  GIVEN WITH THE SEED: the statements are not yours to turn. If you find one false, say at which input.
  Laid BY PROGRAM, IN A SANDBOX (cutbox-rows.mjs): the forced cells as the released guide's own fill.sh prints them over the translation 9aff8e7934debd6e… (all of the seat's roots in one cut). By AI agents, Wed Nov 11 2026. No macro, syntax, notation, axiom, sorry.
-/
import Derived.Test.YtopffllomiojmaaChecked
import GoSem.Claim
import GoSem.ClaimJoined
import GoSem.ClaimMapViews
import Derived.JoinedTies
import Derived.KernelRfl
namespace Go.Proofs.Ytopffllomiojmaa
/- THE CELL 'sum', in the pinned program and in every row, IS THE sha256 OF THE DUMP (.gsa) THAT YtopffllomiojmaaProg.lean LOADS. Nothing in Lean hashes anything: it is a label: what it is worth is what the hold of that sum in a sandbox is worth. -/
noncomputable def Try.pinned : Pinned := { name := "ytopffllomiojmaa", sum := "9aff8e7934debd6e6a1e64e55370e1e8ce32cfc9b63264dcf76a894aa70fcdb8", checked := Try.checked }
namespace Rows
def none {H : Type} : Left H := { results := [], args := [] }

/-- 'plaquettelaw07.FermiHops': WHATEVER THE INPUT: true; the input reads as it did. -/
def fermiHopsSpec : ChangeSpec := { name := "fermiHops", fn := fun _ => fun
  | [d1, d2] => { results := [.lit (.bool true)], args := [d1, d2] }
  | _ => none }
def fermiHopsRow : OpenClaim := { program := "ytopffllomiojmaa", sum := "9aff8e7934debd6e6a1e64e55370e1e8ce32cfc9b63264dcf76a894aa70fcdb8", func := "plaquette/plaquettelaw07.FermiHops", spec := "fermiHops", apart := false }
def FermiHopsSaid : Prop := fermiHopsRow.holds Try.pinned (OpenSpec.ofChange fermiHopsSpec)

/-- ITS FALSE NEIGHBOUR: 'it returns false'. Refute it at one input. -/
def fermiHopsWrong : ChangeSpec := { name := "fermiHops", fn := fun _ => fun
  | [d1, d2] => { results := [.lit (.bool false)], args := [d1, d2] }
  | _ => none }
def FermiHopsWrongFalsely : Prop := fermiHopsRow.holds Try.pinned (OpenSpec.ofChange fermiHopsWrong)

/-- 'plaquettelaw07.FermiSigns': WHATEVER THE INPUT: true; the input reads as it did. -/
def fermiSignsSpec : ChangeSpec := { name := "fermiSigns", fn := fun _ => fun
  | [d1, d2, d3] => { results := [.lit (.bool true)], args := [d1, d2, d3] }
  | _ => none }
def fermiSignsRow : OpenClaim := { program := "ytopffllomiojmaa", sum := "9aff8e7934debd6e6a1e64e55370e1e8ce32cfc9b63264dcf76a894aa70fcdb8", func := "plaquette/plaquettelaw07.FermiSigns", spec := "fermiSigns", apart := false }
def FermiSignsSaid : Prop := fermiSignsRow.holds Try.pinned (OpenSpec.ofChange fermiSignsSpec)

/-- ITS FALSE NEIGHBOUR: 'it returns false'. Refute it at one input. -/
def fermiSignsWrong : ChangeSpec := { name := "fermiSigns", fn := fun _ => fun
  | [d1, d2, d3] => { results := [.lit (.bool false)], args := [d1, d2, d3] }
  | _ => none }
def FermiSignsWrongFalsely : Prop := fermiSignsRow.holds Try.pinned (OpenSpec.ofChange fermiSignsWrong)

/-- 'plaquettelaw07.FermiApplies': WHATEVER THE INPUT: true; the input reads as it did. -/
def fermiAppliesSpec : ChangeSpec := { name := "fermiApplies", fn := fun _ => fun
  | [d1, d2, d3] => { results := [.lit (.bool true)], args := [d1, d2, d3] }
  | _ => none }
def fermiAppliesRow : OpenClaim := { program := "ytopffllomiojmaa", sum := "9aff8e7934debd6e6a1e64e55370e1e8ce32cfc9b63264dcf76a894aa70fcdb8", func := "plaquette/plaquettelaw07.FermiApplies", spec := "fermiApplies", apart := false }
def FermiAppliesSaid : Prop := fermiAppliesRow.holds Try.pinned (OpenSpec.ofChange fermiAppliesSpec)

/-- ITS FALSE NEIGHBOUR: 'it returns false'. Refute it at one input. -/
def fermiAppliesWrong : ChangeSpec := { name := "fermiApplies", fn := fun _ => fun
  | [d1, d2, d3] => { results := [.lit (.bool false)], args := [d1, d2, d3] }
  | _ => none }
def FermiAppliesWrongFalsely : Prop := fermiAppliesRow.holds Try.pinned (OpenSpec.ofChange fermiAppliesWrong)

/-- 'plaquettelaw07.FermiDots': WHATEVER THE INPUT: true; the input reads as it did. -/
def fermiDotsSpec : ChangeSpec := { name := "fermiDots", fn := fun _ => fun
  | [d1, d2, d3] => { results := [.lit (.bool true)], args := [d1, d2, d3] }
  | _ => none }
def fermiDotsRow : OpenClaim := { program := "ytopffllomiojmaa", sum := "9aff8e7934debd6e6a1e64e55370e1e8ce32cfc9b63264dcf76a894aa70fcdb8", func := "plaquette/plaquettelaw07.FermiDots", spec := "fermiDots", apart := false }
def FermiDotsSaid : Prop := fermiDotsRow.holds Try.pinned (OpenSpec.ofChange fermiDotsSpec)

/-- ITS FALSE NEIGHBOUR: 'it returns false'. Refute it at one input. -/
def fermiDotsWrong : ChangeSpec := { name := "fermiDots", fn := fun _ => fun
  | [d1, d2, d3] => { results := [.lit (.bool false)], args := [d1, d2, d3] }
  | _ => none }
def FermiDotsWrongFalsely : Prop := fermiDotsRow.holds Try.pinned (OpenSpec.ofChange fermiDotsWrong)

/-- 'plaquettelaw07.FermiBalances': WHATEVER THE INPUT: true; the input reads as it did. -/
def fermiBalancesSpec : ChangeSpec := { name := "fermiBalances", fn := fun _ => fun
  | [d1, d2, d3] => { results := [.lit (.bool true)], args := [d1, d2, d3] }
  | _ => none }
def fermiBalancesRow : OpenClaim := { program := "ytopffllomiojmaa", sum := "9aff8e7934debd6e6a1e64e55370e1e8ce32cfc9b63264dcf76a894aa70fcdb8", func := "plaquette/plaquettelaw07.FermiBalances", spec := "fermiBalances", apart := false }
def FermiBalancesSaid : Prop := fermiBalancesRow.holds Try.pinned (OpenSpec.ofChange fermiBalancesSpec)

/-- ITS FALSE NEIGHBOUR: 'it returns false'. Refute it at one input. -/
def fermiBalancesWrong : ChangeSpec := { name := "fermiBalances", fn := fun _ => fun
  | [d1, d2, d3] => { results := [.lit (.bool false)], args := [d1, d2, d3] }
  | _ => none }
def FermiBalancesWrongFalsely : Prop := fermiBalancesRow.holds Try.pinned (OpenSpec.ofChange fermiBalancesWrong)

/-- 'plaquettelaw07.FermiCommutes': WHATEVER THE INPUT: true; the input reads as it did. -/
def fermiCommutesSpec : ChangeSpec := { name := "fermiCommutes", fn := fun _ => fun
  | [d1, d2, d3] => { results := [.lit (.bool true)], args := [d1, d2, d3] }
  | _ => none }
def fermiCommutesRow : OpenClaim := { program := "ytopffllomiojmaa", sum := "9aff8e7934debd6e6a1e64e55370e1e8ce32cfc9b63264dcf76a894aa70fcdb8", func := "plaquette/plaquettelaw07.FermiCommutes", spec := "fermiCommutes", apart := false }
def FermiCommutesSaid : Prop := fermiCommutesRow.holds Try.pinned (OpenSpec.ofChange fermiCommutesSpec)

/-- ITS FALSE NEIGHBOUR: 'it returns false'. Refute it at one input. -/
def fermiCommutesWrong : ChangeSpec := { name := "fermiCommutes", fn := fun _ => fun
  | [d1, d2, d3] => { results := [.lit (.bool false)], args := [d1, d2, d3] }
  | _ => none }
def FermiCommutesWrongFalsely : Prop := fermiCommutesRow.holds Try.pinned (OpenSpec.ofChange fermiCommutesWrong)

/-- 'plaquettelaw07.FermiTurns': WHATEVER THE INPUT: true; the input reads as it did. -/
def fermiTurnsSpec : ChangeSpec := { name := "fermiTurns", fn := fun _ => fun
  | [d1, d2, d3] => { results := [.lit (.bool true)], args := [d1, d2, d3] }
  | _ => none }
def fermiTurnsRow : OpenClaim := { program := "ytopffllomiojmaa", sum := "9aff8e7934debd6e6a1e64e55370e1e8ce32cfc9b63264dcf76a894aa70fcdb8", func := "plaquette/plaquettelaw07.FermiTurns", spec := "fermiTurns", apart := false }
def FermiTurnsSaid : Prop := fermiTurnsRow.holds Try.pinned (OpenSpec.ofChange fermiTurnsSpec)

/-- ITS FALSE NEIGHBOUR: 'it returns false'. Refute it at one input. -/
def fermiTurnsWrong : ChangeSpec := { name := "fermiTurns", fn := fun _ => fun
  | [d1, d2, d3] => { results := [.lit (.bool false)], args := [d1, d2, d3] }
  | _ => none }
def FermiTurnsWrongFalsely : Prop := fermiTurnsRow.holds Try.pinned (OpenSpec.ofChange fermiTurnsWrong)

/-- 'plaquettelaw07.FermiCovaries': WHATEVER THE INPUT: true; the input reads as it did. -/
def fermiCovariesSpec : ChangeSpec := { name := "fermiCovaries", fn := fun _ => fun
  | [d1, d2, d3] => { results := [.lit (.bool true)], args := [d1, d2, d3] }
  | _ => none }
def fermiCovariesRow : OpenClaim := { program := "ytopffllomiojmaa", sum := "9aff8e7934debd6e6a1e64e55370e1e8ce32cfc9b63264dcf76a894aa70fcdb8", func := "plaquette/plaquettelaw07.FermiCovaries", spec := "fermiCovaries", apart := false }
def FermiCovariesSaid : Prop := fermiCovariesRow.holds Try.pinned (OpenSpec.ofChange fermiCovariesSpec)

/-- ITS FALSE NEIGHBOUR: 'it returns false'. Refute it at one input. -/
def fermiCovariesWrong : ChangeSpec := { name := "fermiCovaries", fn := fun _ => fun
  | [d1, d2, d3] => { results := [.lit (.bool false)], args := [d1, d2, d3] }
  | _ => none }
def FermiCovariesWrongFalsely : Prop := fermiCovariesRow.holds Try.pinned (OpenSpec.ofChange fermiCovariesWrong)

/-- 'plaquettelaw07.FermiAllows': WHATEVER THE INPUT: true; the input reads as it did. -/
def fermiAllowsSpec : ChangeSpec := { name := "fermiAllows", fn := fun _ => fun
  | [d1, d2] => { results := [.lit (.bool true)], args := [d1, d2] }
  | _ => none }
def fermiAllowsRow : OpenClaim := { program := "ytopffllomiojmaa", sum := "9aff8e7934debd6e6a1e64e55370e1e8ce32cfc9b63264dcf76a894aa70fcdb8", func := "plaquette/plaquettelaw07.FermiAllows", spec := "fermiAllows", apart := false }
def FermiAllowsSaid : Prop := fermiAllowsRow.holds Try.pinned (OpenSpec.ofChange fermiAllowsSpec)

/-- ITS FALSE NEIGHBOUR: 'it returns false'. Refute it at one input. -/
def fermiAllowsWrong : ChangeSpec := { name := "fermiAllows", fn := fun _ => fun
  | [d1, d2] => { results := [.lit (.bool false)], args := [d1, d2] }
  | _ => none }
def FermiAllowsWrongFalsely : Prop := fermiAllowsRow.holds Try.pinned (OpenSpec.ofChange fermiAllowsWrong)

/-- 'plaquettelaw07.FermiResiduals': WHATEVER THE INPUT: true; the input reads as it did. -/
def fermiResidualsSpec : ChangeSpec := { name := "fermiResiduals", fn := fun _ => fun
  | [d1, d2, d3] => { results := [.lit (.bool true)], args := [d1, d2, d3] }
  | _ => none }
def fermiResidualsRow : OpenClaim := { program := "ytopffllomiojmaa", sum := "9aff8e7934debd6e6a1e64e55370e1e8ce32cfc9b63264dcf76a894aa70fcdb8", func := "plaquette/plaquettelaw07.FermiResiduals", spec := "fermiResiduals", apart := false }
def FermiResidualsSaid : Prop := fermiResidualsRow.holds Try.pinned (OpenSpec.ofChange fermiResidualsSpec)

/-- ITS FALSE NEIGHBOUR: 'it returns false'. Refute it at one input. -/
def fermiResidualsWrong : ChangeSpec := { name := "fermiResiduals", fn := fun _ => fun
  | [d1, d2, d3] => { results := [.lit (.bool false)], args := [d1, d2, d3] }
  | _ => none }
def FermiResidualsWrongFalsely : Prop := fermiResidualsRow.holds Try.pinned (OpenSpec.ofChange fermiResidualsWrong)

/-- 'plaquettelaw07.FermiChecks': WHATEVER THE INPUT: true; the input reads as it did. -/
def fermiChecksSpec : ChangeSpec := { name := "fermiChecks", fn := fun _ => fun
  | [d1, d2, d3] => { results := [.lit (.bool true)], args := [d1, d2, d3] }
  | _ => none }
def fermiChecksRow : OpenClaim := { program := "ytopffllomiojmaa", sum := "9aff8e7934debd6e6a1e64e55370e1e8ce32cfc9b63264dcf76a894aa70fcdb8", func := "plaquette/plaquettelaw07.FermiChecks", spec := "fermiChecks", apart := false }
def FermiChecksSaid : Prop := fermiChecksRow.holds Try.pinned (OpenSpec.ofChange fermiChecksSpec)

/-- ITS FALSE NEIGHBOUR: 'it returns false'. Refute it at one input. -/
def fermiChecksWrong : ChangeSpec := { name := "fermiChecks", fn := fun _ => fun
  | [d1, d2, d3] => { results := [.lit (.bool false)], args := [d1, d2, d3] }
  | _ => none }
def FermiChecksWrongFalsely : Prop := fermiChecksRow.holds Try.pinned (OpenSpec.ofChange fermiChecksWrong)

/-- 'plaquettelaw07.FermiSolves': WHATEVER THE INPUT: true; the input reads as it did. -/
def fermiSolvesSpec : ChangeSpec := { name := "fermiSolves", fn := fun _ => fun
  | [d1, d2, d3] => { results := [.lit (.bool true)], args := [d1, d2, d3] }
  | _ => none }
def fermiSolvesRow : OpenClaim := { program := "ytopffllomiojmaa", sum := "9aff8e7934debd6e6a1e64e55370e1e8ce32cfc9b63264dcf76a894aa70fcdb8", func := "plaquette/plaquettelaw07.FermiSolves", spec := "fermiSolves", unfollowed := true, recurses := true, apart := false }
def FermiSolvesSaid : Prop := fermiSolvesRow.holds Try.pinned (OpenSpec.ofChange fermiSolvesSpec)

/-- ITS FALSE NEIGHBOUR: 'it returns false'. Refute it at one input. -/
def fermiSolvesWrong : ChangeSpec := { name := "fermiSolves", fn := fun _ => fun
  | [d1, d2, d3] => { results := [.lit (.bool false)], args := [d1, d2, d3] }
  | _ => none }
def FermiSolvesWrongFalsely : Prop := fermiSolvesRow.holds Try.pinned (OpenSpec.ofChange fermiSolvesWrong)

/-- 'plaquettelaw07.FermiNear': WHATEVER THE INPUT: true; the input reads as it did. -/
def fermiNearSpec : ChangeSpec := { name := "fermiNear", fn := fun _ => fun
  | [d1, d2, d3] => { results := [.lit (.bool true)], args := [d1, d2, d3] }
  | _ => none }
def fermiNearRow : OpenClaim := { program := "ytopffllomiojmaa", sum := "9aff8e7934debd6e6a1e64e55370e1e8ce32cfc9b63264dcf76a894aa70fcdb8", func := "plaquette/plaquettelaw07.FermiNear", spec := "fermiNear", apart := false }
def FermiNearSaid : Prop := fermiNearRow.holds Try.pinned (OpenSpec.ofChange fermiNearSpec)

/-- ITS FALSE NEIGHBOUR: 'it returns false'. Refute it at one input. -/
def fermiNearWrong : ChangeSpec := { name := "fermiNear", fn := fun _ => fun
  | [d1, d2, d3] => { results := [.lit (.bool false)], args := [d1, d2, d3] }
  | _ => none }
def FermiNearWrongFalsely : Prop := fermiNearRow.holds Try.pinned (OpenSpec.ofChange fermiNearWrong)

/-- 'plaquettetop.TopResiduals': WHATEVER THE INPUT: true; the input reads as it did. -/
def topResidualsSpec : ChangeSpec := { name := "topResiduals", fn := fun _ => fun
  | [d1, d2, d3] => { results := [.lit (.bool true)], args := [d1, d2, d3] }
  | _ => none }
def topResidualsRow : OpenClaim := { program := "ytopffllomiojmaa", sum := "9aff8e7934debd6e6a1e64e55370e1e8ce32cfc9b63264dcf76a894aa70fcdb8", func := "plaquette/plaquettetop.TopResiduals", spec := "topResiduals", unfollowed := true, recurses := true, apart := false }
def TopResidualsSaid : Prop := topResidualsRow.holds Try.pinned (OpenSpec.ofChange topResidualsSpec)

/-- ITS FALSE NEIGHBOUR: 'it returns false'. Refute it at one input. -/
def topResidualsWrong : ChangeSpec := { name := "topResiduals", fn := fun _ => fun
  | [d1, d2, d3] => { results := [.lit (.bool false)], args := [d1, d2, d3] }
  | _ => none }
def TopResidualsWrongFalsely : Prop := topResidualsRow.holds Try.pinned (OpenSpec.ofChange topResidualsWrong)

/- THE SECOND FORM. 'bulk': how many values and letters a reading holds, each counted each time it is reached (what is shared counts as often as it is met; a slice's spare places count too). A statement '..UptoSaid' is the law's where the arguments, and the package variables that the reading takes, are together of bulk at most 1048576: NARROWER than '..Said'. Prove '..Said' where nothing that the law and all that it calls make is longer than what came in: it says more and counts as full. Else prove '..UptoSaid'. A law counts once. -/
mutual
def uptoBulk {H : Type} : DataW H → Nat
  | .lit (.string bytes) => bytes.length + 1
  | .lit _ => 1
  | .nil => 1
  | .ptr d => uptoBulk d + 1
  | .slice elems spare => uptoBulkAll elems + uptoBulkAll spare + 1
  | .agg parts => uptoBulkAll parts + 1
  | .iface _ d => uptoBulk d + 1
  | .map entries => uptoBulkEntries entries + 1
  | .held _ => 1
def uptoBulkAll {H : Type} : List (DataW H) → Nat
  | [] => 0
  | d :: r => uptoBulk d + uptoBulkAll r
def uptoBulkEntries {H : Type} : List (Lit × DataW H) → Nat
  | [] => 0
  | x :: r => uptoBulkEntry x + uptoBulkEntries r
def uptoBulkEntry {H : Type} : Lit × DataW H → Nat
  | (.string bytes, d) => bytes.length + uptoBulk d + 1
  | (_, d) => uptoBulk d + 1
 end
def uptoSmall : (H : Type) → List (DataW H) → Bool := fun _ ds => decide (uptoBulkAll ds ≤ 1048576)
def OpenSpec.upto (s : _root_.Go.ChangeSpec) : _root_.Go.OpenSpec := { _root_.Go.OpenSpec.ofChange s with cond := some uptoSmall }

/-- 'plaquettelaw07.FermiHops', WHERE WHAT IT READS IS OF BULK AT MOST 1048576: true; the input reads as it did. -/
def fermiHopsUptoRow : OpenClaim := { program := "ytopffllomiojmaa", sum := "9aff8e7934debd6e6a1e64e55370e1e8ce32cfc9b63264dcf76a894aa70fcdb8", func := "plaquette/plaquettelaw07.FermiHops", spec := "fermiHops", apart := false, narrowed := true }
def FermiHopsUptoSaid : Prop := fermiHopsUptoRow.holds Try.pinned (OpenSpec.upto fermiHopsSpec)

/-- 'plaquettelaw07.FermiSigns', WHERE WHAT IT READS IS OF BULK AT MOST 1048576: true; the input reads as it did. -/
def fermiSignsUptoRow : OpenClaim := { program := "ytopffllomiojmaa", sum := "9aff8e7934debd6e6a1e64e55370e1e8ce32cfc9b63264dcf76a894aa70fcdb8", func := "plaquette/plaquettelaw07.FermiSigns", spec := "fermiSigns", apart := false, narrowed := true }
def FermiSignsUptoSaid : Prop := fermiSignsUptoRow.holds Try.pinned (OpenSpec.upto fermiSignsSpec)

/-- 'plaquettelaw07.FermiApplies', WHERE WHAT IT READS IS OF BULK AT MOST 1048576: true; the input reads as it did. -/
def fermiAppliesUptoRow : OpenClaim := { program := "ytopffllomiojmaa", sum := "9aff8e7934debd6e6a1e64e55370e1e8ce32cfc9b63264dcf76a894aa70fcdb8", func := "plaquette/plaquettelaw07.FermiApplies", spec := "fermiApplies", apart := false, narrowed := true }
def FermiAppliesUptoSaid : Prop := fermiAppliesUptoRow.holds Try.pinned (OpenSpec.upto fermiAppliesSpec)

/-- 'plaquettelaw07.FermiDots', WHERE WHAT IT READS IS OF BULK AT MOST 1048576: true; the input reads as it did. -/
def fermiDotsUptoRow : OpenClaim := { program := "ytopffllomiojmaa", sum := "9aff8e7934debd6e6a1e64e55370e1e8ce32cfc9b63264dcf76a894aa70fcdb8", func := "plaquette/plaquettelaw07.FermiDots", spec := "fermiDots", apart := false, narrowed := true }
def FermiDotsUptoSaid : Prop := fermiDotsUptoRow.holds Try.pinned (OpenSpec.upto fermiDotsSpec)

/-- 'plaquettelaw07.FermiBalances', WHERE WHAT IT READS IS OF BULK AT MOST 1048576: true; the input reads as it did. -/
def fermiBalancesUptoRow : OpenClaim := { program := "ytopffllomiojmaa", sum := "9aff8e7934debd6e6a1e64e55370e1e8ce32cfc9b63264dcf76a894aa70fcdb8", func := "plaquette/plaquettelaw07.FermiBalances", spec := "fermiBalances", apart := false, narrowed := true }
def FermiBalancesUptoSaid : Prop := fermiBalancesUptoRow.holds Try.pinned (OpenSpec.upto fermiBalancesSpec)

/-- 'plaquettelaw07.FermiCommutes', WHERE WHAT IT READS IS OF BULK AT MOST 1048576: true; the input reads as it did. -/
def fermiCommutesUptoRow : OpenClaim := { program := "ytopffllomiojmaa", sum := "9aff8e7934debd6e6a1e64e55370e1e8ce32cfc9b63264dcf76a894aa70fcdb8", func := "plaquette/plaquettelaw07.FermiCommutes", spec := "fermiCommutes", apart := false, narrowed := true }
def FermiCommutesUptoSaid : Prop := fermiCommutesUptoRow.holds Try.pinned (OpenSpec.upto fermiCommutesSpec)

/-- 'plaquettelaw07.FermiTurns', WHERE WHAT IT READS IS OF BULK AT MOST 1048576: true; the input reads as it did. -/
def fermiTurnsUptoRow : OpenClaim := { program := "ytopffllomiojmaa", sum := "9aff8e7934debd6e6a1e64e55370e1e8ce32cfc9b63264dcf76a894aa70fcdb8", func := "plaquette/plaquettelaw07.FermiTurns", spec := "fermiTurns", apart := false, narrowed := true }
def FermiTurnsUptoSaid : Prop := fermiTurnsUptoRow.holds Try.pinned (OpenSpec.upto fermiTurnsSpec)

/-- 'plaquettelaw07.FermiCovaries', WHERE WHAT IT READS IS OF BULK AT MOST 1048576: true; the input reads as it did. -/
def fermiCovariesUptoRow : OpenClaim := { program := "ytopffllomiojmaa", sum := "9aff8e7934debd6e6a1e64e55370e1e8ce32cfc9b63264dcf76a894aa70fcdb8", func := "plaquette/plaquettelaw07.FermiCovaries", spec := "fermiCovaries", apart := false, narrowed := true }
def FermiCovariesUptoSaid : Prop := fermiCovariesUptoRow.holds Try.pinned (OpenSpec.upto fermiCovariesSpec)

/-- 'plaquettelaw07.FermiAllows', WHERE WHAT IT READS IS OF BULK AT MOST 1048576: true; the input reads as it did. -/
def fermiAllowsUptoRow : OpenClaim := { program := "ytopffllomiojmaa", sum := "9aff8e7934debd6e6a1e64e55370e1e8ce32cfc9b63264dcf76a894aa70fcdb8", func := "plaquette/plaquettelaw07.FermiAllows", spec := "fermiAllows", apart := false, narrowed := true }
def FermiAllowsUptoSaid : Prop := fermiAllowsUptoRow.holds Try.pinned (OpenSpec.upto fermiAllowsSpec)

/-- 'plaquettelaw07.FermiResiduals', WHERE WHAT IT READS IS OF BULK AT MOST 1048576: true; the input reads as it did. -/
def fermiResidualsUptoRow : OpenClaim := { program := "ytopffllomiojmaa", sum := "9aff8e7934debd6e6a1e64e55370e1e8ce32cfc9b63264dcf76a894aa70fcdb8", func := "plaquette/plaquettelaw07.FermiResiduals", spec := "fermiResiduals", apart := false, narrowed := true }
def FermiResidualsUptoSaid : Prop := fermiResidualsUptoRow.holds Try.pinned (OpenSpec.upto fermiResidualsSpec)

/-- 'plaquettelaw07.FermiChecks', WHERE WHAT IT READS IS OF BULK AT MOST 1048576: true; the input reads as it did. -/
def fermiChecksUptoRow : OpenClaim := { program := "ytopffllomiojmaa", sum := "9aff8e7934debd6e6a1e64e55370e1e8ce32cfc9b63264dcf76a894aa70fcdb8", func := "plaquette/plaquettelaw07.FermiChecks", spec := "fermiChecks", apart := false, narrowed := true }
def FermiChecksUptoSaid : Prop := fermiChecksUptoRow.holds Try.pinned (OpenSpec.upto fermiChecksSpec)

/-- 'plaquettelaw07.FermiSolves', WHERE WHAT IT READS IS OF BULK AT MOST 1048576: true; the input reads as it did. -/
def fermiSolvesUptoRow : OpenClaim := { program := "ytopffllomiojmaa", sum := "9aff8e7934debd6e6a1e64e55370e1e8ce32cfc9b63264dcf76a894aa70fcdb8", func := "plaquette/plaquettelaw07.FermiSolves", spec := "fermiSolves", unfollowed := true, recurses := true, apart := false, narrowed := true }
def FermiSolvesUptoSaid : Prop := fermiSolvesUptoRow.holds Try.pinned (OpenSpec.upto fermiSolvesSpec)

/-- 'plaquettelaw07.FermiNear', WHERE WHAT IT READS IS OF BULK AT MOST 1048576: true; the input reads as it did. -/
def fermiNearUptoRow : OpenClaim := { program := "ytopffllomiojmaa", sum := "9aff8e7934debd6e6a1e64e55370e1e8ce32cfc9b63264dcf76a894aa70fcdb8", func := "plaquette/plaquettelaw07.FermiNear", spec := "fermiNear", apart := false, narrowed := true }
def FermiNearUptoSaid : Prop := fermiNearUptoRow.holds Try.pinned (OpenSpec.upto fermiNearSpec)

/-- 'plaquettetop.TopResiduals', WHERE WHAT IT READS IS OF BULK AT MOST 1048576: true; the input reads as it did. -/
def topResidualsUptoRow : OpenClaim := { program := "ytopffllomiojmaa", sum := "9aff8e7934debd6e6a1e64e55370e1e8ce32cfc9b63264dcf76a894aa70fcdb8", func := "plaquette/plaquettetop.TopResiduals", spec := "topResiduals", unfollowed := true, recurses := true, apart := false, narrowed := true }
def TopResidualsUptoSaid : Prop := topResidualsUptoRow.holds Try.pinned (OpenSpec.upto topResidualsSpec)

end Rows
end Go.Proofs.Ytopffllomiojmaa
