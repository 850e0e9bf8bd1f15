/-
  No cell of these rows narrows 'for every input' (looked for: loops, veiled, ifaces, maps, wideKeys, modest, calm, conditions, laid).
  DERIVED. THE GIVEN ROWS OF THIS SEAT. 6 by the template 'for every input the law returns true; each argument reads behind the call as it read before'; 0 by the template 'total and deterministic' (their statements: YtojmagooapjohaaTotals.lean).
  GIVEN WITH THE SEED: the statements are not yours to turn. If you find one false, say at which input.
  Laid BY PROGRAM, IN A SANDBOX (cutbox-rows.mjs): the forced cells as the released guide's own fill.sh prints them over the translation c151dc5357314c98… (all of the seat's roots in one cut). By AI agents, Wed Nov 11 2026. No macro, syntax, notation, axiom, sorry.
-/
import Derived.Test.YtojmagooapjohaaChecked
import GoSem.Claim
import GoSem.ClaimJoined
import GoSem.ClaimMapViews
import Derived.JoinedTies
import Derived.KernelRfl
namespace Go.Proofs.Ytojmagooapjohaa
/- THE CELL 'sum', in the pinned program and in every row, IS THE sha256 OF THE DUMP (.gsa) THAT YtojmagooapjohaaProg.lean LOADS. Nothing in Lean hashes anything: it is a label: what it is worth is what the hold of that sum in a sandbox is worth. -/
noncomputable def Try.pinned : Pinned := { name := "ytojmagooapjohaa", sum := "c151dc5357314c98e51b9e3d5a578ea860dce34c8616b9306c67a97578a4c572", checked := Try.checked }
namespace Rows
def none {H : Type} : Left H := { results := [], args := [] }

/-- 'plaquettelaw04.GaugeOrbits': WHATEVER THE INPUT: true; the input reads as it did. -/
def gaugeOrbitsSpec : ChangeSpec := { name := "gaugeOrbits", fn := fun _ => fun
  | [d1, d2] => { results := [.lit (.bool true)], args := [d1, d2] }
  | _ => none }
def gaugeOrbitsRow : OpenClaim := { program := "ytojmagooapjohaa", sum := "c151dc5357314c98e51b9e3d5a578ea860dce34c8616b9306c67a97578a4c572", func := "plaquette/plaquettelaw04.GaugeOrbits", spec := "gaugeOrbits", unfollowed := true, recurses := true, apart := false }
def GaugeOrbitsSaid : Prop := gaugeOrbitsRow.holds Try.pinned (OpenSpec.ofChange gaugeOrbitsSpec)

/-- ITS FALSE NEIGHBOUR: 'it returns false'. Refute it at one input. -/
def gaugeOrbitsWrong : ChangeSpec := { name := "gaugeOrbits", fn := fun _ => fun
  | [d1, d2] => { results := [.lit (.bool false)], args := [d1, d2] }
  | _ => none }
def GaugeOrbitsWrongFalsely : Prop := gaugeOrbitsRow.holds Try.pinned (OpenSpec.ofChange gaugeOrbitsWrong)

/-- 'plaquettelaw04.GaugeEqual': WHATEVER THE INPUT: true; the input reads as it did. -/
def gaugeEqualSpec : ChangeSpec := { name := "gaugeEqual", fn := fun _ => fun
  | [d1, d2, d3] => { results := [.lit (.bool true)], args := [d1, d2, d3] }
  | _ => none }
def gaugeEqualRow : OpenClaim := { program := "ytojmagooapjohaa", sum := "c151dc5357314c98e51b9e3d5a578ea860dce34c8616b9306c67a97578a4c572", func := "plaquette/plaquettelaw04.GaugeEqual", spec := "gaugeEqual", unfollowed := true, recurses := true, apart := false }
def GaugeEqualSaid : Prop := gaugeEqualRow.holds Try.pinned (OpenSpec.ofChange gaugeEqualSpec)

/-- ITS FALSE NEIGHBOUR: 'it returns false'. Refute it at one input. -/
def gaugeEqualWrong : ChangeSpec := { name := "gaugeEqual", fn := fun _ => fun
  | [d1, d2, d3] => { results := [.lit (.bool false)], args := [d1, d2, d3] }
  | _ => none }
def GaugeEqualWrongFalsely : Prop := gaugeEqualRow.holds Try.pinned (OpenSpec.ofChange gaugeEqualWrong)

/-- 'plaquettelaw07.FermiCovaries': WHATEVER THE INPUT: true; the input reads as it did. -/
def fermiCovariesSpec : ChangeSpec := { name := "fermiCovaries", fn := fun _ => fun
  | [d1, d2, d3] => { results := [.lit (.bool true)], args := [d1, d2, d3] }
  | _ => none }
def fermiCovariesRow : OpenClaim := { program := "ytojmagooapjohaa", sum := "c151dc5357314c98e51b9e3d5a578ea860dce34c8616b9306c67a97578a4c572", func := "plaquette/plaquettelaw07.FermiCovaries", spec := "fermiCovaries", apart := false }
def FermiCovariesSaid : Prop := fermiCovariesRow.holds Try.pinned (OpenSpec.ofChange fermiCovariesSpec)

/-- ITS FALSE NEIGHBOUR: 'it returns false'. Refute it at one input. -/
def fermiCovariesWrong : ChangeSpec := { name := "fermiCovaries", fn := fun _ => fun
  | [d1, d2, d3] => { results := [.lit (.bool false)], args := [d1, d2, d3] }
  | _ => none }
def FermiCovariesWrongFalsely : Prop := fermiCovariesRow.holds Try.pinned (OpenSpec.ofChange fermiCovariesWrong)

/-- 'plaquettelaw07.FermiSolves': WHATEVER THE INPUT: true; the input reads as it did. -/
def fermiSolvesSpec : ChangeSpec := { name := "fermiSolves", fn := fun _ => fun
  | [d1, d2, d3] => { results := [.lit (.bool true)], args := [d1, d2, d3] }
  | _ => none }
def fermiSolvesRow : OpenClaim := { program := "ytojmagooapjohaa", sum := "c151dc5357314c98e51b9e3d5a578ea860dce34c8616b9306c67a97578a4c572", func := "plaquette/plaquettelaw07.FermiSolves", spec := "fermiSolves", unfollowed := true, recurses := true, apart := false }
def FermiSolvesSaid : Prop := fermiSolvesRow.holds Try.pinned (OpenSpec.ofChange fermiSolvesSpec)

/-- ITS FALSE NEIGHBOUR: 'it returns false'. Refute it at one input. -/
def fermiSolvesWrong : ChangeSpec := { name := "fermiSolves", fn := fun _ => fun
  | [d1, d2, d3] => { results := [.lit (.bool false)], args := [d1, d2, d3] }
  | _ => none }
def FermiSolvesWrongFalsely : Prop := fermiSolvesRow.holds Try.pinned (OpenSpec.ofChange fermiSolvesWrong)

/-- 'plaquettetop.TopGauge': WHATEVER THE INPUT: true; the input reads as it did. -/
def topGaugeSpec : ChangeSpec := { name := "topGauge", fn := fun _ => fun
  | [d1, d2, d3] => { results := [.lit (.bool true)], args := [d1, d2, d3] }
  | _ => none }
def topGaugeRow : OpenClaim := { program := "ytojmagooapjohaa", sum := "c151dc5357314c98e51b9e3d5a578ea860dce34c8616b9306c67a97578a4c572", func := "plaquette/plaquettetop.TopGauge", spec := "topGauge", unfollowed := true, recurses := true, apart := false }
def TopGaugeSaid : Prop := topGaugeRow.holds Try.pinned (OpenSpec.ofChange topGaugeSpec)

/-- ITS FALSE NEIGHBOUR: 'it returns false'. Refute it at one input. -/
def topGaugeWrong : ChangeSpec := { name := "topGauge", fn := fun _ => fun
  | [d1, d2, d3] => { results := [.lit (.bool false)], args := [d1, d2, d3] }
  | _ => none }
def TopGaugeWrongFalsely : Prop := topGaugeRow.holds Try.pinned (OpenSpec.ofChange topGaugeWrong)

/-- 'plaquettetop.TopResiduals': WHATEVER THE INPUT: true; the input reads as it did. -/
def topResidualsSpec : ChangeSpec := { name := "topResiduals", fn := fun _ => fun
  | [d1, d2, d3] => { results := [.lit (.bool true)], args := [d1, d2, d3] }
  | _ => none }
def topResidualsRow : OpenClaim := { program := "ytojmagooapjohaa", sum := "c151dc5357314c98e51b9e3d5a578ea860dce34c8616b9306c67a97578a4c572", func := "plaquette/plaquettetop.TopResiduals", spec := "topResiduals", unfollowed := true, recurses := true, apart := false }
def TopResidualsSaid : Prop := topResidualsRow.holds Try.pinned (OpenSpec.ofChange topResidualsSpec)

/-- ITS FALSE NEIGHBOUR: 'it returns false'. Refute it at one input. -/
def topResidualsWrong : ChangeSpec := { name := "topResiduals", fn := fun _ => fun
  | [d1, d2, d3] => { results := [.lit (.bool false)], args := [d1, d2, d3] }
  | _ => none }
def TopResidualsWrongFalsely : Prop := topResidualsRow.holds Try.pinned (OpenSpec.ofChange topResidualsWrong)

/- THE SECOND FORM. 'bulk': how many values and letters a reading holds, each counted each time it is reached (what is shared counts as often as it is met; a slice's spare places count too). A statement '..UptoSaid' is the law's where the arguments, and the package variables that the reading takes, are together of bulk at most 1048576: NARROWER than '..Said'. Prove '..Said' where nothing that the law and all that it calls make is longer than what came in: it says more and counts as full. Else prove '..UptoSaid'. A law counts once. -/
mutual
def uptoBulk {H : Type} : DataW H → Nat
  | .lit (.string bytes) => bytes.length + 1
  | .lit _ => 1
  | .nil => 1
  | .ptr d => uptoBulk d + 1
  | .slice elems spare => uptoBulkAll elems + uptoBulkAll spare + 1
  | .agg parts => uptoBulkAll parts + 1
  | .iface _ d => uptoBulk d + 1
  | .map entries => uptoBulkEntries entries + 1
  | .held _ => 1
def uptoBulkAll {H : Type} : List (DataW H) → Nat
  | [] => 0
  | d :: r => uptoBulk d + uptoBulkAll r
def uptoBulkEntries {H : Type} : List (Lit × DataW H) → Nat
  | [] => 0
  | x :: r => uptoBulkEntry x + uptoBulkEntries r
def uptoBulkEntry {H : Type} : Lit × DataW H → Nat
  | (.string bytes, d) => bytes.length + uptoBulk d + 1
  | (_, d) => uptoBulk d + 1
 end
def uptoSmall : (H : Type) → List (DataW H) → Bool := fun _ ds => decide (uptoBulkAll ds ≤ 1048576)
def OpenSpec.upto (s : _root_.Go.ChangeSpec) : _root_.Go.OpenSpec := { _root_.Go.OpenSpec.ofChange s with cond := some uptoSmall }

/-- 'plaquettelaw04.GaugeOrbits', WHERE WHAT IT READS IS OF BULK AT MOST 1048576: true; the input reads as it did. -/
def gaugeOrbitsUptoRow : OpenClaim := { program := "ytojmagooapjohaa", sum := "c151dc5357314c98e51b9e3d5a578ea860dce34c8616b9306c67a97578a4c572", func := "plaquette/plaquettelaw04.GaugeOrbits", spec := "gaugeOrbits", unfollowed := true, recurses := true, apart := false, narrowed := true }
def GaugeOrbitsUptoSaid : Prop := gaugeOrbitsUptoRow.holds Try.pinned (OpenSpec.upto gaugeOrbitsSpec)

/-- 'plaquettelaw04.GaugeEqual', WHERE WHAT IT READS IS OF BULK AT MOST 1048576: true; the input reads as it did. -/
def gaugeEqualUptoRow : OpenClaim := { program := "ytojmagooapjohaa", sum := "c151dc5357314c98e51b9e3d5a578ea860dce34c8616b9306c67a97578a4c572", func := "plaquette/plaquettelaw04.GaugeEqual", spec := "gaugeEqual", unfollowed := true, recurses := true, apart := false, narrowed := true }
def GaugeEqualUptoSaid : Prop := gaugeEqualUptoRow.holds Try.pinned (OpenSpec.upto gaugeEqualSpec)

/-- 'plaquettelaw07.FermiCovaries', WHERE WHAT IT READS IS OF BULK AT MOST 1048576: true; the input reads as it did. -/
def fermiCovariesUptoRow : OpenClaim := { program := "ytojmagooapjohaa", sum := "c151dc5357314c98e51b9e3d5a578ea860dce34c8616b9306c67a97578a4c572", func := "plaquette/plaquettelaw07.FermiCovaries", spec := "fermiCovaries", apart := false, narrowed := true }
def FermiCovariesUptoSaid : Prop := fermiCovariesUptoRow.holds Try.pinned (OpenSpec.upto fermiCovariesSpec)

/-- 'plaquettelaw07.FermiSolves', WHERE WHAT IT READS IS OF BULK AT MOST 1048576: true; the input reads as it did. -/
def fermiSolvesUptoRow : OpenClaim := { program := "ytojmagooapjohaa", sum := "c151dc5357314c98e51b9e3d5a578ea860dce34c8616b9306c67a97578a4c572", func := "plaquette/plaquettelaw07.FermiSolves", spec := "fermiSolves", unfollowed := true, recurses := true, apart := false, narrowed := true }
def FermiSolvesUptoSaid : Prop := fermiSolvesUptoRow.holds Try.pinned (OpenSpec.upto fermiSolvesSpec)

/-- 'plaquettetop.TopGauge', WHERE WHAT IT READS IS OF BULK AT MOST 1048576: true; the input reads as it did. -/
def topGaugeUptoRow : OpenClaim := { program := "ytojmagooapjohaa", sum := "c151dc5357314c98e51b9e3d5a578ea860dce34c8616b9306c67a97578a4c572", func := "plaquette/plaquettetop.TopGauge", spec := "topGauge", unfollowed := true, recurses := true, apart := false, narrowed := true }
def TopGaugeUptoSaid : Prop := topGaugeUptoRow.holds Try.pinned (OpenSpec.upto topGaugeSpec)

/-- 'plaquettetop.TopResiduals', WHERE WHAT IT READS IS OF BULK AT MOST 1048576: true; the input reads as it did. -/
def topResidualsUptoRow : OpenClaim := { program := "ytojmagooapjohaa", sum := "c151dc5357314c98e51b9e3d5a578ea860dce34c8616b9306c67a97578a4c572", func := "plaquette/plaquettetop.TopResiduals", spec := "topResiduals", unfollowed := true, recurses := true, apart := false, narrowed := true }
def TopResidualsUptoSaid : Prop := topResidualsUptoRow.holds Try.pinned (OpenSpec.upto topResidualsSpec)

end Rows
end Go.Proofs.Ytojmagooapjohaa
