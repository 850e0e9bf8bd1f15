/-
  No cell of these rows narrows 'for every input' (looked for: loops, veiled, ifaces, maps, wideKeys, modest, calm, conditions, laid).
  DERIVED. THE GIVEN ROWS OF THIS SEAT. 10 by the template 'for every input the law returns true; each argument reads behind the call as it read before'; 0 by the template 'total and deterministic' (their statements: YtegeamfacajeeaaTotals.lean).
  GIVEN WITH THE SEED: the statements are not yours to turn. If you find one false, say at which input.
  Laid BY PROGRAM, IN A SANDBOX (cutbox-rows.mjs): the forced cells as the released guide's own fill.sh prints them over the translation 113d55d9150d35ad… (all of the seat's roots in one cut). By AI agents, Wed Nov 11 2026. No macro, syntax, notation, axiom, sorry.
-/
import Derived.Test.YtegeamfacajeeaaChecked
import GoSem.Claim
import GoSem.ClaimJoined
import GoSem.ClaimMapViews
import Derived.JoinedTies
import Derived.KernelRfl
namespace Go.Proofs.Ytegeamfacajeeaa
/- THE CELL 'sum', in the pinned program and in every row, IS THE sha256 OF THE DUMP (.gsa) THAT YtegeamfacajeeaaProg.lean LOADS. Nothing in Lean hashes anything: it is a label: what it is worth is what the hold of that sum in a sandbox is worth. -/
noncomputable def Try.pinned : Pinned := { name := "ytegeamfacajeeaa", sum := "113d55d9150d35ad1947c119997e5421ff06b3b4f9b91fe715ae30f33e4b0a8a", checked := Try.checked }
namespace Rows
def none {H : Type} : Left H := { results := [], args := [] }

/-- 'plaquettelaw04.GaugeValidates': WHATEVER THE INPUT: true; the input reads as it did. -/
def gaugeValidatesSpec : ChangeSpec := { name := "gaugeValidates", fn := fun _ => fun
  | [d1, d2] => { results := [.lit (.bool true)], args := [d1, d2] }
  | _ => none }
def gaugeValidatesRow : OpenClaim := { program := "ytegeamfacajeeaa", sum := "113d55d9150d35ad1947c119997e5421ff06b3b4f9b91fe715ae30f33e4b0a8a", func := "plaquette/plaquettelaw04.GaugeValidates", spec := "gaugeValidates", unfollowed := true, recurses := true, apart := false }
def GaugeValidatesSaid : Prop := gaugeValidatesRow.holds Try.pinned (OpenSpec.ofChange gaugeValidatesSpec)

/-- ITS FALSE NEIGHBOUR: 'it returns false'. Refute it at one input. -/
def gaugeValidatesWrong : ChangeSpec := { name := "gaugeValidates", fn := fun _ => fun
  | [d1, d2] => { results := [.lit (.bool false)], args := [d1, d2] }
  | _ => none }
def GaugeValidatesWrongFalsely : Prop := gaugeValidatesRow.holds Try.pinned (OpenSpec.ofChange gaugeValidatesWrong)

/-- 'plaquettelaw04.GaugeTransforms': WHATEVER THE INPUT: true; the input reads as it did. -/
def gaugeTransformsSpec : ChangeSpec := { name := "gaugeTransforms", fn := fun _ => fun
  | [d1, d2] => { results := [.lit (.bool true)], args := [d1, d2] }
  | _ => none }
def gaugeTransformsRow : OpenClaim := { program := "ytegeamfacajeeaa", sum := "113d55d9150d35ad1947c119997e5421ff06b3b4f9b91fe715ae30f33e4b0a8a", func := "plaquette/plaquettelaw04.GaugeTransforms", spec := "gaugeTransforms", unfollowed := true, recurses := true, apart := false }
def GaugeTransformsSaid : Prop := gaugeTransformsRow.holds Try.pinned (OpenSpec.ofChange gaugeTransformsSpec)

/-- ITS FALSE NEIGHBOUR: 'it returns false'. Refute it at one input. -/
def gaugeTransformsWrong : ChangeSpec := { name := "gaugeTransforms", fn := fun _ => fun
  | [d1, d2] => { results := [.lit (.bool false)], args := [d1, d2] }
  | _ => none }
def GaugeTransformsWrongFalsely : Prop := gaugeTransformsRow.holds Try.pinned (OpenSpec.ofChange gaugeTransformsWrong)

/-- 'plaquettelaw04.GaugeTraces': WHATEVER THE INPUT: true; the input reads as it did. -/
def gaugeTracesSpec : ChangeSpec := { name := "gaugeTraces", fn := fun _ => fun
  | [d1, d2, d3] => { results := [.lit (.bool true)], args := [d1, d2, d3] }
  | _ => none }
def gaugeTracesRow : OpenClaim := { program := "ytegeamfacajeeaa", sum := "113d55d9150d35ad1947c119997e5421ff06b3b4f9b91fe715ae30f33e4b0a8a", func := "plaquette/plaquettelaw04.GaugeTraces", spec := "gaugeTraces", unfollowed := true, recurses := true, apart := false }
def GaugeTracesSaid : Prop := gaugeTracesRow.holds Try.pinned (OpenSpec.ofChange gaugeTracesSpec)

/-- ITS FALSE NEIGHBOUR: 'it returns false'. Refute it at one input. -/
def gaugeTracesWrong : ChangeSpec := { name := "gaugeTraces", fn := fun _ => fun
  | [d1, d2, d3] => { results := [.lit (.bool false)], args := [d1, d2, d3] }
  | _ => none }
def GaugeTracesWrongFalsely : Prop := gaugeTracesRow.holds Try.pinned (OpenSpec.ofChange gaugeTracesWrong)

/-- 'plaquettelaw04.GaugeComposes': WHATEVER THE INPUT: true; the input reads as it did. -/
def gaugeComposesSpec : ChangeSpec := { name := "gaugeComposes", fn := fun _ => fun
  | [d1, d2, d3] => { results := [.lit (.bool true)], args := [d1, d2, d3] }
  | _ => none }
def gaugeComposesRow : OpenClaim := { program := "ytegeamfacajeeaa", sum := "113d55d9150d35ad1947c119997e5421ff06b3b4f9b91fe715ae30f33e4b0a8a", func := "plaquette/plaquettelaw04.GaugeComposes", spec := "gaugeComposes", unfollowed := true, recurses := true, apart := false }
def GaugeComposesSaid : Prop := gaugeComposesRow.holds Try.pinned (OpenSpec.ofChange gaugeComposesSpec)

/-- ITS FALSE NEIGHBOUR: 'it returns false'. Refute it at one input. -/
def gaugeComposesWrong : ChangeSpec := { name := "gaugeComposes", fn := fun _ => fun
  | [d1, d2, d3] => { results := [.lit (.bool false)], args := [d1, d2, d3] }
  | _ => none }
def GaugeComposesWrongFalsely : Prop := gaugeComposesRow.holds Try.pinned (OpenSpec.ofChange gaugeComposesWrong)

/-- 'plaquettelaw04.GaugeLoops': WHATEVER THE INPUT: true; the input reads as it did. -/
def gaugeLoopsSpec : ChangeSpec := { name := "gaugeLoops", fn := fun _ => fun
  | [d] => { results := [.lit (.bool true)], args := [d] }
  | _ => none }
def gaugeLoopsRow : OpenClaim := { program := "ytegeamfacajeeaa", sum := "113d55d9150d35ad1947c119997e5421ff06b3b4f9b91fe715ae30f33e4b0a8a", func := "plaquette/plaquettelaw04.GaugeLoops", spec := "gaugeLoops", unfollowed := true, recurses := true, apart := false }
def GaugeLoopsSaid : Prop := gaugeLoopsRow.holds Try.pinned (OpenSpec.ofChange gaugeLoopsSpec)

/-- ITS FALSE NEIGHBOUR: 'it returns false'. Refute it at one input. -/
def gaugeLoopsWrong : ChangeSpec := { name := "gaugeLoops", fn := fun _ => fun
  | [d] => { results := [.lit (.bool false)], args := [d] }
  | _ => none }
def GaugeLoopsWrongFalsely : Prop := gaugeLoopsRow.holds Try.pinned (OpenSpec.ofChange gaugeLoopsWrong)

/-- 'plaquettelaw04.GaugeFixes': WHATEVER THE INPUT: true; the input reads as it did. -/
def gaugeFixesSpec : ChangeSpec := { name := "gaugeFixes", fn := fun _ => fun
  | [d] => { results := [.lit (.bool true)], args := [d] }
  | _ => none }
def gaugeFixesRow : OpenClaim := { program := "ytegeamfacajeeaa", sum := "113d55d9150d35ad1947c119997e5421ff06b3b4f9b91fe715ae30f33e4b0a8a", func := "plaquette/plaquettelaw04.GaugeFixes", spec := "gaugeFixes", unfollowed := true, recurses := true, apart := false }
def GaugeFixesSaid : Prop := gaugeFixesRow.holds Try.pinned (OpenSpec.ofChange gaugeFixesSpec)

/-- ITS FALSE NEIGHBOUR: 'it returns false'. Refute it at one input. -/
def gaugeFixesWrong : ChangeSpec := { name := "gaugeFixes", fn := fun _ => fun
  | [d] => { results := [.lit (.bool false)], args := [d] }
  | _ => none }
def GaugeFixesWrongFalsely : Prop := gaugeFixesRow.holds Try.pinned (OpenSpec.ofChange gaugeFixesWrong)

/-- 'plaquettelaw04.GaugeOrbits': WHATEVER THE INPUT: true; the input reads as it did. -/
def gaugeOrbitsSpec : ChangeSpec := { name := "gaugeOrbits", fn := fun _ => fun
  | [d1, d2] => { results := [.lit (.bool true)], args := [d1, d2] }
  | _ => none }
def gaugeOrbitsRow : OpenClaim := { program := "ytegeamfacajeeaa", sum := "113d55d9150d35ad1947c119997e5421ff06b3b4f9b91fe715ae30f33e4b0a8a", func := "plaquette/plaquettelaw04.GaugeOrbits", spec := "gaugeOrbits", unfollowed := true, recurses := true, apart := false }
def GaugeOrbitsSaid : Prop := gaugeOrbitsRow.holds Try.pinned (OpenSpec.ofChange gaugeOrbitsSpec)

/-- ITS FALSE NEIGHBOUR: 'it returns false'. Refute it at one input. -/
def gaugeOrbitsWrong : ChangeSpec := { name := "gaugeOrbits", fn := fun _ => fun
  | [d1, d2] => { results := [.lit (.bool false)], args := [d1, d2] }
  | _ => none }
def GaugeOrbitsWrongFalsely : Prop := gaugeOrbitsRow.holds Try.pinned (OpenSpec.ofChange gaugeOrbitsWrong)

/-- 'plaquettelaw04.GaugeChecks': WHATEVER THE INPUT: true; the input reads as it did. -/
def gaugeChecksSpec : ChangeSpec := { name := "gaugeChecks", fn := fun _ => fun
  | [d1, d2, d3] => { results := [.lit (.bool true)], args := [d1, d2, d3] }
  | _ => none }
def gaugeChecksRow : OpenClaim := { program := "ytegeamfacajeeaa", sum := "113d55d9150d35ad1947c119997e5421ff06b3b4f9b91fe715ae30f33e4b0a8a", func := "plaquette/plaquettelaw04.GaugeChecks", spec := "gaugeChecks", unfollowed := true, recurses := true, apart := false }
def GaugeChecksSaid : Prop := gaugeChecksRow.holds Try.pinned (OpenSpec.ofChange gaugeChecksSpec)

/-- ITS FALSE NEIGHBOUR: 'it returns false'. Refute it at one input. -/
def gaugeChecksWrong : ChangeSpec := { name := "gaugeChecks", fn := fun _ => fun
  | [d1, d2, d3] => { results := [.lit (.bool false)], args := [d1, d2, d3] }
  | _ => none }
def GaugeChecksWrongFalsely : Prop := gaugeChecksRow.holds Try.pinned (OpenSpec.ofChange gaugeChecksWrong)

/-- 'plaquettelaw04.GaugeEqual': WHATEVER THE INPUT: true; the input reads as it did. -/
def gaugeEqualSpec : ChangeSpec := { name := "gaugeEqual", fn := fun _ => fun
  | [d1, d2, d3] => { results := [.lit (.bool true)], args := [d1, d2, d3] }
  | _ => none }
def gaugeEqualRow : OpenClaim := { program := "ytegeamfacajeeaa", sum := "113d55d9150d35ad1947c119997e5421ff06b3b4f9b91fe715ae30f33e4b0a8a", func := "plaquette/plaquettelaw04.GaugeEqual", spec := "gaugeEqual", unfollowed := true, recurses := true, apart := false }
def GaugeEqualSaid : Prop := gaugeEqualRow.holds Try.pinned (OpenSpec.ofChange gaugeEqualSpec)

/-- ITS FALSE NEIGHBOUR: 'it returns false'. Refute it at one input. -/
def gaugeEqualWrong : ChangeSpec := { name := "gaugeEqual", fn := fun _ => fun
  | [d1, d2, d3] => { results := [.lit (.bool false)], args := [d1, d2, d3] }
  | _ => none }
def GaugeEqualWrongFalsely : Prop := gaugeEqualRow.holds Try.pinned (OpenSpec.ofChange gaugeEqualWrong)

/-- 'plaquettetop.TopGauge': WHATEVER THE INPUT: true; the input reads as it did. -/
def topGaugeSpec : ChangeSpec := { name := "topGauge", fn := fun _ => fun
  | [d1, d2, d3] => { results := [.lit (.bool true)], args := [d1, d2, d3] }
  | _ => none }
def topGaugeRow : OpenClaim := { program := "ytegeamfacajeeaa", sum := "113d55d9150d35ad1947c119997e5421ff06b3b4f9b91fe715ae30f33e4b0a8a", func := "plaquette/plaquettetop.TopGauge", spec := "topGauge", unfollowed := true, recurses := true, apart := false }
def TopGaugeSaid : Prop := topGaugeRow.holds Try.pinned (OpenSpec.ofChange topGaugeSpec)

/-- ITS FALSE NEIGHBOUR: 'it returns false'. Refute it at one input. -/
def topGaugeWrong : ChangeSpec := { name := "topGauge", fn := fun _ => fun
  | [d1, d2, d3] => { results := [.lit (.bool false)], args := [d1, d2, d3] }
  | _ => none }
def TopGaugeWrongFalsely : Prop := topGaugeRow.holds Try.pinned (OpenSpec.ofChange topGaugeWrong)

/- THE SECOND FORM. 'bulk': how many values and letters a reading holds, each counted each time it is reached (what is shared counts as often as it is met; a slice's spare places count too). A statement '..UptoSaid' is the law's where the arguments, and the package variables that the reading takes, are together of bulk at most 1048576: NARROWER than '..Said'. Prove '..Said' where nothing that the law and all that it calls make is longer than what came in: it says more and counts as full. Else prove '..UptoSaid'. A law counts once. -/
mutual
def uptoBulk {H : Type} : DataW H → Nat
  | .lit (.string bytes) => bytes.length + 1
  | .lit _ => 1
  | .nil => 1
  | .ptr d => uptoBulk d + 1
  | .slice elems spare => uptoBulkAll elems + uptoBulkAll spare + 1
  | .agg parts => uptoBulkAll parts + 1
  | .iface _ d => uptoBulk d + 1
  | .map entries => uptoBulkEntries entries + 1
  | .held _ => 1
def uptoBulkAll {H : Type} : List (DataW H) → Nat
  | [] => 0
  | d :: r => uptoBulk d + uptoBulkAll r
def uptoBulkEntries {H : Type} : List (Lit × DataW H) → Nat
  | [] => 0
  | x :: r => uptoBulkEntry x + uptoBulkEntries r
def uptoBulkEntry {H : Type} : Lit × DataW H → Nat
  | (.string bytes, d) => bytes.length + uptoBulk d + 1
  | (_, d) => uptoBulk d + 1
 end
def uptoSmall : (H : Type) → List (DataW H) → Bool := fun _ ds => decide (uptoBulkAll ds ≤ 1048576)
def OpenSpec.upto (s : _root_.Go.ChangeSpec) : _root_.Go.OpenSpec := { _root_.Go.OpenSpec.ofChange s with cond := some uptoSmall }

/-- 'plaquettelaw04.GaugeValidates', WHERE WHAT IT READS IS OF BULK AT MOST 1048576: true; the input reads as it did. -/
def gaugeValidatesUptoRow : OpenClaim := { program := "ytegeamfacajeeaa", sum := "113d55d9150d35ad1947c119997e5421ff06b3b4f9b91fe715ae30f33e4b0a8a", func := "plaquette/plaquettelaw04.GaugeValidates", spec := "gaugeValidates", unfollowed := true, recurses := true, apart := false, narrowed := true }
def GaugeValidatesUptoSaid : Prop := gaugeValidatesUptoRow.holds Try.pinned (OpenSpec.upto gaugeValidatesSpec)

/-- 'plaquettelaw04.GaugeTransforms', WHERE WHAT IT READS IS OF BULK AT MOST 1048576: true; the input reads as it did. -/
def gaugeTransformsUptoRow : OpenClaim := { program := "ytegeamfacajeeaa", sum := "113d55d9150d35ad1947c119997e5421ff06b3b4f9b91fe715ae30f33e4b0a8a", func := "plaquette/plaquettelaw04.GaugeTransforms", spec := "gaugeTransforms", unfollowed := true, recurses := true, apart := false, narrowed := true }
def GaugeTransformsUptoSaid : Prop := gaugeTransformsUptoRow.holds Try.pinned (OpenSpec.upto gaugeTransformsSpec)

/-- 'plaquettelaw04.GaugeTraces', WHERE WHAT IT READS IS OF BULK AT MOST 1048576: true; the input reads as it did. -/
def gaugeTracesUptoRow : OpenClaim := { program := "ytegeamfacajeeaa", sum := "113d55d9150d35ad1947c119997e5421ff06b3b4f9b91fe715ae30f33e4b0a8a", func := "plaquette/plaquettelaw04.GaugeTraces", spec := "gaugeTraces", unfollowed := true, recurses := true, apart := false, narrowed := true }
def GaugeTracesUptoSaid : Prop := gaugeTracesUptoRow.holds Try.pinned (OpenSpec.upto gaugeTracesSpec)

/-- 'plaquettelaw04.GaugeComposes', WHERE WHAT IT READS IS OF BULK AT MOST 1048576: true; the input reads as it did. -/
def gaugeComposesUptoRow : OpenClaim := { program := "ytegeamfacajeeaa", sum := "113d55d9150d35ad1947c119997e5421ff06b3b4f9b91fe715ae30f33e4b0a8a", func := "plaquette/plaquettelaw04.GaugeComposes", spec := "gaugeComposes", unfollowed := true, recurses := true, apart := false, narrowed := true }
def GaugeComposesUptoSaid : Prop := gaugeComposesUptoRow.holds Try.pinned (OpenSpec.upto gaugeComposesSpec)

/-- 'plaquettelaw04.GaugeLoops', WHERE WHAT IT READS IS OF BULK AT MOST 1048576: true; the input reads as it did. -/
def gaugeLoopsUptoRow : OpenClaim := { program := "ytegeamfacajeeaa", sum := "113d55d9150d35ad1947c119997e5421ff06b3b4f9b91fe715ae30f33e4b0a8a", func := "plaquette/plaquettelaw04.GaugeLoops", spec := "gaugeLoops", unfollowed := true, recurses := true, apart := false, narrowed := true }
def GaugeLoopsUptoSaid : Prop := gaugeLoopsUptoRow.holds Try.pinned (OpenSpec.upto gaugeLoopsSpec)

/-- 'plaquettelaw04.GaugeFixes', WHERE WHAT IT READS IS OF BULK AT MOST 1048576: true; the input reads as it did. -/
def gaugeFixesUptoRow : OpenClaim := { program := "ytegeamfacajeeaa", sum := "113d55d9150d35ad1947c119997e5421ff06b3b4f9b91fe715ae30f33e4b0a8a", func := "plaquette/plaquettelaw04.GaugeFixes", spec := "gaugeFixes", unfollowed := true, recurses := true, apart := false, narrowed := true }
def GaugeFixesUptoSaid : Prop := gaugeFixesUptoRow.holds Try.pinned (OpenSpec.upto gaugeFixesSpec)

/-- 'plaquettelaw04.GaugeOrbits', WHERE WHAT IT READS IS OF BULK AT MOST 1048576: true; the input reads as it did. -/
def gaugeOrbitsUptoRow : OpenClaim := { program := "ytegeamfacajeeaa", sum := "113d55d9150d35ad1947c119997e5421ff06b3b4f9b91fe715ae30f33e4b0a8a", func := "plaquette/plaquettelaw04.GaugeOrbits", spec := "gaugeOrbits", unfollowed := true, recurses := true, apart := false, narrowed := true }
def GaugeOrbitsUptoSaid : Prop := gaugeOrbitsUptoRow.holds Try.pinned (OpenSpec.upto gaugeOrbitsSpec)

/-- 'plaquettelaw04.GaugeChecks', WHERE WHAT IT READS IS OF BULK AT MOST 1048576: true; the input reads as it did. -/
def gaugeChecksUptoRow : OpenClaim := { program := "ytegeamfacajeeaa", sum := "113d55d9150d35ad1947c119997e5421ff06b3b4f9b91fe715ae30f33e4b0a8a", func := "plaquette/plaquettelaw04.GaugeChecks", spec := "gaugeChecks", unfollowed := true, recurses := true, apart := false, narrowed := true }
def GaugeChecksUptoSaid : Prop := gaugeChecksUptoRow.holds Try.pinned (OpenSpec.upto gaugeChecksSpec)

/-- 'plaquettelaw04.GaugeEqual', WHERE WHAT IT READS IS OF BULK AT MOST 1048576: true; the input reads as it did. -/
def gaugeEqualUptoRow : OpenClaim := { program := "ytegeamfacajeeaa", sum := "113d55d9150d35ad1947c119997e5421ff06b3b4f9b91fe715ae30f33e4b0a8a", func := "plaquette/plaquettelaw04.GaugeEqual", spec := "gaugeEqual", unfollowed := true, recurses := true, apart := false, narrowed := true }
def GaugeEqualUptoSaid : Prop := gaugeEqualUptoRow.holds Try.pinned (OpenSpec.upto gaugeEqualSpec)

/-- 'plaquettetop.TopGauge', WHERE WHAT IT READS IS OF BULK AT MOST 1048576: true; the input reads as it did. -/
def topGaugeUptoRow : OpenClaim := { program := "ytegeamfacajeeaa", sum := "113d55d9150d35ad1947c119997e5421ff06b3b4f9b91fe715ae30f33e4b0a8a", func := "plaquette/plaquettetop.TopGauge", spec := "topGauge", unfollowed := true, recurses := true, apart := false, narrowed := true }
def TopGaugeUptoSaid : Prop := topGaugeUptoRow.holds Try.pinned (OpenSpec.upto topGaugeSpec)

end Rows
end Go.Proofs.Ytegeamfacajeeaa
