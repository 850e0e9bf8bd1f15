/-
  No cell of these rows narrows 'for every input' (looked for: loops, veiled, ifaces, maps, wideKeys, modest, calm, conditions, laid).
  DERIVED. THE GIVEN ROWS OF THIS SEAT. 7 by the template 'for every input the law returns true; each argument reads behind the call as it read before'; 0 by the template 'total and deterministic' (their statements: YtjidbajcnomceaaTotals.lean).
  GIVEN WITH THE SEED: the statements are not yours to turn. If you find one false, say at which input.
  Laid BY PROGRAM, IN A SANDBOX (cutbox-rows.mjs): the forced cells as the released guide's own fill.sh prints them over the translation 698558aa04e11641… (all of the seat's roots in one cut). By AI agents, Wed Nov 11 2026. No macro, syntax, notation, axiom, sorry.
-/
import Derived.Test.YtjidbajcnomceaaChecked
import GoSem.Claim
import GoSem.ClaimJoined
import GoSem.ClaimMapViews
import Derived.JoinedTies
import Derived.KernelRfl
namespace Go.Proofs.Ytjidbajcnomceaa
/- THE CELL 'sum', in the pinned program and in every row, IS THE sha256 OF THE DUMP (.gsa) THAT YtjidbajcnomceaaProg.lean LOADS. Nothing in Lean hashes anything: it is a label: what it is worth is what the hold of that sum in a sandbox is worth. -/
noncomputable def Try.pinned : Pinned := { name := "ytjidbajcnomceaa", sum := "698558aa04e116413df2dcc4fb476730628c5f0ef43eb2133a0388d9e90f53ce", checked := Try.checked }
namespace Rows
def none {H : Type} : Left H := { results := [], args := [] }

/-- 'plaquettelaw03.LoopPlainPaths': WHATEVER THE INPUT: true; the input reads as it did. -/
def loopPlainPathsSpec : ChangeSpec := { name := "loopPlainPaths", fn := fun _ => fun
  | [d] => { results := [.lit (.bool true)], args := [d] }
  | _ => none }
def loopPlainPathsRow : OpenClaim := { program := "ytjidbajcnomceaa", sum := "698558aa04e116413df2dcc4fb476730628c5f0ef43eb2133a0388d9e90f53ce", func := "plaquette/plaquettelaw03.LoopPlainPaths", spec := "loopPlainPaths", unfollowed := true, recurses := true, plainKeys := false, apart := false }
def LoopPlainPathsSaid : Prop := loopPlainPathsRow.holds Try.pinned (OpenSpec.ofChange loopPlainPathsSpec)

/-- ITS FALSE NEIGHBOUR: 'it returns false'. Refute it at one input. -/
def loopPlainPathsWrong : ChangeSpec := { name := "loopPlainPaths", fn := fun _ => fun
  | [d] => { results := [.lit (.bool false)], args := [d] }
  | _ => none }
def LoopPlainPathsWrongFalsely : Prop := loopPlainPathsRow.holds Try.pinned (OpenSpec.ofChange loopPlainPathsWrong)

/-- 'plaquettelaw03.LoopPlains': WHATEVER THE INPUT: true; the input reads as it did. -/
def loopPlainsSpec : ChangeSpec := { name := "loopPlains", fn := fun _ => fun
  | [d] => { results := [.lit (.bool true)], args := [d] }
  | _ => none }
def loopPlainsRow : OpenClaim := { program := "ytjidbajcnomceaa", sum := "698558aa04e116413df2dcc4fb476730628c5f0ef43eb2133a0388d9e90f53ce", func := "plaquette/plaquettelaw03.LoopPlains", spec := "loopPlains", unfollowed := true, recurses := true, plainKeys := false, apart := false }
def LoopPlainsSaid : Prop := loopPlainsRow.holds Try.pinned (OpenSpec.ofChange loopPlainsSpec)

/-- ITS FALSE NEIGHBOUR: 'it returns false'. Refute it at one input. -/
def loopPlainsWrong : ChangeSpec := { name := "loopPlains", fn := fun _ => fun
  | [d] => { results := [.lit (.bool false)], args := [d] }
  | _ => none }
def LoopPlainsWrongFalsely : Prop := loopPlainsRow.holds Try.pinned (OpenSpec.ofChange loopPlainsWrong)

/-- 'plaquettelaw03.LoopAdds': WHATEVER THE INPUT: true; the input reads as it did. -/
def loopAddsSpec : ChangeSpec := { name := "loopAdds", fn := fun _ => fun
  | [d1, d2, d3] => { results := [.lit (.bool true)], args := [d1, d2, d3] }
  | _ => none }
def loopAddsRow : OpenClaim := { program := "ytjidbajcnomceaa", sum := "698558aa04e116413df2dcc4fb476730628c5f0ef43eb2133a0388d9e90f53ce", func := "plaquette/plaquettelaw03.LoopAdds", spec := "loopAdds", unfollowed := true, recurses := true, plainKeys := false, apart := false }
def LoopAddsSaid : Prop := loopAddsRow.holds Try.pinned (OpenSpec.ofChange loopAddsSpec)

/-- ITS FALSE NEIGHBOUR: 'it returns false'. Refute it at one input. -/
def loopAddsWrong : ChangeSpec := { name := "loopAdds", fn := fun _ => fun
  | [d1, d2, d3] => { results := [.lit (.bool false)], args := [d1, d2, d3] }
  | _ => none }
def LoopAddsWrongFalsely : Prop := loopAddsRow.holds Try.pinned (OpenSpec.ofChange loopAddsWrong)

/-- 'plaquettelaw03.LoopSquares': WHATEVER THE INPUT: true; the input reads as it did. -/
def loopSquaresSpec : ChangeSpec := { name := "loopSquares", fn := fun _ => fun
  | [d] => { results := [.lit (.bool true)], args := [d] }
  | _ => none }
def loopSquaresRow : OpenClaim := { program := "ytjidbajcnomceaa", sum := "698558aa04e116413df2dcc4fb476730628c5f0ef43eb2133a0388d9e90f53ce", func := "plaquette/plaquettelaw03.LoopSquares", spec := "loopSquares", unfollowed := true, recurses := true, plainKeys := false, apart := false }
def LoopSquaresSaid : Prop := loopSquaresRow.holds Try.pinned (OpenSpec.ofChange loopSquaresSpec)

/-- ITS FALSE NEIGHBOUR: 'it returns false'. Refute it at one input. -/
def loopSquaresWrong : ChangeSpec := { name := "loopSquares", fn := fun _ => fun
  | [d] => { results := [.lit (.bool false)], args := [d] }
  | _ => none }
def LoopSquaresWrongFalsely : Prop := loopSquaresRow.holds Try.pinned (OpenSpec.ofChange loopSquaresWrong)

/-- 'plaquettelaw03.LoopSames': WHATEVER THE INPUT: true; the input reads as it did. -/
def loopSamesSpec : ChangeSpec := { name := "loopSames", fn := fun _ => fun
  | [d1, d2] => { results := [.lit (.bool true)], args := [d1, d2] }
  | _ => none }
def loopSamesRow : OpenClaim := { program := "ytjidbajcnomceaa", sum := "698558aa04e116413df2dcc4fb476730628c5f0ef43eb2133a0388d9e90f53ce", func := "plaquette/plaquettelaw03.LoopSames", spec := "loopSames", unfollowed := true, recurses := true, plainKeys := false, apart := false }
def LoopSamesSaid : Prop := loopSamesRow.holds Try.pinned (OpenSpec.ofChange loopSamesSpec)

/-- ITS FALSE NEIGHBOUR: 'it returns false'. Refute it at one input. -/
def loopSamesWrong : ChangeSpec := { name := "loopSames", fn := fun _ => fun
  | [d1, d2] => { results := [.lit (.bool false)], args := [d1, d2] }
  | _ => none }
def LoopSamesWrongFalsely : Prop := loopSamesRow.holds Try.pinned (OpenSpec.ofChange loopSamesWrong)

/-- 'plaquettelaw03.LoopPlainValues': WHATEVER THE INPUT: true; the input reads as it did. -/
def loopPlainValuesSpec : ChangeSpec := { name := "loopPlainValues", fn := fun _ => fun
  | [d1, d2, d3] => { results := [.lit (.bool true)], args := [d1, d2, d3] }
  | _ => none }
def loopPlainValuesRow : OpenClaim := { program := "ytjidbajcnomceaa", sum := "698558aa04e116413df2dcc4fb476730628c5f0ef43eb2133a0388d9e90f53ce", func := "plaquette/plaquettelaw03.LoopPlainValues", spec := "loopPlainValues", unfollowed := true, recurses := true, plainKeys := false, apart := false }
def LoopPlainValuesSaid : Prop := loopPlainValuesRow.holds Try.pinned (OpenSpec.ofChange loopPlainValuesSpec)

/-- ITS FALSE NEIGHBOUR: 'it returns false'. Refute it at one input. -/
def loopPlainValuesWrong : ChangeSpec := { name := "loopPlainValues", fn := fun _ => fun
  | [d1, d2, d3] => { results := [.lit (.bool false)], args := [d1, d2, d3] }
  | _ => none }
def LoopPlainValuesWrongFalsely : Prop := loopPlainValuesRow.holds Try.pinned (OpenSpec.ofChange loopPlainValuesWrong)

/-- 'plaquettetop.TopLoops': WHATEVER THE INPUT: true; the input reads as it did. -/
def topLoopsSpec : ChangeSpec := { name := "topLoops", fn := fun _ => fun
  | [d1, d2, d3] => { results := [.lit (.bool true)], args := [d1, d2, d3] }
  | _ => none }
def topLoopsRow : OpenClaim := { program := "ytjidbajcnomceaa", sum := "698558aa04e116413df2dcc4fb476730628c5f0ef43eb2133a0388d9e90f53ce", func := "plaquette/plaquettetop.TopLoops", spec := "topLoops", unfollowed := true, recurses := true, plainKeys := false, apart := false }
def TopLoopsSaid : Prop := topLoopsRow.holds Try.pinned (OpenSpec.ofChange topLoopsSpec)

/-- ITS FALSE NEIGHBOUR: 'it returns false'. Refute it at one input. -/
def topLoopsWrong : ChangeSpec := { name := "topLoops", fn := fun _ => fun
  | [d1, d2, d3] => { results := [.lit (.bool false)], args := [d1, d2, d3] }
  | _ => none }
def TopLoopsWrongFalsely : Prop := topLoopsRow.holds Try.pinned (OpenSpec.ofChange topLoopsWrong)

/- THE SECOND FORM. 'bulk': how many values and letters a reading holds, each counted each time it is reached (what is shared counts as often as it is met; a slice's spare places count too). A statement '..UptoSaid' is the law's where the arguments, and the package variables that the reading takes, are together of bulk at most 1048576: NARROWER than '..Said'. Prove '..Said' where nothing that the law and all that it calls make is longer than what came in: it says more and counts as full. Else prove '..UptoSaid'. A law counts once. -/
mutual
def uptoBulk {H : Type} : DataW H → Nat
  | .lit (.string bytes) => bytes.length + 1
  | .lit _ => 1
  | .nil => 1
  | .ptr d => uptoBulk d + 1
  | .slice elems spare => uptoBulkAll elems + uptoBulkAll spare + 1
  | .agg parts => uptoBulkAll parts + 1
  | .iface _ d => uptoBulk d + 1
  | .map entries => uptoBulkEntries entries + 1
  | .held _ => 1
def uptoBulkAll {H : Type} : List (DataW H) → Nat
  | [] => 0
  | d :: r => uptoBulk d + uptoBulkAll r
def uptoBulkEntries {H : Type} : List (Lit × DataW H) → Nat
  | [] => 0
  | x :: r => uptoBulkEntry x + uptoBulkEntries r
def uptoBulkEntry {H : Type} : Lit × DataW H → Nat
  | (.string bytes, d) => bytes.length + uptoBulk d + 1
  | (_, d) => uptoBulk d + 1
 end
def uptoSmall : (H : Type) → List (DataW H) → Bool := fun _ ds => decide (uptoBulkAll ds ≤ 1048576)
def OpenSpec.upto (s : _root_.Go.ChangeSpec) : _root_.Go.OpenSpec := { _root_.Go.OpenSpec.ofChange s with cond := some uptoSmall }

/-- 'plaquettelaw03.LoopPlainPaths', WHERE WHAT IT READS IS OF BULK AT MOST 1048576: true; the input reads as it did. -/
def loopPlainPathsUptoRow : OpenClaim := { program := "ytjidbajcnomceaa", sum := "698558aa04e116413df2dcc4fb476730628c5f0ef43eb2133a0388d9e90f53ce", func := "plaquette/plaquettelaw03.LoopPlainPaths", spec := "loopPlainPaths", unfollowed := true, recurses := true, plainKeys := false, apart := false, narrowed := true }
def LoopPlainPathsUptoSaid : Prop := loopPlainPathsUptoRow.holds Try.pinned (OpenSpec.upto loopPlainPathsSpec)

/-- 'plaquettelaw03.LoopPlains', WHERE WHAT IT READS IS OF BULK AT MOST 1048576: true; the input reads as it did. -/
def loopPlainsUptoRow : OpenClaim := { program := "ytjidbajcnomceaa", sum := "698558aa04e116413df2dcc4fb476730628c5f0ef43eb2133a0388d9e90f53ce", func := "plaquette/plaquettelaw03.LoopPlains", spec := "loopPlains", unfollowed := true, recurses := true, plainKeys := false, apart := false, narrowed := true }
def LoopPlainsUptoSaid : Prop := loopPlainsUptoRow.holds Try.pinned (OpenSpec.upto loopPlainsSpec)

/-- 'plaquettelaw03.LoopAdds', WHERE WHAT IT READS IS OF BULK AT MOST 1048576: true; the input reads as it did. -/
def loopAddsUptoRow : OpenClaim := { program := "ytjidbajcnomceaa", sum := "698558aa04e116413df2dcc4fb476730628c5f0ef43eb2133a0388d9e90f53ce", func := "plaquette/plaquettelaw03.LoopAdds", spec := "loopAdds", unfollowed := true, recurses := true, plainKeys := false, apart := false, narrowed := true }
def LoopAddsUptoSaid : Prop := loopAddsUptoRow.holds Try.pinned (OpenSpec.upto loopAddsSpec)

/-- 'plaquettelaw03.LoopSquares', WHERE WHAT IT READS IS OF BULK AT MOST 1048576: true; the input reads as it did. -/
def loopSquaresUptoRow : OpenClaim := { program := "ytjidbajcnomceaa", sum := "698558aa04e116413df2dcc4fb476730628c5f0ef43eb2133a0388d9e90f53ce", func := "plaquette/plaquettelaw03.LoopSquares", spec := "loopSquares", unfollowed := true, recurses := true, plainKeys := false, apart := false, narrowed := true }
def LoopSquaresUptoSaid : Prop := loopSquaresUptoRow.holds Try.pinned (OpenSpec.upto loopSquaresSpec)

/-- 'plaquettelaw03.LoopSames', WHERE WHAT IT READS IS OF BULK AT MOST 1048576: true; the input reads as it did. -/
def loopSamesUptoRow : OpenClaim := { program := "ytjidbajcnomceaa", sum := "698558aa04e116413df2dcc4fb476730628c5f0ef43eb2133a0388d9e90f53ce", func := "plaquette/plaquettelaw03.LoopSames", spec := "loopSames", unfollowed := true, recurses := true, plainKeys := false, apart := false, narrowed := true }
def LoopSamesUptoSaid : Prop := loopSamesUptoRow.holds Try.pinned (OpenSpec.upto loopSamesSpec)

/-- 'plaquettelaw03.LoopPlainValues', WHERE WHAT IT READS IS OF BULK AT MOST 1048576: true; the input reads as it did. -/
def loopPlainValuesUptoRow : OpenClaim := { program := "ytjidbajcnomceaa", sum := "698558aa04e116413df2dcc4fb476730628c5f0ef43eb2133a0388d9e90f53ce", func := "plaquette/plaquettelaw03.LoopPlainValues", spec := "loopPlainValues", unfollowed := true, recurses := true, plainKeys := false, apart := false, narrowed := true }
def LoopPlainValuesUptoSaid : Prop := loopPlainValuesUptoRow.holds Try.pinned (OpenSpec.upto loopPlainValuesSpec)

/-- 'plaquettetop.TopLoops', WHERE WHAT IT READS IS OF BULK AT MOST 1048576: true; the input reads as it did. -/
def topLoopsUptoRow : OpenClaim := { program := "ytjidbajcnomceaa", sum := "698558aa04e116413df2dcc4fb476730628c5f0ef43eb2133a0388d9e90f53ce", func := "plaquette/plaquettetop.TopLoops", spec := "topLoops", unfollowed := true, recurses := true, plainKeys := false, apart := false, narrowed := true }
def TopLoopsUptoSaid : Prop := topLoopsUptoRow.holds Try.pinned (OpenSpec.upto topLoopsSpec)

end Rows
end Go.Proofs.Ytjidbajcnomceaa
