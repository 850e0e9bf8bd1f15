/-
  No cell of these rows narrows 'for every input' (looked for: loops, veiled, ifaces, maps, wideKeys, modest, calm, conditions, laid).
  DERIVED. THE GIVEN ROWS OF THIS SEAT. 5 by the template 'for every input the law returns true; each argument reads behind the call as it read before'; 0 by the template 'total and deterministic' (their statements: YtjidbajcnomceaaGreatTotals.lean).
  GIVEN WITH THE SEED: the statements are not yours to turn. If you find one false, say at which input.
  Laid BY PROGRAM, IN A SANDBOX (cutbox-rows.mjs): the forced cells as the released guide's own fill.sh prints them over the translation d805fac1f45210fb… (all of the seat's roots in one cut). By AI agents, Wed Nov 11 2026. No macro, syntax, notation, axiom, sorry.
-/
import Derived.Test.YtjidbajcnomceaaGreatChecked
import GoSem.Claim
import GoSem.ClaimJoined
import GoSem.ClaimMapViews
import Derived.JoinedTies
import Derived.KernelRfl
namespace Go.Proofs.YtjidbajcnomceaaGreat
/- THE CELL 'sum', in the pinned program and in every row, IS THE sha256 OF THE DUMP (.gsa) THAT YtjidbajcnomceaaGreatProg.lean LOADS. Nothing in Lean hashes anything: it is a label: what it is worth is what the hold of that sum in a sandbox is worth. -/
noncomputable def Tryz.pinned : Pinned := { name := "ytjidbajcnomceaagreat", sum := "d805fac1f45210fb8eb043b7722e2e2d6020860452c4185b53073a3680543877", checked := Tryz.checked }
namespace Rows
def none {H : Type} : Left H := { results := [], args := [] }

/-- 'plaquettelaw03.LoopTraces': WHATEVER THE INPUT: true; the input reads as it did. -/
def loopTracesSpec : ChangeSpec := { name := "loopTraces", fn := fun _ => fun
  | [d1, d2] => { results := [.lit (.bool true)], args := [d1, d2] }
  | _ => none }
def loopTracesRow : OpenClaim := { program := "ytjidbajcnomceaagreat", sum := "d805fac1f45210fb8eb043b7722e2e2d6020860452c4185b53073a3680543877", func := "plaquette/plaquettelaw03.LoopTraces", spec := "loopTraces", unfollowed := true, recurses := true, plainKeys := false, apart := false }
def LoopTracesSaid : Prop := loopTracesRow.holds Tryz.pinned (OpenSpec.ofChange loopTracesSpec)

/-- ITS FALSE NEIGHBOUR: 'it returns false'. Refute it at one input. -/
def loopTracesWrong : ChangeSpec := { name := "loopTraces", fn := fun _ => fun
  | [d1, d2] => { results := [.lit (.bool false)], args := [d1, d2] }
  | _ => none }
def LoopTracesWrongFalsely : Prop := loopTracesRow.holds Tryz.pinned (OpenSpec.ofChange loopTracesWrong)

/-- 'plaquettelaw03.LoopMeans': WHATEVER THE INPUT: true; the input reads as it did. -/
def loopMeansSpec : ChangeSpec := { name := "loopMeans", fn := fun _ => fun
  | [d] => { results := [.lit (.bool true)], args := [d] }
  | _ => none }
def loopMeansRow : OpenClaim := { program := "ytjidbajcnomceaagreat", sum := "d805fac1f45210fb8eb043b7722e2e2d6020860452c4185b53073a3680543877", func := "plaquette/plaquettelaw03.LoopMeans", spec := "loopMeans", unfollowed := true, recurses := true, plainKeys := false, apart := false }
def LoopMeansSaid : Prop := loopMeansRow.holds Tryz.pinned (OpenSpec.ofChange loopMeansSpec)

/-- ITS FALSE NEIGHBOUR: 'it returns false'. Refute it at one input. -/
def loopMeansWrong : ChangeSpec := { name := "loopMeans", fn := fun _ => fun
  | [d] => { results := [.lit (.bool false)], args := [d] }
  | _ => none }
def LoopMeansWrongFalsely : Prop := loopMeansRow.holds Tryz.pinned (OpenSpec.ofChange loopMeansWrong)

/-- 'plaquettelaw03.LoopRectangles': WHATEVER THE INPUT: true; the input reads as it did. -/
def loopRectanglesSpec : ChangeSpec := { name := "loopRectangles", fn := fun _ => fun
  | [d1, d2] => { results := [.lit (.bool true)], args := [d1, d2] }
  | _ => none }
def loopRectanglesRow : OpenClaim := { program := "ytjidbajcnomceaagreat", sum := "d805fac1f45210fb8eb043b7722e2e2d6020860452c4185b53073a3680543877", func := "plaquette/plaquettelaw03.LoopRectangles", spec := "loopRectangles", unfollowed := true, recurses := true, plainKeys := false, apart := false }
def LoopRectanglesSaid : Prop := loopRectanglesRow.holds Tryz.pinned (OpenSpec.ofChange loopRectanglesSpec)

/-- ITS FALSE NEIGHBOUR: 'it returns false'. Refute it at one input. -/
def loopRectanglesWrong : ChangeSpec := { name := "loopRectangles", fn := fun _ => fun
  | [d1, d2] => { results := [.lit (.bool false)], args := [d1, d2] }
  | _ => none }
def LoopRectanglesWrongFalsely : Prop := loopRectanglesRow.holds Tryz.pinned (OpenSpec.ofChange loopRectanglesWrong)

/-- 'plaquettelaw03.LoopWinds': WHATEVER THE INPUT: true; the input reads as it did. -/
def loopWindsSpec : ChangeSpec := { name := "loopWinds", fn := fun _ => fun
  | [d1, d2] => { results := [.lit (.bool true)], args := [d1, d2] }
  | _ => none }
def loopWindsRow : OpenClaim := { program := "ytjidbajcnomceaagreat", sum := "d805fac1f45210fb8eb043b7722e2e2d6020860452c4185b53073a3680543877", func := "plaquette/plaquettelaw03.LoopWinds", spec := "loopWinds", unfollowed := true, recurses := true, plainKeys := false, apart := false }
def LoopWindsSaid : Prop := loopWindsRow.holds Tryz.pinned (OpenSpec.ofChange loopWindsSpec)

/-- ITS FALSE NEIGHBOUR: 'it returns false'. Refute it at one input. -/
def loopWindsWrong : ChangeSpec := { name := "loopWinds", fn := fun _ => fun
  | [d1, d2] => { results := [.lit (.bool false)], args := [d1, d2] }
  | _ => none }
def LoopWindsWrongFalsely : Prop := loopWindsRow.holds Tryz.pinned (OpenSpec.ofChange loopWindsWrong)

/-- 'plaquettelaw03.LoopValues': WHATEVER THE INPUT: true; the input reads as it did. -/
def loopValuesSpec : ChangeSpec := { name := "loopValues", fn := fun _ => fun
  | [d1, d2, d3] => { results := [.lit (.bool true)], args := [d1, d2, d3] }
  | _ => none }
def loopValuesRow : OpenClaim := { program := "ytjidbajcnomceaagreat", sum := "d805fac1f45210fb8eb043b7722e2e2d6020860452c4185b53073a3680543877", func := "plaquette/plaquettelaw03.LoopValues", spec := "loopValues", unfollowed := true, recurses := true, plainKeys := false, apart := false }
def LoopValuesSaid : Prop := loopValuesRow.holds Tryz.pinned (OpenSpec.ofChange loopValuesSpec)

/-- ITS FALSE NEIGHBOUR: 'it returns false'. Refute it at one input. -/
def loopValuesWrong : ChangeSpec := { name := "loopValues", fn := fun _ => fun
  | [d1, d2, d3] => { results := [.lit (.bool false)], args := [d1, d2, d3] }
  | _ => none }
def LoopValuesWrongFalsely : Prop := loopValuesRow.holds Tryz.pinned (OpenSpec.ofChange loopValuesWrong)

/- THE SECOND FORM. 'bulk': how many values and letters a reading holds, each counted each time it is reached (what is shared counts as often as it is met; a slice's spare places count too). A statement '..UptoSaid' is the law's where the arguments, and the package variables that the reading takes, are together of bulk at most 1048576: NARROWER than '..Said'. Prove '..Said' where nothing that the law and all that it calls make is longer than what came in: it says more and counts as full. Else prove '..UptoSaid'. A law counts once. -/
mutual
def uptoBulk {H : Type} : DataW H → Nat
  | .lit (.string bytes) => bytes.length + 1
  | .lit _ => 1
  | .nil => 1
  | .ptr d => uptoBulk d + 1
  | .slice elems spare => uptoBulkAll elems + uptoBulkAll spare + 1
  | .agg parts => uptoBulkAll parts + 1
  | .iface _ d => uptoBulk d + 1
  | .map entries => uptoBulkEntries entries + 1
  | .held _ => 1
def uptoBulkAll {H : Type} : List (DataW H) → Nat
  | [] => 0
  | d :: r => uptoBulk d + uptoBulkAll r
def uptoBulkEntries {H : Type} : List (Lit × DataW H) → Nat
  | [] => 0
  | x :: r => uptoBulkEntry x + uptoBulkEntries r
def uptoBulkEntry {H : Type} : Lit × DataW H → Nat
  | (.string bytes, d) => bytes.length + uptoBulk d + 1
  | (_, d) => uptoBulk d + 1
 end
def uptoSmall : (H : Type) → List (DataW H) → Bool := fun _ ds => decide (uptoBulkAll ds ≤ 1048576)
def OpenSpec.upto (s : _root_.Go.ChangeSpec) : _root_.Go.OpenSpec := { _root_.Go.OpenSpec.ofChange s with cond := some uptoSmall }

/-- 'plaquettelaw03.LoopTraces', WHERE WHAT IT READS IS OF BULK AT MOST 1048576: true; the input reads as it did. -/
def loopTracesUptoRow : OpenClaim := { program := "ytjidbajcnomceaagreat", sum := "d805fac1f45210fb8eb043b7722e2e2d6020860452c4185b53073a3680543877", func := "plaquette/plaquettelaw03.LoopTraces", spec := "loopTraces", unfollowed := true, recurses := true, plainKeys := false, apart := false, narrowed := true }
def LoopTracesUptoSaid : Prop := loopTracesUptoRow.holds Tryz.pinned (OpenSpec.upto loopTracesSpec)

/-- 'plaquettelaw03.LoopMeans', WHERE WHAT IT READS IS OF BULK AT MOST 1048576: true; the input reads as it did. -/
def loopMeansUptoRow : OpenClaim := { program := "ytjidbajcnomceaagreat", sum := "d805fac1f45210fb8eb043b7722e2e2d6020860452c4185b53073a3680543877", func := "plaquette/plaquettelaw03.LoopMeans", spec := "loopMeans", unfollowed := true, recurses := true, plainKeys := false, apart := false, narrowed := true }
def LoopMeansUptoSaid : Prop := loopMeansUptoRow.holds Tryz.pinned (OpenSpec.upto loopMeansSpec)

/-- 'plaquettelaw03.LoopRectangles', WHERE WHAT IT READS IS OF BULK AT MOST 1048576: true; the input reads as it did. -/
def loopRectanglesUptoRow : OpenClaim := { program := "ytjidbajcnomceaagreat", sum := "d805fac1f45210fb8eb043b7722e2e2d6020860452c4185b53073a3680543877", func := "plaquette/plaquettelaw03.LoopRectangles", spec := "loopRectangles", unfollowed := true, recurses := true, plainKeys := false, apart := false, narrowed := true }
def LoopRectanglesUptoSaid : Prop := loopRectanglesUptoRow.holds Tryz.pinned (OpenSpec.upto loopRectanglesSpec)

/-- 'plaquettelaw03.LoopWinds', WHERE WHAT IT READS IS OF BULK AT MOST 1048576: true; the input reads as it did. -/
def loopWindsUptoRow : OpenClaim := { program := "ytjidbajcnomceaagreat", sum := "d805fac1f45210fb8eb043b7722e2e2d6020860452c4185b53073a3680543877", func := "plaquette/plaquettelaw03.LoopWinds", spec := "loopWinds", unfollowed := true, recurses := true, plainKeys := false, apart := false, narrowed := true }
def LoopWindsUptoSaid : Prop := loopWindsUptoRow.holds Tryz.pinned (OpenSpec.upto loopWindsSpec)

/-- 'plaquettelaw03.LoopValues', WHERE WHAT IT READS IS OF BULK AT MOST 1048576: true; the input reads as it did. -/
def loopValuesUptoRow : OpenClaim := { program := "ytjidbajcnomceaagreat", sum := "d805fac1f45210fb8eb043b7722e2e2d6020860452c4185b53073a3680543877", func := "plaquette/plaquettelaw03.LoopValues", spec := "loopValues", unfollowed := true, recurses := true, plainKeys := false, apart := false, narrowed := true }
def LoopValuesUptoSaid : Prop := loopValuesUptoRow.holds Tryz.pinned (OpenSpec.upto loopValuesSpec)

end Rows
end Go.Proofs.YtjidbajcnomceaaGreat
