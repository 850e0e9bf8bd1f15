/-
  No cell of these rows narrows 'for every input' (looked for: loops, veiled, ifaces, maps, wideKeys, modest, calm, conditions, laid).
  DERIVED. THE GIVEN ROWS OF THIS SEAT. 4 by the template 'for every input the law returns true; each argument reads behind the call as it read before'; 0 by the template 'total and deterministic' (their statements: YthloceljgmmdbaaTotals.lean).
  GIVEN WITH THE SEED: the statements are not yours to turn. If you find one false, say at which input.
  Laid BY PROGRAM, IN A SANDBOX (cutbox-rows.mjs): the forced cells as the released guide's own fill.sh prints them over the translation 65e4723490c01702… (all of the seat's roots in one cut). By AI agents, Wed Nov 11 2026. No macro, syntax, notation, axiom, sorry.
-/
import Derived.Test.YthloceljgmmdbaaChecked
import GoSem.Claim
import GoSem.ClaimJoined
import GoSem.ClaimMapViews
import Derived.JoinedTies
import Derived.KernelRfl
namespace Go.Proofs.Ythloceljgmmdbaa
/- THE CELL 'sum', in the pinned program and in every row, IS THE sha256 OF THE DUMP (.gsa) THAT YthloceljgmmdbaaProg.lean LOADS. Nothing in Lean hashes anything: it is a label: what it is worth is what the hold of that sum in a sandbox is worth. -/
noncomputable def Try.pinned : Pinned := { name := "ythloceljgmmdbaa", sum := "65e4723490c017026d4c41c8686311b8d9d3ab4590a5a25b543f91723788c32d", checked := Try.checked }
namespace Rows
def none {H : Type} : Left H := { results := [], args := [] }

/-- 'plaquettelaw05.ChanceDraws': WHATEVER THE INPUT: true; the input reads as it did. -/
def chanceDrawsSpec : ChangeSpec := { name := "chanceDraws", fn := fun _ => fun
  | [d1, d2] => { results := [.lit (.bool true)], args := [d1, d2] }
  | _ => none }
def chanceDrawsRow : OpenClaim := { program := "ythloceljgmmdbaa", sum := "65e4723490c017026d4c41c8686311b8d9d3ab4590a5a25b543f91723788c32d", func := "plaquette/plaquettelaw05.ChanceDraws", spec := "chanceDraws", recurses := true, apart := false }
def ChanceDrawsSaid : Prop := chanceDrawsRow.holds Try.pinned (OpenSpec.ofChange chanceDrawsSpec)

/-- ITS FALSE NEIGHBOUR: 'it returns false'. Refute it at one input. -/
def chanceDrawsWrong : ChangeSpec := { name := "chanceDraws", fn := fun _ => fun
  | [d1, d2] => { results := [.lit (.bool false)], args := [d1, d2] }
  | _ => none }
def ChanceDrawsWrongFalsely : Prop := chanceDrawsRow.holds Try.pinned (OpenSpec.ofChange chanceDrawsWrong)

/-- 'plaquettelaw05.ChanceLeaps': WHATEVER THE INPUT: true; the input reads as it did. -/
def chanceLeapsSpec : ChangeSpec := { name := "chanceLeaps", fn := fun _ => fun
  | [d1, d2, d3] => { results := [.lit (.bool true)], args := [d1, d2, d3] }
  | _ => none }
def chanceLeapsRow : OpenClaim := { program := "ythloceljgmmdbaa", sum := "65e4723490c017026d4c41c8686311b8d9d3ab4590a5a25b543f91723788c32d", func := "plaquette/plaquettelaw05.ChanceLeaps", spec := "chanceLeaps", recurses := true, apart := false }
def ChanceLeapsSaid : Prop := chanceLeapsRow.holds Try.pinned (OpenSpec.ofChange chanceLeapsSpec)

/-- ITS FALSE NEIGHBOUR: 'it returns false'. Refute it at one input. -/
def chanceLeapsWrong : ChangeSpec := { name := "chanceLeaps", fn := fun _ => fun
  | [d1, d2, d3] => { results := [.lit (.bool false)], args := [d1, d2, d3] }
  | _ => none }
def ChanceLeapsWrongFalsely : Prop := chanceLeapsRow.holds Try.pinned (OpenSpec.ofChange chanceLeapsWrong)

/-- 'plaquettelaw05.ChanceHot': WHATEVER THE INPUT: true; the input reads as it did. -/
def chanceHotSpec : ChangeSpec := { name := "chanceHot", fn := fun _ => fun
  | [d1, d2] => { results := [.lit (.bool true)], args := [d1, d2] }
  | _ => none }
def chanceHotRow : OpenClaim := { program := "ythloceljgmmdbaa", sum := "65e4723490c017026d4c41c8686311b8d9d3ab4590a5a25b543f91723788c32d", func := "plaquette/plaquettelaw05.ChanceHot", spec := "chanceHot", unfollowed := true, recurses := true, apart := false }
def ChanceHotSaid : Prop := chanceHotRow.holds Try.pinned (OpenSpec.ofChange chanceHotSpec)

/-- ITS FALSE NEIGHBOUR: 'it returns false'. Refute it at one input. -/
def chanceHotWrong : ChangeSpec := { name := "chanceHot", fn := fun _ => fun
  | [d1, d2] => { results := [.lit (.bool false)], args := [d1, d2] }
  | _ => none }
def ChanceHotWrongFalsely : Prop := chanceHotRow.holds Try.pinned (OpenSpec.ofChange chanceHotWrong)

/-- 'plaquettelaw05.ChanceThrough': WHATEVER THE INPUT: true; the input reads as it did. -/
def chanceThroughSpec : ChangeSpec := { name := "chanceThrough", fn := fun _ => fun
  | [d1, d2] => { results := [.lit (.bool true)], args := [d1, d2] }
  | _ => none }
def chanceThroughRow : OpenClaim := { program := "ythloceljgmmdbaa", sum := "65e4723490c017026d4c41c8686311b8d9d3ab4590a5a25b543f91723788c32d", func := "plaquette/plaquettelaw05.ChanceThrough", spec := "chanceThrough", recurses := true, apart := false }
def ChanceThroughSaid : Prop := chanceThroughRow.holds Try.pinned (OpenSpec.ofChange chanceThroughSpec)

/-- ITS FALSE NEIGHBOUR: 'it returns false'. Refute it at one input. -/
def chanceThroughWrong : ChangeSpec := { name := "chanceThrough", fn := fun _ => fun
  | [d1, d2] => { results := [.lit (.bool false)], args := [d1, d2] }
  | _ => none }
def ChanceThroughWrongFalsely : Prop := chanceThroughRow.holds Try.pinned (OpenSpec.ofChange chanceThroughWrong)

/- THE SECOND FORM. 'bulk': how many values and letters a reading holds, each counted each time it is reached (what is shared counts as often as it is met; a slice's spare places count too). A statement '..UptoSaid' is the law's where the arguments, and the package variables that the reading takes, are together of bulk at most 1048576: NARROWER than '..Said'. Prove '..Said' where nothing that the law and all that it calls make is longer than what came in: it says more and counts as full. Else prove '..UptoSaid'. A law counts once. -/
mutual
def uptoBulk {H : Type} : DataW H → Nat
  | .lit (.string bytes) => bytes.length + 1
  | .lit _ => 1
  | .nil => 1
  | .ptr d => uptoBulk d + 1
  | .slice elems spare => uptoBulkAll elems + uptoBulkAll spare + 1
  | .agg parts => uptoBulkAll parts + 1
  | .iface _ d => uptoBulk d + 1
  | .map entries => uptoBulkEntries entries + 1
  | .held _ => 1
def uptoBulkAll {H : Type} : List (DataW H) → Nat
  | [] => 0
  | d :: r => uptoBulk d + uptoBulkAll r
def uptoBulkEntries {H : Type} : List (Lit × DataW H) → Nat
  | [] => 0
  | x :: r => uptoBulkEntry x + uptoBulkEntries r
def uptoBulkEntry {H : Type} : Lit × DataW H → Nat
  | (.string bytes, d) => bytes.length + uptoBulk d + 1
  | (_, d) => uptoBulk d + 1
 end
def uptoSmall : (H : Type) → List (DataW H) → Bool := fun _ ds => decide (uptoBulkAll ds ≤ 1048576)
def OpenSpec.upto (s : _root_.Go.ChangeSpec) : _root_.Go.OpenSpec := { _root_.Go.OpenSpec.ofChange s with cond := some uptoSmall }

/-- 'plaquettelaw05.ChanceDraws', WHERE WHAT IT READS IS OF BULK AT MOST 1048576: true; the input reads as it did. -/
def chanceDrawsUptoRow : OpenClaim := { program := "ythloceljgmmdbaa", sum := "65e4723490c017026d4c41c8686311b8d9d3ab4590a5a25b543f91723788c32d", func := "plaquette/plaquettelaw05.ChanceDraws", spec := "chanceDraws", recurses := true, apart := false, narrowed := true }
def ChanceDrawsUptoSaid : Prop := chanceDrawsUptoRow.holds Try.pinned (OpenSpec.upto chanceDrawsSpec)

/-- 'plaquettelaw05.ChanceLeaps', WHERE WHAT IT READS IS OF BULK AT MOST 1048576: true; the input reads as it did. -/
def chanceLeapsUptoRow : OpenClaim := { program := "ythloceljgmmdbaa", sum := "65e4723490c017026d4c41c8686311b8d9d3ab4590a5a25b543f91723788c32d", func := "plaquette/plaquettelaw05.ChanceLeaps", spec := "chanceLeaps", recurses := true, apart := false, narrowed := true }
def ChanceLeapsUptoSaid : Prop := chanceLeapsUptoRow.holds Try.pinned (OpenSpec.upto chanceLeapsSpec)

/-- 'plaquettelaw05.ChanceHot', WHERE WHAT IT READS IS OF BULK AT MOST 1048576: true; the input reads as it did. -/
def chanceHotUptoRow : OpenClaim := { program := "ythloceljgmmdbaa", sum := "65e4723490c017026d4c41c8686311b8d9d3ab4590a5a25b543f91723788c32d", func := "plaquette/plaquettelaw05.ChanceHot", spec := "chanceHot", unfollowed := true, recurses := true, apart := false, narrowed := true }
def ChanceHotUptoSaid : Prop := chanceHotUptoRow.holds Try.pinned (OpenSpec.upto chanceHotSpec)

/-- 'plaquettelaw05.ChanceThrough', WHERE WHAT IT READS IS OF BULK AT MOST 1048576: true; the input reads as it did. -/
def chanceThroughUptoRow : OpenClaim := { program := "ythloceljgmmdbaa", sum := "65e4723490c017026d4c41c8686311b8d9d3ab4590a5a25b543f91723788c32d", func := "plaquette/plaquettelaw05.ChanceThrough", spec := "chanceThrough", recurses := true, apart := false, narrowed := true }
def ChanceThroughUptoSaid : Prop := chanceThroughUptoRow.holds Try.pinned (OpenSpec.upto chanceThroughSpec)

end Rows
end Go.Proofs.Ythloceljgmmdbaa
