/-
  No cell of these rows narrows 'for every input' (looked for: loops, veiled, ifaces, maps, wideKeys, modest, calm, conditions, laid).
  DERIVED. THE GIVEN ROWS OF THIS SEAT. 9 by the template 'for every input the law returns true; each argument reads behind the call as it read before'; 0 by the template 'total and deterministic' (their statements: YtilbhcjnkmeecaaTotals.lean).
  GIVEN WITH THE SEED: the statements are not yours to turn. If you find one false, say at which input.
  Laid BY PROGRAM, IN A SANDBOX (cutbox-rows.mjs): the forced cells as the released guide's own fill.sh prints them over the translation d405f85ddb5ef8ec… (all of the seat's roots in one cut). By AI agents, Wed Nov 11 2026. No macro, syntax, notation, axiom, sorry.
-/
import Derived.Test.YtilbhcjnkmeecaaChecked
import GoSem.Claim
import GoSem.ClaimJoined
import GoSem.ClaimMapViews
import Derived.JoinedTies
import Derived.KernelRfl
namespace Go.Proofs.Ytilbhcjnkmeecaa
/- THE CELL 'sum', in the pinned program and in every row, IS THE sha256 OF THE DUMP (.gsa) THAT YtilbhcjnkmeecaaProg.lean LOADS. Nothing in Lean hashes anything: it is a label: what it is worth is what the hold of that sum in a sandbox is worth. -/
noncomputable def Try.pinned : Pinned := { name := "ytilbhcjnkmeecaa", sum := "d405f85ddb5ef8ecf069cd1fe3e762e4a2af5103bbe61fa2f319d1378de721ca", checked := Try.checked }
namespace Rows
def none {H : Type} : Left H := { results := [], args := [] }

/-- 'plaquettelaw06.PathValidates': WHATEVER THE INPUT: true; the input reads as it did. -/
def pathValidatesSpec : ChangeSpec := { name := "pathValidates", fn := fun _ => fun
  | [d1, d2] => { results := [.lit (.bool true)], args := [d1, d2] }
  | _ => none }
def pathValidatesRow : OpenClaim := { program := "ytilbhcjnkmeecaa", sum := "d405f85ddb5ef8ecf069cd1fe3e762e4a2af5103bbe61fa2f319d1378de721ca", func := "plaquette/plaquettelaw06.PathValidates", spec := "pathValidates", apart := false }
def PathValidatesSaid : Prop := pathValidatesRow.holds Try.pinned (OpenSpec.ofChange pathValidatesSpec)

/-- ITS FALSE NEIGHBOUR: 'it returns false'. Refute it at one input. -/
def pathValidatesWrong : ChangeSpec := { name := "pathValidates", fn := fun _ => fun
  | [d1, d2] => { results := [.lit (.bool false)], args := [d1, d2] }
  | _ => none }
def PathValidatesWrongFalsely : Prop := pathValidatesRow.holds Try.pinned (OpenSpec.ofChange pathValidatesWrong)

/-- 'plaquettelaw06.PathTurners': WHATEVER THE INPUT: true; the input reads as it did. -/
def pathTurnersSpec : ChangeSpec := { name := "pathTurners", fn := fun _ => fun
  | [d1, d2] => { results := [.lit (.bool true)], args := [d1, d2] }
  | _ => none }
def pathTurnersRow : OpenClaim := { program := "ytilbhcjnkmeecaa", sum := "d405f85ddb5ef8ecf069cd1fe3e762e4a2af5103bbe61fa2f319d1378de721ca", func := "plaquette/plaquettelaw06.PathTurners", spec := "pathTurners", apart := false }
def PathTurnersSaid : Prop := pathTurnersRow.holds Try.pinned (OpenSpec.ofChange pathTurnersSpec)

/-- ITS FALSE NEIGHBOUR: 'it returns false'. Refute it at one input. -/
def pathTurnersWrong : ChangeSpec := { name := "pathTurners", fn := fun _ => fun
  | [d1, d2] => { results := [.lit (.bool false)], args := [d1, d2] }
  | _ => none }
def PathTurnersWrongFalsely : Prop := pathTurnersRow.holds Try.pinned (OpenSpec.ofChange pathTurnersWrong)

/-- 'plaquettelaw06.PathForces': WHATEVER THE INPUT: true; the input reads as it did. -/
def pathForcesSpec : ChangeSpec := { name := "pathForces", fn := fun _ => fun
  | [d1, d2] => { results := [.lit (.bool true)], args := [d1, d2] }
  | _ => none }
def pathForcesRow : OpenClaim := { program := "ytilbhcjnkmeecaa", sum := "d405f85ddb5ef8ecf069cd1fe3e762e4a2af5103bbe61fa2f319d1378de721ca", func := "plaquette/plaquettelaw06.PathForces", spec := "pathForces", apart := false }
def PathForcesSaid : Prop := pathForcesRow.holds Try.pinned (OpenSpec.ofChange pathForcesSpec)

/-- ITS FALSE NEIGHBOUR: 'it returns false'. Refute it at one input. -/
def pathForcesWrong : ChangeSpec := { name := "pathForces", fn := fun _ => fun
  | [d1, d2] => { results := [.lit (.bool false)], args := [d1, d2] }
  | _ => none }
def PathForcesWrongFalsely : Prop := pathForcesRow.holds Try.pinned (OpenSpec.ofChange pathForcesWrong)

/-- 'plaquettelaw06.PathAdds': WHATEVER THE INPUT: true; the input reads as it did. -/
def pathAddsSpec : ChangeSpec := { name := "pathAdds", fn := fun _ => fun
  | [d1, d2, d3] => { results := [.lit (.bool true)], args := [d1, d2, d3] }
  | _ => none }
def pathAddsRow : OpenClaim := { program := "ytilbhcjnkmeecaa", sum := "d405f85ddb5ef8ecf069cd1fe3e762e4a2af5103bbe61fa2f319d1378de721ca", func := "plaquette/plaquettelaw06.PathAdds", spec := "pathAdds", apart := false }
def PathAddsSaid : Prop := pathAddsRow.holds Try.pinned (OpenSpec.ofChange pathAddsSpec)

/-- ITS FALSE NEIGHBOUR: 'it returns false'. Refute it at one input. -/
def pathAddsWrong : ChangeSpec := { name := "pathAdds", fn := fun _ => fun
  | [d1, d2, d3] => { results := [.lit (.bool false)], args := [d1, d2, d3] }
  | _ => none }
def PathAddsWrongFalsely : Prop := pathAddsRow.holds Try.pinned (OpenSpec.ofChange pathAddsWrong)

/-- 'plaquettelaw06.PathReverses': WHATEVER THE INPUT: true; the input reads as it did. -/
def pathReversesSpec : ChangeSpec := { name := "pathReverses", fn := fun _ => fun
  | [d1, d2, d3] => { results := [.lit (.bool true)], args := [d1, d2, d3] }
  | _ => none }
def pathReversesRow : OpenClaim := { program := "ytilbhcjnkmeecaa", sum := "d405f85ddb5ef8ecf069cd1fe3e762e4a2af5103bbe61fa2f319d1378de721ca", func := "plaquette/plaquettelaw06.PathReverses", spec := "pathReverses", apart := false }
def PathReversesSaid : Prop := pathReversesRow.holds Try.pinned (OpenSpec.ofChange pathReversesSpec)

/-- ITS FALSE NEIGHBOUR: 'it returns false'. Refute it at one input. -/
def pathReversesWrong : ChangeSpec := { name := "pathReverses", fn := fun _ => fun
  | [d1, d2, d3] => { results := [.lit (.bool false)], args := [d1, d2, d3] }
  | _ => none }
def PathReversesWrongFalsely : Prop := pathReversesRow.holds Try.pinned (OpenSpec.ofChange pathReversesWrong)

/-- 'plaquettelaw06.PathEnergies': WHATEVER THE INPUT: true; the input reads as it did. -/
def pathEnergiesSpec : ChangeSpec := { name := "pathEnergies", fn := fun _ => fun
  | [d1, d2, d3] => { results := [.lit (.bool true)], args := [d1, d2, d3] }
  | _ => none }
def pathEnergiesRow : OpenClaim := { program := "ytilbhcjnkmeecaa", sum := "d405f85ddb5ef8ecf069cd1fe3e762e4a2af5103bbe61fa2f319d1378de721ca", func := "plaquette/plaquettelaw06.PathEnergies", spec := "pathEnergies", unfollowed := true, recurses := true, apart := false }
def PathEnergiesSaid : Prop := pathEnergiesRow.holds Try.pinned (OpenSpec.ofChange pathEnergiesSpec)

/-- ITS FALSE NEIGHBOUR: 'it returns false'. Refute it at one input. -/
def pathEnergiesWrong : ChangeSpec := { name := "pathEnergies", fn := fun _ => fun
  | [d1, d2, d3] => { results := [.lit (.bool false)], args := [d1, d2, d3] }
  | _ => none }
def PathEnergiesWrongFalsely : Prop := pathEnergiesRow.holds Try.pinned (OpenSpec.ofChange pathEnergiesWrong)

/-- 'plaquettelaw06.PathMomenta': WHATEVER THE INPUT: true; the input reads as it did. -/
def pathMomentaSpec : ChangeSpec := { name := "pathMomenta", fn := fun _ => fun
  | [d1, d2] => { results := [.lit (.bool true)], args := [d1, d2] }
  | _ => none }
def pathMomentaRow : OpenClaim := { program := "ytilbhcjnkmeecaa", sum := "d405f85ddb5ef8ecf069cd1fe3e762e4a2af5103bbe61fa2f319d1378de721ca", func := "plaquette/plaquettelaw06.PathMomenta", spec := "pathMomenta", apart := false }
def PathMomentaSaid : Prop := pathMomentaRow.holds Try.pinned (OpenSpec.ofChange pathMomentaSpec)

/-- ITS FALSE NEIGHBOUR: 'it returns false'. Refute it at one input. -/
def pathMomentaWrong : ChangeSpec := { name := "pathMomenta", fn := fun _ => fun
  | [d1, d2] => { results := [.lit (.bool false)], args := [d1, d2] }
  | _ => none }
def PathMomentaWrongFalsely : Prop := pathMomentaRow.holds Try.pinned (OpenSpec.ofChange pathMomentaWrong)

/-- 'plaquettelaw06.PathAccepts': WHATEVER THE INPUT: true; the input reads as it did. -/
def pathAcceptsSpec : ChangeSpec := { name := "pathAccepts", fn := fun _ => fun
  | [d1, d2, d3] => { results := [.lit (.bool true)], args := [d1, d2, d3] }
  | _ => none }
def pathAcceptsRow : OpenClaim := { program := "ytilbhcjnkmeecaa", sum := "d405f85ddb5ef8ecf069cd1fe3e762e4a2af5103bbe61fa2f319d1378de721ca", func := "plaquette/plaquettelaw06.PathAccepts", spec := "pathAccepts", apart := false }
def PathAcceptsSaid : Prop := pathAcceptsRow.holds Try.pinned (OpenSpec.ofChange pathAcceptsSpec)

/-- ITS FALSE NEIGHBOUR: 'it returns false'. Refute it at one input. -/
def pathAcceptsWrong : ChangeSpec := { name := "pathAccepts", fn := fun _ => fun
  | [d1, d2, d3] => { results := [.lit (.bool false)], args := [d1, d2, d3] }
  | _ => none }
def PathAcceptsWrongFalsely : Prop := pathAcceptsRow.holds Try.pinned (OpenSpec.ofChange pathAcceptsWrong)

/-- 'plaquettetop.TopTime': WHATEVER THE INPUT: true; the input reads as it did. -/
def topTimeSpec : ChangeSpec := { name := "topTime", fn := fun _ => fun
  | [d1, d2, d3] => { results := [.lit (.bool true)], args := [d1, d2, d3] }
  | _ => none }
def topTimeRow : OpenClaim := { program := "ytilbhcjnkmeecaa", sum := "d405f85ddb5ef8ecf069cd1fe3e762e4a2af5103bbe61fa2f319d1378de721ca", func := "plaquette/plaquettetop.TopTime", spec := "topTime", unfollowed := true, recurses := true, apart := false }
def TopTimeSaid : Prop := topTimeRow.holds Try.pinned (OpenSpec.ofChange topTimeSpec)

/-- ITS FALSE NEIGHBOUR: 'it returns false'. Refute it at one input. -/
def topTimeWrong : ChangeSpec := { name := "topTime", fn := fun _ => fun
  | [d1, d2, d3] => { results := [.lit (.bool false)], args := [d1, d2, d3] }
  | _ => none }
def TopTimeWrongFalsely : Prop := topTimeRow.holds Try.pinned (OpenSpec.ofChange topTimeWrong)

/- THE SECOND FORM. 'bulk': how many values and letters a reading holds, each counted each time it is reached (what is shared counts as often as it is met; a slice's spare places count too). A statement '..UptoSaid' is the law's where the arguments, and the package variables that the reading takes, are together of bulk at most 1048576: NARROWER than '..Said'. Prove '..Said' where nothing that the law and all that it calls make is longer than what came in: it says more and counts as full. Else prove '..UptoSaid'. A law counts once. -/
mutual
def uptoBulk {H : Type} : DataW H → Nat
  | .lit (.string bytes) => bytes.length + 1
  | .lit _ => 1
  | .nil => 1
  | .ptr d => uptoBulk d + 1
  | .slice elems spare => uptoBulkAll elems + uptoBulkAll spare + 1
  | .agg parts => uptoBulkAll parts + 1
  | .iface _ d => uptoBulk d + 1
  | .map entries => uptoBulkEntries entries + 1
  | .held _ => 1
def uptoBulkAll {H : Type} : List (DataW H) → Nat
  | [] => 0
  | d :: r => uptoBulk d + uptoBulkAll r
def uptoBulkEntries {H : Type} : List (Lit × DataW H) → Nat
  | [] => 0
  | x :: r => uptoBulkEntry x + uptoBulkEntries r
def uptoBulkEntry {H : Type} : Lit × DataW H → Nat
  | (.string bytes, d) => bytes.length + uptoBulk d + 1
  | (_, d) => uptoBulk d + 1
 end
def uptoSmall : (H : Type) → List (DataW H) → Bool := fun _ ds => decide (uptoBulkAll ds ≤ 1048576)
def OpenSpec.upto (s : _root_.Go.ChangeSpec) : _root_.Go.OpenSpec := { _root_.Go.OpenSpec.ofChange s with cond := some uptoSmall }

/-- 'plaquettelaw06.PathValidates', WHERE WHAT IT READS IS OF BULK AT MOST 1048576: true; the input reads as it did. -/
def pathValidatesUptoRow : OpenClaim := { program := "ytilbhcjnkmeecaa", sum := "d405f85ddb5ef8ecf069cd1fe3e762e4a2af5103bbe61fa2f319d1378de721ca", func := "plaquette/plaquettelaw06.PathValidates", spec := "pathValidates", apart := false, narrowed := true }
def PathValidatesUptoSaid : Prop := pathValidatesUptoRow.holds Try.pinned (OpenSpec.upto pathValidatesSpec)

/-- 'plaquettelaw06.PathTurners', WHERE WHAT IT READS IS OF BULK AT MOST 1048576: true; the input reads as it did. -/
def pathTurnersUptoRow : OpenClaim := { program := "ytilbhcjnkmeecaa", sum := "d405f85ddb5ef8ecf069cd1fe3e762e4a2af5103bbe61fa2f319d1378de721ca", func := "plaquette/plaquettelaw06.PathTurners", spec := "pathTurners", apart := false, narrowed := true }
def PathTurnersUptoSaid : Prop := pathTurnersUptoRow.holds Try.pinned (OpenSpec.upto pathTurnersSpec)

/-- 'plaquettelaw06.PathForces', WHERE WHAT IT READS IS OF BULK AT MOST 1048576: true; the input reads as it did. -/
def pathForcesUptoRow : OpenClaim := { program := "ytilbhcjnkmeecaa", sum := "d405f85ddb5ef8ecf069cd1fe3e762e4a2af5103bbe61fa2f319d1378de721ca", func := "plaquette/plaquettelaw06.PathForces", spec := "pathForces", apart := false, narrowed := true }
def PathForcesUptoSaid : Prop := pathForcesUptoRow.holds Try.pinned (OpenSpec.upto pathForcesSpec)

/-- 'plaquettelaw06.PathAdds', WHERE WHAT IT READS IS OF BULK AT MOST 1048576: true; the input reads as it did. -/
def pathAddsUptoRow : OpenClaim := { program := "ytilbhcjnkmeecaa", sum := "d405f85ddb5ef8ecf069cd1fe3e762e4a2af5103bbe61fa2f319d1378de721ca", func := "plaquette/plaquettelaw06.PathAdds", spec := "pathAdds", apart := false, narrowed := true }
def PathAddsUptoSaid : Prop := pathAddsUptoRow.holds Try.pinned (OpenSpec.upto pathAddsSpec)

/-- 'plaquettelaw06.PathReverses', WHERE WHAT IT READS IS OF BULK AT MOST 1048576: true; the input reads as it did. -/
def pathReversesUptoRow : OpenClaim := { program := "ytilbhcjnkmeecaa", sum := "d405f85ddb5ef8ecf069cd1fe3e762e4a2af5103bbe61fa2f319d1378de721ca", func := "plaquette/plaquettelaw06.PathReverses", spec := "pathReverses", apart := false, narrowed := true }
def PathReversesUptoSaid : Prop := pathReversesUptoRow.holds Try.pinned (OpenSpec.upto pathReversesSpec)

/-- 'plaquettelaw06.PathEnergies', WHERE WHAT IT READS IS OF BULK AT MOST 1048576: true; the input reads as it did. -/
def pathEnergiesUptoRow : OpenClaim := { program := "ytilbhcjnkmeecaa", sum := "d405f85ddb5ef8ecf069cd1fe3e762e4a2af5103bbe61fa2f319d1378de721ca", func := "plaquette/plaquettelaw06.PathEnergies", spec := "pathEnergies", unfollowed := true, recurses := true, apart := false, narrowed := true }
def PathEnergiesUptoSaid : Prop := pathEnergiesUptoRow.holds Try.pinned (OpenSpec.upto pathEnergiesSpec)

/-- 'plaquettelaw06.PathMomenta', WHERE WHAT IT READS IS OF BULK AT MOST 1048576: true; the input reads as it did. -/
def pathMomentaUptoRow : OpenClaim := { program := "ytilbhcjnkmeecaa", sum := "d405f85ddb5ef8ecf069cd1fe3e762e4a2af5103bbe61fa2f319d1378de721ca", func := "plaquette/plaquettelaw06.PathMomenta", spec := "pathMomenta", apart := false, narrowed := true }
def PathMomentaUptoSaid : Prop := pathMomentaUptoRow.holds Try.pinned (OpenSpec.upto pathMomentaSpec)

/-- 'plaquettelaw06.PathAccepts', WHERE WHAT IT READS IS OF BULK AT MOST 1048576: true; the input reads as it did. -/
def pathAcceptsUptoRow : OpenClaim := { program := "ytilbhcjnkmeecaa", sum := "d405f85ddb5ef8ecf069cd1fe3e762e4a2af5103bbe61fa2f319d1378de721ca", func := "plaquette/plaquettelaw06.PathAccepts", spec := "pathAccepts", apart := false, narrowed := true }
def PathAcceptsUptoSaid : Prop := pathAcceptsUptoRow.holds Try.pinned (OpenSpec.upto pathAcceptsSpec)

/-- 'plaquettetop.TopTime', WHERE WHAT IT READS IS OF BULK AT MOST 1048576: true; the input reads as it did. -/
def topTimeUptoRow : OpenClaim := { program := "ytilbhcjnkmeecaa", sum := "d405f85ddb5ef8ecf069cd1fe3e762e4a2af5103bbe61fa2f319d1378de721ca", func := "plaquette/plaquettetop.TopTime", spec := "topTime", unfollowed := true, recurses := true, apart := false, narrowed := true }
def TopTimeUptoSaid : Prop := topTimeUptoRow.holds Try.pinned (OpenSpec.upto topTimeSpec)

end Rows
end Go.Proofs.Ytilbhcjnkmeecaa
