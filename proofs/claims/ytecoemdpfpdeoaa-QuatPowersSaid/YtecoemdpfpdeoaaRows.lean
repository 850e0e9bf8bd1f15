/-
  No cell of these rows narrows 'for every input' (looked for: loops, veiled, ifaces, maps, wideKeys, modest, calm, conditions, laid).
  DERIVED. THE GIVEN ROWS OF THIS SEAT. 13 by the template 'for every input the law returns true; each argument reads behind the call as it read before'; 0 by the template 'total and deterministic' (their statements: YtecoemdpfpdeoaaTotals.lean).
  GIVEN WITH THE SEED: the statements are not yours to turn. If you find one false, say at which input.
  Laid BY PROGRAM, IN A SANDBOX (cutbox-rows.mjs): the forced cells as the released guide's own fill.sh prints them over the translation 194b869a6b87b27b… (all of the seat's roots in one cut). By AI agents, Wed Nov 11 2026. No macro, syntax, notation, axiom, sorry.
-/
import Derived.Test.YtecoemdpfpdeoaaChecked
import GoSem.Claim
import GoSem.ClaimJoined
import GoSem.ClaimMapViews
import Derived.JoinedTies
import Derived.KernelRfl
namespace Go.Proofs.Ytecoemdpfpdeoaa
/- THE CELL 'sum', in the pinned program and in every row, IS THE sha256 OF THE DUMP (.gsa) THAT YtecoemdpfpdeoaaProg.lean LOADS. Nothing in Lean hashes anything: it is a label: what it is worth is what the hold of that sum in a sandbox is worth. -/
noncomputable def Try.pinned : Pinned := { name := "ytecoemdpfpdeoaa", sum := "194b869a6b87b27bdc6ab3ed90c5e0433152787b8546b937fe2972d479178e00", checked := Try.checked }
namespace Rows
def none {H : Type} : Left H := { results := [], args := [] }

/-- 'plaquettelaw01.QuatValidates': WHATEVER THE INPUT: true; the input reads as it did. -/
def quatValidatesSpec : ChangeSpec := { name := "quatValidates", fn := fun _ => fun
  | [d] => { results := [.lit (.bool true)], args := [d] }
  | _ => none }
def quatValidatesRow : OpenClaim := { program := "ytecoemdpfpdeoaa", sum := "194b869a6b87b27bdc6ab3ed90c5e0433152787b8546b937fe2972d479178e00", func := "plaquette/plaquettelaw01.QuatValidates", spec := "quatValidates", apart := false }
def QuatValidatesSaid : Prop := quatValidatesRow.holds Try.pinned (OpenSpec.ofChange quatValidatesSpec)

/-- ITS FALSE NEIGHBOUR: 'it returns false'. Refute it at one input. -/
def quatValidatesWrong : ChangeSpec := { name := "quatValidates", fn := fun _ => fun
  | [d] => { results := [.lit (.bool false)], args := [d] }
  | _ => none }
def QuatValidatesWrongFalsely : Prop := quatValidatesRow.holds Try.pinned (OpenSpec.ofChange quatValidatesWrong)

/-- 'plaquettelaw01.QuatOf': WHATEVER THE INPUT: true; the input reads as it did. -/
def quatOfSpec : ChangeSpec := { name := "quatOf", fn := fun _ => fun
  | [d] => { results := [.lit (.bool true)], args := [d] }
  | _ => none }
def quatOfRow : OpenClaim := { program := "ytecoemdpfpdeoaa", sum := "194b869a6b87b27bdc6ab3ed90c5e0433152787b8546b937fe2972d479178e00", func := "plaquette/plaquettelaw01.QuatOf", spec := "quatOf", apart := false }
def QuatOfSaid : Prop := quatOfRow.holds Try.pinned (OpenSpec.ofChange quatOfSpec)

/-- ITS FALSE NEIGHBOUR: 'it returns false'. Refute it at one input. -/
def quatOfWrong : ChangeSpec := { name := "quatOf", fn := fun _ => fun
  | [d] => { results := [.lit (.bool false)], args := [d] }
  | _ => none }
def QuatOfWrongFalsely : Prop := quatOfRow.holds Try.pinned (OpenSpec.ofChange quatOfWrong)

/-- 'plaquettelaw01.QuatMultiplies': WHATEVER THE INPUT: true; the input reads as it did. -/
def quatMultipliesSpec : ChangeSpec := { name := "quatMultiplies", fn := fun _ => fun
  | [d1, d2] => { results := [.lit (.bool true)], args := [d1, d2] }
  | _ => none }
def quatMultipliesRow : OpenClaim := { program := "ytecoemdpfpdeoaa", sum := "194b869a6b87b27bdc6ab3ed90c5e0433152787b8546b937fe2972d479178e00", func := "plaquette/plaquettelaw01.QuatMultiplies", spec := "quatMultiplies", apart := false }
def QuatMultipliesSaid : Prop := quatMultipliesRow.holds Try.pinned (OpenSpec.ofChange quatMultipliesSpec)

/-- ITS FALSE NEIGHBOUR: 'it returns false'. Refute it at one input. -/
def quatMultipliesWrong : ChangeSpec := { name := "quatMultiplies", fn := fun _ => fun
  | [d1, d2] => { results := [.lit (.bool false)], args := [d1, d2] }
  | _ => none }
def QuatMultipliesWrongFalsely : Prop := quatMultipliesRow.holds Try.pinned (OpenSpec.ofChange quatMultipliesWrong)

/-- 'plaquettelaw01.QuatAssociates': WHATEVER THE INPUT: true; the input reads as it did. -/
def quatAssociatesSpec : ChangeSpec := { name := "quatAssociates", fn := fun _ => fun
  | [d1, d2, d3] => { results := [.lit (.bool true)], args := [d1, d2, d3] }
  | _ => none }
def quatAssociatesRow : OpenClaim := { program := "ytecoemdpfpdeoaa", sum := "194b869a6b87b27bdc6ab3ed90c5e0433152787b8546b937fe2972d479178e00", func := "plaquette/plaquettelaw01.QuatAssociates", spec := "quatAssociates", apart := false }
def QuatAssociatesSaid : Prop := quatAssociatesRow.holds Try.pinned (OpenSpec.ofChange quatAssociatesSpec)

/-- ITS FALSE NEIGHBOUR: 'it returns false'. Refute it at one input. -/
def quatAssociatesWrong : ChangeSpec := { name := "quatAssociates", fn := fun _ => fun
  | [d1, d2, d3] => { results := [.lit (.bool false)], args := [d1, d2, d3] }
  | _ => none }
def QuatAssociatesWrongFalsely : Prop := quatAssociatesRow.holds Try.pinned (OpenSpec.ofChange quatAssociatesWrong)

/-- 'plaquettelaw01.QuatProducts': WHATEVER THE INPUT: true; the input reads as it did. -/
def quatProductsSpec : ChangeSpec := { name := "quatProducts", fn := fun _ => fun
  | [d] => { results := [.lit (.bool true)], args := [d] }
  | _ => none }
def quatProductsRow : OpenClaim := { program := "ytecoemdpfpdeoaa", sum := "194b869a6b87b27bdc6ab3ed90c5e0433152787b8546b937fe2972d479178e00", func := "plaquette/plaquettelaw01.QuatProducts", spec := "quatProducts", apart := false }
def QuatProductsSaid : Prop := quatProductsRow.holds Try.pinned (OpenSpec.ofChange quatProductsSpec)

/-- ITS FALSE NEIGHBOUR: 'it returns false'. Refute it at one input. -/
def quatProductsWrong : ChangeSpec := { name := "quatProducts", fn := fun _ => fun
  | [d] => { results := [.lit (.bool false)], args := [d] }
  | _ => none }
def QuatProductsWrongFalsely : Prop := quatProductsRow.holds Try.pinned (OpenSpec.ofChange quatProductsWrong)

/-- 'plaquettelaw01.QuatPowers': WHATEVER THE INPUT: true; the input reads as it did. -/
def quatPowersSpec : ChangeSpec := { name := "quatPowers", fn := fun _ => fun
  | [d1, d2] => { results := [.lit (.bool true)], args := [d1, d2] }
  | _ => none }
def quatPowersRow : OpenClaim := { program := "ytecoemdpfpdeoaa", sum := "194b869a6b87b27bdc6ab3ed90c5e0433152787b8546b937fe2972d479178e00", func := "plaquette/plaquettelaw01.QuatPowers", spec := "quatPowers", apart := false }
def QuatPowersSaid : Prop := quatPowersRow.holds Try.pinned (OpenSpec.ofChange quatPowersSpec)

/-- ITS FALSE NEIGHBOUR: 'it returns false'. Refute it at one input. -/
def quatPowersWrong : ChangeSpec := { name := "quatPowers", fn := fun _ => fun
  | [d1, d2] => { results := [.lit (.bool false)], args := [d1, d2] }
  | _ => none }
def QuatPowersWrongFalsely : Prop := quatPowersRow.holds Try.pinned (OpenSpec.ofChange quatPowersWrong)

/-- 'plaquettelaw01.QuatConjugates': WHATEVER THE INPUT: true; the input reads as it did. -/
def quatConjugatesSpec : ChangeSpec := { name := "quatConjugates", fn := fun _ => fun
  | [d1, d2] => { results := [.lit (.bool true)], args := [d1, d2] }
  | _ => none }
def quatConjugatesRow : OpenClaim := { program := "ytecoemdpfpdeoaa", sum := "194b869a6b87b27bdc6ab3ed90c5e0433152787b8546b937fe2972d479178e00", func := "plaquette/plaquettelaw01.QuatConjugates", spec := "quatConjugates", apart := false }
def QuatConjugatesSaid : Prop := quatConjugatesRow.holds Try.pinned (OpenSpec.ofChange quatConjugatesSpec)

/-- ITS FALSE NEIGHBOUR: 'it returns false'. Refute it at one input. -/
def quatConjugatesWrong : ChangeSpec := { name := "quatConjugates", fn := fun _ => fun
  | [d1, d2] => { results := [.lit (.bool false)], args := [d1, d2] }
  | _ => none }
def QuatConjugatesWrongFalsely : Prop := quatConjugatesRow.holds Try.pinned (OpenSpec.ofChange quatConjugatesWrong)

/-- 'plaquettelaw01.QuatCommutes': WHATEVER THE INPUT: true; the input reads as it did. -/
def quatCommutesSpec : ChangeSpec := { name := "quatCommutes", fn := fun _ => fun
  | [d1, d2] => { results := [.lit (.bool true)], args := [d1, d2] }
  | _ => none }
def quatCommutesRow : OpenClaim := { program := "ytecoemdpfpdeoaa", sum := "194b869a6b87b27bdc6ab3ed90c5e0433152787b8546b937fe2972d479178e00", func := "plaquette/plaquettelaw01.QuatCommutes", spec := "quatCommutes", apart := false }
def QuatCommutesSaid : Prop := quatCommutesRow.holds Try.pinned (OpenSpec.ofChange quatCommutesSpec)

/-- ITS FALSE NEIGHBOUR: 'it returns false'. Refute it at one input. -/
def quatCommutesWrong : ChangeSpec := { name := "quatCommutes", fn := fun _ => fun
  | [d1, d2] => { results := [.lit (.bool false)], args := [d1, d2] }
  | _ => none }
def QuatCommutesWrongFalsely : Prop := quatCommutesRow.holds Try.pinned (OpenSpec.ofChange quatCommutesWrong)

/-- 'plaquettelaw01.QuatTraces': WHATEVER THE INPUT: true; the input reads as it did. -/
def quatTracesSpec : ChangeSpec := { name := "quatTraces", fn := fun _ => fun
  | [d1, d2] => { results := [.lit (.bool true)], args := [d1, d2] }
  | _ => none }
def quatTracesRow : OpenClaim := { program := "ytecoemdpfpdeoaa", sum := "194b869a6b87b27bdc6ab3ed90c5e0433152787b8546b937fe2972d479178e00", func := "plaquette/plaquettelaw01.QuatTraces", spec := "quatTraces", apart := false }
def QuatTracesSaid : Prop := quatTracesRow.holds Try.pinned (OpenSpec.ofChange quatTracesSpec)

/-- ITS FALSE NEIGHBOUR: 'it returns false'. Refute it at one input. -/
def quatTracesWrong : ChangeSpec := { name := "quatTraces", fn := fun _ => fun
  | [d1, d2] => { results := [.lit (.bool false)], args := [d1, d2] }
  | _ => none }
def QuatTracesWrongFalsely : Prop := quatTracesRow.holds Try.pinned (OpenSpec.ofChange quatTracesWrong)

/-- 'plaquettelaw01.QuatRotates': WHATEVER THE INPUT: true; the input reads as it did. -/
def quatRotatesSpec : ChangeSpec := { name := "quatRotates", fn := fun _ => fun
  | [d1, d2] => { results := [.lit (.bool true)], args := [d1, d2] }
  | _ => none }
def quatRotatesRow : OpenClaim := { program := "ytecoemdpfpdeoaa", sum := "194b869a6b87b27bdc6ab3ed90c5e0433152787b8546b937fe2972d479178e00", func := "plaquette/plaquettelaw01.QuatRotates", spec := "quatRotates", apart := false }
def QuatRotatesSaid : Prop := quatRotatesRow.holds Try.pinned (OpenSpec.ofChange quatRotatesSpec)

/-- ITS FALSE NEIGHBOUR: 'it returns false'. Refute it at one input. -/
def quatRotatesWrong : ChangeSpec := { name := "quatRotates", fn := fun _ => fun
  | [d1, d2] => { results := [.lit (.bool false)], args := [d1, d2] }
  | _ => none }
def QuatRotatesWrongFalsely : Prop := quatRotatesRow.holds Try.pinned (OpenSpec.ofChange quatRotatesWrong)

/-- 'plaquettelaw01.QuatCayley': WHATEVER THE INPUT: true; the input reads as it did. -/
def quatCayleySpec : ChangeSpec := { name := "quatCayley", fn := fun _ => fun
  | [d1, d2, d3] => { results := [.lit (.bool true)], args := [d1, d2, d3] }
  | _ => none }
def quatCayleyRow : OpenClaim := { program := "ytecoemdpfpdeoaa", sum := "194b869a6b87b27bdc6ab3ed90c5e0433152787b8546b937fe2972d479178e00", func := "plaquette/plaquettelaw01.QuatCayley", spec := "quatCayley", apart := false }
def QuatCayleySaid : Prop := quatCayleyRow.holds Try.pinned (OpenSpec.ofChange quatCayleySpec)

/-- ITS FALSE NEIGHBOUR: 'it returns false'. Refute it at one input. -/
def quatCayleyWrong : ChangeSpec := { name := "quatCayley", fn := fun _ => fun
  | [d1, d2, d3] => { results := [.lit (.bool false)], args := [d1, d2, d3] }
  | _ => none }
def QuatCayleyWrongFalsely : Prop := quatCayleyRow.holds Try.pinned (OpenSpec.ofChange quatCayleyWrong)

/-- 'plaquettelaw01.QuatSmall': WHATEVER THE INPUT: true; the input reads as it did. -/
def quatSmallSpec : ChangeSpec := { name := "quatSmall", fn := fun _ => fun
  | [d1, d2, d3] => { results := [.lit (.bool true)], args := [d1, d2, d3] }
  | _ => none }
def quatSmallRow : OpenClaim := { program := "ytecoemdpfpdeoaa", sum := "194b869a6b87b27bdc6ab3ed90c5e0433152787b8546b937fe2972d479178e00", func := "plaquette/plaquettelaw01.QuatSmall", spec := "quatSmall", apart := false }
def QuatSmallSaid : Prop := quatSmallRow.holds Try.pinned (OpenSpec.ofChange quatSmallSpec)

/-- ITS FALSE NEIGHBOUR: 'it returns false'. Refute it at one input. -/
def quatSmallWrong : ChangeSpec := { name := "quatSmall", fn := fun _ => fun
  | [d1, d2, d3] => { results := [.lit (.bool false)], args := [d1, d2, d3] }
  | _ => none }
def QuatSmallWrongFalsely : Prop := quatSmallRow.holds Try.pinned (OpenSpec.ofChange quatSmallWrong)

/-- 'plaquettetop.TopUnits': WHATEVER THE INPUT: true; the input reads as it did. -/
def topUnitsSpec : ChangeSpec := { name := "topUnits", fn := fun _ => fun
  | [d1, d2, d3] => { results := [.lit (.bool true)], args := [d1, d2, d3] }
  | _ => none }
def topUnitsRow : OpenClaim := { program := "ytecoemdpfpdeoaa", sum := "194b869a6b87b27bdc6ab3ed90c5e0433152787b8546b937fe2972d479178e00", func := "plaquette/plaquettetop.TopUnits", spec := "topUnits", apart := false }
def TopUnitsSaid : Prop := topUnitsRow.holds Try.pinned (OpenSpec.ofChange topUnitsSpec)

/-- ITS FALSE NEIGHBOUR: 'it returns false'. Refute it at one input. -/
def topUnitsWrong : ChangeSpec := { name := "topUnits", fn := fun _ => fun
  | [d1, d2, d3] => { results := [.lit (.bool false)], args := [d1, d2, d3] }
  | _ => none }
def TopUnitsWrongFalsely : Prop := topUnitsRow.holds Try.pinned (OpenSpec.ofChange topUnitsWrong)

/- THE SECOND FORM. 'bulk': how many values and letters a reading holds, each counted each time it is reached (what is shared counts as often as it is met; a slice's spare places count too). A statement '..UptoSaid' is the law's where the arguments, and the package variables that the reading takes, are together of bulk at most 1048576: NARROWER than '..Said'. Prove '..Said' where nothing that the law and all that it calls make is longer than what came in: it says more and counts as full. Else prove '..UptoSaid'. A law counts once. -/
mutual
def uptoBulk {H : Type} : DataW H → Nat
  | .lit (.string bytes) => bytes.length + 1
  | .lit _ => 1
  | .nil => 1
  | .ptr d => uptoBulk d + 1
  | .slice elems spare => uptoBulkAll elems + uptoBulkAll spare + 1
  | .agg parts => uptoBulkAll parts + 1
  | .iface _ d => uptoBulk d + 1
  | .map entries => uptoBulkEntries entries + 1
  | .held _ => 1
def uptoBulkAll {H : Type} : List (DataW H) → Nat
  | [] => 0
  | d :: r => uptoBulk d + uptoBulkAll r
def uptoBulkEntries {H : Type} : List (Lit × DataW H) → Nat
  | [] => 0
  | x :: r => uptoBulkEntry x + uptoBulkEntries r
def uptoBulkEntry {H : Type} : Lit × DataW H → Nat
  | (.string bytes, d) => bytes.length + uptoBulk d + 1
  | (_, d) => uptoBulk d + 1
 end
def uptoSmall : (H : Type) → List (DataW H) → Bool := fun _ ds => decide (uptoBulkAll ds ≤ 1048576)
def OpenSpec.upto (s : _root_.Go.ChangeSpec) : _root_.Go.OpenSpec := { _root_.Go.OpenSpec.ofChange s with cond := some uptoSmall }

/-- 'plaquettelaw01.QuatValidates', WHERE WHAT IT READS IS OF BULK AT MOST 1048576: true; the input reads as it did. -/
def quatValidatesUptoRow : OpenClaim := { program := "ytecoemdpfpdeoaa", sum := "194b869a6b87b27bdc6ab3ed90c5e0433152787b8546b937fe2972d479178e00", func := "plaquette/plaquettelaw01.QuatValidates", spec := "quatValidates", apart := false, narrowed := true }
def QuatValidatesUptoSaid : Prop := quatValidatesUptoRow.holds Try.pinned (OpenSpec.upto quatValidatesSpec)

/-- 'plaquettelaw01.QuatOf', WHERE WHAT IT READS IS OF BULK AT MOST 1048576: true; the input reads as it did. -/
def quatOfUptoRow : OpenClaim := { program := "ytecoemdpfpdeoaa", sum := "194b869a6b87b27bdc6ab3ed90c5e0433152787b8546b937fe2972d479178e00", func := "plaquette/plaquettelaw01.QuatOf", spec := "quatOf", apart := false, narrowed := true }
def QuatOfUptoSaid : Prop := quatOfUptoRow.holds Try.pinned (OpenSpec.upto quatOfSpec)

/-- 'plaquettelaw01.QuatMultiplies', WHERE WHAT IT READS IS OF BULK AT MOST 1048576: true; the input reads as it did. -/
def quatMultipliesUptoRow : OpenClaim := { program := "ytecoemdpfpdeoaa", sum := "194b869a6b87b27bdc6ab3ed90c5e0433152787b8546b937fe2972d479178e00", func := "plaquette/plaquettelaw01.QuatMultiplies", spec := "quatMultiplies", apart := false, narrowed := true }
def QuatMultipliesUptoSaid : Prop := quatMultipliesUptoRow.holds Try.pinned (OpenSpec.upto quatMultipliesSpec)

/-- 'plaquettelaw01.QuatAssociates', WHERE WHAT IT READS IS OF BULK AT MOST 1048576: true; the input reads as it did. -/
def quatAssociatesUptoRow : OpenClaim := { program := "ytecoemdpfpdeoaa", sum := "194b869a6b87b27bdc6ab3ed90c5e0433152787b8546b937fe2972d479178e00", func := "plaquette/plaquettelaw01.QuatAssociates", spec := "quatAssociates", apart := false, narrowed := true }
def QuatAssociatesUptoSaid : Prop := quatAssociatesUptoRow.holds Try.pinned (OpenSpec.upto quatAssociatesSpec)

/-- 'plaquettelaw01.QuatProducts', WHERE WHAT IT READS IS OF BULK AT MOST 1048576: true; the input reads as it did. -/
def quatProductsUptoRow : OpenClaim := { program := "ytecoemdpfpdeoaa", sum := "194b869a6b87b27bdc6ab3ed90c5e0433152787b8546b937fe2972d479178e00", func := "plaquette/plaquettelaw01.QuatProducts", spec := "quatProducts", apart := false, narrowed := true }
def QuatProductsUptoSaid : Prop := quatProductsUptoRow.holds Try.pinned (OpenSpec.upto quatProductsSpec)

/-- 'plaquettelaw01.QuatPowers', WHERE WHAT IT READS IS OF BULK AT MOST 1048576: true; the input reads as it did. -/
def quatPowersUptoRow : OpenClaim := { program := "ytecoemdpfpdeoaa", sum := "194b869a6b87b27bdc6ab3ed90c5e0433152787b8546b937fe2972d479178e00", func := "plaquette/plaquettelaw01.QuatPowers", spec := "quatPowers", apart := false, narrowed := true }
def QuatPowersUptoSaid : Prop := quatPowersUptoRow.holds Try.pinned (OpenSpec.upto quatPowersSpec)

/-- 'plaquettelaw01.QuatConjugates', WHERE WHAT IT READS IS OF BULK AT MOST 1048576: true; the input reads as it did. -/
def quatConjugatesUptoRow : OpenClaim := { program := "ytecoemdpfpdeoaa", sum := "194b869a6b87b27bdc6ab3ed90c5e0433152787b8546b937fe2972d479178e00", func := "plaquette/plaquettelaw01.QuatConjugates", spec := "quatConjugates", apart := false, narrowed := true }
def QuatConjugatesUptoSaid : Prop := quatConjugatesUptoRow.holds Try.pinned (OpenSpec.upto quatConjugatesSpec)

/-- 'plaquettelaw01.QuatCommutes', WHERE WHAT IT READS IS OF BULK AT MOST 1048576: true; the input reads as it did. -/
def quatCommutesUptoRow : OpenClaim := { program := "ytecoemdpfpdeoaa", sum := "194b869a6b87b27bdc6ab3ed90c5e0433152787b8546b937fe2972d479178e00", func := "plaquette/plaquettelaw01.QuatCommutes", spec := "quatCommutes", apart := false, narrowed := true }
def QuatCommutesUptoSaid : Prop := quatCommutesUptoRow.holds Try.pinned (OpenSpec.upto quatCommutesSpec)

/-- 'plaquettelaw01.QuatTraces', WHERE WHAT IT READS IS OF BULK AT MOST 1048576: true; the input reads as it did. -/
def quatTracesUptoRow : OpenClaim := { program := "ytecoemdpfpdeoaa", sum := "194b869a6b87b27bdc6ab3ed90c5e0433152787b8546b937fe2972d479178e00", func := "plaquette/plaquettelaw01.QuatTraces", spec := "quatTraces", apart := false, narrowed := true }
def QuatTracesUptoSaid : Prop := quatTracesUptoRow.holds Try.pinned (OpenSpec.upto quatTracesSpec)

/-- 'plaquettelaw01.QuatRotates', WHERE WHAT IT READS IS OF BULK AT MOST 1048576: true; the input reads as it did. -/
def quatRotatesUptoRow : OpenClaim := { program := "ytecoemdpfpdeoaa", sum := "194b869a6b87b27bdc6ab3ed90c5e0433152787b8546b937fe2972d479178e00", func := "plaquette/plaquettelaw01.QuatRotates", spec := "quatRotates", apart := false, narrowed := true }
def QuatRotatesUptoSaid : Prop := quatRotatesUptoRow.holds Try.pinned (OpenSpec.upto quatRotatesSpec)

/-- 'plaquettelaw01.QuatCayley', WHERE WHAT IT READS IS OF BULK AT MOST 1048576: true; the input reads as it did. -/
def quatCayleyUptoRow : OpenClaim := { program := "ytecoemdpfpdeoaa", sum := "194b869a6b87b27bdc6ab3ed90c5e0433152787b8546b937fe2972d479178e00", func := "plaquette/plaquettelaw01.QuatCayley", spec := "quatCayley", apart := false, narrowed := true }
def QuatCayleyUptoSaid : Prop := quatCayleyUptoRow.holds Try.pinned (OpenSpec.upto quatCayleySpec)

/-- 'plaquettelaw01.QuatSmall', WHERE WHAT IT READS IS OF BULK AT MOST 1048576: true; the input reads as it did. -/
def quatSmallUptoRow : OpenClaim := { program := "ytecoemdpfpdeoaa", sum := "194b869a6b87b27bdc6ab3ed90c5e0433152787b8546b937fe2972d479178e00", func := "plaquette/plaquettelaw01.QuatSmall", spec := "quatSmall", apart := false, narrowed := true }
def QuatSmallUptoSaid : Prop := quatSmallUptoRow.holds Try.pinned (OpenSpec.upto quatSmallSpec)

/-- 'plaquettetop.TopUnits', WHERE WHAT IT READS IS OF BULK AT MOST 1048576: true; the input reads as it did. -/
def topUnitsUptoRow : OpenClaim := { program := "ytecoemdpfpdeoaa", sum := "194b869a6b87b27bdc6ab3ed90c5e0433152787b8546b937fe2972d479178e00", func := "plaquette/plaquettetop.TopUnits", spec := "topUnits", apart := false, narrowed := true }
def TopUnitsUptoSaid : Prop := topUnitsUptoRow.holds Try.pinned (OpenSpec.upto topUnitsSpec)

end Rows
end Go.Proofs.Ytecoemdpfpdeoaa
