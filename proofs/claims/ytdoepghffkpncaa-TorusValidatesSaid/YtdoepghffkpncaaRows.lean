/-
  No cell of these rows narrows 'for every input' (looked for: loops, veiled, ifaces, maps, wideKeys, modest, calm, conditions, laid).
  DERIVED. THE GIVEN ROWS OF THIS SEAT. 13 by the template 'for every input the law returns true; each argument reads behind the call as it read before'; 0 by the template 'total and deterministic' (their statements: YtdoepghffkpncaaTotals.lean).
  GIVEN WITH THE SEED: the statements are not yours to turn. If you find one false, say at which input.
  Laid BY PROGRAM, IN A SANDBOX (cutbox-rows.mjs): the forced cells as the released guide's own fill.sh prints them over the translation 7f37f23e861603bc… (all of the seat's roots in one cut). By AI agents, Wed Nov 11 2026. No macro, syntax, notation, axiom, sorry.
-/
import Derived.Test.YtdoepghffkpncaaChecked
import GoSem.Claim
import GoSem.ClaimJoined
import GoSem.ClaimMapViews
import Derived.JoinedTies
import Derived.KernelRfl
namespace Go.Proofs.Ytdoepghffkpncaa
/- THE CELL 'sum', in the pinned program and in every row, IS THE sha256 OF THE DUMP (.gsa) THAT YtdoepghffkpncaaProg.lean LOADS. Nothing in Lean hashes anything: it is a label: what it is worth is what the hold of that sum in a sandbox is worth. -/
noncomputable def Try.pinned : Pinned := { name := "ytdoepghffkpncaa", sum := "7f37f23e861603bc865c6cf3e5ed16ecbd0fd8859c1536130f34597ac96f4a19", checked := Try.checked }
namespace Rows
def none {H : Type} : Left H := { results := [], args := [] }

/-- 'plaquettelaw02.TorusValidates': WHATEVER THE INPUT: true; the input reads as it did. -/
def torusValidatesSpec : ChangeSpec := { name := "torusValidates", fn := fun _ => fun
  | [d] => { results := [.lit (.bool true)], args := [d] }
  | _ => none }
def torusValidatesRow : OpenClaim := { program := "ytdoepghffkpncaa", sum := "7f37f23e861603bc865c6cf3e5ed16ecbd0fd8859c1536130f34597ac96f4a19", func := "plaquette/plaquettelaw02.TorusValidates", spec := "torusValidates", apart := false }
def TorusValidatesSaid : Prop := torusValidatesRow.holds Try.pinned (OpenSpec.ofChange torusValidatesSpec)

/-- ITS FALSE NEIGHBOUR: 'it returns false'. Refute it at one input. -/
def torusValidatesWrong : ChangeSpec := { name := "torusValidates", fn := fun _ => fun
  | [d] => { results := [.lit (.bool false)], args := [d] }
  | _ => none }
def TorusValidatesWrongFalsely : Prop := torusValidatesRow.holds Try.pinned (OpenSpec.ofChange torusValidatesWrong)

/-- 'plaquettelaw02.TorusSites': WHATEVER THE INPUT: true; the input reads as it did. -/
def torusSitesSpec : ChangeSpec := { name := "torusSites", fn := fun _ => fun
  | [d1, d2] => { results := [.lit (.bool true)], args := [d1, d2] }
  | _ => none }
def torusSitesRow : OpenClaim := { program := "ytdoepghffkpncaa", sum := "7f37f23e861603bc865c6cf3e5ed16ecbd0fd8859c1536130f34597ac96f4a19", func := "plaquette/plaquettelaw02.TorusSites", spec := "torusSites", apart := false }
def TorusSitesSaid : Prop := torusSitesRow.holds Try.pinned (OpenSpec.ofChange torusSitesSpec)

/-- ITS FALSE NEIGHBOUR: 'it returns false'. Refute it at one input. -/
def torusSitesWrong : ChangeSpec := { name := "torusSites", fn := fun _ => fun
  | [d1, d2] => { results := [.lit (.bool false)], args := [d1, d2] }
  | _ => none }
def TorusSitesWrongFalsely : Prop := torusSitesRow.holds Try.pinned (OpenSpec.ofChange torusSitesWrong)

/-- 'plaquettelaw02.TorusNexts': WHATEVER THE INPUT: true; the input reads as it did. -/
def torusNextsSpec : ChangeSpec := { name := "torusNexts", fn := fun _ => fun
  | [d1, d2] => { results := [.lit (.bool true)], args := [d1, d2] }
  | _ => none }
def torusNextsRow : OpenClaim := { program := "ytdoepghffkpncaa", sum := "7f37f23e861603bc865c6cf3e5ed16ecbd0fd8859c1536130f34597ac96f4a19", func := "plaquette/plaquettelaw02.TorusNexts", spec := "torusNexts", apart := false }
def TorusNextsSaid : Prop := torusNextsRow.holds Try.pinned (OpenSpec.ofChange torusNextsSpec)

/-- ITS FALSE NEIGHBOUR: 'it returns false'. Refute it at one input. -/
def torusNextsWrong : ChangeSpec := { name := "torusNexts", fn := fun _ => fun
  | [d1, d2] => { results := [.lit (.bool false)], args := [d1, d2] }
  | _ => none }
def TorusNextsWrongFalsely : Prop := torusNextsRow.holds Try.pinned (OpenSpec.ofChange torusNextsWrong)

/-- 'plaquettelaw02.TorusWalks': WHATEVER THE INPUT: true; the input reads as it did. -/
def torusWalksSpec : ChangeSpec := { name := "torusWalks", fn := fun _ => fun
  | [d1, d2, d3] => { results := [.lit (.bool true)], args := [d1, d2, d3] }
  | _ => none }
def torusWalksRow : OpenClaim := { program := "ytdoepghffkpncaa", sum := "7f37f23e861603bc865c6cf3e5ed16ecbd0fd8859c1536130f34597ac96f4a19", func := "plaquette/plaquettelaw02.TorusWalks", spec := "torusWalks", apart := false }
def TorusWalksSaid : Prop := torusWalksRow.holds Try.pinned (OpenSpec.ofChange torusWalksSpec)

/-- ITS FALSE NEIGHBOUR: 'it returns false'. Refute it at one input. -/
def torusWalksWrong : ChangeSpec := { name := "torusWalks", fn := fun _ => fun
  | [d1, d2, d3] => { results := [.lit (.bool false)], args := [d1, d2, d3] }
  | _ => none }
def TorusWalksWrongFalsely : Prop := torusWalksRow.holds Try.pinned (OpenSpec.ofChange torusWalksWrong)

/-- 'plaquettelaw02.TorusReduces': WHATEVER THE INPUT: true; the input reads as it did. -/
def torusReducesSpec : ChangeSpec := { name := "torusReduces", fn := fun _ => fun
  | [d] => { results := [.lit (.bool true)], args := [d] }
  | _ => none }
def torusReducesRow : OpenClaim := { program := "ytdoepghffkpncaa", sum := "7f37f23e861603bc865c6cf3e5ed16ecbd0fd8859c1536130f34597ac96f4a19", func := "plaquette/plaquettelaw02.TorusReduces", spec := "torusReduces", apart := false }
def TorusReducesSaid : Prop := torusReducesRow.holds Try.pinned (OpenSpec.ofChange torusReducesSpec)

/-- ITS FALSE NEIGHBOUR: 'it returns false'. Refute it at one input. -/
def torusReducesWrong : ChangeSpec := { name := "torusReduces", fn := fun _ => fun
  | [d] => { results := [.lit (.bool false)], args := [d] }
  | _ => none }
def TorusReducesWrongFalsely : Prop := torusReducesRow.holds Try.pinned (OpenSpec.ofChange torusReducesWrong)

/-- 'plaquettelaw02.TorusLinks': WHATEVER THE INPUT: true; the input reads as it did. -/
def torusLinksSpec : ChangeSpec := { name := "torusLinks", fn := fun _ => fun
  | [d1, d2, d3] => { results := [.lit (.bool true)], args := [d1, d2, d3] }
  | _ => none }
def torusLinksRow : OpenClaim := { program := "ytdoepghffkpncaa", sum := "7f37f23e861603bc865c6cf3e5ed16ecbd0fd8859c1536130f34597ac96f4a19", func := "plaquette/plaquettelaw02.TorusLinks", spec := "torusLinks", apart := false }
def TorusLinksSaid : Prop := torusLinksRow.holds Try.pinned (OpenSpec.ofChange torusLinksSpec)

/-- ITS FALSE NEIGHBOUR: 'it returns false'. Refute it at one input. -/
def torusLinksWrong : ChangeSpec := { name := "torusLinks", fn := fun _ => fun
  | [d1, d2, d3] => { results := [.lit (.bool false)], args := [d1, d2, d3] }
  | _ => none }
def TorusLinksWrongFalsely : Prop := torusLinksRow.holds Try.pinned (OpenSpec.ofChange torusLinksWrong)

/-- 'plaquettelaw02.TorusAlongs': WHATEVER THE INPUT: true; the input reads as it did. -/
def torusAlongsSpec : ChangeSpec := { name := "torusAlongs", fn := fun _ => fun
  | [d1, d2] => { results := [.lit (.bool true)], args := [d1, d2] }
  | _ => none }
def torusAlongsRow : OpenClaim := { program := "ytdoepghffkpncaa", sum := "7f37f23e861603bc865c6cf3e5ed16ecbd0fd8859c1536130f34597ac96f4a19", func := "plaquette/plaquettelaw02.TorusAlongs", spec := "torusAlongs", apart := false }
def TorusAlongsSaid : Prop := torusAlongsRow.holds Try.pinned (OpenSpec.ofChange torusAlongsSpec)

/-- ITS FALSE NEIGHBOUR: 'it returns false'. Refute it at one input. -/
def torusAlongsWrong : ChangeSpec := { name := "torusAlongs", fn := fun _ => fun
  | [d1, d2] => { results := [.lit (.bool false)], args := [d1, d2] }
  | _ => none }
def TorusAlongsWrongFalsely : Prop := torusAlongsRow.holds Try.pinned (OpenSpec.ofChange torusAlongsWrong)

/-- 'plaquettelaw02.TorusBacks': WHATEVER THE INPUT: true; the input reads as it did. -/
def torusBacksSpec : ChangeSpec := { name := "torusBacks", fn := fun _ => fun
  | [d1, d2] => { results := [.lit (.bool true)], args := [d1, d2] }
  | _ => none }
def torusBacksRow : OpenClaim := { program := "ytdoepghffkpncaa", sum := "7f37f23e861603bc865c6cf3e5ed16ecbd0fd8859c1536130f34597ac96f4a19", func := "plaquette/plaquettelaw02.TorusBacks", spec := "torusBacks", apart := false }
def TorusBacksSaid : Prop := torusBacksRow.holds Try.pinned (OpenSpec.ofChange torusBacksSpec)

/-- ITS FALSE NEIGHBOUR: 'it returns false'. Refute it at one input. -/
def torusBacksWrong : ChangeSpec := { name := "torusBacks", fn := fun _ => fun
  | [d1, d2] => { results := [.lit (.bool false)], args := [d1, d2] }
  | _ => none }
def TorusBacksWrongFalsely : Prop := torusBacksRow.holds Try.pinned (OpenSpec.ofChange torusBacksWrong)

/-- 'plaquettelaw02.TorusPlaquettes': WHATEVER THE INPUT: true; the input reads as it did. -/
def torusPlaquettesSpec : ChangeSpec := { name := "torusPlaquettes", fn := fun _ => fun
  | [d] => { results := [.lit (.bool true)], args := [d] }
  | _ => none }
def torusPlaquettesRow : OpenClaim := { program := "ytdoepghffkpncaa", sum := "7f37f23e861603bc865c6cf3e5ed16ecbd0fd8859c1536130f34597ac96f4a19", func := "plaquette/plaquettelaw02.TorusPlaquettes", spec := "torusPlaquettes", unfollowed := true, recurses := true, apart := false }
def TorusPlaquettesSaid : Prop := torusPlaquettesRow.holds Try.pinned (OpenSpec.ofChange torusPlaquettesSpec)

/-- ITS FALSE NEIGHBOUR: 'it returns false'. Refute it at one input. -/
def torusPlaquettesWrong : ChangeSpec := { name := "torusPlaquettes", fn := fun _ => fun
  | [d] => { results := [.lit (.bool false)], args := [d] }
  | _ => none }
def TorusPlaquettesWrongFalsely : Prop := torusPlaquettesRow.holds Try.pinned (OpenSpec.ofChange torusPlaquettesWrong)

/-- 'plaquettelaw02.TorusShifts': WHATEVER THE INPUT: true; the input reads as it did. -/
def torusShiftsSpec : ChangeSpec := { name := "torusShifts", fn := fun _ => fun
  | [d1, d2] => { results := [.lit (.bool true)], args := [d1, d2] }
  | _ => none }
def torusShiftsRow : OpenClaim := { program := "ytdoepghffkpncaa", sum := "7f37f23e861603bc865c6cf3e5ed16ecbd0fd8859c1536130f34597ac96f4a19", func := "plaquette/plaquettelaw02.TorusShifts", spec := "torusShifts", unfollowed := true, recurses := true, apart := false }
def TorusShiftsSaid : Prop := torusShiftsRow.holds Try.pinned (OpenSpec.ofChange torusShiftsSpec)

/-- ITS FALSE NEIGHBOUR: 'it returns false'. Refute it at one input. -/
def torusShiftsWrong : ChangeSpec := { name := "torusShifts", fn := fun _ => fun
  | [d1, d2] => { results := [.lit (.bool false)], args := [d1, d2] }
  | _ => none }
def TorusShiftsWrongFalsely : Prop := torusShiftsRow.holds Try.pinned (OpenSpec.ofChange torusShiftsWrong)

/-- 'plaquettelaw02.TorusTurns': WHATEVER THE INPUT: true; the input reads as it did. -/
def torusTurnsSpec : ChangeSpec := { name := "torusTurns", fn := fun _ => fun
  | [d] => { results := [.lit (.bool true)], args := [d] }
  | _ => none }
def torusTurnsRow : OpenClaim := { program := "ytdoepghffkpncaa", sum := "7f37f23e861603bc865c6cf3e5ed16ecbd0fd8859c1536130f34597ac96f4a19", func := "plaquette/plaquettelaw02.TorusTurns", spec := "torusTurns", unfollowed := true, recurses := true, apart := false }
def TorusTurnsSaid : Prop := torusTurnsRow.holds Try.pinned (OpenSpec.ofChange torusTurnsSpec)

/-- ITS FALSE NEIGHBOUR: 'it returns false'. Refute it at one input. -/
def torusTurnsWrong : ChangeSpec := { name := "torusTurns", fn := fun _ => fun
  | [d] => { results := [.lit (.bool false)], args := [d] }
  | _ => none }
def TorusTurnsWrongFalsely : Prop := torusTurnsRow.holds Try.pinned (OpenSpec.ofChange torusTurnsWrong)

/-- 'plaquettelaw02.TorusMoves': WHATEVER THE INPUT: true; the input reads as it did. -/
def torusMovesSpec : ChangeSpec := { name := "torusMoves", fn := fun _ => fun
  | [d1, d2, d3] => { results := [.lit (.bool true)], args := [d1, d2, d3] }
  | _ => none }
def torusMovesRow : OpenClaim := { program := "ytdoepghffkpncaa", sum := "7f37f23e861603bc865c6cf3e5ed16ecbd0fd8859c1536130f34597ac96f4a19", func := "plaquette/plaquettelaw02.TorusMoves", spec := "torusMoves", unfollowed := true, recurses := true, apart := false }
def TorusMovesSaid : Prop := torusMovesRow.holds Try.pinned (OpenSpec.ofChange torusMovesSpec)

/-- ITS FALSE NEIGHBOUR: 'it returns false'. Refute it at one input. -/
def torusMovesWrong : ChangeSpec := { name := "torusMoves", fn := fun _ => fun
  | [d1, d2, d3] => { results := [.lit (.bool false)], args := [d1, d2, d3] }
  | _ => none }
def TorusMovesWrongFalsely : Prop := torusMovesRow.holds Try.pinned (OpenSpec.ofChange torusMovesWrong)

/-- 'plaquettelaw02.TorusNumbers': WHATEVER THE INPUT: true; the input reads as it did. -/
def torusNumbersSpec : ChangeSpec := { name := "torusNumbers", fn := fun _ => fun
  | [d1, d2] => { results := [.lit (.bool true)], args := [d1, d2] }
  | _ => none }
def torusNumbersRow : OpenClaim := { program := "ytdoepghffkpncaa", sum := "7f37f23e861603bc865c6cf3e5ed16ecbd0fd8859c1536130f34597ac96f4a19", func := "plaquette/plaquettelaw02.TorusNumbers", spec := "torusNumbers", apart := false }
def TorusNumbersSaid : Prop := torusNumbersRow.holds Try.pinned (OpenSpec.ofChange torusNumbersSpec)

/-- ITS FALSE NEIGHBOUR: 'it returns false'. Refute it at one input. -/
def torusNumbersWrong : ChangeSpec := { name := "torusNumbers", fn := fun _ => fun
  | [d1, d2] => { results := [.lit (.bool false)], args := [d1, d2] }
  | _ => none }
def TorusNumbersWrongFalsely : Prop := torusNumbersRow.holds Try.pinned (OpenSpec.ofChange torusNumbersWrong)

/- THE SECOND FORM. 'bulk': how many values and letters a reading holds, each counted each time it is reached (what is shared counts as often as it is met; a slice's spare places count too). A statement '..UptoSaid' is the law's where the arguments, and the package variables that the reading takes, are together of bulk at most 1048576: NARROWER than '..Said'. Prove '..Said' where nothing that the law and all that it calls make is longer than what came in: it says more and counts as full. Else prove '..UptoSaid'. A law counts once. -/
mutual
def uptoBulk {H : Type} : DataW H → Nat
  | .lit (.string bytes) => bytes.length + 1
  | .lit _ => 1
  | .nil => 1
  | .ptr d => uptoBulk d + 1
  | .slice elems spare => uptoBulkAll elems + uptoBulkAll spare + 1
  | .agg parts => uptoBulkAll parts + 1
  | .iface _ d => uptoBulk d + 1
  | .map entries => uptoBulkEntries entries + 1
  | .held _ => 1
def uptoBulkAll {H : Type} : List (DataW H) → Nat
  | [] => 0
  | d :: r => uptoBulk d + uptoBulkAll r
def uptoBulkEntries {H : Type} : List (Lit × DataW H) → Nat
  | [] => 0
  | x :: r => uptoBulkEntry x + uptoBulkEntries r
def uptoBulkEntry {H : Type} : Lit × DataW H → Nat
  | (.string bytes, d) => bytes.length + uptoBulk d + 1
  | (_, d) => uptoBulk d + 1
 end
def uptoSmall : (H : Type) → List (DataW H) → Bool := fun _ ds => decide (uptoBulkAll ds ≤ 1048576)
def OpenSpec.upto (s : _root_.Go.ChangeSpec) : _root_.Go.OpenSpec := { _root_.Go.OpenSpec.ofChange s with cond := some uptoSmall }

/-- 'plaquettelaw02.TorusValidates', WHERE WHAT IT READS IS OF BULK AT MOST 1048576: true; the input reads as it did. -/
def torusValidatesUptoRow : OpenClaim := { program := "ytdoepghffkpncaa", sum := "7f37f23e861603bc865c6cf3e5ed16ecbd0fd8859c1536130f34597ac96f4a19", func := "plaquette/plaquettelaw02.TorusValidates", spec := "torusValidates", apart := false, narrowed := true }
def TorusValidatesUptoSaid : Prop := torusValidatesUptoRow.holds Try.pinned (OpenSpec.upto torusValidatesSpec)

/-- 'plaquettelaw02.TorusSites', WHERE WHAT IT READS IS OF BULK AT MOST 1048576: true; the input reads as it did. -/
def torusSitesUptoRow : OpenClaim := { program := "ytdoepghffkpncaa", sum := "7f37f23e861603bc865c6cf3e5ed16ecbd0fd8859c1536130f34597ac96f4a19", func := "plaquette/plaquettelaw02.TorusSites", spec := "torusSites", apart := false, narrowed := true }
def TorusSitesUptoSaid : Prop := torusSitesUptoRow.holds Try.pinned (OpenSpec.upto torusSitesSpec)

/-- 'plaquettelaw02.TorusNexts', WHERE WHAT IT READS IS OF BULK AT MOST 1048576: true; the input reads as it did. -/
def torusNextsUptoRow : OpenClaim := { program := "ytdoepghffkpncaa", sum := "7f37f23e861603bc865c6cf3e5ed16ecbd0fd8859c1536130f34597ac96f4a19", func := "plaquette/plaquettelaw02.TorusNexts", spec := "torusNexts", apart := false, narrowed := true }
def TorusNextsUptoSaid : Prop := torusNextsUptoRow.holds Try.pinned (OpenSpec.upto torusNextsSpec)

/-- 'plaquettelaw02.TorusWalks', WHERE WHAT IT READS IS OF BULK AT MOST 1048576: true; the input reads as it did. -/
def torusWalksUptoRow : OpenClaim := { program := "ytdoepghffkpncaa", sum := "7f37f23e861603bc865c6cf3e5ed16ecbd0fd8859c1536130f34597ac96f4a19", func := "plaquette/plaquettelaw02.TorusWalks", spec := "torusWalks", apart := false, narrowed := true }
def TorusWalksUptoSaid : Prop := torusWalksUptoRow.holds Try.pinned (OpenSpec.upto torusWalksSpec)

/-- 'plaquettelaw02.TorusReduces', WHERE WHAT IT READS IS OF BULK AT MOST 1048576: true; the input reads as it did. -/
def torusReducesUptoRow : OpenClaim := { program := "ytdoepghffkpncaa", sum := "7f37f23e861603bc865c6cf3e5ed16ecbd0fd8859c1536130f34597ac96f4a19", func := "plaquette/plaquettelaw02.TorusReduces", spec := "torusReduces", apart := false, narrowed := true }
def TorusReducesUptoSaid : Prop := torusReducesUptoRow.holds Try.pinned (OpenSpec.upto torusReducesSpec)

/-- 'plaquettelaw02.TorusLinks', WHERE WHAT IT READS IS OF BULK AT MOST 1048576: true; the input reads as it did. -/
def torusLinksUptoRow : OpenClaim := { program := "ytdoepghffkpncaa", sum := "7f37f23e861603bc865c6cf3e5ed16ecbd0fd8859c1536130f34597ac96f4a19", func := "plaquette/plaquettelaw02.TorusLinks", spec := "torusLinks", apart := false, narrowed := true }
def TorusLinksUptoSaid : Prop := torusLinksUptoRow.holds Try.pinned (OpenSpec.upto torusLinksSpec)

/-- 'plaquettelaw02.TorusAlongs', WHERE WHAT IT READS IS OF BULK AT MOST 1048576: true; the input reads as it did. -/
def torusAlongsUptoRow : OpenClaim := { program := "ytdoepghffkpncaa", sum := "7f37f23e861603bc865c6cf3e5ed16ecbd0fd8859c1536130f34597ac96f4a19", func := "plaquette/plaquettelaw02.TorusAlongs", spec := "torusAlongs", apart := false, narrowed := true }
def TorusAlongsUptoSaid : Prop := torusAlongsUptoRow.holds Try.pinned (OpenSpec.upto torusAlongsSpec)

/-- 'plaquettelaw02.TorusBacks', WHERE WHAT IT READS IS OF BULK AT MOST 1048576: true; the input reads as it did. -/
def torusBacksUptoRow : OpenClaim := { program := "ytdoepghffkpncaa", sum := "7f37f23e861603bc865c6cf3e5ed16ecbd0fd8859c1536130f34597ac96f4a19", func := "plaquette/plaquettelaw02.TorusBacks", spec := "torusBacks", apart := false, narrowed := true }
def TorusBacksUptoSaid : Prop := torusBacksUptoRow.holds Try.pinned (OpenSpec.upto torusBacksSpec)

/-- 'plaquettelaw02.TorusPlaquettes', WHERE WHAT IT READS IS OF BULK AT MOST 1048576: true; the input reads as it did. -/
def torusPlaquettesUptoRow : OpenClaim := { program := "ytdoepghffkpncaa", sum := "7f37f23e861603bc865c6cf3e5ed16ecbd0fd8859c1536130f34597ac96f4a19", func := "plaquette/plaquettelaw02.TorusPlaquettes", spec := "torusPlaquettes", unfollowed := true, recurses := true, apart := false, narrowed := true }
def TorusPlaquettesUptoSaid : Prop := torusPlaquettesUptoRow.holds Try.pinned (OpenSpec.upto torusPlaquettesSpec)

/-- 'plaquettelaw02.TorusShifts', WHERE WHAT IT READS IS OF BULK AT MOST 1048576: true; the input reads as it did. -/
def torusShiftsUptoRow : OpenClaim := { program := "ytdoepghffkpncaa", sum := "7f37f23e861603bc865c6cf3e5ed16ecbd0fd8859c1536130f34597ac96f4a19", func := "plaquette/plaquettelaw02.TorusShifts", spec := "torusShifts", unfollowed := true, recurses := true, apart := false, narrowed := true }
def TorusShiftsUptoSaid : Prop := torusShiftsUptoRow.holds Try.pinned (OpenSpec.upto torusShiftsSpec)

/-- 'plaquettelaw02.TorusTurns', WHERE WHAT IT READS IS OF BULK AT MOST 1048576: true; the input reads as it did. -/
def torusTurnsUptoRow : OpenClaim := { program := "ytdoepghffkpncaa", sum := "7f37f23e861603bc865c6cf3e5ed16ecbd0fd8859c1536130f34597ac96f4a19", func := "plaquette/plaquettelaw02.TorusTurns", spec := "torusTurns", unfollowed := true, recurses := true, apart := false, narrowed := true }
def TorusTurnsUptoSaid : Prop := torusTurnsUptoRow.holds Try.pinned (OpenSpec.upto torusTurnsSpec)

/-- 'plaquettelaw02.TorusMoves', WHERE WHAT IT READS IS OF BULK AT MOST 1048576: true; the input reads as it did. -/
def torusMovesUptoRow : OpenClaim := { program := "ytdoepghffkpncaa", sum := "7f37f23e861603bc865c6cf3e5ed16ecbd0fd8859c1536130f34597ac96f4a19", func := "plaquette/plaquettelaw02.TorusMoves", spec := "torusMoves", unfollowed := true, recurses := true, apart := false, narrowed := true }
def TorusMovesUptoSaid : Prop := torusMovesUptoRow.holds Try.pinned (OpenSpec.upto torusMovesSpec)

/-- 'plaquettelaw02.TorusNumbers', WHERE WHAT IT READS IS OF BULK AT MOST 1048576: true; the input reads as it did. -/
def torusNumbersUptoRow : OpenClaim := { program := "ytdoepghffkpncaa", sum := "7f37f23e861603bc865c6cf3e5ed16ecbd0fd8859c1536130f34597ac96f4a19", func := "plaquette/plaquettelaw02.TorusNumbers", spec := "torusNumbers", apart := false, narrowed := true }
def TorusNumbersUptoSaid : Prop := torusNumbersUptoRow.holds Try.pinned (OpenSpec.upto torusNumbersSpec)

end Rows
end Go.Proofs.Ytdoepghffkpncaa
