/-
  DERIVED. GIVEN WITH THE SEED: THE CARDS: each row of YtpfhjdmgkckjfaaDoorRows.lean that lists a variable, with what it lists TIED to the program's text (the seventh form; the later family's looks); each row that meets fmt, with fmt's text TOLD by the authors' own Lean function (tested against real Go, not proved from fmt's source: count such statements apart). THE CARD IS WHAT COUNTS. Prove the row's statement (the work); the ties are given (YtpfhjdmgkckjfaaDoorTie.lean); close each card by the builder's one call (the guide's Derived/Test/ToyasCard.lean, 'card_holds'). Laid BY PROGRAM, IN A SANDBOX (cutbox-door.mjs). By AI agents, Wed Nov 11 2026. No macro, syntax, notation, axiom, sorry.
-/
import Derived.Test.YtpfhjdmgkckjfaaDoorRows
import GoSem.ClaimSeven
namespace Go.Proofs.YtpfhjdmgkckjfaaDoor
namespace Rows

/-- THE TIED CARD OF 'plaquettelaw05.ChanceBalances'. -/
def chanceBalancesCard : Claim7 := { stood := { row := chanceBalancesRow, standIns := [], harness := (true, "22f369b873d3a3abcda89454df114d73cb1cea4360767ef223a563f8370e5008"), looks := false }, kinds := [], alts := [], laidByText := true, laidKinds := [.data], laidTests := true, laidLooks := .later }
def ChanceBalancesCardSaid : Prop := Claim7.holds Tryd.pinned (.plain (OpenSpec.ofChange chanceBalancesSpec)) chanceBalancesCard

/-- THE TIED CARD OF 'plaquettelaw05.ChanceAccepts'. -/
def chanceAcceptsCard : Claim7 := { stood := { row := chanceAcceptsRow, standIns := [], harness := (true, "22f369b873d3a3abcda89454df114d73cb1cea4360767ef223a563f8370e5008"), looks := false }, kinds := [], alts := [], laidByText := true, laidKinds := [.data], laidTests := true, laidLooks := .later }
def ChanceAcceptsCardSaid : Prop := Claim7.holds Tryd.pinned (.plain (OpenSpec.ofChange chanceAcceptsSpec)) chanceAcceptsCard

/-- THE TIED CARD OF 'plaquettelaw05.ChanceReplays'. -/
def chanceReplaysCard : Claim7 := { stood := { row := chanceReplaysRow, standIns := [], harness := (true, "22f369b873d3a3abcda89454df114d73cb1cea4360767ef223a563f8370e5008"), looks := false }, kinds := [], alts := [], laidByText := true, laidKinds := [.data], laidTests := true, laidLooks := .later }
def ChanceReplaysCardSaid : Prop := Claim7.holds Tryd.pinned (.plain (OpenSpec.ofChange chanceReplaysSpec)) chanceReplaysCard

/-- THE SECOND FORM's CARD OF 'plaquettelaw05.ChanceBalances'. -/
def chanceBalancesUptoCard : Claim7 := { stood := { row := chanceBalancesUptoRow, standIns := [], harness := (true, "22f369b873d3a3abcda89454df114d73cb1cea4360767ef223a563f8370e5008"), looks := false }, kinds := [], alts := [], laidByText := true, laidKinds := [.data], laidTests := true, laidLooks := .later }
def ChanceBalancesUptoCardSaid : Prop := Claim7.holds Tryd.pinned (.plain (OpenSpec.upto chanceBalancesSpec)) chanceBalancesUptoCard

/-- THE SECOND FORM's CARD OF 'plaquettelaw05.ChanceAccepts'. -/
def chanceAcceptsUptoCard : Claim7 := { stood := { row := chanceAcceptsUptoRow, standIns := [], harness := (true, "22f369b873d3a3abcda89454df114d73cb1cea4360767ef223a563f8370e5008"), looks := false }, kinds := [], alts := [], laidByText := true, laidKinds := [.data], laidTests := true, laidLooks := .later }
def ChanceAcceptsUptoCardSaid : Prop := Claim7.holds Tryd.pinned (.plain (OpenSpec.upto chanceAcceptsSpec)) chanceAcceptsUptoCard

/-- THE SECOND FORM's CARD OF 'plaquettelaw05.ChanceReplays'. -/
def chanceReplaysUptoCard : Claim7 := { stood := { row := chanceReplaysUptoRow, standIns := [], harness := (true, "22f369b873d3a3abcda89454df114d73cb1cea4360767ef223a563f8370e5008"), looks := false }, kinds := [], alts := [], laidByText := true, laidKinds := [.data], laidTests := true, laidLooks := .later }
def ChanceReplaysUptoCardSaid : Prop := Claim7.holds Tryd.pinned (.plain (OpenSpec.upto chanceReplaysSpec)) chanceReplaysUptoCard
end Rows
end Go.Proofs.YtpfhjdmgkckjfaaDoor
