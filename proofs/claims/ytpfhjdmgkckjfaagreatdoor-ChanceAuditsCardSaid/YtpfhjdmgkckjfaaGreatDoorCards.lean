/-
  DERIVED. GIVEN WITH THE SEED: THE CARDS: each row of YtpfhjdmgkckjfaaGreatDoorRows.lean that lists a variable, with what it lists TIED to the program's text (the seventh form; the later family's looks); each row that meets fmt, with fmt's text TOLD by the authors' own Lean function (tested against real Go, not proved from fmt's source: count such statements apart). THE CARD IS WHAT COUNTS. Prove the row's statement (the work); the ties are given (YtpfhjdmgkckjfaaGreatDoorTie.lean); close each card by the builder's one call (the guide's Derived/Test/ToyasCard.lean, 'card_holds'). Laid BY PROGRAM, IN A SANDBOX (cutbox-door.mjs). By AI agents, Wed Nov 11 2026. No macro, syntax, notation, axiom, sorry.
-/
import Derived.Test.YtpfhjdmgkckjfaaGreatDoorRows
import GoSem.ClaimSeven
namespace Go.Proofs.YtpfhjdmgkckjfaaGreatDoor
namespace Rows

/-- THE TIED CARD OF 'plaquettelaw05.ChanceWeights'. -/
def chanceWeightsCard : Claim7 := { stood := { row := chanceWeightsRow, standIns := [], harness := (true, "53c1b5e1e7764523c431423f857e3b43d4884bb98fa3eac6047523bbb346dfed"), looks := false }, kinds := [], alts := [], laidByText := true, laidKinds := [.data], laidTests := true, laidLooks := .later }
def ChanceWeightsCardSaid : Prop := Claim7.holds Tryz.pinned (.plain (OpenSpec.ofChange chanceWeightsSpec)) chanceWeightsCard

/-- THE TIED CARD OF 'plaquettelaw05.ChanceHeats'. -/
def chanceHeatsCard : Claim7 := { stood := { row := chanceHeatsRow, standIns := [], harness := (true, "53c1b5e1e7764523c431423f857e3b43d4884bb98fa3eac6047523bbb346dfed"), looks := false }, kinds := [], alts := [], laidByText := true, laidKinds := [.data], laidTests := true, laidLooks := .later }
def ChanceHeatsCardSaid : Prop := Claim7.holds Tryz.pinned (.plain (OpenSpec.ofChange chanceHeatsSpec)) chanceHeatsCard

/-- THE TIED CARD OF 'plaquettelaw05.ChanceFlows'. -/
def chanceFlowsCard : Claim7 := { stood := { row := chanceFlowsRow, standIns := [], harness := (true, "53c1b5e1e7764523c431423f857e3b43d4884bb98fa3eac6047523bbb346dfed"), looks := false }, kinds := [], alts := [], laidByText := true, laidKinds := [.data], laidTests := true, laidLooks := .later }
def ChanceFlowsCardSaid : Prop := Claim7.holds Tryz.pinned (.plain (OpenSpec.ofChange chanceFlowsSpec)) chanceFlowsCard

/-- THE TIED CARD OF 'plaquettelaw05.ChanceProposes'. -/
def chanceProposesCard : Claim7 := { stood := { row := chanceProposesRow, standIns := [], harness := (true, "53c1b5e1e7764523c431423f857e3b43d4884bb98fa3eac6047523bbb346dfed"), looks := false }, kinds := [], alts := [], laidByText := true, laidKinds := [.data], laidTests := true, laidLooks := .later }
def ChanceProposesCardSaid : Prop := Claim7.holds Tryz.pinned (.plain (OpenSpec.ofChange chanceProposesSpec)) chanceProposesCard

/-- THE TIED CARD OF 'plaquettelaw05.ChanceSweeps'. -/
def chanceSweepsCard : Claim7 := { stood := { row := chanceSweepsRow, standIns := [], harness := (true, "53c1b5e1e7764523c431423f857e3b43d4884bb98fa3eac6047523bbb346dfed"), looks := false }, kinds := [], alts := [], laidByText := true, laidKinds := [.data], laidTests := true, laidLooks := .later }
def ChanceSweepsCardSaid : Prop := Claim7.holds Tryz.pinned (.plain (OpenSpec.ofChange chanceSweepsSpec)) chanceSweepsCard

/-- THE TIED CARD OF 'plaquettelaw05.ChanceTouches'. -/
def chanceTouchesCard : Claim7 := { stood := { row := chanceTouchesRow, standIns := [], harness := (true, "53c1b5e1e7764523c431423f857e3b43d4884bb98fa3eac6047523bbb346dfed"), looks := false }, kinds := [], alts := [], laidByText := true, laidKinds := [.data], laidTests := true, laidLooks := .later }
def ChanceTouchesCardSaid : Prop := Claim7.holds Tryz.pinned (.plain (OpenSpec.ofChange chanceTouchesSpec)) chanceTouchesCard

/-- THE TIED CARD OF 'plaquettelaw05.ChanceAudits'. -/
def chanceAuditsCard : Claim7 := { stood := { row := chanceAuditsRow, standIns := [], harness := (true, "53c1b5e1e7764523c431423f857e3b43d4884bb98fa3eac6047523bbb346dfed"), looks := false }, kinds := [], alts := [], laidByText := true, laidKinds := [.data], laidTests := true, laidLooks := .later }
def ChanceAuditsCardSaid : Prop := Claim7.holds Tryz.pinned (.plain (OpenSpec.ofChange chanceAuditsSpec)) chanceAuditsCard

/-- THE TIED CARD OF 'plaquettetop.TopBalance'. -/
def topBalanceCard : Claim7 := { stood := { row := topBalanceRow, standIns := [], harness := (true, "53c1b5e1e7764523c431423f857e3b43d4884bb98fa3eac6047523bbb346dfed"), looks := false }, kinds := [], alts := [], laidByText := true, laidKinds := [.data], laidTests := true, laidLooks := .later }
def TopBalanceCardSaid : Prop := Claim7.holds Tryz.pinned (.plain (OpenSpec.ofChange topBalanceSpec)) topBalanceCard

/-- THE SECOND FORM's CARD OF 'plaquettelaw05.ChanceWeights'. -/
def chanceWeightsUptoCard : Claim7 := { stood := { row := chanceWeightsUptoRow, standIns := [], harness := (true, "53c1b5e1e7764523c431423f857e3b43d4884bb98fa3eac6047523bbb346dfed"), looks := false }, kinds := [], alts := [], laidByText := true, laidKinds := [.data], laidTests := true, laidLooks := .later }
def ChanceWeightsUptoCardSaid : Prop := Claim7.holds Tryz.pinned (.plain (OpenSpec.upto chanceWeightsSpec)) chanceWeightsUptoCard

/-- THE SECOND FORM's CARD OF 'plaquettelaw05.ChanceHeats'. -/
def chanceHeatsUptoCard : Claim7 := { stood := { row := chanceHeatsUptoRow, standIns := [], harness := (true, "53c1b5e1e7764523c431423f857e3b43d4884bb98fa3eac6047523bbb346dfed"), looks := false }, kinds := [], alts := [], laidByText := true, laidKinds := [.data], laidTests := true, laidLooks := .later }
def ChanceHeatsUptoCardSaid : Prop := Claim7.holds Tryz.pinned (.plain (OpenSpec.upto chanceHeatsSpec)) chanceHeatsUptoCard

/-- THE SECOND FORM's CARD OF 'plaquettelaw05.ChanceFlows'. -/
def chanceFlowsUptoCard : Claim7 := { stood := { row := chanceFlowsUptoRow, standIns := [], harness := (true, "53c1b5e1e7764523c431423f857e3b43d4884bb98fa3eac6047523bbb346dfed"), looks := false }, kinds := [], alts := [], laidByText := true, laidKinds := [.data], laidTests := true, laidLooks := .later }
def ChanceFlowsUptoCardSaid : Prop := Claim7.holds Tryz.pinned (.plain (OpenSpec.upto chanceFlowsSpec)) chanceFlowsUptoCard

/-- THE SECOND FORM's CARD OF 'plaquettelaw05.ChanceProposes'. -/
def chanceProposesUptoCard : Claim7 := { stood := { row := chanceProposesUptoRow, standIns := [], harness := (true, "53c1b5e1e7764523c431423f857e3b43d4884bb98fa3eac6047523bbb346dfed"), looks := false }, kinds := [], alts := [], laidByText := true, laidKinds := [.data], laidTests := true, laidLooks := .later }
def ChanceProposesUptoCardSaid : Prop := Claim7.holds Tryz.pinned (.plain (OpenSpec.upto chanceProposesSpec)) chanceProposesUptoCard

/-- THE SECOND FORM's CARD OF 'plaquettelaw05.ChanceSweeps'. -/
def chanceSweepsUptoCard : Claim7 := { stood := { row := chanceSweepsUptoRow, standIns := [], harness := (true, "53c1b5e1e7764523c431423f857e3b43d4884bb98fa3eac6047523bbb346dfed"), looks := false }, kinds := [], alts := [], laidByText := true, laidKinds := [.data], laidTests := true, laidLooks := .later }
def ChanceSweepsUptoCardSaid : Prop := Claim7.holds Tryz.pinned (.plain (OpenSpec.upto chanceSweepsSpec)) chanceSweepsUptoCard

/-- THE SECOND FORM's CARD OF 'plaquettelaw05.ChanceTouches'. -/
def chanceTouchesUptoCard : Claim7 := { stood := { row := chanceTouchesUptoRow, standIns := [], harness := (true, "53c1b5e1e7764523c431423f857e3b43d4884bb98fa3eac6047523bbb346dfed"), looks := false }, kinds := [], alts := [], laidByText := true, laidKinds := [.data], laidTests := true, laidLooks := .later }
def ChanceTouchesUptoCardSaid : Prop := Claim7.holds Tryz.pinned (.plain (OpenSpec.upto chanceTouchesSpec)) chanceTouchesUptoCard

/-- THE SECOND FORM's CARD OF 'plaquettelaw05.ChanceAudits'. -/
def chanceAuditsUptoCard : Claim7 := { stood := { row := chanceAuditsUptoRow, standIns := [], harness := (true, "53c1b5e1e7764523c431423f857e3b43d4884bb98fa3eac6047523bbb346dfed"), looks := false }, kinds := [], alts := [], laidByText := true, laidKinds := [.data], laidTests := true, laidLooks := .later }
def ChanceAuditsUptoCardSaid : Prop := Claim7.holds Tryz.pinned (.plain (OpenSpec.upto chanceAuditsSpec)) chanceAuditsUptoCard

/-- THE SECOND FORM's CARD OF 'plaquettetop.TopBalance'. -/
def topBalanceUptoCard : Claim7 := { stood := { row := topBalanceUptoRow, standIns := [], harness := (true, "53c1b5e1e7764523c431423f857e3b43d4884bb98fa3eac6047523bbb346dfed"), looks := false }, kinds := [], alts := [], laidByText := true, laidKinds := [.data], laidTests := true, laidLooks := .later }
def TopBalanceUptoCardSaid : Prop := Claim7.holds Tryz.pinned (.plain (OpenSpec.upto topBalanceSpec)) topBalanceUptoCard
end Rows
end Go.Proofs.YtpfhjdmgkckjfaaGreatDoor
