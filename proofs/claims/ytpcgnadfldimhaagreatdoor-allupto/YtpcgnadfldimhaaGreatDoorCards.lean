/-
  DERIVED. GIVEN WITH THE SEED: THE CARDS: each row of YtpcgnadfldimhaaGreatDoorRows.lean that lists a variable, with what it lists TIED to the program's text (the seventh form; the later family's looks); each row that meets fmt, with fmt's text TOLD by the authors' own Lean function (tested against real Go, not proved from fmt's source: count such statements apart). THE CARD IS WHAT COUNTS. Prove the row's statement (the work); the ties are given (YtpcgnadfldimhaaGreatDoorTie.lean); close each card by the builder's one call (the guide's Derived/Test/ToyasCard.lean, 'card_holds'). Laid BY PROGRAM, IN A SANDBOX (cutbox-door.mjs). By AI agents, Wed Nov 11 2026. No macro, syntax, notation, axiom, sorry.
-/
import Derived.Test.YtpcgnadfldimhaaGreatDoorRows
import GoSem.ClaimSeven
namespace Go.Proofs.YtpcgnadfldimhaaGreatDoor
namespace Rows

/-- THE TIED CARD OF 'berthlaw.Commands'. -/
def commandsCard : Claim7 := { stood := { row := commandsRow, standIns := [], harness := (true, "8f5635414627a25380a040ef174c1c87f1eb7c13a465219739235648e50aa661"), looks := true }, kinds := [], alts := [], laidByText := true, laidKinds := [.data, .data, .data, .data, .handle, .data, .data, .sentinel, .sentinel, .sentinel, .sentinel, .sentinel, .sentinel, .data, .sentinel, .pinned], laidTests := true, laidLooks := .later }
def CommandsCardSaid : Prop := Claim7.holds Tryz.pinned (.plain (OpenSpec.ofChange commandsSpec)) commandsCard

/-- THE TIED CARD OF 'berthlaw.Jobs'. -/
def jobsCard : Claim7 := { stood := { row := jobsRow, standIns := [], harness := (true, "8f5635414627a25380a040ef174c1c87f1eb7c13a465219739235648e50aa661"), looks := true }, kinds := [], alts := [], laidByText := true, laidKinds := [.data, .data, .data, .data, .handle, .data, .data, .sentinel, .sentinel, .sentinel, .sentinel, .sentinel, .sentinel, .data, .sentinel, .pinned], laidTests := true, laidLooks := .later }
def JobsCardSaid : Prop := Claim7.holds Tryz.pinned (.plain (OpenSpec.ofChange jobsSpec)) jobsCard

/-- THE TIED CARD OF 'berthlaw.Ends'. -/
def endsCard : Claim7 := { stood := { row := endsRow, standIns := [], harness := (true, "8f5635414627a25380a040ef174c1c87f1eb7c13a465219739235648e50aa661"), looks := true }, kinds := [], alts := [], laidByText := true, laidKinds := [.data, .data, .data, .data, .handle, .data, .data, .sentinel, .sentinel, .sentinel, .sentinel, .sentinel, .sentinel, .data, .sentinel, .pinned], laidTests := true, laidLooks := .later }
def EndsCardSaid : Prop := Claim7.holds Tryz.pinned (.plain (OpenSpec.ofChange endsSpec)) endsCard

/-- THE TIED CARD OF 'berthkeep.Kept'. -/
def keptCard : Claim7 := { stood := { row := keptRow, standIns := [], harness := (true, "8f5635414627a25380a040ef174c1c87f1eb7c13a465219739235648e50aa661"), looks := true }, kinds := [], alts := [], laidByText := true, laidKinds := [.data, .data, .data, .handle, .sentinel, .sentinel, .sentinel, .sentinel, .sentinel, .sentinel, .data, .sentinel], laidTests := true, laidLooks := .later }
def KeptCardSaid : Prop := Claim7.holds Tryz.pinned (.plain (OpenSpec.ofChange keptSpec)) keptCard

/-- THE TIED CARD OF 'berthkeep.Safe'. -/
def safeCard : Claim7 := { stood := { row := safeRow, standIns := [], harness := (true, "8f5635414627a25380a040ef174c1c87f1eb7c13a465219739235648e50aa661"), looks := true }, kinds := [], alts := [], laidByText := true, laidKinds := [.data, .data, .data, .handle, .sentinel, .sentinel, .sentinel, .sentinel, .sentinel, .sentinel, .data, .sentinel], laidTests := true, laidLooks := .later }
def SafeCardSaid : Prop := Claim7.holds Tryz.pinned (.plain (OpenSpec.ofChange safeSpec)) safeCard

/-- THE TIED CARD OF 'berthkeep.Stable'. -/
def stableCard : Claim7 := { stood := { row := stableRow, standIns := [], harness := (true, "8f5635414627a25380a040ef174c1c87f1eb7c13a465219739235648e50aa661"), looks := true }, kinds := [], alts := [], laidByText := true, laidKinds := [.data, .data, .data, .handle, .sentinel, .sentinel, .sentinel, .sentinel, .sentinel, .sentinel, .data, .sentinel], laidTests := true, laidLooks := .later }
def StableCardSaid : Prop := Claim7.holds Tryz.pinned (.plain (OpenSpec.ofChange stableSpec)) stableCard

/-- THE TIED CARD OF 'berthkeep.Soon'. -/
def soonCard : Claim7 := { stood := { row := soonRow, standIns := [], harness := (true, "8f5635414627a25380a040ef174c1c87f1eb7c13a465219739235648e50aa661"), looks := true }, kinds := [], alts := [], laidByText := true, laidKinds := [.data, .data, .data, .handle, .sentinel, .sentinel, .sentinel, .sentinel, .sentinel, .sentinel, .data, .sentinel], laidTests := true, laidLooks := .later }
def SoonCardSaid : Prop := Claim7.holds Tryz.pinned (.plain (OpenSpec.ofChange soonSpec)) soonCard

/-- THE TIED CARD OF 'berthkeep.Steady'. -/
def steadyCard : Claim7 := { stood := { row := steadyRow, standIns := [], harness := (true, "8f5635414627a25380a040ef174c1c87f1eb7c13a465219739235648e50aa661"), looks := true }, kinds := [], alts := [], laidByText := true, laidKinds := [.data, .data, .data, .handle, .sentinel, .sentinel, .sentinel, .sentinel, .sentinel, .sentinel, .data, .sentinel], laidTests := true, laidLooks := .later }
def SteadyCardSaid : Prop := Claim7.holds Tryz.pinned (.plain (OpenSpec.ofChange steadySpec)) steadyCard

/-- THE TIED CARD OF 'berthkeep.Refused'. -/
def refusedCard : Claim7 := { stood := { row := refusedRow, standIns := [], harness := (true, "8f5635414627a25380a040ef174c1c87f1eb7c13a465219739235648e50aa661"), looks := true }, kinds := [], alts := [], laidByText := true, laidKinds := [.data, .data, .data, .handle, .sentinel, .sentinel, .sentinel, .sentinel, .sentinel, .sentinel, .data, .sentinel], laidTests := true, laidLooks := .later }
def RefusedCardSaid : Prop := Claim7.holds Tryz.pinned (.plain (OpenSpec.ofChange refusedSpec)) refusedCard

/-- THE TIED CARD OF 'berthkeep.Lined'. -/
def linedCard : Claim7 := { stood := { row := linedRow, standIns := [], harness := (true, "8f5635414627a25380a040ef174c1c87f1eb7c13a465219739235648e50aa661"), looks := true }, kinds := [], alts := [], laidByText := true, laidKinds := [.data, .data, .data, .data, .handle, .data, .data, .sentinel, .sentinel, .sentinel, .sentinel, .sentinel, .sentinel, .data, .sentinel, .pinned], laidTests := true, laidLooks := .later }
def LinedCardSaid : Prop := Claim7.holds Tryz.pinned (.plain (OpenSpec.ofChange linedSpec)) linedCard

/-- THE TIED CARD OF 'berthlaw.All'. -/
def allCard : Claim7 := { stood := { row := allRow, standIns := [], harness := (true, "8f5635414627a25380a040ef174c1c87f1eb7c13a465219739235648e50aa661"), looks := true }, kinds := [], alts := [], laidByText := true, laidKinds := [.data, .data, .data, .data, .handle, .data, .data, .sentinel, .sentinel, .sentinel, .sentinel, .sentinel, .sentinel, .data, .sentinel, .pinned], laidTests := true, laidLooks := .later }
def AllCardSaid : Prop := Claim7.holds Tryz.pinned (.plain (OpenSpec.ofChange allSpec)) allCard

/-- THE SECOND FORM's CARD OF 'berthlaw.Commands'. -/
def commandsUptoCard : Claim7 := { stood := { row := commandsUptoRow, standIns := [], harness := (true, "8f5635414627a25380a040ef174c1c87f1eb7c13a465219739235648e50aa661"), looks := true }, kinds := [], alts := [], laidByText := true, laidKinds := [.data, .data, .data, .data, .handle, .data, .data, .sentinel, .sentinel, .sentinel, .sentinel, .sentinel, .sentinel, .data, .sentinel, .pinned], laidTests := true, laidLooks := .later }
def CommandsUptoCardSaid : Prop := Claim7.holds Tryz.pinned (.plain (OpenSpec.upto commandsSpec)) commandsUptoCard

/-- THE SECOND FORM's CARD OF 'berthlaw.Jobs'. -/
def jobsUptoCard : Claim7 := { stood := { row := jobsUptoRow, standIns := [], harness := (true, "8f5635414627a25380a040ef174c1c87f1eb7c13a465219739235648e50aa661"), looks := true }, kinds := [], alts := [], laidByText := true, laidKinds := [.data, .data, .data, .data, .handle, .data, .data, .sentinel, .sentinel, .sentinel, .sentinel, .sentinel, .sentinel, .data, .sentinel, .pinned], laidTests := true, laidLooks := .later }
def JobsUptoCardSaid : Prop := Claim7.holds Tryz.pinned (.plain (OpenSpec.upto jobsSpec)) jobsUptoCard

/-- THE SECOND FORM's CARD OF 'berthlaw.Ends'. -/
def endsUptoCard : Claim7 := { stood := { row := endsUptoRow, standIns := [], harness := (true, "8f5635414627a25380a040ef174c1c87f1eb7c13a465219739235648e50aa661"), looks := true }, kinds := [], alts := [], laidByText := true, laidKinds := [.data, .data, .data, .data, .handle, .data, .data, .sentinel, .sentinel, .sentinel, .sentinel, .sentinel, .sentinel, .data, .sentinel, .pinned], laidTests := true, laidLooks := .later }
def EndsUptoCardSaid : Prop := Claim7.holds Tryz.pinned (.plain (OpenSpec.upto endsSpec)) endsUptoCard

/-- THE SECOND FORM's CARD OF 'berthkeep.Kept'. -/
def keptUptoCard : Claim7 := { stood := { row := keptUptoRow, standIns := [], harness := (true, "8f5635414627a25380a040ef174c1c87f1eb7c13a465219739235648e50aa661"), looks := true }, kinds := [], alts := [], laidByText := true, laidKinds := [.data, .data, .data, .handle, .sentinel, .sentinel, .sentinel, .sentinel, .sentinel, .sentinel, .data, .sentinel], laidTests := true, laidLooks := .later }
def KeptUptoCardSaid : Prop := Claim7.holds Tryz.pinned (.plain (OpenSpec.upto keptSpec)) keptUptoCard

/-- THE SECOND FORM's CARD OF 'berthkeep.Safe'. -/
def safeUptoCard : Claim7 := { stood := { row := safeUptoRow, standIns := [], harness := (true, "8f5635414627a25380a040ef174c1c87f1eb7c13a465219739235648e50aa661"), looks := true }, kinds := [], alts := [], laidByText := true, laidKinds := [.data, .data, .data, .handle, .sentinel, .sentinel, .sentinel, .sentinel, .sentinel, .sentinel, .data, .sentinel], laidTests := true, laidLooks := .later }
def SafeUptoCardSaid : Prop := Claim7.holds Tryz.pinned (.plain (OpenSpec.upto safeSpec)) safeUptoCard

/-- THE SECOND FORM's CARD OF 'berthkeep.Stable'. -/
def stableUptoCard : Claim7 := { stood := { row := stableUptoRow, standIns := [], harness := (true, "8f5635414627a25380a040ef174c1c87f1eb7c13a465219739235648e50aa661"), looks := true }, kinds := [], alts := [], laidByText := true, laidKinds := [.data, .data, .data, .handle, .sentinel, .sentinel, .sentinel, .sentinel, .sentinel, .sentinel, .data, .sentinel], laidTests := true, laidLooks := .later }
def StableUptoCardSaid : Prop := Claim7.holds Tryz.pinned (.plain (OpenSpec.upto stableSpec)) stableUptoCard

/-- THE SECOND FORM's CARD OF 'berthkeep.Soon'. -/
def soonUptoCard : Claim7 := { stood := { row := soonUptoRow, standIns := [], harness := (true, "8f5635414627a25380a040ef174c1c87f1eb7c13a465219739235648e50aa661"), looks := true }, kinds := [], alts := [], laidByText := true, laidKinds := [.data, .data, .data, .handle, .sentinel, .sentinel, .sentinel, .sentinel, .sentinel, .sentinel, .data, .sentinel], laidTests := true, laidLooks := .later }
def SoonUptoCardSaid : Prop := Claim7.holds Tryz.pinned (.plain (OpenSpec.upto soonSpec)) soonUptoCard

/-- THE SECOND FORM's CARD OF 'berthkeep.Steady'. -/
def steadyUptoCard : Claim7 := { stood := { row := steadyUptoRow, standIns := [], harness := (true, "8f5635414627a25380a040ef174c1c87f1eb7c13a465219739235648e50aa661"), looks := true }, kinds := [], alts := [], laidByText := true, laidKinds := [.data, .data, .data, .handle, .sentinel, .sentinel, .sentinel, .sentinel, .sentinel, .sentinel, .data, .sentinel], laidTests := true, laidLooks := .later }
def SteadyUptoCardSaid : Prop := Claim7.holds Tryz.pinned (.plain (OpenSpec.upto steadySpec)) steadyUptoCard

/-- THE SECOND FORM's CARD OF 'berthkeep.Refused'. -/
def refusedUptoCard : Claim7 := { stood := { row := refusedUptoRow, standIns := [], harness := (true, "8f5635414627a25380a040ef174c1c87f1eb7c13a465219739235648e50aa661"), looks := true }, kinds := [], alts := [], laidByText := true, laidKinds := [.data, .data, .data, .handle, .sentinel, .sentinel, .sentinel, .sentinel, .sentinel, .sentinel, .data, .sentinel], laidTests := true, laidLooks := .later }
def RefusedUptoCardSaid : Prop := Claim7.holds Tryz.pinned (.plain (OpenSpec.upto refusedSpec)) refusedUptoCard

/-- THE SECOND FORM's CARD OF 'berthkeep.Lined'. -/
def linedUptoCard : Claim7 := { stood := { row := linedUptoRow, standIns := [], harness := (true, "8f5635414627a25380a040ef174c1c87f1eb7c13a465219739235648e50aa661"), looks := true }, kinds := [], alts := [], laidByText := true, laidKinds := [.data, .data, .data, .data, .handle, .data, .data, .sentinel, .sentinel, .sentinel, .sentinel, .sentinel, .sentinel, .data, .sentinel, .pinned], laidTests := true, laidLooks := .later }
def LinedUptoCardSaid : Prop := Claim7.holds Tryz.pinned (.plain (OpenSpec.upto linedSpec)) linedUptoCard

/-- THE SECOND FORM's CARD OF 'berthlaw.All'. -/
def allUptoCard : Claim7 := { stood := { row := allUptoRow, standIns := [], harness := (true, "8f5635414627a25380a040ef174c1c87f1eb7c13a465219739235648e50aa661"), looks := true }, kinds := [], alts := [], laidByText := true, laidKinds := [.data, .data, .data, .data, .handle, .data, .data, .sentinel, .sentinel, .sentinel, .sentinel, .sentinel, .sentinel, .data, .sentinel, .pinned], laidTests := true, laidLooks := .later }
def AllUptoCardSaid : Prop := Claim7.holds Tryz.pinned (.plain (OpenSpec.upto allSpec)) allUptoCard
end Rows
end Go.Proofs.YtpcgnadfldimhaaGreatDoor
