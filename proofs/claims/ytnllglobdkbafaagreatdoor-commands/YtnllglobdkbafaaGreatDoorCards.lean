/-
  DERIVED. GIVEN WITH THE SEED: THE CARDS: each row of YtnllglobdkbafaaGreatDoorRows.lean that lists a variable, with what it lists TIED to the program's text (the seventh form; the later family's looks); each row that meets fmt, with fmt's text TOLD by the authors' own Lean function (tested against real Go, not proved from fmt's source: count such statements apart). THE CARD IS WHAT COUNTS. Prove the row's statement (the work); the ties are given (YtnllglobdkbafaaGreatDoorTie.lean); close each card by the builder's one call (the guide's Derived/Test/ToyasCard.lean, 'card_holds'). Laid BY PROGRAM, IN A SANDBOX (cutbox-door.mjs). By AI agents, Wed Nov 11 2026. No macro, syntax, notation, axiom, sorry.
-/
import Derived.Test.YtnllglobdkbafaaGreatDoorRows
import GoSem.ClaimSeven
namespace Go.Proofs.YtnllglobdkbafaaGreatDoor
namespace Rows

/-- THE TIED CARD OF 'berthlaw.Commands'. -/
def commandsCard : Claim7 := { stood := { row := commandsRow, standIns := [], harness := (true, "b243efbb3cbbfcda46278ce818cf6e3c7a8f291c860e4d39480b5e65bd49e444"), looks := true }, kinds := [], alts := [], laidByText := true, laidKinds := [.data, .data, .data, .data, .handle, .sentinel, .sentinel, .sentinel, .sentinel, .sentinel, .data, .sentinel, .pinned], laidTests := true, laidLooks := .later }
def CommandsCardSaid : Prop := Claim7.holds Tryz.pinned (.plain (OpenSpec.ofChange commandsSpec)) commandsCard

/-- THE TIED CARD OF 'berthlaw.Jobs'. -/
def jobsCard : Claim7 := { stood := { row := jobsRow, standIns := [], harness := (true, "b243efbb3cbbfcda46278ce818cf6e3c7a8f291c860e4d39480b5e65bd49e444"), looks := true }, kinds := [], alts := [], laidByText := true, laidKinds := [.data, .data, .data, .data, .handle, .sentinel, .sentinel, .sentinel, .sentinel, .sentinel, .data, .sentinel, .pinned], laidTests := true, laidLooks := .later }
def JobsCardSaid : Prop := Claim7.holds Tryz.pinned (.plain (OpenSpec.ofChange jobsSpec)) jobsCard

/-- THE TIED CARD OF 'berthlaw.Ends'. -/
def endsCard : Claim7 := { stood := { row := endsRow, standIns := [], harness := (true, "b243efbb3cbbfcda46278ce818cf6e3c7a8f291c860e4d39480b5e65bd49e444"), looks := true }, kinds := [], alts := [], laidByText := true, laidKinds := [.data, .data, .data, .data, .handle, .sentinel, .sentinel, .sentinel, .sentinel, .sentinel, .data, .sentinel, .pinned], laidTests := true, laidLooks := .later }
def EndsCardSaid : Prop := Claim7.holds Tryz.pinned (.plain (OpenSpec.ofChange endsSpec)) endsCard

/-- THE SECOND FORM's CARD OF 'berthlaw.Commands'. -/
def commandsUptoCard : Claim7 := { stood := { row := commandsUptoRow, standIns := [], harness := (true, "b243efbb3cbbfcda46278ce818cf6e3c7a8f291c860e4d39480b5e65bd49e444"), looks := true }, kinds := [], alts := [], laidByText := true, laidKinds := [.data, .data, .data, .data, .handle, .sentinel, .sentinel, .sentinel, .sentinel, .sentinel, .data, .sentinel, .pinned], laidTests := true, laidLooks := .later }
def CommandsUptoCardSaid : Prop := Claim7.holds Tryz.pinned (.plain (OpenSpec.upto commandsSpec)) commandsUptoCard

/-- THE SECOND FORM's CARD OF 'berthlaw.Jobs'. -/
def jobsUptoCard : Claim7 := { stood := { row := jobsUptoRow, standIns := [], harness := (true, "b243efbb3cbbfcda46278ce818cf6e3c7a8f291c860e4d39480b5e65bd49e444"), looks := true }, kinds := [], alts := [], laidByText := true, laidKinds := [.data, .data, .data, .data, .handle, .sentinel, .sentinel, .sentinel, .sentinel, .sentinel, .data, .sentinel, .pinned], laidTests := true, laidLooks := .later }
def JobsUptoCardSaid : Prop := Claim7.holds Tryz.pinned (.plain (OpenSpec.upto jobsSpec)) jobsUptoCard

/-- THE SECOND FORM's CARD OF 'berthlaw.Ends'. -/
def endsUptoCard : Claim7 := { stood := { row := endsUptoRow, standIns := [], harness := (true, "b243efbb3cbbfcda46278ce818cf6e3c7a8f291c860e4d39480b5e65bd49e444"), looks := true }, kinds := [], alts := [], laidByText := true, laidKinds := [.data, .data, .data, .data, .handle, .sentinel, .sentinel, .sentinel, .sentinel, .sentinel, .data, .sentinel, .pinned], laidTests := true, laidLooks := .later }
def EndsUptoCardSaid : Prop := Claim7.holds Tryz.pinned (.plain (OpenSpec.upto endsSpec)) endsUptoCard
end Rows
end Go.Proofs.YtnllglobdkbafaaGreatDoor
