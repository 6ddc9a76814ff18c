/-
  DERIVED. GIVEN WITH THE SEED: THE CARDS: each row of YtafddncohgjlnaaGreatDoorRows.lean that lists a variable, with what it lists TIED to the program's text (the seventh form; the later family's looks); each row that meets fmt, with fmt's text TOLD by the authors' own Lean function (tested against real Go, not proved from fmt's source: count such statements apart). THE CARD IS WHAT COUNTS. Prove the row's statement (the work); the ties are given (YtafddncohgjlnaaGreatDoorTie.lean); close each card by the builder's one call (the guide's Derived/Test/ToyasCard.lean, 'card_holds'). Laid BY PROGRAM, IN A SANDBOX (cutbox-door.mjs). By AI agents, Wed Nov 11 2026. No macro, syntax, notation, axiom, sorry.
-/
import Derived.Test.YtafddncohgjlnaaGreatDoorRows
import GoSem.ClaimSeven
namespace Go.Proofs.YtafddncohgjlnaaGreatDoor
namespace Rows

/-- THE TIED CARD OF 'fallowlaw.Times'. -/
def timesCard : Claim7 := { stood := { row := timesRow, standIns := [], harness := (true, "c57a7fabee0d8c52b8b3519bba7e90204d17e85802b7a10b4e4c597165fd2945"), looks := true }, kinds := [], alts := [], laidByText := true, laidKinds := [.widerDeep, .widerDeep, .data, .data, .data, .data, .pinned], laidTests := true, laidLooks := .later }
def TimesCardSaid : Prop := Claim7.holds Tryz.pinned (.plain (OpenSpec.ofChange timesSpec)) timesCard

/-- THE TIED CARD OF 'fallowlaw.Events'. -/
def eventsCard : Claim7 := { stood := { row := eventsRow, standIns := [], harness := (true, "c57a7fabee0d8c52b8b3519bba7e90204d17e85802b7a10b4e4c597165fd2945"), looks := true }, kinds := [], alts := [], laidByText := true, laidKinds := [.widerDeep, .widerDeep, .data, .data, .data, .data, .pinned], laidTests := true, laidLooks := .later }
def EventsCardSaid : Prop := Claim7.holds Tryz.pinned (.plain (OpenSpec.ofChange eventsSpec)) eventsCard

/-- THE SECOND FORM's CARD OF 'fallowlaw.Times'. -/
def timesUptoCard : Claim7 := { stood := { row := timesUptoRow, standIns := [], harness := (true, "c57a7fabee0d8c52b8b3519bba7e90204d17e85802b7a10b4e4c597165fd2945"), looks := true }, kinds := [], alts := [], laidByText := true, laidKinds := [.widerDeep, .widerDeep, .data, .data, .data, .data, .pinned], laidTests := true, laidLooks := .later }
def TimesUptoCardSaid : Prop := Claim7.holds Tryz.pinned (.plain (OpenSpec.upto timesSpec)) timesUptoCard

/-- THE SECOND FORM's CARD OF 'fallowlaw.Events'. -/
def eventsUptoCard : Claim7 := { stood := { row := eventsUptoRow, standIns := [], harness := (true, "c57a7fabee0d8c52b8b3519bba7e90204d17e85802b7a10b4e4c597165fd2945"), looks := true }, kinds := [], alts := [], laidByText := true, laidKinds := [.widerDeep, .widerDeep, .data, .data, .data, .data, .pinned], laidTests := true, laidLooks := .later }
def EventsUptoCardSaid : Prop := Claim7.holds Tryz.pinned (.plain (OpenSpec.upto eventsSpec)) eventsUptoCard
end Rows
end Go.Proofs.YtafddncohgjlnaaGreatDoor
