/-
  DERIVED. GIVEN WITH THE SEED: THE CARDS: each row of YthpndgcaoeokeaaGreatDoorRows.lean that lists a variable, with what it lists TIED to the program's text (the seventh form; the later family's looks); each row that meets fmt, with fmt's text TOLD by the authors' own Lean function (tested against real Go, not proved from fmt's source: count such statements apart). THE CARD IS WHAT COUNTS. Prove the row's statement (the work); the ties are given (YthpndgcaoeokeaaGreatDoorTie.lean); close each card by the builder's one call (the guide's Derived/Test/ToyasCard.lean, 'card_holds'). Laid BY PROGRAM, IN A SANDBOX (cutbox-door.mjs). By AI agents, Wed Nov 11 2026. No macro, syntax, notation, axiom, sorry.
-/
import Derived.Test.YthpndgcaoeokeaaGreatDoorRows
import GoSem.ClaimSeven
namespace Go.Proofs.YthpndgcaoeokeaaGreatDoor
namespace Rows

/-- THE TIED CARD OF 'fallowlaw.Times'. -/
def timesCard : Claim7 := { stood := { row := timesRow, standIns := [], harness := (true, "8084365225ee75d2769126987e0b8ae9b8680571943218e9377defcbadce6396"), looks := true }, kinds := [], alts := [], laidByText := true, laidKinds := [.widerDeep, .widerDeep, .data, .data, .data, .data, .pinned], laidTests := true, laidLooks := .later }
def TimesCardSaid : Prop := Claim7.holds Tryz.pinned (.plain (OpenSpec.ofChange timesSpec)) timesCard

/-- THE TIED CARD OF 'fallowkeep.Ticks'. -/
def ticksCard : Claim7 := { stood := { row := ticksRow, standIns := [], harness := (true, "8084365225ee75d2769126987e0b8ae9b8680571943218e9377defcbadce6396"), looks := true }, kinds := [], alts := [], laidByText := true, laidKinds := [.data, .data, .data, .data, .pinned], laidTests := true, laidLooks := .later }
def TicksCardSaid : Prop := Claim7.holds Tryz.pinned (.plain (OpenSpec.ofChange ticksSpec)) ticksCard

/-- THE TIED CARD OF 'fallowlaw.Events'. -/
def eventsCard : Claim7 := { stood := { row := eventsRow, standIns := [], harness := (true, "8084365225ee75d2769126987e0b8ae9b8680571943218e9377defcbadce6396"), looks := true }, kinds := [], alts := [], laidByText := true, laidKinds := [.widerDeep, .widerDeep, .data, .data, .data, .data, .pinned], laidTests := true, laidLooks := .later }
def EventsCardSaid : Prop := Claim7.holds Tryz.pinned (.plain (OpenSpec.ofChange eventsSpec)) eventsCard

/-- THE TIED CARD OF 'fallowlaw.Comes'. -/
def comesCard : Claim7 := { stood := { row := comesRow, standIns := [], harness := (true, "8084365225ee75d2769126987e0b8ae9b8680571943218e9377defcbadce6396"), looks := true }, kinds := [], alts := [], laidByText := true, laidKinds := [.widerDeep, .widerDeep, .data, .data, .data, .data, .pinned], laidTests := true, laidLooks := .later }
def ComesCardSaid : Prop := Claim7.holds Tryz.pinned (.plain (OpenSpec.ofChange comesSpec)) comesCard

/-- THE TIED CARD OF 'fallowkeep.Printed'. -/
def printedCard : Claim7 := { stood := { row := printedRow, standIns := [], harness := (true, "8084365225ee75d2769126987e0b8ae9b8680571943218e9377defcbadce6396"), looks := true }, kinds := [], alts := [], laidByText := true, laidKinds := [.data, .data, .data, .data, .pinned], laidTests := true, laidLooks := .later }
def PrintedCardSaid : Prop := Claim7.holds Tryz.pinned (.plain (OpenSpec.ofChange printedSpec)) printedCard

/-- THE TIED CARD OF 'fallowkeep.Folded'. -/
def foldedCard : Claim7 := { stood := { row := foldedRow, standIns := [], harness := (true, "8084365225ee75d2769126987e0b8ae9b8680571943218e9377defcbadce6396"), looks := true }, kinds := [], alts := [], laidByText := true, laidKinds := [.data, .data, .data, .data, .pinned], laidTests := true, laidLooks := .later }
def FoldedCardSaid : Prop := Claim7.holds Tryz.pinned (.plain (OpenSpec.ofChange foldedSpec)) foldedCard

/-- THE TIED CARD OF 'fallowkeep.Stepped'. -/
def steppedCard : Claim7 := { stood := { row := steppedRow, standIns := [], harness := (true, "8084365225ee75d2769126987e0b8ae9b8680571943218e9377defcbadce6396"), looks := true }, kinds := [], alts := [], laidByText := true, laidKinds := [.data, .data, .data, .data, .pinned], laidTests := true, laidLooks := .later }
def SteppedCardSaid : Prop := Claim7.holds Tryz.pinned (.plain (OpenSpec.ofChange steppedSpec)) steppedCard

/-- THE TIED CARD OF 'fallowkeep.Monthly'. -/
def monthlyCard : Claim7 := { stood := { row := monthlyRow, standIns := [], harness := (true, "8084365225ee75d2769126987e0b8ae9b8680571943218e9377defcbadce6396"), looks := true }, kinds := [], alts := [], laidByText := true, laidKinds := [.data, .data, .data, .data, .pinned], laidTests := true, laidLooks := .later }
def MonthlyCardSaid : Prop := Claim7.holds Tryz.pinned (.plain (OpenSpec.ofChange monthlySpec)) monthlyCard

/-- THE TIED CARD OF 'fallowkeep.Parted'. -/
def partedCard : Claim7 := { stood := { row := partedRow, standIns := [], harness := (true, "8084365225ee75d2769126987e0b8ae9b8680571943218e9377defcbadce6396"), looks := true }, kinds := [], alts := [], laidByText := true, laidKinds := [.data, .data, .data, .data, .pinned], laidTests := true, laidLooks := .later }
def PartedCardSaid : Prop := Claim7.holds Tryz.pinned (.plain (OpenSpec.ofChange partedSpec)) partedCard

/-- THE TIED CARD OF 'fallowkeep.Taken'. -/
def takenCard : Claim7 := { stood := { row := takenRow, standIns := [], harness := (true, "8084365225ee75d2769126987e0b8ae9b8680571943218e9377defcbadce6396"), looks := true }, kinds := [], alts := [], laidByText := true, laidKinds := [.data, .data, .data, .data, .pinned], laidTests := true, laidLooks := .later }
def TakenCardSaid : Prop := Claim7.holds Tryz.pinned (.plain (OpenSpec.ofChange takenSpec)) takenCard

/-- THE TIED CARD OF 'fallowlaw.Busies'. -/
def busiesCard : Claim7 := { stood := { row := busiesRow, standIns := [], harness := (true, "8084365225ee75d2769126987e0b8ae9b8680571943218e9377defcbadce6396"), looks := true }, kinds := [], alts := [], laidByText := true, laidKinds := [.widerDeep, .widerDeep, .data, .data, .data, .data, .pinned], laidTests := true, laidLooks := .later }
def BusiesCardSaid : Prop := Claim7.holds Tryz.pinned (.plain (OpenSpec.ofChange busiesSpec)) busiesCard

/-- THE TIED CARD OF 'fallowkeep.Covered'. -/
def coveredCard : Claim7 := { stood := { row := coveredRow, standIns := [], harness := (true, "8084365225ee75d2769126987e0b8ae9b8680571943218e9377defcbadce6396"), looks := true }, kinds := [], alts := [], laidByText := true, laidKinds := [.data, .data, .data, .data, .pinned], laidTests := true, laidLooks := .later }
def CoveredCardSaid : Prop := Claim7.holds Tryz.pinned (.plain (OpenSpec.ofChange coveredSpec)) coveredCard

/-- THE SECOND FORM's CARD OF 'fallowlaw.Times'. -/
def timesUptoCard : Claim7 := { stood := { row := timesUptoRow, standIns := [], harness := (true, "8084365225ee75d2769126987e0b8ae9b8680571943218e9377defcbadce6396"), looks := true }, kinds := [], alts := [], laidByText := true, laidKinds := [.widerDeep, .widerDeep, .data, .data, .data, .data, .pinned], laidTests := true, laidLooks := .later }
def TimesUptoCardSaid : Prop := Claim7.holds Tryz.pinned (.plain (OpenSpec.upto timesSpec)) timesUptoCard

/-- THE SECOND FORM's CARD OF 'fallowkeep.Ticks'. -/
def ticksUptoCard : Claim7 := { stood := { row := ticksUptoRow, standIns := [], harness := (true, "8084365225ee75d2769126987e0b8ae9b8680571943218e9377defcbadce6396"), looks := true }, kinds := [], alts := [], laidByText := true, laidKinds := [.data, .data, .data, .data, .pinned], laidTests := true, laidLooks := .later }
def TicksUptoCardSaid : Prop := Claim7.holds Tryz.pinned (.plain (OpenSpec.upto ticksSpec)) ticksUptoCard

/-- THE SECOND FORM's CARD OF 'fallowlaw.Events'. -/
def eventsUptoCard : Claim7 := { stood := { row := eventsUptoRow, standIns := [], harness := (true, "8084365225ee75d2769126987e0b8ae9b8680571943218e9377defcbadce6396"), looks := true }, kinds := [], alts := [], laidByText := true, laidKinds := [.widerDeep, .widerDeep, .data, .data, .data, .data, .pinned], laidTests := true, laidLooks := .later }
def EventsUptoCardSaid : Prop := Claim7.holds Tryz.pinned (.plain (OpenSpec.upto eventsSpec)) eventsUptoCard

/-- THE SECOND FORM's CARD OF 'fallowlaw.Comes'. -/
def comesUptoCard : Claim7 := { stood := { row := comesUptoRow, standIns := [], harness := (true, "8084365225ee75d2769126987e0b8ae9b8680571943218e9377defcbadce6396"), looks := true }, kinds := [], alts := [], laidByText := true, laidKinds := [.widerDeep, .widerDeep, .data, .data, .data, .data, .pinned], laidTests := true, laidLooks := .later }
def ComesUptoCardSaid : Prop := Claim7.holds Tryz.pinned (.plain (OpenSpec.upto comesSpec)) comesUptoCard

/-- THE SECOND FORM's CARD OF 'fallowkeep.Printed'. -/
def printedUptoCard : Claim7 := { stood := { row := printedUptoRow, standIns := [], harness := (true, "8084365225ee75d2769126987e0b8ae9b8680571943218e9377defcbadce6396"), looks := true }, kinds := [], alts := [], laidByText := true, laidKinds := [.data, .data, .data, .data, .pinned], laidTests := true, laidLooks := .later }
def PrintedUptoCardSaid : Prop := Claim7.holds Tryz.pinned (.plain (OpenSpec.upto printedSpec)) printedUptoCard

/-- THE SECOND FORM's CARD OF 'fallowkeep.Folded'. -/
def foldedUptoCard : Claim7 := { stood := { row := foldedUptoRow, standIns := [], harness := (true, "8084365225ee75d2769126987e0b8ae9b8680571943218e9377defcbadce6396"), looks := true }, kinds := [], alts := [], laidByText := true, laidKinds := [.data, .data, .data, .data, .pinned], laidTests := true, laidLooks := .later }
def FoldedUptoCardSaid : Prop := Claim7.holds Tryz.pinned (.plain (OpenSpec.upto foldedSpec)) foldedUptoCard

/-- THE SECOND FORM's CARD OF 'fallowkeep.Stepped'. -/
def steppedUptoCard : Claim7 := { stood := { row := steppedUptoRow, standIns := [], harness := (true, "8084365225ee75d2769126987e0b8ae9b8680571943218e9377defcbadce6396"), looks := true }, kinds := [], alts := [], laidByText := true, laidKinds := [.data, .data, .data, .data, .pinned], laidTests := true, laidLooks := .later }
def SteppedUptoCardSaid : Prop := Claim7.holds Tryz.pinned (.plain (OpenSpec.upto steppedSpec)) steppedUptoCard

/-- THE SECOND FORM's CARD OF 'fallowkeep.Monthly'. -/
def monthlyUptoCard : Claim7 := { stood := { row := monthlyUptoRow, standIns := [], harness := (true, "8084365225ee75d2769126987e0b8ae9b8680571943218e9377defcbadce6396"), looks := true }, kinds := [], alts := [], laidByText := true, laidKinds := [.data, .data, .data, .data, .pinned], laidTests := true, laidLooks := .later }
def MonthlyUptoCardSaid : Prop := Claim7.holds Tryz.pinned (.plain (OpenSpec.upto monthlySpec)) monthlyUptoCard

/-- THE SECOND FORM's CARD OF 'fallowkeep.Parted'. -/
def partedUptoCard : Claim7 := { stood := { row := partedUptoRow, standIns := [], harness := (true, "8084365225ee75d2769126987e0b8ae9b8680571943218e9377defcbadce6396"), looks := true }, kinds := [], alts := [], laidByText := true, laidKinds := [.data, .data, .data, .data, .pinned], laidTests := true, laidLooks := .later }
def PartedUptoCardSaid : Prop := Claim7.holds Tryz.pinned (.plain (OpenSpec.upto partedSpec)) partedUptoCard

/-- THE SECOND FORM's CARD OF 'fallowkeep.Taken'. -/
def takenUptoCard : Claim7 := { stood := { row := takenUptoRow, standIns := [], harness := (true, "8084365225ee75d2769126987e0b8ae9b8680571943218e9377defcbadce6396"), looks := true }, kinds := [], alts := [], laidByText := true, laidKinds := [.data, .data, .data, .data, .pinned], laidTests := true, laidLooks := .later }
def TakenUptoCardSaid : Prop := Claim7.holds Tryz.pinned (.plain (OpenSpec.upto takenSpec)) takenUptoCard

/-- THE SECOND FORM's CARD OF 'fallowlaw.Busies'. -/
def busiesUptoCard : Claim7 := { stood := { row := busiesUptoRow, standIns := [], harness := (true, "8084365225ee75d2769126987e0b8ae9b8680571943218e9377defcbadce6396"), looks := true }, kinds := [], alts := [], laidByText := true, laidKinds := [.widerDeep, .widerDeep, .data, .data, .data, .data, .pinned], laidTests := true, laidLooks := .later }
def BusiesUptoCardSaid : Prop := Claim7.holds Tryz.pinned (.plain (OpenSpec.upto busiesSpec)) busiesUptoCard

/-- THE SECOND FORM's CARD OF 'fallowkeep.Covered'. -/
def coveredUptoCard : Claim7 := { stood := { row := coveredUptoRow, standIns := [], harness := (true, "8084365225ee75d2769126987e0b8ae9b8680571943218e9377defcbadce6396"), looks := true }, kinds := [], alts := [], laidByText := true, laidKinds := [.data, .data, .data, .data, .pinned], laidTests := true, laidLooks := .later }
def CoveredUptoCardSaid : Prop := Claim7.holds Tryz.pinned (.plain (OpenSpec.upto coveredSpec)) coveredUptoCard
end Rows
end Go.Proofs.YthpndgcaoeokeaaGreatDoor
