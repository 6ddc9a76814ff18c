/-
  DERIVED. GIVEN WITH THE SEED: THE CARDS: each row of YtlfphiohfnhpcaaGreatDoorRows.lean that lists a variable, with what it lists TIED to the program's text (the seventh form; the later family's looks); each row that meets fmt, with fmt's text TOLD by the authors' own Lean function (tested against real Go, not proved from fmt's source: count such statements apart). THE CARD IS WHAT COUNTS. Prove the row's statement (the work); the ties are given (YtlfphiohfnhpcaaGreatDoorTie.lean); close each card by the builder's one call (the guide's Derived/Test/ToyasCard.lean, 'card_holds'). Laid BY PROGRAM, IN A SANDBOX (cutbox-door.mjs). By AI agents, Wed Nov 11 2026. No macro, syntax, notation, axiom, sorry.
-/
import Derived.Test.YtlfphiohfnhpcaaGreatDoorRows
import GoSem.ClaimSeven
namespace Go.Proofs.YtlfphiohfnhpcaaGreatDoor
namespace Rows

/-- THE TIED CARD OF 'fallowlaw.Times'. -/
def timesCard : Claim7 := { stood := { row := timesRow, standIns := [], harness := (true, "a804bf45d6b0f8fa04cdba2b04876c9d71edd375d72e99dc939879bd9bb0096b"), looks := true }, kinds := [], alts := [], laidByText := true, laidKinds := [.widerDeep, .widerDeep, .data, .data, .data, .data, .pinned], laidTests := true, laidLooks := .later }
def TimesCardSaid : Prop := Claim7.holds Tryz.pinned (.plain (OpenSpec.ofChange timesSpec)) timesCard

/-- THE TIED CARD OF 'fallowkeep.Ticks'. -/
def ticksCard : Claim7 := { stood := { row := ticksRow, standIns := [], harness := (true, "a804bf45d6b0f8fa04cdba2b04876c9d71edd375d72e99dc939879bd9bb0096b"), looks := true }, kinds := [], alts := [], laidByText := true, laidKinds := [.data, .data, .data, .data, .pinned], laidTests := true, laidLooks := .later }
def TicksCardSaid : Prop := Claim7.holds Tryz.pinned (.plain (OpenSpec.ofChange ticksSpec)) ticksCard

/-- THE TIED CARD OF 'fallowlaw.Events'. -/
def eventsCard : Claim7 := { stood := { row := eventsRow, standIns := [], harness := (true, "a804bf45d6b0f8fa04cdba2b04876c9d71edd375d72e99dc939879bd9bb0096b"), looks := true }, kinds := [], alts := [], laidByText := true, laidKinds := [.widerDeep, .widerDeep, .data, .data, .data, .data, .pinned], laidTests := true, laidLooks := .later }
def EventsCardSaid : Prop := Claim7.holds Tryz.pinned (.plain (OpenSpec.ofChange eventsSpec)) eventsCard

/-- THE TIED CARD OF 'fallowlaw.Comes'. -/
def comesCard : Claim7 := { stood := { row := comesRow, standIns := [], harness := (true, "a804bf45d6b0f8fa04cdba2b04876c9d71edd375d72e99dc939879bd9bb0096b"), looks := true }, kinds := [], alts := [], laidByText := true, laidKinds := [.widerDeep, .widerDeep, .data, .data, .data, .data, .pinned], laidTests := true, laidLooks := .later }
def ComesCardSaid : Prop := Claim7.holds Tryz.pinned (.plain (OpenSpec.ofChange comesSpec)) comesCard

/-- THE TIED CARD OF 'fallowkeep.Printed'. -/
def printedCard : Claim7 := { stood := { row := printedRow, standIns := [], harness := (true, "a804bf45d6b0f8fa04cdba2b04876c9d71edd375d72e99dc939879bd9bb0096b"), looks := true }, kinds := [], alts := [], laidByText := true, laidKinds := [.data, .data, .data, .data, .pinned], laidTests := true, laidLooks := .later }
def PrintedCardSaid : Prop := Claim7.holds Tryz.pinned (.plain (OpenSpec.ofChange printedSpec)) printedCard

/-- THE TIED CARD OF 'fallowkeep.Folded'. -/
def foldedCard : Claim7 := { stood := { row := foldedRow, standIns := [], harness := (true, "a804bf45d6b0f8fa04cdba2b04876c9d71edd375d72e99dc939879bd9bb0096b"), looks := true }, kinds := [], alts := [], laidByText := true, laidKinds := [.data, .data, .data, .data, .pinned], laidTests := true, laidLooks := .later }
def FoldedCardSaid : Prop := Claim7.holds Tryz.pinned (.plain (OpenSpec.ofChange foldedSpec)) foldedCard

/-- THE TIED CARD OF 'fallowkeep.Stepped'. -/
def steppedCard : Claim7 := { stood := { row := steppedRow, standIns := [], harness := (true, "a804bf45d6b0f8fa04cdba2b04876c9d71edd375d72e99dc939879bd9bb0096b"), looks := true }, kinds := [], alts := [], laidByText := true, laidKinds := [.data, .data, .data, .data, .pinned], laidTests := true, laidLooks := .later }
def SteppedCardSaid : Prop := Claim7.holds Tryz.pinned (.plain (OpenSpec.ofChange steppedSpec)) steppedCard

/-- THE TIED CARD OF 'fallowkeep.Monthly'. -/
def monthlyCard : Claim7 := { stood := { row := monthlyRow, standIns := [], harness := (true, "a804bf45d6b0f8fa04cdba2b04876c9d71edd375d72e99dc939879bd9bb0096b"), looks := true }, kinds := [], alts := [], laidByText := true, laidKinds := [.data, .data, .data, .data, .pinned], laidTests := true, laidLooks := .later }
def MonthlyCardSaid : Prop := Claim7.holds Tryz.pinned (.plain (OpenSpec.ofChange monthlySpec)) monthlyCard

/-- THE TIED CARD OF 'fallowkeep.Parted'. -/
def partedCard : Claim7 := { stood := { row := partedRow, standIns := [], harness := (true, "a804bf45d6b0f8fa04cdba2b04876c9d71edd375d72e99dc939879bd9bb0096b"), looks := true }, kinds := [], alts := [], laidByText := true, laidKinds := [.data, .data, .data, .data, .pinned], laidTests := true, laidLooks := .later }
def PartedCardSaid : Prop := Claim7.holds Tryz.pinned (.plain (OpenSpec.ofChange partedSpec)) partedCard

/-- THE TIED CARD OF 'fallowkeep.Taken'. -/
def takenCard : Claim7 := { stood := { row := takenRow, standIns := [], harness := (true, "a804bf45d6b0f8fa04cdba2b04876c9d71edd375d72e99dc939879bd9bb0096b"), looks := true }, kinds := [], alts := [], laidByText := true, laidKinds := [.data, .data, .data, .data, .pinned], laidTests := true, laidLooks := .later }
def TakenCardSaid : Prop := Claim7.holds Tryz.pinned (.plain (OpenSpec.ofChange takenSpec)) takenCard

/-- THE SECOND FORM's CARD OF 'fallowlaw.Times'. -/
def timesUptoCard : Claim7 := { stood := { row := timesUptoRow, standIns := [], harness := (true, "a804bf45d6b0f8fa04cdba2b04876c9d71edd375d72e99dc939879bd9bb0096b"), looks := true }, kinds := [], alts := [], laidByText := true, laidKinds := [.widerDeep, .widerDeep, .data, .data, .data, .data, .pinned], laidTests := true, laidLooks := .later }
def TimesUptoCardSaid : Prop := Claim7.holds Tryz.pinned (.plain (OpenSpec.upto timesSpec)) timesUptoCard

/-- THE SECOND FORM's CARD OF 'fallowkeep.Ticks'. -/
def ticksUptoCard : Claim7 := { stood := { row := ticksUptoRow, standIns := [], harness := (true, "a804bf45d6b0f8fa04cdba2b04876c9d71edd375d72e99dc939879bd9bb0096b"), looks := true }, kinds := [], alts := [], laidByText := true, laidKinds := [.data, .data, .data, .data, .pinned], laidTests := true, laidLooks := .later }
def TicksUptoCardSaid : Prop := Claim7.holds Tryz.pinned (.plain (OpenSpec.upto ticksSpec)) ticksUptoCard

/-- THE SECOND FORM's CARD OF 'fallowlaw.Events'. -/
def eventsUptoCard : Claim7 := { stood := { row := eventsUptoRow, standIns := [], harness := (true, "a804bf45d6b0f8fa04cdba2b04876c9d71edd375d72e99dc939879bd9bb0096b"), looks := true }, kinds := [], alts := [], laidByText := true, laidKinds := [.widerDeep, .widerDeep, .data, .data, .data, .data, .pinned], laidTests := true, laidLooks := .later }
def EventsUptoCardSaid : Prop := Claim7.holds Tryz.pinned (.plain (OpenSpec.upto eventsSpec)) eventsUptoCard

/-- THE SECOND FORM's CARD OF 'fallowlaw.Comes'. -/
def comesUptoCard : Claim7 := { stood := { row := comesUptoRow, standIns := [], harness := (true, "a804bf45d6b0f8fa04cdba2b04876c9d71edd375d72e99dc939879bd9bb0096b"), looks := true }, kinds := [], alts := [], laidByText := true, laidKinds := [.widerDeep, .widerDeep, .data, .data, .data, .data, .pinned], laidTests := true, laidLooks := .later }
def ComesUptoCardSaid : Prop := Claim7.holds Tryz.pinned (.plain (OpenSpec.upto comesSpec)) comesUptoCard

/-- THE SECOND FORM's CARD OF 'fallowkeep.Printed'. -/
def printedUptoCard : Claim7 := { stood := { row := printedUptoRow, standIns := [], harness := (true, "a804bf45d6b0f8fa04cdba2b04876c9d71edd375d72e99dc939879bd9bb0096b"), looks := true }, kinds := [], alts := [], laidByText := true, laidKinds := [.data, .data, .data, .data, .pinned], laidTests := true, laidLooks := .later }
def PrintedUptoCardSaid : Prop := Claim7.holds Tryz.pinned (.plain (OpenSpec.upto printedSpec)) printedUptoCard

/-- THE SECOND FORM's CARD OF 'fallowkeep.Folded'. -/
def foldedUptoCard : Claim7 := { stood := { row := foldedUptoRow, standIns := [], harness := (true, "a804bf45d6b0f8fa04cdba2b04876c9d71edd375d72e99dc939879bd9bb0096b"), looks := true }, kinds := [], alts := [], laidByText := true, laidKinds := [.data, .data, .data, .data, .pinned], laidTests := true, laidLooks := .later }
def FoldedUptoCardSaid : Prop := Claim7.holds Tryz.pinned (.plain (OpenSpec.upto foldedSpec)) foldedUptoCard

/-- THE SECOND FORM's CARD OF 'fallowkeep.Stepped'. -/
def steppedUptoCard : Claim7 := { stood := { row := steppedUptoRow, standIns := [], harness := (true, "a804bf45d6b0f8fa04cdba2b04876c9d71edd375d72e99dc939879bd9bb0096b"), looks := true }, kinds := [], alts := [], laidByText := true, laidKinds := [.data, .data, .data, .data, .pinned], laidTests := true, laidLooks := .later }
def SteppedUptoCardSaid : Prop := Claim7.holds Tryz.pinned (.plain (OpenSpec.upto steppedSpec)) steppedUptoCard

/-- THE SECOND FORM's CARD OF 'fallowkeep.Monthly'. -/
def monthlyUptoCard : Claim7 := { stood := { row := monthlyUptoRow, standIns := [], harness := (true, "a804bf45d6b0f8fa04cdba2b04876c9d71edd375d72e99dc939879bd9bb0096b"), looks := true }, kinds := [], alts := [], laidByText := true, laidKinds := [.data, .data, .data, .data, .pinned], laidTests := true, laidLooks := .later }
def MonthlyUptoCardSaid : Prop := Claim7.holds Tryz.pinned (.plain (OpenSpec.upto monthlySpec)) monthlyUptoCard

/-- THE SECOND FORM's CARD OF 'fallowkeep.Parted'. -/
def partedUptoCard : Claim7 := { stood := { row := partedUptoRow, standIns := [], harness := (true, "a804bf45d6b0f8fa04cdba2b04876c9d71edd375d72e99dc939879bd9bb0096b"), looks := true }, kinds := [], alts := [], laidByText := true, laidKinds := [.data, .data, .data, .data, .pinned], laidTests := true, laidLooks := .later }
def PartedUptoCardSaid : Prop := Claim7.holds Tryz.pinned (.plain (OpenSpec.upto partedSpec)) partedUptoCard

/-- THE SECOND FORM's CARD OF 'fallowkeep.Taken'. -/
def takenUptoCard : Claim7 := { stood := { row := takenUptoRow, standIns := [], harness := (true, "a804bf45d6b0f8fa04cdba2b04876c9d71edd375d72e99dc939879bd9bb0096b"), looks := true }, kinds := [], alts := [], laidByText := true, laidKinds := [.data, .data, .data, .data, .pinned], laidTests := true, laidLooks := .later }
def TakenUptoCardSaid : Prop := Claim7.holds Tryz.pinned (.plain (OpenSpec.upto takenSpec)) takenUptoCard
end Rows
end Go.Proofs.YtlfphiohfnhpcaaGreatDoor
