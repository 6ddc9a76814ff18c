/-
  DERIVED. GIVEN WITH THE SEED: THE CARDS: each row of YtchdfdmjihnhkaaGreatDoorRows.lean that lists a variable, with what it lists TIED to the program's text (the seventh form; the later family's looks); each row that meets fmt, with fmt's text TOLD by the authors' own Lean function (tested against real Go, not proved from fmt's source: count such statements apart). THE CARD IS WHAT COUNTS. Prove the row's statement (the work); the ties are given (YtchdfdmjihnhkaaGreatDoorTie.lean); close each card by the builder's one call (the guide's Derived/Test/ToyasCard.lean, 'card_holds'). Laid BY PROGRAM, IN A SANDBOX (cutbox-door.mjs). By AI agents, Wed Nov 11 2026. No macro, syntax, notation, axiom, sorry.
-/
import Derived.Test.YtchdfdmjihnhkaaGreatDoorRows
import GoSem.ClaimSeven
namespace Go.Proofs.YtchdfdmjihnhkaaGreatDoor
namespace Rows

/-- THE TIED CARD OF 'fallowkeep.Unnoticed'. -/
def unnoticedCard : Claim7 := { stood := { row := unnoticedRow, standIns := [], harness := (true, "8b5a917e5d9d2a5bda8e03992dbd4c4b2bc2c6e552ca8cc92da494f51b7db7c2"), looks := true }, kinds := [], alts := [], laidByText := true, laidKinds := [.data, .data, .data, .data, .pinned], laidTests := true, laidLooks := .later }
def UnnoticedCardSaid : Prop := Claim7.holds Tryz.pinned (.plain (OpenSpec.ofChange unnoticedSpec)) unnoticedCard

/-- THE SECOND FORM's CARD OF 'fallowkeep.Unnoticed'. -/
def unnoticedUptoCard : Claim7 := { stood := { row := unnoticedUptoRow, standIns := [], harness := (true, "8b5a917e5d9d2a5bda8e03992dbd4c4b2bc2c6e552ca8cc92da494f51b7db7c2"), looks := true }, kinds := [], alts := [], laidByText := true, laidKinds := [.data, .data, .data, .data, .pinned], laidTests := true, laidLooks := .later }
def UnnoticedUptoCardSaid : Prop := Claim7.holds Tryz.pinned (.plain (OpenSpec.upto unnoticedSpec)) unnoticedUptoCard
end Rows
end Go.Proofs.YtchdfdmjihnhkaaGreatDoor
