/- Whatever the numbers: what comes by the day is what comes on Mondays to Wednesdays and what comes on Thursdays to Sundays, and what comes on the last of a month's days is among the last ones of their weekdays: Parted of fallowkeep answers true. -/
import Derived.Test.YthpndgcaoeokeaaGreatDoorCpPartedC
namespace Go.Proofs.YthpndgcaoeokeaaGreatDoor
open Go.ChangeShapes Go.WideShapes Go.ChangeAt Go.RowKit

set_option maxHeartbeats 40000000 in
theorem parted_card : Rows.PartedCardSaid :=
  Claim7.holds_tied_plain_at .later [] _ _ _ _ parted_said (fun _ h => by cases h) (by as_aux_lemma => kernel_rfl) (fun _ h => by cases h) parted_row_tie rfl ⟨rfl, rfl⟩ (by as_aux_lemma => kernel_rfl) rfl
    (fun f fn hf hfn => by
      obtain rfl : f = 11 := Option.some.inj ((show Tryz.prog.funcNamed "fallow/fallowkeep.Parted" = some 11 by as_aux_lemma => kernel_rfl).symm.trans hf) |>.symm
      obtain rfl : fn = Tryz.f11 := (Option.some.inj (Tryz.func11.symm.trans hfn)).symm
      exact ⟨by as_aux_lemma => kernel_rfl, fun j t ht => by
        rw [Tryz.params11] at ht
        obtain rfl : t = 3 := by simpa using Array.mem_of_getElem? ht
        exact (show Tryz.prog.wantsStandIn 3 = false by as_aux_lemma => kernel_rfl)⟩)
    (by as_aux_lemma => kernel_rfl)
end Go.Proofs.YthpndgcaoeokeaaGreatDoor
