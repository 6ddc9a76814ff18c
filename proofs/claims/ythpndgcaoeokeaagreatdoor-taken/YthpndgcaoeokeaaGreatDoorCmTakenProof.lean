/- Whatever the numbers: with an EXDATE an event by the day has all its instances but that one, with an RDATE one more: Taken of fallowkeep answers true. -/
import Derived.Test.YthpndgcaoeokeaaGreatDoorCmTakenC
namespace Go.Proofs.YthpndgcaoeokeaaGreatDoor
open Go.ChangeShapes Go.WideShapes Go.ChangeAt Go.RowKit

set_option maxHeartbeats 40000000 in
theorem taken_card : Rows.TakenCardSaid :=
  Claim7.holds_tied_plain_at .later [] _ _ _ _ taken_said (fun _ h => by cases h) (by as_aux_lemma => kernel_rfl) (fun _ h => by cases h) taken_row_tie rfl ⟨rfl, rfl⟩ (by as_aux_lemma => kernel_rfl) rfl
    (fun f fn hf hfn => by
      obtain rfl : f = 12 := Option.some.inj ((show Tryz.prog.funcNamed "fallow/fallowkeep.Taken" = some 12 by as_aux_lemma => kernel_rfl).symm.trans hf) |>.symm
      obtain rfl : fn = Tryz.f12 := (Option.some.inj (Tryz.func12.symm.trans hfn)).symm
      exact ⟨by as_aux_lemma => kernel_rfl, fun j t ht => by
        rw [Tryz.params12] at ht
        obtain rfl : t = 3 := by simpa using Array.mem_of_getElem? ht
        exact (show Tryz.prog.wantsStandIn 3 = false by as_aux_lemma => kernel_rfl)⟩)
    (by as_aux_lemma => kernel_rfl)
end Go.Proofs.YthpndgcaoeokeaaGreatDoor
