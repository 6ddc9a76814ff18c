/- Whatever the numbers: of a rule by the month or by the year each instance has the start's day and time of day, a month later (or later, where there is no such day), by the year its month too, and none is left out: Monthly of fallowkeep answers true. -/
import Derived.Test.YthpndgcaoeokeaaGreatDoorCmMonthlyC
namespace Go.Proofs.YthpndgcaoeokeaaGreatDoor
open Go.ChangeShapes Go.WideShapes Go.ChangeAt Go.RowKit

set_option maxHeartbeats 40000000 in
theorem monthly_card : Rows.MonthlyCardSaid :=
  Claim7.holds_tied_plain_at .later [] _ _ _ _ monthly_said (fun _ h => by cases h) (by as_aux_lemma => kernel_rfl) (fun _ h => by cases h) monthly_row_tie rfl ⟨rfl, rfl⟩ (by as_aux_lemma => kernel_rfl) rfl
    (fun f fn hf hfn => by
      obtain rfl : f = 10 := Option.some.inj ((show Tryz.prog.funcNamed "fallow/fallowkeep.Monthly" = some 10 by as_aux_lemma => kernel_rfl).symm.trans hf) |>.symm
      obtain rfl : fn = Tryz.f10 := (Option.some.inj (Tryz.func10.symm.trans hfn)).symm
      exact ⟨by as_aux_lemma => kernel_rfl, fun j t ht => by
        rw [Tryz.params10] at ht
        have hm := Array.mem_of_getElem? ht
        simp only [List.mem_toArray, List.mem_cons, List.not_mem_nil, or_false] at hm
        have hm : t = 3 ∨ t = 4 := by
          rcases hm with h | h | h <;> first | exact .inl h | exact .inr h
        rcases hm with rfl | rfl
        · exact (show Tryz.prog.wantsStandIn 3 = false by as_aux_lemma => kernel_rfl)
        · exact (show Tryz.prog.wantsStandIn 4 = false by as_aux_lemma => kernel_rfl)⟩)
    (by as_aux_lemma => kernel_rfl)
end Go.Proofs.YthpndgcaoeokeaaGreatDoor
