/- Whatever the spans,the calendars,the window and the horizon: Busy tells what marking quarters of an hour one by one tells: Covered of fallowkeep answers true. -/
import Derived.Test.YthpndgcaoeokeaaGreatDoorCvCoveredC
set_option maxRecDepth 100000
set_option maxHeartbeats 40000000
namespace Go.Proofs.YthpndgcaoeokeaaGreatDoor
open _root_.Go.Proofs.Tryz
open Go.ChangeShapes Go.WideShapes Go.ChangeAt Go.RowKit
theorem covered_card:Rows.CoveredCardSaid:=
 Claim7.holds_tied_plain_at .later [] _ _ _ _ Ov (λ_ h=>by cases h) (by as_aux_lemma=>kernel_rfl) (λ_ h=>by cases h) covered_row_tie rfl ⟨rfl,rfl⟩ (by as_aux_lemma=>kernel_rfl) rfl
  (λf fn hf De=>by
   obtain rfl:f=14:=Option.some.inj ((show prog.funcNamed "fallow/fallowkeep.Covered" =some 14 by as_aux_lemma=>kernel_rfl).symm.trans hf)|>.symm;obtain rfl:fn=Tryz.f14:=(Option.some.inj (func14.symm.trans De)).symm;exact⟨by as_aux_lemma=>kernel_rfl,λj t ht=>by
    rw[params14]at ht;have A:t=48\/t=3:=by simpa using Array.mem_of_getElem? ht
    rcases A with rfl|rfl
    ·exact(show prog.wantsStandIn 48=false by as_aux_lemma=>kernel_rfl)
    exact(show prog.wantsStandIn 3=false by as_aux_lemma=>kernel_rfl)⟩)
  (by as_aux_lemma=>kernel_rfl)
end Go.Proofs.YthpndgcaoeokeaaGreatDoor
