/- Whatever the acts and the horizons: with Horizon called anywhere,to any time,every other call answers as without; never more than MaxIndex instances are in the index: Unnoticed of fallowkeep answers true. -/
import Derived.Test.YtchdfdmjihnhkaaGreatDoorUqUnnoticedC
set_option maxRecDepth 100000
set_option maxHeartbeats 40000000
namespace Go.Proofs.YtchdfdmjihnhkaaGreatDoor
open _root_.Go.Proofs.Tryz
open Go.ChangeShapes Go.WideShapes Go.ChangeAt Go.RowKit
theorem unnoticed_card:Rows.UnnoticedCardSaid:=
 Claim7.holds_tied_plain_at .later [] _ _ _ _ Hj (λ_ h=>by cases h) (by as_aux_lemma=>kernel_rfl) (λ_ h=>by cases h) unnoticed_row_tie rfl ⟨rfl,rfl⟩ (by as_aux_lemma=>kernel_rfl) rfl
  (λf fn hf B7=>by
   obtain rfl:f=3:=Option.some.inj ((show prog.funcNamed "fallow/fallowkeep.Unnoticed" =some 3 by as_aux_lemma=>kernel_rfl).symm.trans hf)|>.symm;obtain rfl:fn=Tryz.f3:=(Option.some.inj (func3.symm.trans B7)).symm;exact⟨by as_aux_lemma=>kernel_rfl,λj t ht=>by
    rw[params3]at ht;have A:t=22\/t=23:=by simpa using Array.mem_of_getElem? ht
    rcases A with rfl|rfl
    ·exact(show prog.wantsStandIn 22=false by as_aux_lemma=>kernel_rfl)
    exact(show prog.wantsStandIn 23=false by as_aux_lemma=>kernel_rfl)⟩)
  (by as_aux_lemma=>kernel_rfl)
end Go.Proofs.YtchdfdmjihnhkaaGreatDoor
