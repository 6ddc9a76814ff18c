/- Whatever the script, as long as it holds no more than 1048576 values and letters in all: after every step of it that asks Parse, Print, Length, Check or Instances, the program's answer is the document's; every list that came out reads as its owner wrote it, and the script reads as it did. -/
import Derived.Test.YthpndgcaoeokeaaGreatDoorCoComesC
set_option maxRecDepth 100000
set_option maxHeartbeats 40000000
namespace Go.Proofs.YthpndgcaoeokeaaGreatDoor
open _root_.Go.Proofs.Tryz
open Go.ChangeShapes Go.WideShapes Go.ChangeAt Go.RowKit
theorem comes_card:Rows.ComesUptoCardSaid:=
 Claim7.holds_tied_plain_at .later [] _ _ _ _ Ri (fun _ h=>by cases h) (by as_aux_lemma=>kernel_rfl) (fun _ h=>by cases h) comesUpto_row_tie rfl ⟨rfl,rfl⟩ (by as_aux_lemma=>kernel_rfl) rfl
  (fun f fn hf Cu=>by
   obtain rfl:f=6:=Option.some.inj ((show prog.funcNamed "fallow/fallowlaw.Comes" =some 6 by as_aux_lemma=>kernel_rfl).symm.trans hf)|>.symm;obtain rfl:fn=Tryz.f6:=(Option.some.inj (func6.symm.trans Cu)).symm;exact⟨by as_aux_lemma=>kernel_rfl,fun j t ht=>by
    rw[params6]at ht;obtain rfl:t=22:=by simpa using Array.mem_of_getElem? ht
    exact(show prog.wantsStandIn 22=false by as_aux_lemma=>kernel_rfl)⟩)
  (by as_aux_lemma=>kernel_rfl)
end Go.Proofs.YthpndgcaoeokeaaGreatDoor
