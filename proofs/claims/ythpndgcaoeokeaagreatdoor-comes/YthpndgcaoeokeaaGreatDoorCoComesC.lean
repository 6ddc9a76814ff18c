import Derived.Test.YthpndgcaoeokeaaGreatDoorCoComesB
set_option maxRecDepth 100000
set_option maxHeartbeats 8000000
namespace Go.Proofs.YthpndgcaoeokeaaGreatDoor
open _root_.Go.Proofs.Tryz
open Go.ChangeShapes Go.WideShapes Go.ChangeAt Go.RowKit
theorem Nn:joinedFacts prog 6 Tryz.f6 (Rows.OpenSpec.upto Rows.comesSpec).bare Rows.comesUptoRow=true:=by
 have h:=N4;unfold joinedFacts at h⊢;exact h
theorem Ri:Rows.ComesUptoSaid:=
 OpenClaim.holds_of_cond 6 Tryz.f6 rfl rfl rfl rfl rfl rfl rfl ⟨rfl,rfl,rfl,rfl,rfl⟩ rfl rfl rfl rfl rfl (by kernel_rfl) func6 Nn
  (of_decide_eq_true (by kernel_rfl)) (by unfold Func.isWrapper;first|(rw[if_pos (by decide+kernel)];kernel_rfl)|(rw[if_neg (by decide+kernel)];exact⟨rfl,rfl⟩))
  (fun os started H enc _ F=>by rw[OpenClaim.pre_eq_preRow];exact Nl os started H enc F)
end Go.Proofs.YthpndgcaoeokeaaGreatDoor
