import Derived.Test.YthpndgcaoeokeaaGreatDoorCvCoveredB
set_option maxRecDepth 100000
set_option maxHeartbeats 8000000
namespace Go.Proofs.YthpndgcaoeokeaaGreatDoor
open _root_.Go.Proofs.Tryz
open Go.ChangeShapes Go.WideShapes Go.ChangeAt Go.RowKit
theorem Iz:joinedFacts prog 14 Tryz.f14 (OpenSpec.ofChange Rows.coveredSpec).bare Rows.coveredRow=true:=by
 have h:=KM;unfold joinedFacts at h⊢;exact h
theorem Ov:Rows.CoveredSaid:=
 OpenClaim.holds_of_cond 14 Tryz.f14 rfl rfl rfl rfl rfl rfl rfl ⟨rfl,rfl,rfl,rfl,rfl⟩ rfl rfl rfl rfl rfl (by kernel_rfl) func14 Iz
  (of_decide_eq_true (by kernel_rfl)) (by unfold Func.isWrapper;first|(rw[if_pos (by decide+kernel)];kernel_rfl)|(rw[if_neg (by decide+kernel)];exact⟨rfl,rfl⟩))
  (λos started atA enc _ F=>by rw[OpenClaim.pre_eq_preRow];exact Iy os started atA enc F)
end Go.Proofs.YthpndgcaoeokeaaGreatDoor
