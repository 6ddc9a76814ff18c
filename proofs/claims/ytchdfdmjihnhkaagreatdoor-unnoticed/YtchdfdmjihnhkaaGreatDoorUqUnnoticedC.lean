import Derived.Test.YtchdfdmjihnhkaaGreatDoorUqUnnoticedB
set_option maxRecDepth 100000
set_option maxHeartbeats 8000000
namespace Go.Proofs.YtchdfdmjihnhkaaGreatDoor
open _root_.Go.Proofs.Tryz
open Go.ChangeShapes Go.WideShapes Go.ChangeAt Go.RowKit
theorem DM:joinedFacts prog 3 Tryz.f3 (OpenSpec.ofChange Rows.unnoticedSpec).bare Rows.unnoticedRow=true:=by
 have h:=FX;unfold joinedFacts at h⊢;exact h
theorem Hj:Rows.UnnoticedSaid:=
 OpenClaim.holds_of_cond 3 Tryz.f3 rfl rfl rfl rfl rfl rfl rfl ⟨rfl,rfl,rfl,rfl,rfl⟩ rfl rfl rfl rfl rfl (by kernel_rfl) func3 DM
  (of_decide_eq_true (by kernel_rfl)) (by unfold Func.isWrapper;first|(rw[if_pos (by decide+kernel)];kernel_rfl)|(rw[if_neg (by decide+kernel)];exact⟨rfl,rfl⟩))
  (λos started aqs enc _ F=>by rw[OpenClaim.pre_eq_preRow];exact DL os started aqs enc F)
end Go.Proofs.YtchdfdmjihnhkaaGreatDoor
