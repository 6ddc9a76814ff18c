/- Parted: the row's statement -/
import Derived.Test.YthpndgcaoeokeaaGreatDoorCpPartedB
namespace Go.Proofs.YthpndgcaoeokeaaGreatDoor
open Go.ChangeShapes Go.WideShapes Go.ChangeAt Go.RowKit

theorem parted_facts' : joinedFacts Tryz.prog 11 Tryz.f11 (OpenSpec.ofChange Rows.partedSpec).bare Rows.partedRow = true := by
  have h := parted_facts
  unfold joinedFacts at h ⊢
  exact h
theorem parted_said : Rows.PartedSaid :=
  OpenClaim.holds_of_cond 11 Tryz.f11 rfl rfl rfl rfl rfl rfl rfl ⟨rfl, rfl, rfl, rfl, rfl⟩ rfl rfl rfl rfl rfl (by kernel_rfl) Tryz.func11 parted_facts'
    (of_decide_eq_true (by kernel_rfl)) (by unfold Func.isWrapper; first | (rw [if_pos (by decide +kernel)]; kernel_rfl) | (rw [if_neg (by decide +kernel)]; exact ⟨rfl, rfl⟩))
    (fun os started H enc _ F => by rw [OpenClaim.pre_eq_preRow]; exact parted_lifted os started H enc F)
end Go.Proofs.YthpndgcaoeokeaaGreatDoor
