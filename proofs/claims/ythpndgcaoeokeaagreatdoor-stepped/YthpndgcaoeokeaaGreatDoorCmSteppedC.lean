/- Stepped: the row's statement -/
import Derived.Test.YthpndgcaoeokeaaGreatDoorCmSteppedB
namespace Go.Proofs.YthpndgcaoeokeaaGreatDoor
open Go.ChangeShapes Go.WideShapes Go.ChangeAt Go.RowKit

theorem stepped_facts' : joinedFacts Tryz.prog 9 Tryz.f9 (OpenSpec.ofChange Rows.steppedSpec).bare Rows.steppedRow = true := by
  have h := stepped_facts
  unfold joinedFacts at h ⊢
  exact h
theorem stepped_said : Rows.SteppedSaid :=
  OpenClaim.holds_of_cond 9 Tryz.f9 rfl rfl rfl rfl rfl rfl rfl ⟨rfl, rfl, rfl, rfl, rfl⟩ rfl rfl rfl rfl rfl (by kernel_rfl) Tryz.func9 stepped_facts'
    (of_decide_eq_true (by kernel_rfl)) (by unfold Func.isWrapper; first | (rw [if_pos (by decide +kernel)]; kernel_rfl) | (rw [if_neg (by decide +kernel)]; exact ⟨rfl, rfl⟩))
    (fun os started H enc _ F => by rw [OpenClaim.pre_eq_preRow]; exact stepped_lifted os started H enc F)
end Go.Proofs.YthpndgcaoeokeaaGreatDoor
