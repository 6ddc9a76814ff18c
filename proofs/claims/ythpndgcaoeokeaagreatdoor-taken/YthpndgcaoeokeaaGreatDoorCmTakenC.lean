/- Taken: the row's statement -/
import Derived.Test.YthpndgcaoeokeaaGreatDoorCmTakenB
namespace Go.Proofs.YthpndgcaoeokeaaGreatDoor
open Go.ChangeShapes Go.WideShapes Go.ChangeAt Go.RowKit

theorem taken_facts' : joinedFacts Tryz.prog 12 Tryz.f12 (OpenSpec.ofChange Rows.takenSpec).bare Rows.takenRow = true := by
  have h := taken_facts
  unfold joinedFacts at h ⊢
  exact h
theorem taken_said : Rows.TakenSaid :=
  OpenClaim.holds_of_cond 12 Tryz.f12 rfl rfl rfl rfl rfl rfl rfl ⟨rfl, rfl, rfl, rfl, rfl⟩ rfl rfl rfl rfl rfl (by kernel_rfl) Tryz.func12 taken_facts'
    (of_decide_eq_true (by kernel_rfl)) (by unfold Func.isWrapper; first | (rw [if_pos (by decide +kernel)]; kernel_rfl) | (rw [if_neg (by decide +kernel)]; exact ⟨rfl, rfl⟩))
    (fun os started H enc _ F => by rw [OpenClaim.pre_eq_preRow]; exact taken_lifted os started H enc F)
end Go.Proofs.YthpndgcaoeokeaaGreatDoor
