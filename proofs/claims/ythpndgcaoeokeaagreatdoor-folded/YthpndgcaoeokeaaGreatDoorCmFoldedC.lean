/- Folded: the row's statement -/
import Derived.Test.YthpndgcaoeokeaaGreatDoorCmFoldedB
namespace Go.Proofs.YthpndgcaoeokeaaGreatDoor
open Go.ChangeShapes Go.WideShapes Go.ChangeAt Go.RowKit

theorem folded_facts' : joinedFacts Tryz.prog 8 Tryz.f8 (OpenSpec.ofChange Rows.foldedSpec).bare Rows.foldedRow = true := by
  have h := folded_facts
  unfold joinedFacts at h ⊢
  exact h
theorem folded_said : Rows.FoldedSaid :=
  OpenClaim.holds_of_cond 8 Tryz.f8 rfl rfl rfl rfl rfl rfl rfl ⟨rfl, rfl, rfl, rfl, rfl⟩ rfl rfl rfl rfl rfl (by kernel_rfl) Tryz.func8 folded_facts'
    (of_decide_eq_true (by kernel_rfl)) (by unfold Func.isWrapper; first | (rw [if_pos (by decide +kernel)]; kernel_rfl) | (rw [if_neg (by decide +kernel)]; exact ⟨rfl, rfl⟩))
    (fun os started H enc _ F => by rw [OpenClaim.pre_eq_preRow]; exact folded_lifted os started H enc F)
end Go.Proofs.YthpndgcaoeokeaaGreatDoor
