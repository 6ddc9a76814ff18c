/- Printed: the row's statement -/
import Derived.Test.YthpndgcaoeokeaaGreatDoorCmPrintedB
namespace Go.Proofs.YthpndgcaoeokeaaGreatDoor
open Go.ChangeShapes Go.WideShapes Go.ChangeAt Go.RowKit

theorem printed_facts' : joinedFacts Tryz.prog 7 Tryz.f7 (OpenSpec.ofChange Rows.printedSpec).bare Rows.printedRow = true := by
  have h := printed_facts
  unfold joinedFacts at h ⊢
  exact h
theorem printed_said : Rows.PrintedSaid :=
  OpenClaim.holds_of_cond 7 Tryz.f7 rfl rfl rfl rfl rfl rfl rfl ⟨rfl, rfl, rfl, rfl, rfl⟩ rfl rfl rfl rfl rfl (by kernel_rfl) Tryz.func7 printed_facts'
    (of_decide_eq_true (by kernel_rfl)) (by unfold Func.isWrapper; first | (rw [if_pos (by decide +kernel)]; kernel_rfl) | (rw [if_neg (by decide +kernel)]; exact ⟨rfl, rfl⟩))
    (fun os started H enc _ F => by rw [OpenClaim.pre_eq_preRow]; exact printed_lifted os started H enc F)
end Go.Proofs.YthpndgcaoeokeaaGreatDoor
