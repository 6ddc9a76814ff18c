/- Monthly: the row's statement -/
import Derived.Test.YthpndgcaoeokeaaGreatDoorCmMonthlyB
namespace Go.Proofs.YthpndgcaoeokeaaGreatDoor
open Go.ChangeShapes Go.WideShapes Go.ChangeAt Go.RowKit

theorem monthly_facts' : joinedFacts Tryz.prog 10 Tryz.f10 (OpenSpec.ofChange Rows.monthlySpec).bare Rows.monthlyRow = true := by
  have h := monthly_facts
  unfold joinedFacts at h ⊢
  exact h
theorem monthly_said : Rows.MonthlySaid :=
  OpenClaim.holds_of_cond 10 Tryz.f10 rfl rfl rfl rfl rfl rfl rfl ⟨rfl, rfl, rfl, rfl, rfl⟩ rfl rfl rfl rfl rfl (by kernel_rfl) Tryz.func10 monthly_facts'
    (of_decide_eq_true (by kernel_rfl)) (by unfold Func.isWrapper; first | (rw [if_pos (by decide +kernel)]; kernel_rfl) | (rw [if_neg (by decide +kernel)]; exact ⟨rfl, rfl⟩))
    (fun os started H enc _ F => by rw [OpenClaim.pre_eq_preRow]; exact monthly_lifted os started H enc F)
end Go.Proofs.YthpndgcaoeokeaaGreatDoor
