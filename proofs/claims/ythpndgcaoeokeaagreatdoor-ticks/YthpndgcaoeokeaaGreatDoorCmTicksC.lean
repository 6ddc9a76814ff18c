/- Ticks: the row's statement -/
import Derived.Test.YthpndgcaoeokeaaGreatDoorCmTicksB
namespace Go.Proofs.YthpndgcaoeokeaaGreatDoor
open Go.ChangeShapes Go.WideShapes Go.ChangeAt Go.RowKit

theorem ticks_facts' : joinedFacts Tryz.prog 4 Tryz.f4 (OpenSpec.ofChange Rows.ticksSpec).bare Rows.ticksRow = true := by
  have h := ticks_facts
  unfold joinedFacts at h ⊢
  exact h
theorem ticks_said : Rows.TicksSaid :=
  OpenClaim.holds_of_cond 4 Tryz.f4 rfl rfl rfl rfl rfl rfl rfl ⟨rfl, rfl, rfl, rfl, rfl⟩ rfl rfl rfl rfl rfl (by kernel_rfl) Tryz.func4 ticks_facts'
    (of_decide_eq_true (by kernel_rfl)) (by unfold Func.isWrapper; first | (rw [if_pos (by decide +kernel)]; kernel_rfl) | (rw [if_neg (by decide +kernel)]; exact ⟨rfl, rfl⟩))
    (fun os started H enc _ F => by rw [OpenClaim.pre_eq_preRow]; exact ticks_lifted os started H enc F)
end Go.Proofs.YthpndgcaoeokeaaGreatDoor
