/- Events: the row's statement. -/
import Derived.Test.YthpndgcaoeokeaaGreatDoorEvB
import Derived.Test.YthpndgcaoeokeaaGreatDoorE17
namespace Go.Proofs.YthpndgcaoeokeaaGreatDoor
open Go.ChangeShapes Go.WideShapes Go.ChangeAt Go.RowKit

theorem events_facts' : joinedFacts Tryz.prog 5 Tryz.f5 (Rows.OpenSpec.upto Rows.eventsSpec).bare Rows.eventsUptoRow = true := by
  have h := events_facts
  unfold joinedFacts at h ⊢
  exact h

theorem events_said : Rows.EventsUptoSaid :=
  OpenClaim.holds_of_cond 5 Tryz.f5 rfl rfl rfl rfl rfl rfl rfl ⟨rfl, rfl, rfl, rfl, rfl⟩ rfl rfl rfl rfl rfl (by kernel_rfl) Tryz.func5 events_facts'
    (of_decide_eq_true (by kernel_rfl)) (by unfold Func.isWrapper; first | (rw [if_pos (by decide +kernel)]; kernel_rfl) | (rw [if_neg (by decide +kernel)]; exact ⟨rfl, rfl⟩))
    (fun os started H enc _ F => by rw [OpenClaim.pre_eq_preRow]; exact events_lifted os started H enc F)
end Go.Proofs.YthpndgcaoeokeaaGreatDoor
