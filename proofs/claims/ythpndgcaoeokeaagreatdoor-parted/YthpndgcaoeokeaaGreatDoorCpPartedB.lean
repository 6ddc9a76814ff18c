/- Parted: the row's closed facts, one by one -/
import Derived.Test.YthpndgcaoeokeaaGreatDoorCpPartedA
namespace Go.Proofs.YthpndgcaoeokeaaGreatDoor
open Go.ChangeShapes Go.WideShapes Go.ChangeAt Go.RowKit

set_option maxHeartbeats 40000000 in
theorem parted_facts : joinedFacts Tryz.prog 11 Tryz.f11 Rows.partedSpec Rows.partedRow = true := by
  unfold joinedFacts
  repeat' with_reducible refine both ?_ ?_
  all_goals (as_aux_lemma => kernel_rfl)
end Go.Proofs.YthpndgcaoeokeaaGreatDoor
