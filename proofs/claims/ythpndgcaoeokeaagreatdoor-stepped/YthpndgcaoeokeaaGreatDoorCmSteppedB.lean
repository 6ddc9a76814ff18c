/- Stepped: the row's closed facts, one by one -/
import Derived.Test.YthpndgcaoeokeaaGreatDoorCmSteppedA
namespace Go.Proofs.YthpndgcaoeokeaaGreatDoor
open Go.ChangeShapes Go.WideShapes Go.ChangeAt Go.RowKit

set_option maxHeartbeats 40000000 in
theorem stepped_facts : joinedFacts Tryz.prog 9 Tryz.f9 Rows.steppedSpec Rows.steppedRow = true := by
  unfold joinedFacts
  repeat' with_reducible refine both ?_ ?_
  all_goals (as_aux_lemma => kernel_rfl)
end Go.Proofs.YthpndgcaoeokeaaGreatDoor
