/- Taken: the row's closed facts, one by one -/
import Derived.Test.YthpndgcaoeokeaaGreatDoorCmTakenA
namespace Go.Proofs.YthpndgcaoeokeaaGreatDoor
open Go.ChangeShapes Go.WideShapes Go.ChangeAt Go.RowKit

set_option maxHeartbeats 40000000 in
theorem taken_facts : joinedFacts Tryz.prog 12 Tryz.f12 Rows.takenSpec Rows.takenRow = true := by
  unfold joinedFacts
  repeat' with_reducible refine both ?_ ?_
  all_goals (as_aux_lemma => kernel_rfl)
end Go.Proofs.YthpndgcaoeokeaaGreatDoor
