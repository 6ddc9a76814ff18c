import Derived.Test.YthpndgcaoeokeaaGreatDoorCoComesA
set_option maxRecDepth 100000
set_option maxHeartbeats 40000000
namespace Go.Proofs.YthpndgcaoeokeaaGreatDoor
open _root_.Go.Proofs.Tryz
open Go.ChangeShapes Go.WideShapes Go.ChangeAt Go.RowKit
theorem N4:joinedFacts prog 6 Tryz.f6 Rows.comesSpec Rows.comesUptoRow=true:=by
 unfold joinedFacts
 repeat' with_reducible refine both ?_ ?_
 all_goals(as_aux_lemma=>kernel_rfl)
end Go.Proofs.YthpndgcaoeokeaaGreatDoor
