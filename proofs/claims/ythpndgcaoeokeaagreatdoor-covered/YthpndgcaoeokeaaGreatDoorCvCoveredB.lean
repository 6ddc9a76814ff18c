import Derived.Test.YthpndgcaoeokeaaGreatDoorCvCoveredA
set_option maxRecDepth 100000
set_option maxHeartbeats 40000000
namespace Go.Proofs.YthpndgcaoeokeaaGreatDoor
open _root_.Go.Proofs.Tryz
open Go.ChangeShapes Go.WideShapes Go.ChangeAt Go.RowKit
theorem KM:joinedFacts prog 14 Tryz.f14 Rows.coveredSpec Rows.coveredRow=true:=by
 unfold joinedFacts
 repeat' with_reducible refine both ?_ ?_
 all_goals(as_aux_lemma=>kernel_rfl)
end Go.Proofs.YthpndgcaoeokeaaGreatDoor
