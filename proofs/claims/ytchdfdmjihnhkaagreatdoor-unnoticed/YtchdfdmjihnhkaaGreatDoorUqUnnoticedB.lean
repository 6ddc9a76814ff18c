import Derived.Test.YtchdfdmjihnhkaaGreatDoorUqUnnoticedA
set_option maxRecDepth 100000
set_option maxHeartbeats 40000000
namespace Go.Proofs.YtchdfdmjihnhkaaGreatDoor
open _root_.Go.Proofs.Tryz
open Go.ChangeShapes Go.WideShapes Go.ChangeAt Go.RowKit
theorem FX:joinedFacts prog 3 Tryz.f3 Rows.unnoticedSpec Rows.unnoticedRow=true:=by
 unfold joinedFacts
 repeat' with_reducible refine both ?_ ?_
 all_goals(as_aux_lemma=>kernel_rfl)
end Go.Proofs.YtchdfdmjihnhkaaGreatDoor
