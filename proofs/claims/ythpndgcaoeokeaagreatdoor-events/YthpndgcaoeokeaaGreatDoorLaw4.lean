/- The statements' own: upTo over no step, and Times. -/
import Derived.Test.YthpndgcaoeokeaaGreatDoorLaw3
namespace Go.Proofs.YthpndgcaoeokeaaGreatDoor
open Go.RowKit Go.Sort

set_option maxRecDepth 100000 in
theorem upTo_nil (sa : Option Addr) (cap : Nat) (w : World) (ht : Tab w) :
    Calls Tryz.prog 15 #[.slice sa 0 cap, .int .i64 3] w fun E w' => E = .returned (.int .i64 (-1)) ∧ Below w.heap.size w w' := by
  have CH := hide (heads_times w ht)
  clear ht
  go_enter Tryz.func15, Tryz.ntmps15
  go_wp2_with (go_at_call 31; refine (CH.out).mono ?_; rintro e w1 ⟨rfl, hb1⟩)
  have hz := hb1.size
  go_loopw [7] (fun t wr => t = .int .i64 0 ∧ Below w.heap.size w wr) (fun _ _ => 0)
  case atStart => exact ⟨rfl, hb1.alloc hb1.size _⟩
  case round =>
    obtain ⟨rfl, hbr⟩ := hrel
    go_wp2
    go_ret
    exact ⟨rfl, hbr⟩

set_option maxRecDepth 100000 in
theorem times_of (v : Value) (w : World) (h : Calls Tryz.prog 15 #[v, .int .i64 3] w fun E w' => E = .returned (.int .i64 (-1)) ∧ Below w.heap.size w w') :
    Calls Tryz.prog 3 #[v] w fun E w' => E = .returned (.bool true) ∧ Below w.heap.size w w' := by
  have CH := hide h
  clear h
  go_enter Tryz.func3, Tryz.ntmps3
  go_wp2_with (go_at_call 15; refine (CH.out).mono ?_; rintro e w1 ⟨rfl, hb1⟩)
  all_goals go_ret
  all_goals exact ⟨rfl, hb1⟩
end Go.Proofs.YthpndgcaoeokeaaGreatDoor
