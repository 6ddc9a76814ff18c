/- The program's own: giveup.Answer's deferred function, and Answer. -/
import Derived.Test.YthpndgcaoeokeaaGreatDoorProg6
import Derived.Defers
import Derived.Recover
namespace Go.Proofs.YthpndgcaoeokeaaGreatDoor
open Go.RowKit Go.Sort

/-- one statement, what follows behind a letter -/
theorem wpS_seqK {P : Program} {Q : Exit → Act → List Frame → World → Prop} {a : Act} {cs : List Frame} {w : World} {x y : Code}
    (h : ∀ K : Act → List Frame → World → Prop, (∀ a cs w, y.wpS P Q a cs w → K a cs w) → x.wpS P (Exit.thenS K Q) a cs w) : (Code.seq x y).wpS P Q a cs w :=
  wpS_seq (h _ (fun _ _ _ h => h))

theorem frame_put (p : Addr) (v : Value) : #[Value.pointer (some p)] ++ ((Array.replicate 16 undef).setIfInBounds 3 v).setIfInBounds 0 v = #[.pointer (some p), v, undef, undef, v, undef, undef, undef, undef, undef, undef, undef, undef, undef, undef, undef, undef] := rfl

theorem run_assert (e : Int) (w : World) : (Instr.typeAssert (.iface 103 (.agg #[.int .i64 e])) 20 103 true).run Tryz.prog w = .ok (.tuple #[.agg #[.int .i64 e], .bool true]) w := by
  kernel_rfl

theorem catchInt_idle (p : Addr) (w : World) :
    CallsD Tryz.prog 68 #[.pointer (some p)] .returning w fun e u' w' => e = .returned (.tuple #[]) ∧ u' = .returning ∧ w' = w := by
  have hf := frame_put p .nilIface
  refine callsD_of_wpS Tryz.func68 rfl fun c₀ cs hu => ?_
  refine wpS_seqK fun K hK => ?_
  refine wpS_region ?_
  simp [wpOpsS, go_sem, recoverD, hu, Tryz.ntmps68, Exit.thenS]
  rw [hf]
  refine hK _ _ _ ?_
  clear hK K hf
  refine wpS_of_wp ?_
  go_wp2
  cases c₀
  simp_all [bodyPostS, results, Tryz.results68]

set_option maxRecDepth 100000 in
set_option maxHeartbeats 1000000 in
theorem catchInt_panicking (p : Addr) (e : Int) (x : Value) (older : List PanicEntry) (w : World) (hc : w.cell? p = some x) (hz : w.frozen? p = false) (hp : p.block < w.heap.size) :
    CallsD Tryz.prog 68 #[.pointer (some p)] (.panicking ({ v := .iface 103 (.agg #[.int .i64 e]), recovered := false } :: older)) w fun E u' w' =>
      E = .returned (.tuple #[]) ∧ u' = .panicking ({ v := .iface 103 (.agg #[.int .i64 e]), recovered := true } :: older) ∧ w' = (w.alloc (.cells #[.int .i64 e] 103)).setCell p (.int .i64 e) := by
  have hta := run_assert
  have hz2 : ∀ o, (w.alloc o).frozen? p = false := fun o => by rw [World.frozen?_alloc_old w o p (by omega)]; exact hz
  have hf := frame_put p (.iface 103 (.agg #[.int .i64 e]))
  refine callsD_of_wpS Tryz.func68 rfl fun c₀ cs hu => ?_
  refine wpS_seqK fun K hK => ?_
  refine wpS_region ?_
  simp [wpOpsS, go_sem, recoverD, hu, Tryz.ntmps68, Exit.thenS]
  rw [hf]
  refine hK _ _ _ ?_
  clear hK K hf
  refine wpS_of_wp ?_
  go_wp2
  exact ⟨rfl, _, rfl, .tuple #[], by simp [results, Tryz.results68], rfl, rfl, rfl⟩

theorem catchString_idle (p : Addr) (w : World) :
    CallsD Tryz.prog 63 #[.pointer (some p)] .returning w fun e u' w' => e = .returned (.tuple #[]) ∧ u' = .returning ∧ w' = w := by
  have hf := frame_put p .nilIface
  refine callsD_of_wpS Tryz.func63 rfl fun c₀ cs hu => ?_
  refine wpS_seqK fun K hK => ?_
  refine wpS_region ?_
  simp [wpOpsS, go_sem, recoverD, hu, Tryz.ntmps63, Exit.thenS]
  rw [hf]
  refine hK _ _ _ ?_
  clear hK K hf
  refine wpS_of_wp ?_
  go_wp2
  cases c₀
  simp_all [bodyPostS, results, Tryz.results63]

set_option maxRecDepth 100000 in
set_option maxHeartbeats 1000000 in
theorem catchString_panicking (p : Addr) (e : Int) (x : Value) (older : List PanicEntry) (w : World) (hc : w.cell? p = some x) (hz : w.frozen? p = false) (hp : p.block < w.heap.size) :
    CallsD Tryz.prog 63 #[.pointer (some p)] (.panicking ({ v := .iface 103 (.agg #[.int .i64 e]), recovered := false } :: older)) w fun E u' w' =>
      E = .returned (.tuple #[]) ∧ u' = .panicking ({ v := .iface 103 (.agg #[.int .i64 e]), recovered := true } :: older) ∧ w' = (w.alloc (.cells #[.int .i64 e] 103)).setCell p (.int .i64 e) := by
  have hta := run_assert
  have hz2 : ∀ o, (w.alloc o).frozen? p = false := fun o => by rw [World.frozen?_alloc_old w o p (by omega)]; exact hz
  have hf := frame_put p (.iface 103 (.agg #[.int .i64 e]))
  refine callsD_of_wpS Tryz.func63 rfl fun c₀ cs hu => ?_
  refine wpS_seqK fun K hK => ?_
  refine wpS_region ?_
  simp [wpOpsS, go_sem, recoverD, hu, Tryz.ntmps63, Exit.thenS]
  rw [hf]
  refine hK _ _ _ ?_
  clear hK K hf
  refine wpS_of_wp ?_
  go_wp2
  exact ⟨rfl, _, rfl, .tuple #[], by simp [results, Tryz.results63], rfl, rfl, rfl⟩
end Go.Proofs.YthpndgcaoeokeaaGreatDoor
