/- The program's own: when.Parse. -/
import Derived.Test.YthpndgcaoeokeaaGreatDoorProg8
namespace Go.Proofs.YthpndgcaoeokeaaGreatDoor
open Go.RowKit Go.Sort

theorem parse1_any (s : ByteArray) (p : Addr) (W : World) (hc : W.cell? p = some (.string s)) :
    Calls Tryz.prog 38 #[.pointer (some p)] W fun E w' => E = timeE s ∧ Below W.heap.size W w' := by
  by_cases h : TimeOk s
  · have c := fun W => readTime_any s W
    rw [timeE_yes h] at c ⊢
    have C := hide c
    clear c h
    go_enter Tryz.func38, Tryz.ntmps38
    go_wp2_with (go_at_call 39; refine (C.out _).mono ?_; rintro e w1 ⟨rfl, hb⟩)
    go_ret
    exact ⟨rfl, hb⟩
  · have c := fun W => readTime_any s W
    rw [timeE_no h] at c ⊢
    have C := hide c
    clear c h
    go_enter Tryz.func38, Tryz.ntmps38
    go_wp2_with (go_at_call 39; refine (C.out _).mono ?_; rintro e w1 ⟨rfl, hb⟩)
    exact ⟨rfl, rfl, hb⟩

theorem parse_any (s : ByteArray) (w : World) :
    Calls Tryz.prog 19 #[.string s] w fun E w' => E = .returned (parseV s) ∧ Below w.heap.size w w' := by
  have hmf : ∀ (fn : Fn) (first cap : Array Value) (w : World), (Instr.makeFunc fn first cap).run Tryz.prog w = .ok (.func fn first cap) w := fun _ _ _ _ => rfl
  have hcl : ∀ W, Below (w.alloc (.cells #[.string s] 9)).heap.size (w.alloc (.cells #[.string s] 9)) W → W.cell? ⟨w.heap.size, 0, none⟩ = some (.string s) := fun W hb => by
    rw [hb.cell (p := ⟨w.heap.size, 0, none⟩) (by simp)]; simp [go_sem]
  by_cases h : TimeOk s
  · rw [parseV_yes h]
    have c := answerParse_yes ⟨w.heap.size, 0, none⟩ (timeN s) (w.alloc (.cells #[.string s] 9)) (fun W hb => by
      have := parse1_any s ⟨w.heap.size, 0, none⟩ W (hcl W hb)
      rw [timeE_yes h] at this; exact this)
    have C := hide c
    clear c hcl h
    go_enter Tryz.func19, Tryz.ntmps19
    go_wp2_with (go_at_call 37; refine (C.out).mono ?_; rintro e w1 ⟨rfl, hb⟩)
    go_ret2
    exact ⟨rfl, ((Below.refl _ _).alloc (Nat.le_refl _) _).trans (hb.mono (by simp))⟩
  · rw [parseV_no h]
    have c := answerParse_no ⟨w.heap.size, 0, none⟩ 1 (w.alloc (.cells #[.string s] 9)) (fun W hb => by
      have := parse1_any s ⟨w.heap.size, 0, none⟩ W (hcl W hb)
      rw [timeE_no h] at this; exact this)
    have C := hide c
    clear c hcl h
    go_enter Tryz.func19, Tryz.ntmps19
    go_wp2_with (go_at_call 37; refine (C.out).mono ?_; rintro e w1 ⟨rfl, hb⟩)
    go_ret2
    exact ⟨rfl, ((Below.refl _ _).alloc (Nat.le_refl _) _).trans (hb.mono (by simp))⟩
end Go.Proofs.YthpndgcaoeokeaaGreatDoor
