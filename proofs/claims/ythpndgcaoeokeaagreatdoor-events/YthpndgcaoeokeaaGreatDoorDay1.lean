/- The program's own days: when a day begins, the day of a time. -/
import Derived.Test.YthpndgcaoeokeaaGreatDoorProg4
namespace Go.Proofs.YthpndgcaoeokeaaGreatDoor
open Go.RowKit Go.Sort

theorem wrap_ok {x : Int} (h0 : -9223372036854775808 ≤ x) (h1 : x ≤ 9223372036854775807) : IntKind.i64.wrap x = x := by
  rw [IntKind.wrap_i64]; omega
theorem num_lim (y m d : Int) (h0 : 1 ≤ y) (h1 : y ≤ 10000) (h2 : 0 ≤ m) (h3 : m ≤ 100) (h4 : 0 ≤ d) (h5 : d ≤ 100) : -1000000000 ≤ Cal.num y m d ∧ Cal.num y m d ≤ 1000000000 := by
  unfold Cal.num
  by_cases hm : m - 3 < 0
  · have t1 := ty_bd (y - 1) (by omega) (by omega)
    have t2 := tm_bd (m - 3 + 12) (by omega) (by omega)
    rw [if_pos hm]; omega
  · have t1 := ty_bd y (by omega) (by omega)
    have t2 := tm_bd (m - 3) (by omega) (by omega)
    rw [if_neg hm]; omega

set_option maxHeartbeats 1000000 in
theorem dayBegin_any (y m d : Int) (w : World) (h0 : 1 ≤ y) (h1 : y ≤ 10000) (h2 : 0 ≤ m) (h3 : m ≤ 100) (h4 : 0 ≤ d) (h5 : d ≤ 100) :
    Calls Tryz.prog 64 #[.agg #[.int .i64 y, .int .i64 m, .int .i64 d]] w fun e w' => e = .returned (.int .i64 (Cal.num y m d * 86400)) ∧ Below w.heap.size w w' := by
  have hl := num_lim y m d h0 h1 h2 h3 h4 h5
  go_enter Tryz.func64, Tryz.ntmps64
  go_wp2_with (go_at_call 120; refine (dayNumber_any _ _ _ _ (by omega) (by omega) (by omega) (by omega) (by omega) (by omega)).mono ?_; rintro e w1 ⟨rfl, hb⟩)
  go_ret
  exact ⟨rfl, ((Below.refl _ _).alloc (Nat.le_refl _) _).trans (hb.mono (by simp))⟩

set_option maxHeartbeats 1000000 in
theorem ofTime_any (n : Int) (w : World) (h0 : 0 ≤ n) (h1 : n ≤ 7258118400) :
    Calls Tryz.prog 66 #[.int .i64 n] w fun e w' => e = .returned (dayA (Cal.ofY (n / 86400)) (Cal.ofM (n / 86400)) (Cal.ofD (n / 86400))) ∧ Below w.heap.size w w' := by
  have hn : ∀ o, (w.alloc (.cells #[.int .i64 0, .int .i64 0, .int .i64 0] 106)).frozen? ⟨w.heap.size, o, none⟩ = false := fun o => by simp [go_sem]
  go_enter Tryz.func66, Tryz.ntmps66
  go_wp2_with (go_at_call 121; refine (daysOf_any _ _ (by omega) (by omega)).mono ?_; rintro e w2 ⟨rfl, hb2⟩; unfold dayA; have c0 : w2.cell? ⟨w.heap.size, 0, none⟩ = some (.int .i64 0) := (by rw [hb2.cell (p := ⟨w.heap.size, 0, none⟩) (by simp)]; simp [go_sem]); have c1 : w2.cell? ⟨w.heap.size, 1, none⟩ = some (.int .i64 0) := (by rw [hb2.cell (p := ⟨w.heap.size, 1, none⟩) (by simp)]; simp [go_sem]); have c2 : w2.cell? ⟨w.heap.size, 2, none⟩ = some (.int .i64 0) := (by rw [hb2.cell (p := ⟨w.heap.size, 2, none⟩) (by simp)]; simp [go_sem]); have f0 : w2.frozen? ⟨w.heap.size, 0, none⟩ = false := ((bcell hb2).2 w.heap.size 0 (by simp)).trans (hn 0); have f1 : w2.frozen? ⟨w.heap.size, 1, none⟩ = false := ((bcell hb2).2 w.heap.size 1 (by simp)).trans (hn 1); have f2 : w2.frozen? ⟨w.heap.size, 2, none⟩ = false := ((bcell hb2).2 w.heap.size 2 (by simp)).trans (hn 2))
  have hbw : Below w.heap.size w w2 := ((Below.refl _ _).alloc (Nat.le_refl _) _).trans (hb2.mono (by simp))
  exact bodyPost_ret (v := dayA (Cal.ofY (n / 86400)) (Cal.ofM (n / 86400)) (Cal.ofD (n / 86400))) (by simp [results, Tryz.results66, go_sem, c0, c1, c2, dayA]) rfl ⟨rfl, ((hbw.setCell (Nat.le_refl _) _).setCell (Nat.le_refl _) _).setCell (Nat.le_refl _) _⟩
end Go.Proofs.YthpndgcaoeokeaaGreatDoor
