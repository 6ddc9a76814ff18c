/- The statements' own: upTo and Times. -/
import Derived.Test.YthpndgcaoeokeaaGreatDoorLaw2
namespace Go.Proofs.YthpndgcaoeokeaaGreatDoor
open Go.RowKit Go.Sort

theorem Empty.on {p : Nat} {w w' : World} (h : Empty p w) (hb : Below w.heap.size w w') (hp : p < w.heap.size) : Empty p w' :=
  ⟨by rw [hb.cell (p := ⟨p, 0, none⟩) hp]; exact h.1, by rw [hb.cell (p := ⟨p, 1, none⟩) hp]; exact h.2.1, by rw [hb.cell (p := ⟨p, 2, none⟩) hp]; exact h.2.2⟩

set_option maxRecDepth 100000 in
set_option maxHeartbeats 4000000 in
theorem upTo_times (b off len cap : Nat) (w : World) (ht : Tab w) (hb : b < w.heap.size) (hlen : len ≤ 9223372036854775807) (hst : ∀ i, i < len → StepAt w b (off + i * 7)) :
    Calls Tryz.prog 15 #[.slice (some ⟨b, off, none⟩) len cap, .int .i64 3] w fun E w' => E = .returned (.int .i64 (-1)) ∧ Below w.heap.size w w' := by
  have CH := hide (heads_times w ht)
  have HT := hide ht
  have HS := hide hst
  clear ht hst
  go_enter Tryz.func15, Tryz.ntmps15
  go_wp2_with (go_at_call 31; refine (CH.out).mono ?_; rintro e w1 ⟨rfl, hb1⟩)
  have hz := hb1.size
  go_loopw [7] (fun t wr => ∃ i : Nat, i ≤ len ∧ t = .int .i64 i ∧ Below w.heap.size w wr ∧ w1.heap.size < wr.heap.size ∧ Empty w1.heap.size wr) (fun t _ => len - (intOf t).toNat)
  case atStart =>
    refine ⟨0, by omega, rfl, hb1.alloc hb1.size _, by simp, ?_⟩
    refine ⟨?_, ?_, ?_⟩ <;> simp [go_sem]
  case round =>
    obtain ⟨i, hi, rfl, hbr, hlt, hem⟩ := hrel
    by_cases hil : i < len
    case neg =>
      go_wp2
      go_ret
      exact ⟨rfl, hbr⟩
    case pos =>
      obtain ⟨k, a, n, m, S, T, sa, sl, sc, hS, q0, q1, q2, q3, q4, q5, q6⟩ := HS.out i hil
      have r0 : wr.cell? ⟨b, off + i * 7, none⟩ = some (.int .i64 k) := by rw [hbr.cell (p := ⟨b, off + i * 7, none⟩) hb]; exact q0
      have r1 : wr.cell? ⟨b, off + i * 7 + 1, none⟩ = some (.int .i64 a) := by rw [hbr.cell (p := ⟨b, off + i * 7 + 1, none⟩) hb]; exact q1
      have r2 : wr.cell? ⟨b, off + i * 7 + 2, none⟩ = some (.int .i64 n) := by rw [hbr.cell (p := ⟨b, off + i * 7 + 2, none⟩) hb]; exact q2
      have r3 : wr.cell? ⟨b, off + i * 7 + 3, none⟩ = some (.int .i64 m) := by rw [hbr.cell (p := ⟨b, off + i * 7 + 3, none⟩) hb]; exact q3
      have r4 : wr.cell? ⟨b, off + i * 7 + 4, none⟩ = some (.string S) := by rw [hbr.cell (p := ⟨b, off + i * 7 + 4, none⟩) hb]; exact q4
      have r5 : wr.cell? ⟨b, off + i * 7 + 5, none⟩ = some (.string T) := by rw [hbr.cell (p := ⟨b, off + i * 7 + 5, none⟩) hb]; exact q5
      have r6 : wr.cell? ⟨b, off + i * 7 + 6, none⟩ = some (.slice sa sl sc) := by rw [hbr.cell (p := ⟨b, off + i * 7 + 6, none⟩) hb]; exact q6
      clear q0 q1 q2 q3 q4 q5 q6
      by_cases hk : 3 < k
      case pos =>
        go_wp2
        exact ⟨⟨i + 1, by omega, by go_num, hbr, hlt, hem⟩, by simp [intOf]; omega⟩
      case neg =>
       by_cases h1 : 1 ≤ k
       case pos =>
        have CS := hide (step_times w1.heap.size k a n m S T sa sl sc wr hS (HT.out.on hbr) h1 (by omega))
        go_wp2_with (first
          | (go_at_call 32; refine (CS.out).mono ?_; rintro e w2 ⟨rfl, hb2⟩)
          | (go_at_call 33; refine (still_empty _ _ (hem.on hb2 hlt)).mono ?_; rintro e w' ⟨rfl, rfl⟩))
        exact ⟨⟨i + 1, by omega, by go_num, hbr.trans (hb2.mono hbr.size), Nat.lt_of_lt_of_le hlt hb2.size, hem.on hb2 hlt⟩, by simp [intOf]; omega⟩
       case neg =>
        have CS := hide (step_none w1.heap.size k a n m S T sa sl sc wr hem hlt (by omega))
        go_wp2_with (first
          | (go_at_call 32; refine (CS.out).mono ?_; rintro e w2 ⟨rfl, hb2⟩)
          | (go_at_call 33; refine (still_empty _ _ (hem.on hb2 hlt)).mono ?_; rintro e w' ⟨rfl, rfl⟩))
        exact ⟨⟨i + 1, by omega, by go_num, hbr.trans (hb2.mono hbr.size), Nat.lt_of_lt_of_le hlt hb2.size, hem.on hb2 hlt⟩, by simp [intOf]; omega⟩
end Go.Proofs.YthpndgcaoeokeaaGreatDoor
