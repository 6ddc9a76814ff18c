/- The program's own: when.readDay whole, when.readClock. -/
import Derived.Test.YthpndgcaoeokeaaGreatDoorProg3
namespace Go.Proofs.YthpndgcaoeokeaaGreatDoor
open Go.RowKit Go.Sort

theorem digs_nn {l : List UInt8} (h : 0 ≤ digs l) : l.all dig = true := by
  cases q : l.all dig
  · rw [digs_no q] at h; omega
  · rfl

theorem readDay_any (t : ByteArray) (w : World) (h8 : t.size = 8) :
    Calls Tryz.prog 69 #[.string t] w fun E w' => E = dayE (digs (cut t 0 4)) (digs (cut t 4 2)) (digs (cut t 6 2)) ∧ Below w.heap.size w w' := by
  have a1 : allDig (t.extract 0 4) = (cut t 0 4).all dig := allDig_cut t 0 4
  have a2 : allDig (t.extract 4 6) = (cut t 4 2).all dig := allDig_cut t 4 6
  have a3 : allDig (t.extract 6 t.size) = (cut t 6 2).all dig := by rw [allDig_cut, h8]
  have no : ∀ {y m d : Int}, (y = -1 ∨ m = -1 ∨ d = -1) → dayE y m d = .panicked (rsn 1) := by
    intro y m d h
    refine dayE_no ?_
    rintro ⟨q1, q2, q3⟩
    obtain ⟨q4, q5, q6, q7⟩ := (validB_iff y m d).1 q3
    omega
  cases d1 : allDig (t.extract 0 4)
  · rw [no (.inl (digs_no (by rw [← a1]; exact d1)))]
    exact readDay_bad1 t w h8 d1
  cases d2 : allDig (t.extract 4 6)
  · rw [no (.inr (.inl (digs_no (by rw [← a2]; exact d2))))]
    exact readDay_bad2 t w h8 d1 d2
  cases d3 : allDig (t.extract 6 t.size)
  · rw [no (.inr (.inr (digs_no (by rw [← a3]; exact d3))))]
    exact readDay_bad3 t w h8 d1 d2 d3
  have b1 := digs_yes (l := cut t 0 4) (by rw [← a1]; exact d1)
  have b2 := digs_yes (l := cut t 4 2) (by rw [← a2]; exact d2)
  have b3 := digs_yes (l := cut t 6 2) (by rw [← a3]; exact d3)
  have r1 := dval_le (cut t 0 4) 4 (by rw [cut_length t 0 4 (by omega)]; omega) (by rw [← a1]; exact d1)
  have r2 := dval_le (cut t 4 2) 2 (by rw [cut_length t 4 2 (by omega)]; omega) (by rw [← a2]; exact d2)
  have r3 := dval_le (cut t 6 2) 2 (by rw [cut_length t 6 2 (by omega)]; omega) (by rw [← a3]; exact d3)
  rw [b1, b2, b3]
  exact readDay_digits t w _ _ _ h8 d1 d2 d3 (by rw [extract_cut]) (by rw [extract_cut]) (by rw [extract_cut, h8]) r1.1 (by omega) r2.1 (by omega) r3.1 (by omega)

/-- how the reading of a clock's number ends -/
def clockE (n last : Int) : Ending := if 0 ≤ n ∧ n ≤ last then .returned (.int .i64 n) else .panicked (rsn 1)
theorem clockE_yes {n last : Int} (h : 0 ≤ n ∧ n ≤ last) : clockE n last = .returned (.int .i64 n) := by unfold clockE; rw [if_pos h]
theorem clockE_no {n last : Int} (h : ¬ (0 ≤ n ∧ n ≤ last)) : clockE n last = .panicked (rsn 1) := by unfold clockE; rw [if_neg h]

set_option maxHeartbeats 1000000 in
theorem readClock_any (t : ByteArray) (last : Int) (w : World) (h2 : t.size = 2) :
    Calls Tryz.prog 70 #[.string t, .int .i64 last] w fun E w' => E = clockE (digs t.data.toList) last ∧ w = w' := by
  cases hd : allDig t
  case false =>
    rw [digs_no hd, clockE_no (by omega)]
    have c := words_digits_no t 1 w (by omega) hd
    have C := hide c
    clear c hd
    go_enter Tryz.func70, Tryz.ntmps70
    go_wp2_with (go_at_call 123; refine (C.out).mono ?_; rintro e w' ⟨rfl, rfl⟩)
    exact ⟨rfl, rfl, rfl⟩
  case true =>
    have hl : t.data.toList.length = 2 := by rw [Array.length_toList]; exact h2
    have hb := dval_le t.data.toList 2 (by omega) hd
    rw [digs_yes hd]
    have c := words_digits_yes t 1 w (by omega) hd
    generalize dval t.data.toList = n at *
    have C := hide c
    clear c hd hl
    by_cases hn : n ≤ last
    case pos =>
      rw [clockE_yes ⟨hb.1, hn⟩]
      go_enter Tryz.func70, Tryz.ntmps70
      go_wp2_with (first
        | (go_at_call 123; refine (C.out).mono ?_; rintro e w' ⟨rfl, rfl⟩)
        | (go_at_call_of 65 (Value.bool true); refine (unless_yes _ _).mono ?_; rintro e w' ⟨rfl, rfl⟩))
      go_ret
      exact ⟨rfl, rfl⟩
    case neg =>
      rw [clockE_no (by omega)]
      have hn' : decide (n ≤ last) = false := by simpa using hn
      go_enter Tryz.func70, Tryz.ntmps70
      go_wp2_with (first
        | (go_at_call 123; refine (C.out).mono ?_; rintro e w' ⟨rfl, rfl⟩)
        | (go_at_call_of 65 (Value.bool false); refine (unless_no _ _).mono ?_; rintro e w' ⟨rfl, rfl⟩))
      exact ⟨rfl, rfl, rfl⟩
end Go.Proofs.YthpndgcaoeokeaaGreatDoor
