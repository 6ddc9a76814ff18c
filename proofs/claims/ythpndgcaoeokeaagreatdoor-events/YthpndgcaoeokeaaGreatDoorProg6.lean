/- The program's own: when.readTime whole; giveup.Answer; when.Parse. -/
import Derived.Test.YthpndgcaoeokeaaGreatDoorProg5
import Derived.Defers
import Derived.Recover
namespace Go.Proofs.YthpndgcaoeokeaaGreatDoor
open Go.RowKit Go.Sort

/-- how the reading of a time ends -/
def timeE (s : ByteArray) : Ending := if timeB s = true then .returned (.int .i64 (timeN s)) else .panicked (rsn 1)
theorem timeE_yes {s : ByteArray} (h : TimeOk s) : timeE s = .returned (.int .i64 (timeN s)) := by unfold timeE; rw [if_pos (timeB_iff.2 h)]
theorem timeE_no {s : ByteArray} (h : ¬ TimeOk s) : timeE s = .panicked (rsn 1) := by unfold timeE; rw [if_neg (fun e => h (timeB_iff.1 e))]

theorem cut_cut (s : ByteArray) (a b c d : Nat) (h : c + d ≤ b - a) : cut (s.extract a b) c d = cut s (a + c) d := by
  unfold cut
  have : (s.extract a b).data.toList = cut s a (b - a) := extract_cut s a b
  rw [this]
  unfold cut
  rw [List.drop_take, List.take_take, List.drop_drop, Nat.min_eq_left (by omega)]

theorem readTime_any (s : ByteArray) (w : World) :
    Calls Tryz.prog 39 #[.string s] w fun E w' => E = timeE s ∧ Below w.heap.size w w' := by
  by_cases hz : s.size = 16
  case neg =>
    rw [timeE_no (fun h => hz h.1)]
    have hz' : ((s.size : Int) == 16) = false := by rw [beq_eq_false_iff_ne]; omega
    clear hz
    go_enter Tryz.func39, Tryz.ntmps39
    go_wp2_with (go_at_call_of 65 (Value.bool false); refine (unless_no _ _).mono ?_; rintro e w' ⟨rfl, rfl⟩)
    exact ⟨rfl, rfl, Below.refl _ _⟩
  have z0 : ((s.size : Int) == 16) = true := by simp [hz]
  have z15 : 15 < s.size := by omega
  have e8 := at0_get s 8 (by omega)
  have e15 := at0_get s 15 (by omega)
  by_cases h8 : at0 s 8 = 84
  case neg =>
    rw [timeE_no (fun h => h8 h.2.1)]
    have h8' : (((s[8]'(by omega)).toNat : Int) == 84) = false := by rw [beq_eq_false_iff_ne, e8]; exact h8
    clear h8 e8 e15
    go_enter Tryz.func39, Tryz.ntmps39
    go_wp2_with (first
      | (go_at_call_of 65 (Value.bool true); refine (unless_yes _ _).mono ?_; rintro e w' ⟨rfl, rfl⟩)
      | (go_at_call_of 65 (Value.bool false); refine (unless_no _ _).mono ?_; rintro e w' ⟨rfl, rfl⟩))
    exact ⟨rfl, rfl, Below.refl _ _⟩
  by_cases h15 : at0 s 15 = 90
  case neg =>
    rw [timeE_no (fun h => h15 h.2.2.1)]
    have h8' : (((s[8]'(by omega)).toNat : Int) == 84) = true := by rw [e8, h8]; rfl
    have h15' : (((s[15]'(by omega)).toNat : Int) == 90) = false := by rw [beq_eq_false_iff_ne, e15]; exact h15
    clear h8 e8 e15 h15
    go_enter Tryz.func39, Tryz.ntmps39
    go_wp2_with (first
      | (go_at_call_of 65 (Value.bool true); refine (unless_yes _ _).mono ?_; rintro e w' ⟨rfl, rfl⟩)
      | (go_at_call_of 65 (Value.bool false); refine (unless_no _ _).mono ?_; rintro e w' ⟨rfl, rfl⟩))
    exact ⟨rfl, rfl, Below.refl _ _⟩
  clear e8 e15 z0
  have k0 : ∀ W, Calls Tryz.prog 69 #[.string (s.extract 0 8)] W fun E w' => E = dayE (digs (cut s 0 4)) (digs (cut s 4 2)) (digs (cut s 6 2)) ∧ Below W.heap.size W w' := fun W => by
    have := readDay_any (s.extract 0 8) W (by simp [ByteArray.size_extract]; omega)
    rw [cut_cut s 0 8 0 4 (by omega), cut_cut s 0 8 4 2 (by omega), cut_cut s 0 8 6 2 (by omega)] at this
    exact this
  have kc : ∀ (a b : Nat) (last : Int) (W : World), b - a = 2 → b ≤ s.size → Calls Tryz.prog 70 #[.string (s.extract a b), .int .i64 last] W fun E w' => E = clockE (digs (cut s a 2)) last ∧ Below W.heap.size W w' := fun a b last W hab hb => by
    have := readClock_any (s.extract a b) last W (by simp [ByteArray.size_extract]; omega)
    rw [extract_cut, hab] at this
    exact this.mono fun E w' ⟨q1, q2⟩ => ⟨q1, by rw [← q2]; exact Below.refl _ _⟩
  have k1 := fun W => kc 9 11 23 W rfl (by omega)
  have k2 := fun W => kc 11 13 59 W rfl (by omega)
  have k3 := fun W => kc 13 15 59 W rfl (by omega)
  by_cases hd : 1970 ≤ digs (cut s 0 4) ∧ digs (cut s 0 4) ≤ 2199 ∧ validB (digs (cut s 0 4)) (digs (cut s 4 2)) (digs (cut s 6 2)) = true
  case neg =>
    rw [timeE_no (fun h => hd ⟨h.2.2.2.1, h.2.2.2.2.1, (validB_iff _ _ _).2 h.2.2.2.2.2.1⟩)]
    rw [dayE_no hd] at k0
    exact readTime_bad0 s w hz h8 h15 k0
  rw [dayE_yes hd] at k0
  have hv := (validB_iff _ _ _).1 hd.2.2
  by_cases hh : 0 ≤ digs (cut s 9 2) ∧ digs (cut s 9 2) ≤ 23
  case neg =>
    rw [timeE_no (fun h => hh ⟨h.2.2.2.2.2.2.1, h.2.2.2.2.2.2.2.1⟩)]
    rw [clockE_no hh] at k1
    exact readTime_bad1 s w _ _ _ hz h8 h15 hd.1 hd.2.1 hv k0 k1
  rw [clockE_yes hh] at k1
  by_cases hi : 0 ≤ digs (cut s 11 2) ∧ digs (cut s 11 2) ≤ 59
  case neg =>
    rw [timeE_no (fun h => hi ⟨h.2.2.2.2.2.2.2.2.1, h.2.2.2.2.2.2.2.2.2.1⟩)]
    rw [clockE_no hi] at k2
    exact readTime_bad2 s w _ _ _ _ hz h8 h15 hd.1 hd.2.1 hv hh.1 (by omega) k0 k1 k2
  rw [clockE_yes hi] at k2
  by_cases hc : 0 ≤ digs (cut s 13 2) ∧ digs (cut s 13 2) ≤ 59
  case neg =>
    rw [timeE_no (fun h => hc ⟨h.2.2.2.2.2.2.2.2.2.2.1, h.2.2.2.2.2.2.2.2.2.2.2⟩)]
    rw [clockE_no hc] at k3
    exact readTime_bad3 s w _ _ _ _ _ hz h8 h15 hd.1 hd.2.1 hv hh.1 (by omega) hi.1 hi.2 k0 k1 k2 k3
  rw [clockE_yes hc] at k3
  rw [timeE_yes ⟨hz, h8, h15, hd.1, hd.2.1, hv, hh.1, hh.2, hi.1, hi.2, hc.1, hc.2⟩]
  exact readTime_ok s w _ _ _ _ _ _ hz h8 h15 hd.1 hd.2.1 hv hh.1 (by omega) hi.1 hi.2 hc.1 hc.2 k0 k1 k2 k3
end Go.Proofs.YthpndgcaoeokeaaGreatDoor
