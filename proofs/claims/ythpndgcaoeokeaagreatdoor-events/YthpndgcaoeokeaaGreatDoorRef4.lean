/- The document's Parse (fallowref). -/
import Derived.Test.YthpndgcaoeokeaaGreatDoorRef3
namespace Go.Proofs.YthpndgcaoeokeaaGreatDoor
open Go.RowKit

/-- the byte at a place (0 behind the end) -/
def at0 (s : ByteArray) (i : Nat) : Int := ((s.data[i]?.getD 0).toNat : Int)
theorem at0_get (s : ByteArray) (i : Nat) (h : i < s.size) : ((s[i]'h).toNat : Int) = at0 s i := by
  have e : s.data.size = s.size := rfl
  unfold at0
  rw [Array.getElem?_eq_getElem (by omega)]
  rfl

/-- a time as it is written -/
def TimeOk (s : ByteArray) : Prop :=
  s.size = 16 ∧ at0 s 8 = 84 ∧ at0 s 15 = 90 ∧ 1970 ≤ digs (cut s 0 4) ∧ digs (cut s 0 4) ≤ 2199 ∧
  Cal.Valid (digs (cut s 0 4)) (digs (cut s 4 2)) (digs (cut s 6 2)) ∧
  0 ≤ digs (cut s 9 2) ∧ digs (cut s 9 2) ≤ 23 ∧ 0 ≤ digs (cut s 11 2) ∧ digs (cut s 11 2) ≤ 59 ∧ 0 ≤ digs (cut s 13 2) ∧ digs (cut s 13 2) ≤ 59
def timeN (s : ByteArray) : Int :=
  Cal.num (digs (cut s 0 4)) (digs (cut s 4 2)) (digs (cut s 6 2)) * 86400 + digs (cut s 9 2) * 3600 + digs (cut s 11 2) * 60 + digs (cut s 13 2)
/-- the same, as a test -/
def timeB (s : ByteArray) : Bool := decide (
  s.size = 16 ∧ at0 s 8 = 84 ∧ at0 s 15 = 90 ∧ 1970 ≤ digs (cut s 0 4) ∧ digs (cut s 0 4) ≤ 2199 ∧
  (1 ≤ digs (cut s 4 2) ∧ digs (cut s 4 2) ≤ 12 ∧ 1 ≤ digs (cut s 6 2) ∧ digs (cut s 6 2) ≤ Cal.md (digs (cut s 0 4)) (digs (cut s 4 2))) ∧
  0 ≤ digs (cut s 9 2) ∧ digs (cut s 9 2) ≤ 23 ∧ 0 ≤ digs (cut s 11 2) ∧ digs (cut s 11 2) ≤ 59 ∧ 0 ≤ digs (cut s 13 2) ∧ digs (cut s 13 2) ≤ 59)
theorem timeB_iff {s : ByteArray} : timeB s = true ↔ TimeOk s := by
  unfold timeB TimeOk Cal.Valid
  exact decide_eq_true_iff
/-- Parse's two answers -/
def parseV (s : ByteArray) : Value := if timeB s = true then .tuple #[.int .i64 (timeN s), .int .i64 0] else .tuple #[.int .i64 0, .int .i64 1]
theorem parseV_yes {s : ByteArray} (h : TimeOk s) : parseV s = .tuple #[.int .i64 (timeN s), .int .i64 0] := by unfold parseV; rw [if_pos (timeB_iff.2 h)]
theorem parseV_no {s : ByteArray} (h : ¬ TimeOk s) : parseV s = .tuple #[.int .i64 0, .int .i64 1] := by unfold parseV; rw [if_neg (fun e => h (timeB_iff.1 e))]

theorem digs_bd (l : List UInt8) (k : Nat) (hk : l.length ≤ k) : -1 ≤ digs l ∧ digs l < 10 ^ k := by
  unfold digs
  split
  · have := dval_le l k hk ‹_›; omega
  · have : (0 : Int) < 10 ^ k := Int.pow_pos (by omega)
    omega

theorem num_bd {y m d : Int} (h0 : 1970 ≤ y) (h1 : y ≤ 2199) (v : Cal.Valid y m d) : 0 ≤ Cal.num y m d ∧ Cal.num y m d < 84006 := by
  have a := Cal.in_year v
  have b := Cal.jan1_bd y h0 (by omega)
  have c := Cal.num_jan1_mono (y + 1) (2199 - y).toNat
  rw [show y + 1 + ((2199 - y).toNat : Int) = 2200 from by omega, Cal.num_end] at c
  omega

set_option maxRecDepth 100000 in
set_option maxHeartbeats 4000000 in
theorem refParse_any (s : ByteArray) (w : World) (hs : s.size ≤ maxLen) :
    Calls Tryz.prog 107 #[.string s] w fun e w' => e = .returned (parseV s) ∧ w = w' := by
  by_cases hz : s.size = 16
  case neg =>
    have hv := parseV_no (s := s) (fun h => hz h.1)
    rw [hv]
    have hz' : ((s.size : Int) != 16) = true := by rw [bne_iff_ne]; omega
    clear hz hv
    go_enter Tryz.func107, Tryz.ntmps107
    go_wp2
    go_ret2
    exact ⟨rfl, rfl⟩
  case pos =>
    have hz' : ((s.size : Int) != 16) = false := by simp [hz]
    have z1 : 15 < s.size := by omega
    have HZ := hide hz
    clear hz
    have e8 := at0_get s 8 (by omega)
    have e15 := at0_get s 15 (by omega)
    by_cases h8 : at0 s 8 = 84
    case neg =>
      have hv := parseV_no (s := s) (fun h => h8 h.2.1)
      rw [hv]
      have h8' : (((s[8]'(by omega)).toNat : Int) != 84) = true := by rw [bne_iff_ne, e8]; exact h8
      clear hv h8 e8 e15
      go_enter Tryz.func107, Tryz.ntmps107
      go_wp2
      go_ret2
      exact ⟨rfl, rfl⟩
    case pos =>
      have h8' : (((s[8]'(by omega)).toNat : Int) != 84) = false := by rw [e8, h8]; rfl
      by_cases h15 : at0 s 15 = 90
      case neg =>
        have hv := parseV_no (s := s) (fun h => h15 h.2.2.1)
        rw [hv]
        have h15' : (((s[15]'(by omega)).toNat : Int) != 90) = true := by rw [bne_iff_ne, e15]; exact h15
        clear hv h8 h15 e8 e15
        go_enter Tryz.func107, Tryz.ntmps107
        go_wp2
        go_ret2
        exact ⟨rfl, rfl⟩
      case pos =>
        have h15' : (((s[15]'(by omega)).toNat : Int) != 90) = false := by rw [e15, h15]; rfl
        have H8 := hide h8
        have H15 := hide h15
        clear h8 h15 e8 e15
        go_enter Tryz.func107, Tryz.ntmps107
        have hmd := Cal.md_bd (digs (cut s 0 4)) (digs (cut s 4 2))
        go_wp2_with (first
          | (go_at_call 179; refine (digits_any s _ _ _ hs (by omega) (by omega) (by omega) (by omega)).mono ?_; rintro e w' ⟨rfl, rfl⟩)
          | (go_at_call 180; refine (monthDays_any _ _ _ (by omega) (by omega)).mono ?_; rintro e w' ⟨rfl, rfl⟩)
          | (go_at_call 181; refine (numberOf_any _ _ _ _ (by omega) (by omega) (by omega) (by omega) (by omega) (by omega)).mono ?_; rintro e w' ⟨rfl, rfl⟩; have hn := num_bd (y := digs (cut s 0 4)) (m := digs (cut s 4 2)) (d := digs (cut s 6 2)) (by omega) (by omega) ⟨by omega, by omega, by omega, by omega⟩))
        all_goals go_ret2
        all_goals refine ⟨?_, rfl⟩
        all_goals by_cases hT : TimeOk s
        all_goals first | rw [parseV_yes hT] | rw [parseV_no hT]
        all_goals first
          | rfl
          | (exfalso; obtain ⟨_, _, _, a1, a2, ⟨a3, a4, a5, a6⟩, a7, a8, a9, a10, a11, a12⟩ := hT; omega)
          | (exfalso; exact hT ⟨HZ.out, H8.out, H15.out, by omega, by omega, ⟨by omega, by omega, by omega, by omega⟩, by omega, by omega, by omega, by omega, by omega, by omega⟩)
end Go.Proofs.YthpndgcaoeokeaaGreatDoor
