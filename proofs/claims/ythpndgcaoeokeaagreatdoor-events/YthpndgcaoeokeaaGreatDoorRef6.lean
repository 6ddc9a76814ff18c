/- The document's number and Length (fallowref). -/
import Derived.Test.YthpndgcaoeokeaaGreatDoorRef5
namespace Go.Proofs.YthpndgcaoeokeaaGreatDoor
open Go.RowKit

/-- is it a number, as far as its length and its first digit go? -/
def numShape (l : List UInt8) : Bool := decide (1 ≤ l.length) && decide (l.length ≤ 7) && !(l.head? == some 48 && decide (1 < l.length))
def numN (l : List UInt8) : Int := if numShape l then digs l else 0
def numB (l : List UInt8) : Bool := numShape l && decide (0 ≤ digs l)

theorem cut_all (s : ByteArray) : cut s 0 s.size = s.data.toList := by
  unfold cut
  have e : s.data.size = s.size := rfl
  rw [List.drop_zero, List.take_of_length_le (by rw [Array.length_toList]; omega)]
theorem head_at0 (s : ByteArray) (h : 0 < s.size) : (s.data.toList.head? = some 48) ↔ ((s[0]'h).toNat : Int) = 48 := by
  have e : s.data.size = s.size := rfl
  have : s.data.toList.head? = some (s[0]'h) := by
    rw [List.head?_eq_getElem?, Array.getElem?_toList, Array.getElem?_eq_getElem (by omega)]; rfl
  rw [this]
  constructor
  · intro q; have := Option.some.inj q; rw [this]; rfl
  · intro q; congr 1; apply UInt8.toNat_inj.1; show _ = 48; omega

set_option maxHeartbeats 1000000 in
theorem refNumber_any (s : ByteArray) (w : World) (hs : s.size ≤ maxLen) :
    Calls Tryz.prog 185 #[.string s, .int .i64 7] w fun e w' => e = .returned (.tuple #[.int .i64 (numN s.data.toList), .bool (numB s.data.toList)]) ∧ w = w' := by
  have hl : s.data.toList.length = s.size := by rw [Array.length_toList]; rfl
  unfold numN numB numShape
  by_cases h1 : s.size < 1
  · have e : (decide (1 ≤ s.data.toList.length)) = false := by rw [hl]; exact decide_eq_false (by omega)
    simp only [e, Bool.false_and]
    have h1' : (s.size : Int) < 1 := by omega
    clear e hl
    go_enter Tryz.func185, Tryz.ntmps185
    go_wp2
    go_ret2
    exact ⟨rfl, rfl⟩
  have e1 : (decide (1 ≤ s.data.toList.length)) = true := by rw [hl]; exact decide_eq_true (by omega)
  by_cases h7 : 7 < s.size
  · have e : (decide (s.data.toList.length ≤ 7)) = false := by rw [hl]; exact decide_eq_false (by omega)
    simp only [e, e1, Bool.false_and, Bool.true_and]
    have h1' : ¬ (s.size : Int) < 1 := by omega
    have h7' : 7 < (s.size : Int) := by omega
    clear e e1 hl
    go_enter Tryz.func185, Tryz.ntmps185
    go_wp2
    go_ret2
    exact ⟨rfl, rfl⟩
  have e7 : (decide (s.data.toList.length ≤ 7)) = true := by rw [hl]; exact decide_eq_true (by omega)
  have z0 : 0 < s.size := by omega
  have hh := head_at0 s z0
  have h1' : ¬ (s.size : Int) < 1 := by omega
  have h7' : ¬ 7 < (s.size : Int) := by omega
  have hc := cut_all s
  by_cases h0 : ((s[0]'z0).toNat : Int) = 48
  · by_cases h2 : 1 < s.size
    · have e : (s.data.toList.head? == some 48 && decide (1 < s.data.toList.length)) = true := by rw [hl]; simp [hh.2 h0, h2]
      simp only [e, e1, e7, Bool.true_and, Bool.not_true]
      have h2' : 1 < (s.size : Int) := by omega
      have h0' : (((s[0]'z0).toNat : Int) == 48) = true := by simp [h0]
      clear e e1 e7 hl hh h0 hc
      go_enter Tryz.func185, Tryz.ntmps185
      go_wp2
      go_ret2
      exact ⟨rfl, rfl⟩
    · have e : (s.data.toList.head? == some 48 && decide (1 < s.data.toList.length)) = false := by rw [hl]; simp [h2]
      simp only [e, e1, e7, Bool.true_and, Bool.not_false]
      have h2' : ¬ 1 < (s.size : Int) := by omega
      have h0' : (((s[0]'z0).toNat : Int) == 48) = true := by simp [h0]
      rw [← hc]
      clear e e1 e7 hl hh h0 hc
      go_enter Tryz.func185, Tryz.ntmps185
      go_wp2_with (go_at_call 179; refine (digits_any s _ _ _ hs (by omega) (by omega) (by omega) (by omega)).mono ?_; rintro e w' ⟨rfl, rfl⟩)
      go_ret2
      exact ⟨rfl, rfl⟩
  · have e : (s.data.toList.head? == some 48 && decide (1 < s.data.toList.length)) = false := by
      have : ¬ s.data.toList.head? = some 48 := fun q => h0 (hh.1 q)
      simp [this]
    simp only [e, e1, e7, Bool.true_and, Bool.not_false]
    have h0' : (((s[0]'z0).toNat : Int) == 48) = false := by simp [h0]
    rw [← hc]
    clear e e1 e7 hl hh h0 hc
    go_enter Tryz.func185, Tryz.ntmps185
    go_wp2_with (go_at_call 179; refine (digits_any s _ _ _ hs (by omega) (by omega) (by omega) (by omega)).mono ?_; rintro e w' ⟨rfl, rfl⟩)
    go_ret2
    exact ⟨rfl, rfl⟩
end Go.Proofs.YthpndgcaoeokeaaGreatDoor
