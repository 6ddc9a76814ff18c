/- The document's digits, Parse and Print (fallowref). -/
import Derived.Test.YthpndgcaoeokeaaGreatDoorRef2
import Derived.Deep.QuietTactic
import Derived.BigQuiet
namespace Go.Proofs.YthpndgcaoeokeaaGreatDoor
open Go.RowKit

def dig (c : UInt8) : Bool := decide (48 ≤ (c.toNat : Int)) && decide ((c.toNat : Int) ≤ 57)
def dval (l : List UInt8) : Int := l.foldl (fun v c => 10 * v + ((c.toNat : Int) - 48)) 0
/-- the digits' value, or -1 -/
def digs (l : List UInt8) : Int := if l.all dig then dval l else -1
def cut (s : ByteArray) (at_ n : Nat) : List UInt8 := (s.data.toList.drop at_).take n

theorem dval_snoc (l : List UInt8) (c : UInt8) : dval (l ++ [c]) = 10 * dval l + ((c.toNat : Int) - 48) := by
  simp [dval, List.foldl_append]
theorem dig_iff (c : UInt8) : dig c = true ↔ (48 ≤ (c.toNat : Int) ∧ (c.toNat : Int) ≤ 57) := by simp [dig]
theorem fold_bd (l : List UInt8) : ∀ v : Int, 0 ≤ v → l.all dig = true →
    0 ≤ l.foldl (fun v c => 10 * v + ((c.toNat : Int) - 48)) v ∧ l.foldl (fun v c => 10 * v + ((c.toNat : Int) - 48)) v < (v + 1) * 10 ^ l.length := by
  induction l with
  | nil => intro v h _; simp; exact ⟨h, by omega⟩
  | cons c l ih =>
    intro v h hd
    simp only [List.all_cons, Bool.and_eq_true] at hd
    have hc := (dig_iff c).1 hd.1
    have := ih (10 * v + ((c.toNat : Int) - 48)) (by omega) hd.2
    simp only [List.foldl_cons, List.length_cons]
    refine ⟨this.1, Int.lt_of_lt_of_le this.2 ?_⟩
    rw [Int.pow_succ, Int.mul_comm (10 ^ l.length) 10, ← Int.mul_assoc]
    exact Int.mul_le_mul_of_nonneg_right (by omega) (Int.pow_nonneg (by omega))
theorem dval_bd (l : List UInt8) (h : l.all dig = true) : 0 ≤ dval l ∧ dval l < 10 ^ l.length := by
  have := fold_bd l 0 (by omega) h
  simpa [dval] using this
theorem dval_le (l : List UInt8) (k : Nat) (hk : l.length ≤ k) (h : l.all dig = true) : 0 ≤ dval l ∧ dval l < 10 ^ k := by
  have := dval_bd l h
  refine ⟨this.1, Int.lt_of_lt_of_le this.2 ?_⟩
  have : (10 : Nat) ^ l.length ≤ 10 ^ k := Nat.pow_le_pow_right (by omega) hk
  have := Int.ofNat_le.2 this
  simpa using this

theorem cut_snoc (s : ByteArray) (a k : Nat) (h : a + k < s.size) : cut s a (k + 1) = cut s a k ++ [s[a + k]] := by
  unfold cut
  rw [List.take_succ_eq_append_getElem (by simp; omega)]
  simp
  rfl

theorem cut_length (s : ByteArray) (a k : Nat) (h : a + k ≤ s.size) : (cut s a k).length = k := by
  unfold cut; simp; have : s.data.size = s.size := rfl; omega

theorem cut_get (s : ByteArray) (a n k : Nat) (hk : k < n) (h : a + n ≤ s.size) : (cut s a n)[k]? = some (s[a + k]'(by omega)) := by
  have e : s.data.size = s.size := rfl
  unfold cut
  rw [List.getElem?_take_of_lt hk, List.getElem?_drop, Array.getElem?_toList, Array.getElem?_eq_getElem (by omega)]
  rfl
theorem digs_bad (s : ByteArray) (a n k : Nat) (hk : k < n) (h : a + n ≤ s.size) (hd : dig (s[a + k]'(by omega)) = false) : digs (cut s a n) = -1 := by
  have hm := List.mem_of_getElem? (cut_get s a n k hk h)
  unfold digs
  rw [if_neg]
  intro q
  have := List.all_eq_true.1 q _ hm
  rw [hd] at this
  cases this

set_option maxHeartbeats 1000000 in
theorem digits_any (s : ByteArray) (at_ n : Int) (w : World) (hs : s.size ≤ maxLen) (h0 : 0 ≤ at_) (h1 : 0 ≤ n) (h2 : n ≤ 7) (h3 : at_ + n ≤ s.size) :
    Calls Tryz.prog 179 #[.string s, .int .i64 at_, .int .i64 n] w fun e w' => e = .returned (.int .i64 (digs (cut s at_.toNat n.toNat))) ∧ w = w' := by
  unfold maxLen at hs
  obtain ⟨a, rfl⟩ := Int.eq_ofNat_of_zero_le h0
  obtain ⟨m, rfl⟩ := Int.eq_ofNat_of_zero_le h1
  rw [Int.toNat_natCast, Int.toNat_natCast]
  go_enter Tryz.func179, Tryz.ntmps179
  go_wp2
  go_loop [7, 8] (fun v i => ∃ k : Nat, k ≤ m ∧ i = .int .i64 ((a + k : Nat) : Int) ∧ v = .int .i64 (dval (cut s a k)) ∧ Hid ((cut s a k).all dig = true)) (fun _ i => a + m - (intOf i).toNat)
  case atStart => exact ⟨0, by omega, rfl, rfl, rfl⟩
  case round =>
    obtain ⟨k, k0, rfl, rfl, HD⟩ := hrel
    have hb := dval_le (cut s a k) 7 (by rw [cut_length s a k (by omega)]; omega) HD.out
    by_cases hlt : k < m
    · have hsz : a + k < s.size := by omega
      have hsn := cut_snoc s a k hsz
      by_cases hd : dig s[a + k] = true
      · have hd2 := (dig_iff _).1 hd
        have HD2 : Hid ((cut s a (k + 1)).all dig = true) := by
          rw [hsn]; simp [HD.out, hd, Hid]
        have HV : Hid (dval (cut s a (k + 1)) = 10 * dval (cut s a k) + ((s[a + k].toNat : Int) - 48)) := by
          rw [hsn]; exact dval_snoc _ _
        clear hd hsn
        go_wp2
        exact ⟨⟨k + 1, by omega, by go_num, by rw [HV.out], HD2⟩, by simp [intOf]; omega⟩
      · have hd' : dig s[a + k] = false := by simpa using hd
        have HB := hide (digs_bad s a m k hlt (by omega) hd')
        clear hd' hsn HD
        have hc : (s[a + k].toNat : Int) < 48 ∨ 57 < (s[a + k].toNat : Int) := by
          have := mt (dig_iff s[a + k]).2 hd
          omega
        clear hd
        rcases hc with hc | hc
        · go_wp2
          go_ret
          exact ⟨ret_int (by rw [HB.out]), rfl⟩
        · have hc' : ¬ (s[a + k].toNat : Int) < 48 := by omega
          go_wp2
          go_ret
          exact ⟨ret_int (by rw [HB.out]), rfl⟩
    · have hk : k = m := by omega
      subst hk
      go_wp2
      go_ret
      exact ⟨ret_int (by unfold digs; rw [if_pos HD.out]), rfl⟩
end Go.Proofs.YthpndgcaoeokeaaGreatDoor
