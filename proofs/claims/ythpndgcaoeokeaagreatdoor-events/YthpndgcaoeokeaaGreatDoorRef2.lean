/- The document's days and texts (fallowref): contracts of limit, isTime, dayOf, padded. -/
import Derived.Test.YthpndgcaoeokeaaGreatDoorRef1
namespace Go.Proofs.YthpndgcaoeokeaaGreatDoor
open Go.RowKit

theorem limit_any (w : World) : Calls Tryz.prog 234 #[] w fun e w' => e = .returned (.int .i64 84006) ∧ w = w' := by
  go_enter Tryz.func234, Tryz.ntmps234
  go_wp2_with (go_at_call 181; refine (numberOf_any _ _ _ _ (by omega) (by omega) (by omega) (by omega) (by omega) (by omega)).mono ?_; rintro e w' ⟨rfl, rfl⟩)
  go_ret
  exact ⟨ret_int Cal.num_end, rfl⟩

def isTimeB (n : Int) : Bool := decide (0 ≤ n) && decide (n < 7258118400)

theorem isTime_any (n : Int) (w : World) : Calls Tryz.prog 182 #[.int .i64 n] w fun e w' => e = .returned (.bool (isTimeB n)) ∧ w = w' := by
  unfold isTimeB
  by_cases h : 0 ≤ n
  · go_enter Tryz.func182, Tryz.ntmps182
    go_wp2_with (go_at_call 234; refine (limit_any _).mono ?_; rintro e w' ⟨rfl, rfl⟩)
    go_ret
    exact ⟨by simp [h], rfl⟩
  · have h' : decide (0 ≤ n) = false := by simpa using h
    rw [h']
    go_enter Tryz.func182, Tryz.ntmps182
    go_wp2
    go_ret
    exact ⟨rfl, rfl⟩

/-- a day of the document's, as a value -/
def dayV (n : Int) : Value := .agg #[.int .i64 (Cal.ofY n), .int .i64 (Cal.ofM n), .int .i64 (Cal.ofD n), .int .i64 n, .int .i64 ((n + 3) % 7)]

set_option maxHeartbeats 1000000 in
theorem dayOf_any (n : Int) (w : World) (h0 : 0 ≤ n) (h1 : n < 84006) :
    Calls Tryz.prog 183 #[.int .i64 n] w fun e w' => e = .returned (dayV n) ∧ Below w.heap.size w w' := by
  go_enter Tryz.func183, Tryz.ntmps183
  go_wp2
  go_loopw [0] (fun t wr => ∃ y : Int, 1970 ≤ y ∧ Cal.num y 1 1 ≤ n ∧ t = .int .i64 (n - Cal.num y 1 1) ∧ wr = (w.alloc (.cells #[.int .i64 0, .int .i64 0, .int .i64 0, .int .i64 0, .int .i64 0] 236)).alloc (.cells #[.int .i64 y, .int .i64 1, .int .i64 0, .int .i64 n, .int .i64 ((n + 3) % 7)] 236)) (fun t _ => (intOf t).toNat)
  case atStart => exact ⟨1970, by omega, by rw [Cal.num_epoch]; exact h0, by rw [Cal.num_epoch]; simp, rfl⟩
  case round =>
    obtain ⟨y, y0, y1, rfl, rfl⟩ := hrel
    have hy := Cal.jan1_lt y1 h1
    have hyd := Cal.yd_bd y
    have hj := Cal.jan1_bd y y0 (by omega)
    by_cases hc : Cal.yd y ≤ n - Cal.num y 1 1
    · have hs := Cal.num_step y
      have HS := hide hs
      clear hs
      go_wp2_with (go_at_call 233; refine (yearDays_any _ _ (by omega) (by omega)).mono ?_; rintro e w' ⟨rfl, rfl⟩)
      go_roundw
      case rel => exact ⟨y + 1, by omega, by rw [HS.out]; omega, by rw [HS.out]; go_num, rfl⟩
      case measure => simp [intOf]; omega
    · go_wp2_with (go_at_call 233; refine (yearDays_any _ _ (by omega) (by omega)).mono ?_; rintro e w' ⟨rfl, rfl⟩)
      go_loopw [0] (fun t wr => ∃ m : Int, 1 ≤ m ∧ m ≤ 12 ∧ Cal.num y m 1 ≤ n ∧ t = .int .i64 (n - Cal.num y m 1) ∧ wr = (w.alloc (.cells #[.int .i64 0, .int .i64 0, .int .i64 0, .int .i64 0, .int .i64 0] 236)).alloc (.cells #[.int .i64 y, .int .i64 m, .int .i64 0, .int .i64 n, .int .i64 ((n + 3) % 7)] 236)) (fun t _ => (intOf t).toNat)
      case atStart => exact ⟨1, by omega, by omega, y1, rfl, rfl⟩
      case round =>
        obtain ⟨m, m0, m1, m2, rfl, rfl⟩ := hrel
        have hmd := Cal.md_bd y m
        have hmj := Cal.month1_bd y m y0 (by omega) m0 m1
        by_cases hm : Cal.md y m ≤ n - Cal.num y m 1
        · have hlt := Cal.month_lt m0 m1 (by omega) hm
          have hs := Cal.num_month y m m0 (by omega)
          have HS := hide hs
          clear hs
          go_wp2_with (go_at_call 180; refine (monthDays_any _ _ _ (by omega) (by omega)).mono ?_; rintro e w' ⟨rfl, rfl⟩)
          go_roundw
          case rel => exact ⟨m + 1, by omega, by omega, by rw [HS.out]; omega, by rw [HS.out]; go_num, rfl⟩
          case measure => simp [intOf]; omega
        · have ho := Cal.of_loops (y := y) m0 m1 h0 (by omega) (by omega)
          have HO := hide ho
          clear ho
          go_wp2_with (go_at_call 180; refine (monthDays_any _ _ _ (by omega) (by omega)).mono ?_; rintro e w' ⟨rfl, rfl⟩)
          exact bodyPost_ret (v := .agg #[.int .i64 y, .int .i64 m, .int .i64 (n - Cal.num y m 1 + 1), .int .i64 n, .int .i64 ((n + 3) % 7)]) (by simp [results, Tryz.results183, go_sem]) rfl ⟨by unfold dayV; rw [HO.out.1, HO.out.2.1, HO.out.2.2], ((Below.refl _ _).alloc (Nat.le_refl _) _).alloc (by simp) _⟩

/-- string([]byte{x}) -/
theorem conv_one (w : World) (x : Int) :
    (convert 72 9 (.slice (some ⟨w.heap.size, 0, none⟩) 1 1)).run Tryz.prog (w.alloc (.cells #[.int .u8 x] 5)) = .ok (.string ⟨#[UInt8.ofNat x.toNat]⟩) (w.alloc (.cells #[.int .u8 x] 5)) := by
  rw [run_convert_bytes_string _ _ _ 5 _ _ _ Tryz.underlying72 Tryz.underlying5 Tryz.underlying9]
  rw [run_bytesToString _ _ _ _ [x] (by simp [loadCells, go_sem])]
  rfl

/-- a number's last k digits, as bytes -/
def pad : Nat → Int → List UInt8
  | 0, _ => []
  | k + 1, n => pad k (n / 10) ++ [UInt8.ofNat (48 + n % 10).toNat]
theorem pad_length (k : Nat) : ∀ n, (pad k n).length = k := by
  induction k with
  | zero => intro n; rfl
  | succ k ih => intro n; simp [pad, ih]

theorem ba_app (a b : List UInt8) : (⟨a.toArray⟩ : ByteArray) ++ ⟨b.toArray⟩ = ⟨(a ++ b).toArray⟩ := by
  apply ByteArray.ext; simp
theorem str_eq {a b : ByteArray} (h : a = b) : Value.string a = Value.string b := by rw [h]
theorem ret_str {a b : ByteArray} (h : a = b) : Ending.returned (.string a) = .returned (.string b) := by rw [h]
theorem pad_step (size k : Nat) (q : Int) (l r : List UInt8) (hk : k < size) (h : pad (size - k) q ++ l = r) :
    pad (size - (k + 1)) (q / 10) ++ (UInt8.ofNat (48 + q % 10).toNat :: l) = r := by
  rw [← h, show size - k = (size - (k + 1)) + 1 from by omega]
  simp [pad]

set_option maxRecDepth 100000 in
set_option maxHeartbeats 1000000 in
theorem padded_any (n : Int) (size : Nat) (w : World) (h0 : 0 ≤ n) (h1 : n ≤ 10000000) (h2 : size ≤ 10) :
    Calls Tryz.prog 184 #[.int .i64 n, .int .i64 size] w fun e w' => e = .returned (.string ⟨(pad size n).toArray⟩) ∧ Below w.heap.size w w' := by
  have hcv := conv_one
  go_enter Tryz.func184, Tryz.ntmps184
  go_wp2
  go_loopw [0, 5, 6] (fun t s i wr => ∃ (k : Nat) (q : Int) (l : List UInt8), k ≤ size ∧ 0 ≤ q ∧ q ≤ 10000000 ∧ t = .int .i64 q ∧ i = .int .i64 k ∧ s = .string ⟨l.toArray⟩ ∧ l.length ≤ k ∧ Hid (pad (size - k) q ++ l = pad size n) ∧ Below w.heap.size w wr) (fun _ _ i _ => size - (intOf i).toNat)
  case atStart => exact ⟨0, n, [], by omega, h0, h1, rfl, rfl, rfl, by simp, by simp [Hid], Below.refl _ _⟩
  case round =>
    obtain ⟨k, q, l, k0, q0, q1, rfl, rfl, rfl, hl, HP, hb⟩ := hrel
    by_cases hlt : k < size
    · go_wp2
      refine ⟨⟨k + 1, q / 10, UInt8.ofNat (48 + q % 10).toNat :: l, by omega, by omega, by omega, rfl, by go_num, str_eq (ba_app [_] l), by simp; omega, pad_step size k q l _ hlt HP.out, ?_⟩, by simp [intOf]; omega⟩
      exact hb.alloc hb.size _
    · have hk : size - k = 0 := by omega
      have HP' : pad (size - k) q ++ l = pad size n := HP.out
      rw [hk] at HP'
      have HQ : Hid (l = pad size n) := HP'
      clear hk HP HP'
      go_wp2
      go_ret
      exact ⟨ret_str (by rw [HQ.out]), hb⟩
end Go.Proofs.YthpndgcaoeokeaaGreatDoor
