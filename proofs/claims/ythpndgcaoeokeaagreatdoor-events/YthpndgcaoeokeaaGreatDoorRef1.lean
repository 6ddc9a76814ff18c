/- The document's calendar (fallowref): contracts of leap, yearDays, monthDays, numberOf, limit, isTime. -/
import Derived.Test.YthpndgcaoeokeaaGreatDoorProg
import Derived.Test.YthpndgcaoeokeaaGreatDoorCal
import Derived.WalkKit
import Derived.WalkSpells
import Derived.WalkLawsBesides
namespace Go.Proofs.YthpndgcaoeokeaaGreatDoor
open Go.RowKit

theorem hide {p : Prop} (h : p) : Hid p := h
theorem ret_int {k : IntKind} {a b : Int} (h : a = b) : Ending.returned (.int k a) = .returned (.int k b) := by rw [h]

theorem leap_any (y : Int) (w : World) (h0 : 0 ≤ y) (h1 : y ≤ 100000) :
    Calls Tryz.prog 232 #[.int .i64 y] w fun e w' => e = .returned (.bool (Cal.lp y)) ∧ w = w' := by
  unfold Cal.lp
  by_cases a : y % 4 = 0 <;> by_cases b : y % 100 = 0 <;> by_cases c : y % 400 = 0
  all_goals
    go_enter Tryz.func232, Tryz.ntmps232
    go_wp2
    go_ret
    exact ⟨by simp [a, b, c], rfl⟩

theorem yearDays_any (y : Int) (w : World) (h0 : 0 ≤ y) (h1 : y ≤ 100000) :
    Calls Tryz.prog 233 #[.int .i64 y] w fun e w' => e = .returned (.int .i64 (Cal.yd y)) ∧ w = w' := by
  unfold Cal.yd
  cases h : Cal.lp y
  all_goals
    go_enter Tryz.func233, Tryz.ntmps233
    go_wp2_with (go_at_call 232; refine (leap_any _ _ h0 h1).mono ?_; rintro e w' ⟨rfl, rfl⟩)
    go_ret
    exact ⟨by simp, rfl⟩

theorem monthDays_any (y m : Int) (w : World) (h0 : 0 ≤ y) (h1 : y ≤ 100000) :
    Calls Tryz.prog 180 #[.int .i64 y, .int .i64 m] w fun e w' => e = .returned (.int .i64 (Cal.md y m)) ∧ w = w' := by
  unfold Cal.md
  by_cases a : m = 4
  · subst a
    go_enter Tryz.func180, Tryz.ntmps180
    go_wp2
    go_ret
    exact ⟨by simp, rfl⟩
  by_cases b : m = 6
  · subst b
    go_enter Tryz.func180, Tryz.ntmps180
    go_wp2
    go_ret
    exact ⟨by simp, rfl⟩
  by_cases c : m = 9
  · subst c
    go_enter Tryz.func180, Tryz.ntmps180
    go_wp2
    go_ret
    exact ⟨by simp, rfl⟩
  by_cases d : m = 11
  · subst d
    go_enter Tryz.func180, Tryz.ntmps180
    go_wp2
    go_ret
    exact ⟨by simp, rfl⟩
  by_cases f : m = 2
  · subst f
    cases h : Cal.lp y
    all_goals
      go_enter Tryz.func180, Tryz.ntmps180
      go_wp2_with (go_at_call 232; refine (leap_any _ _ h0 h1).mono ?_; rintro e w' ⟨rfl, rfl⟩)
      go_ret
      exact ⟨by simp, rfl⟩
  have a' : (m == 4) = false := by simp [a]
  have b' : (m == 6) = false := by simp [b]
  have c' : (m == 9) = false := by simp [c]
  have d' : (m == 11) = false := by simp [d]
  have f' : (m == 2) = false := by simp [f]
  go_enter Tryz.func180, Tryz.ntmps180
  go_wp2
  go_ret
  exact ⟨by simp, rfl⟩

theorem numberOf_any (y m d : Int) (w : World) (h0 : 1970 ≤ y) (h1 : y ≤ 2200) (a : 1 ≤ m) (b : m ≤ 12) (c : 0 ≤ d) (e : d ≤ 1000) :
    Calls Tryz.prog 181 #[.int .i64 y, .int .i64 m, .int .i64 d] w fun e w' => e = .returned (.int .i64 (Cal.num y m d)) ∧ w = w' := by
  go_enter Tryz.func181, Tryz.ntmps181
  go_wp2
  go_loop [7, 8] (fun n i => ∃ k : Int, 1970 ≤ k ∧ k ≤ y ∧ i = .int .i64 k ∧ n = .int .i64 (d - 1 + Cal.num k 1 1)) (fun _ i => (y - intOf i).toNat)
  case atStart => exact ⟨1970, by omega, by omega, rfl, by rw [Cal.num_epoch]; simp⟩
  case round =>
    obtain ⟨k, k0, k1, rfl, rfl⟩ := hrel
    have hj := Cal.jan1_bd k k0 (by omega)
    by_cases hlt : k < y
    · have hs := Cal.num_step k
      have hy := Cal.yd_bd k
      have HS := hide hs
      clear hs
      go_wp2_with (go_at_call 233; refine (yearDays_any _ _ (by omega) (by omega)).mono ?_; rintro e w' ⟨rfl, rfl⟩)
      go_round
      case rel => exact ⟨k + 1, by omega, by omega, rfl, by rw [HS.out]; go_num⟩
      case measure => simp [intOf]; omega
    · have hk : k = y := by omega
      subst hk
      go_wp2
      go_loop [7, 9] (fun n i => ∃ q : Int, 1 ≤ q ∧ q ≤ m ∧ i = .int .i64 q ∧ n = .int .i64 (d - 1 + Cal.num k q 1)) (fun _ i => (m - intOf i).toNat)
      case atStart => exact ⟨1, by omega, by omega, rfl, rfl⟩
      case round =>
        obtain ⟨q, q0, q1, rfl, rfl⟩ := hrel
        have hq := Cal.month1_bd k q k0 h1 q0 (by omega)
        by_cases hm : q < m
        · have hs := Cal.num_month k q q0 (by omega)
          have hy := Cal.md_bd k q
          have HS := hide hs
          clear hs
          go_wp2_with (go_at_call 180; refine (monthDays_any _ _ _ (by omega) (by omega)).mono ?_; rintro e w' ⟨rfl, rfl⟩)
          go_round
          case rel => exact ⟨q + 1, by omega, by omega, rfl, by rw [HS.out]; go_num⟩
          case measure => simp [intOf]; omega
        · have hk : q = m := by omega
          subst hk
          go_wp2
          go_ret
          exact ⟨ret_int (by rw [Cal.num_day k q d]; omega), rfl⟩
end Go.Proofs.YthpndgcaoeokeaaGreatDoor
