/- Every so many days, every so many weeks: what comes (Stepped). Of no program. Stepped (fallowkeep): the walk. Stepped: whatever the numbers, it answers true. -/
import Derived.Test.YthpndgcaoeokeaaGreatDoorCm29
namespace Go.Proofs.YthpndgcaoeokeaaGreatDoor
open Go.RowKit

def dRule (n c : Int) : List UInt8 := [70, 82, 69, 81, 61, 68, 65, 73, 76, 89, 59, 73, 78, 84, 69, 82, 86, 65, 76, 61] ++ dgs n ++ [59, 67, 79, 85, 78, 84, 61] ++ dgs c
def wRule (n c : Int) : List UInt8 := [67, 79, 85, 78, 84, 61] ++ dgs c ++ [59, 73, 78, 84, 69, 82, 86, 65, 76, 61] ++ dgs n ++ [59, 70, 82, 69, 81, 61, 87, 69, 69, 75, 76, 89, 59, 87, 75, 83, 84, 61, 83, 85]
theorem dRule_is (n c : Int) (n0 : 1 ≤ n) (n1 : n ≤ 100) (c0 : 1 ≤ c) (c1 : c ≤ 1000) : ∃ F, ruleF (dRule n c) = some F ∧ ruleOf F = dR n c := by
  have e : dRule n c = Lib.join (([(0, [68, 65, 73, 76, 89]), (1, dgs n), (2, dgs c)] : List (Nat × List UInt8)).map lnR) [59] := by
    unfold dRule Lib.join lnR
    simp [List.intercalate, List.intersperse, partNames]
  rw [e]
  refine ⟨_, rule_ps (r := dR n c) (by simp) ?_ (by simp) (by simp [ofP]) ⟨rfl, wi_dgs 1 100 n (by omega) (by omega) n0 n1, wi_dgs 1 1000 c (by omega) (by omega) c0 c1, rfl, rfl, rfl, rfl, rfl, rfl⟩ (by rfl)⟩
  intro p hp
  simp only [List.mem_cons, List.not_mem_nil, or_false] at hp
  rcases hp with rfl | rfl | rfl
  · exact ⟨by simp, by decide⟩
  · exact ⟨by simp, dgs_no n 59 (by decide) (by omega) (by omega)⟩
  · exact ⟨by simp, dgs_no c 59 (by decide) (by omega) (by omega)⟩
theorem wRule_is (n c : Int) (n0 : 1 ≤ n) (n1 : n ≤ 100) (c0 : 1 ≤ c) (c1 : c ≤ 1000) : ∃ F, ruleF (wRule n c) = some F ∧ ruleOf F = wR n c := by
  have e : wRule n c = Lib.join (([(2, dgs c), (1, dgs n), (0, [87, 69, 69, 75, 76, 89]), (8, [83, 85])] : List (Nat × List UInt8)).map lnR) [59] := by
    unfold wRule Lib.join lnR
    simp [List.intercalate, List.intersperse, partNames]
  rw [e]
  refine ⟨_, rule_ps (r := wR n c) (by simp) ?_ (by simp) (by simp [ofP]) ⟨rfl, wi_dgs 1 100 n (by omega) (by omega) n0 n1, wi_dgs 1 1000 c (by omega) (by omega) c0 c1, rfl, rfl, rfl, rfl, rfl, rfl⟩ (by rfl)⟩
  intro p hp
  simp only [List.mem_cons, List.not_mem_nil, or_false] at hp
  rcases hp with rfl | rfl | rfl | rfl
  · exact ⟨by simp, dgs_no c 59 (by decide) (by omega) (by omega)⟩
  · exact ⟨by simp, dgs_no n 59 (by decide) (by omega) (by omega)⟩
  · exact ⟨by simp, by decide⟩
  · exact ⟨by simp, by decide⟩
theorem dRule_nice (n c : Int) (n0 : 1 ≤ n) (n1 : n ≤ 100) (c0 : 1 ≤ c) (c1 : c ≤ 1000) : Nice 1000 (dRule n c) :=
  ((((show Nice 20 [70, 82, 69, 81, 61, 68, 65, 73, 76, 89, 59, 73, 78, 84, 69, 82, 86, 65, 76, 61] from ⟨by decide, by decide⟩).app (dgs_nice n (by omega) (by omega))).app (show Nice 7 [59, 67, 79, 85, 78, 84, 61] from ⟨by decide, by decide⟩)).app (dgs_nice c (by omega) (by omega))).to (by omega)
theorem wRule_nice (n c : Int) (n0 : 1 ≤ n) (n1 : n ≤ 100) (c0 : 1 ≤ c) (c1 : c ≤ 1000) : Nice 1000 (wRule n c) :=
  (((((show Nice 6 [67, 79, 85, 78, 84, 61] from ⟨by decide, by decide⟩).app (dgs_nice c (by omega) (by omega))).app (show Nice 10 [59, 73, 78, 84, 69, 82, 86, 65, 76, 61] from ⟨by decide, by decide⟩)).app (dgs_nice n (by omega) (by omega))).app (show Nice 20 [59, 70, 82, 69, 81, 61, 87, 69, 69, 75, 76, 89, 59, 87, 75, 83, 84, 61, 83, 85] from ⟨by decide, by decide⟩)).to (by omega)

def stRule (n c : Int) (wk : Bool) : List UInt8 := if wk then wRule n c else dRule n c
theorem st_rule (n c : Int) (wk : Bool) (n0 : 1 ≤ n) (n1 : n ≤ 100) (c0 : 1 ≤ c) (c1 : c ≤ 1000) : (∃ F, ruleF (stRule n c wk) = some F ∧ ruleOf F = stR n c wk) ∧ Nice 1000 (stRule n c wk) ∧ stRule n c wk ≠ [] := by
  cases wk with
  | false => exact ⟨dRule_is n c n0 n1 c0 c1, dRule_nice n c n0 n1 c0 c1, by simp [stRule, dRule]⟩
  | true => exact ⟨wRule_is n c n0 n1 c0 c1, wRule_nice n c n0 n1 c0 c1, by simp [stRule, wRule]⟩
theorem stepped_ins (t n c ln : Int) (wk : Bool) (n0 : 1 ≤ n) (n1 : n ≤ 100) (c0 : 1 ≤ c) (c1 : c ≤ 60) (s0 : 0 ≤ t) (s1 : t ≤ 3471292799) (l0 : 1 ≤ ln) (l1 : ln ≤ 2678400) :
    insE (evTx [120] t ln (stRule n c wk)) 0 7258118399 = .ok ((List.range c.toNat).map fun i : Nat => (t + i * (stepD n wk * 86400), t + i * (stepD n wk * 86400) + ln)) := by
  obtain ⟨⟨F, hF, ho⟩, hn, hne⟩ := st_rule n c wk n0 n1 c0 (by omega)
  have hs : 0 ≤ stepD n wk := by unfold stepD; split <;> omega
  rw [ins_rule (L := (List.range c.toNat).map fun i : Nat => t + i * (stepD n wk * 86400)) t ln 7258118399 s0 (by omega) l0 l1 hn hF hne ho 0 (by decide) ?_ ?_]
  · rw [List.map_map, List.filter_eq_self.2]
    · rfl
    · intro p hp
      obtain ⟨i, _, rfl⟩ := List.mem_map.1 hp
      have : 0 ≤ (i : Int) * (stepD n wk * 86400) := Int.mul_nonneg (by omega) (by omega)
      simp only [Function.comp, decide_eq_true_eq]
      omega
  · rw [st_days n c t wk n0 n1 c0 c1 s0 s1, List.map_map]
    apply List.map_congr_left
    intro i _
    simp only [Function.comp]
    rw [Int.add_mul, Int.mul_assoc]
    omega
  · rw [List.length_map, List.length_range]; omega
end Go.Proofs.YthpndgcaoeokeaaGreatDoor
namespace Go.Proofs.YthpndgcaoeokeaaGreatDoor
open Go.RowKit Go.Sort

set_option maxRecDepth 100000 in
set_option maxHeartbeats 8000000 in
theorem stepped_d (start every count length t n c l : Int) (N : Nat) (L : List (Int × Int)) (X1 X2 EV : ByteArray) (w : World)
    (K0 : Hid (∀ W, Below w.heap.size w W → Calls Tryz.prog 16 #[] W fun e w' => e = .returned (.bool true) ∧ Below W.heap.size W w'))
    (M0 : Hid (∀ W, Calls Tryz.prog 24 #[.int .i64 start] W fun e w' => e = .returned (.int .i64 t) ∧ W = w'))
    (P1 : Hid (∀ W, Calls Tryz.prog 17 #[.int .i64 every, .int .i64 100] W fun e w' => e = .returned (.int .i64 n) ∧ W = w'))
    (P2 : Hid (∀ W, Calls Tryz.prog 17 #[.int .i64 count, .int .i64 60] W fun e w' => e = .returned (.int .i64 c) ∧ W = w'))
    (P3 : Hid (∀ W, Calls Tryz.prog 17 #[.int .i64 length, .int .i64 2678400] W fun e w' => e = .returned (.int .i64 l) ∧ W = w'))
    (D1 : Hid (∀ W, Calls Tryz.prog 21 #[.int .i64 (1 + n)] W fun e w' => e = .returned (.string X1) ∧ Below W.heap.size W w'))
    (D2 : Hid (∀ W, Calls Tryz.prog 21 #[.int .i64 (1 + c)] W fun e w' => e = .returned (.string X2) ∧ Below W.heap.size W w'))
    (E : Hid (∀ W, Below w.heap.size w W → Calls Tryz.prog 25 #[.string ⟨#[120]⟩, .int .i64 t, .int .i64 (1 + l), .string ((⟨#[70, 82, 69, 81, 61, 68, 65, 73, 76, 89, 59, 73, 78, 84, 69, 82, 86, 65, 76, 61]⟩ : ByteArray) ++ X1 ++ ⟨#[59, 67, 79, 85, 78, 84, 61]⟩ ++ X2)] W fun e w' => e = .returned (.string EV) ∧ Below W.heap.size W w'))
    (I : Hid (∀ W, Below w.heap.size w W → Calls Tryz.prog 23 #[.string EV, .int .i64 0, .int .i64 7258118399] W fun e w' => (∃ v, e = .returned (.tuple #[v, .int .i64 0]) ∧ w'.ownsRow W.heap.size 39 2 v N (flatS L)) ∧ Below W.heap.size W w'))
    (x1 : X1.size ≤ 7) (x2 : X2.size ≤ 7) (n0 : 0 ≤ n ∧ n < 100) (c0 : 0 ≤ c ∧ c < 60) (l0 : 0 ≤ l ∧ l < 2678400) (t0 : 0 ≤ t ∧ t ≤ 3471292799) (hN : (N : Int) = 1 + c) (hLN : L.length = N)
    (hL : Hid (∀ i (h : i < L.length), L[i] = (t + i * ((1 + n) * 86400), t + i * ((1 + n) * 86400) + (1 + l)))) :
    Calls Tryz.prog 9 #[.int .i64 start, .int .i64 every, .int .i64 count, .bool false, .int .i64 length] w fun e w' => e = .returned (.bool true) ∧ Below w.heap.size w w' := by
  obtain ⟨n0, n1⟩ := n0
  obtain ⟨c0, c1⟩ := c0
  obtain ⟨l0, l1⟩ := l0
  obtain ⟨t0, t1⟩ := t0
  go_enter Tryz.func9, Tryz.ntmps9
  go_wp2_with fail
  refine (K0.out _ (Below.refl _ _)).mono ?_
  rintro e w1 ⟨rfl, hb1⟩
  go_wp2_with fail
  refine (M0.out _).mono ?_
  rintro e w2 ⟨rfl, rfl⟩
  go_wp2_with fail
  refine (P1.out _).mono ?_
  rintro e w2 ⟨rfl, rfl⟩
  go_wp2_with fail
  refine (P2.out _).mono ?_
  rintro e w2 ⟨rfl, rfl⟩
  go_wp2_with fail
  refine (D1.out _).mono ?_
  rintro e w4 ⟨rfl, hb4⟩
  replace hb4 := hb1.trans (hb4.mono hb1.size)
  go_wp2_with fail
  refine (D2.out _).mono ?_
  rintro e w5 ⟨rfl, hb5⟩
  replace hb5 := hb4.trans (hb5.mono hb4.size)
  have hb7 := hb5
  go_wp2_with fail
  refine (P3.out _).mono ?_
  rintro e w8 ⟨rfl, rfl⟩
  go_wp2_with fail
  refine (E.out _ hb7).mono ?_
  rintro e w8 ⟨rfl, hb8⟩
  replace hb8 := hb7.trans (hb8.mono hb7.size)
  go_wp2_with fail
  refine (I.out _ hb8).mono ?_
  rintro e w9 ⟨⟨v, rfl, hown⟩, hb9⟩
  replace hb9 := hb8.trans (hb9.mono hb8.size)
  rcases own_cellsN hown with ⟨_, h⟩ | ⟨g, cap, rfl, hg0, hg1, hcell⟩
  case inl => omega
  have HC := hide hcell
  clear K0 M0 P1 P2 P3 D1 D2 E I hcell hown
  have hNe : ((N : Int) == 1 + c) = true := by simp [hN]
  have hS0 : 0 ≤ ((1 + n) * 86400) := by omega
  have hS1 : ((1 + n) * 86400) ≤ 60480000 := by omega
  generalize ((1 + n) * 86400) = S at *
  go_wp2_with fail
  go_loop [20] (fun i => ∃ k : Nat, k ≤ N ∧ i = .int .i64 k) (fun i => N - (intOf i).toNat)
  case atStart => exact ⟨0, Nat.zero_le _, rfl⟩
  case round =>
    obtain ⟨k, hk, rfl⟩ := hrel
    by_cases hlt : k < N
    case neg =>
      have hkl : k = N := by omega
      subst hkl
      go_wp2_with fail
      go_ret
      exact ⟨rfl, hb9⟩
    case pos =>
      obtain ⟨a1, a2⟩ := flatS_get L k (by omega)
      have d1 := HC.out _ _ a1
      have d2 := HC.out _ _ a2
      rw [hL.out k (by omega)] at d1 d2
      clear a1 a2
      have m0 : 0 ≤ (k : Int) * S := Int.mul_nonneg (by omega) hS0
      have m1 : (k : Int) * S ≤ 59 * 60480000 := Int.mul_le_mul (by omega) hS1 hS0 (by omega)
      simp only [] at d1 d2
      go_wp2_with fail
      exact ⟨⟨k + 1, by omega, by go_num⟩, by simp [intOf]; omega⟩

set_option maxRecDepth 100000 in
set_option maxHeartbeats 8000000 in
theorem stepped_k (start every count length t n c l : Int) (N : Nat) (L : List (Int × Int)) (X1 X2 EV : ByteArray) (w : World)
    (K0 : Hid (∀ W, Below w.heap.size w W → Calls Tryz.prog 16 #[] W fun e w' => e = .returned (.bool true) ∧ Below W.heap.size W w'))
    (M0 : Hid (∀ W, Calls Tryz.prog 24 #[.int .i64 start] W fun e w' => e = .returned (.int .i64 t) ∧ W = w'))
    (P1 : Hid (∀ W, Calls Tryz.prog 17 #[.int .i64 every, .int .i64 100] W fun e w' => e = .returned (.int .i64 n) ∧ W = w'))
    (P2 : Hid (∀ W, Calls Tryz.prog 17 #[.int .i64 count, .int .i64 60] W fun e w' => e = .returned (.int .i64 c) ∧ W = w'))
    (P3 : Hid (∀ W, Calls Tryz.prog 17 #[.int .i64 length, .int .i64 2678400] W fun e w' => e = .returned (.int .i64 l) ∧ W = w'))
    (D1 : Hid (∀ W, Calls Tryz.prog 21 #[.int .i64 (1 + n)] W fun e w' => e = .returned (.string X1) ∧ Below W.heap.size W w'))
    (D2 : Hid (∀ W, Calls Tryz.prog 21 #[.int .i64 (1 + c)] W fun e w' => e = .returned (.string X2) ∧ Below W.heap.size W w'))
    (E : Hid (∀ W, Below w.heap.size w W → Calls Tryz.prog 25 #[.string ⟨#[120]⟩, .int .i64 t, .int .i64 (1 + l), .string ((⟨#[67, 79, 85, 78, 84, 61]⟩ : ByteArray) ++ X2 ++ ⟨#[59, 73, 78, 84, 69, 82, 86, 65, 76, 61]⟩ ++ X1 ++ ⟨#[59, 70, 82, 69, 81, 61, 87, 69, 69, 75, 76, 89, 59, 87, 75, 83, 84, 61, 83, 85]⟩)] W fun e w' => e = .returned (.string EV) ∧ Below W.heap.size W w'))
    (I : Hid (∀ W, Below w.heap.size w W → Calls Tryz.prog 23 #[.string EV, .int .i64 0, .int .i64 7258118399] W fun e w' => (∃ v, e = .returned (.tuple #[v, .int .i64 0]) ∧ w'.ownsRow W.heap.size 39 2 v N (flatS L)) ∧ Below W.heap.size W w'))
    (x1 : X1.size ≤ 7) (x2 : X2.size ≤ 7) (n0 : 0 ≤ n ∧ n < 100) (c0 : 0 ≤ c ∧ c < 60) (l0 : 0 ≤ l ∧ l < 2678400) (t0 : 0 ≤ t ∧ t ≤ 3471292799) (hN : (N : Int) = 1 + c) (hLN : L.length = N)
    (hL : Hid (∀ i (h : i < L.length), L[i] = (t + i * (7 * ((1 + n) * 86400)), t + i * (7 * ((1 + n) * 86400)) + (1 + l)))) :
    Calls Tryz.prog 9 #[.int .i64 start, .int .i64 every, .int .i64 count, .bool true, .int .i64 length] w fun e w' => e = .returned (.bool true) ∧ Below w.heap.size w w' := by
  obtain ⟨n0, n1⟩ := n0
  obtain ⟨c0, c1⟩ := c0
  obtain ⟨l0, l1⟩ := l0
  obtain ⟨t0, t1⟩ := t0
  go_enter Tryz.func9, Tryz.ntmps9
  go_wp2_with fail
  refine (K0.out _ (Below.refl _ _)).mono ?_
  rintro e w1 ⟨rfl, hb1⟩
  go_wp2_with fail
  refine (M0.out _).mono ?_
  rintro e w2 ⟨rfl, rfl⟩
  go_wp2_with fail
  refine (P1.out _).mono ?_
  rintro e w2 ⟨rfl, rfl⟩
  go_wp2_with fail
  refine (P2.out _).mono ?_
  rintro e w2 ⟨rfl, rfl⟩
  go_wp2_with fail
  refine (D1.out _).mono ?_
  rintro e w4 ⟨rfl, hb4⟩
  replace hb4 := hb1.trans (hb4.mono hb1.size)
  go_wp2_with fail
  refine (D2.out _).mono ?_
  rintro e w5 ⟨rfl, hb5⟩
  replace hb5 := hb4.trans (hb5.mono hb4.size)
  go_wp2_with fail
  refine (D2.out _).mono ?_
  rintro e w6 ⟨rfl, hb6⟩
  replace hb6 := hb5.trans (hb6.mono hb5.size)
  go_wp2_with fail
  refine (D1.out _).mono ?_
  rintro e w7 ⟨rfl, hb7⟩
  replace hb7 := hb6.trans (hb7.mono hb6.size)
  go_wp2_with fail
  refine (P3.out _).mono ?_
  rintro e w8 ⟨rfl, rfl⟩
  go_wp2_with fail
  refine (E.out _ hb7).mono ?_
  rintro e w8 ⟨rfl, hb8⟩
  replace hb8 := hb7.trans (hb8.mono hb7.size)
  go_wp2_with fail
  refine (I.out _ hb8).mono ?_
  rintro e w9 ⟨⟨v, rfl, hown⟩, hb9⟩
  replace hb9 := hb8.trans (hb9.mono hb8.size)
  rcases own_cellsN hown with ⟨_, h⟩ | ⟨g, cap, rfl, hg0, hg1, hcell⟩
  case inl => omega
  have HC := hide hcell
  clear K0 M0 P1 P2 P3 D1 D2 E I hcell hown
  have hNe : ((N : Int) == 1 + c) = true := by simp [hN]
  have hS0 : 0 ≤ (7 * ((1 + n) * 86400)) := by omega
  have hS1 : (7 * ((1 + n) * 86400)) ≤ 60480000 := by omega
  generalize (7 * ((1 + n) * 86400)) = S at *
  go_wp2_with fail
  go_loop [20] (fun i => ∃ k : Nat, k ≤ N ∧ i = .int .i64 k) (fun i => N - (intOf i).toNat)
  case atStart => exact ⟨0, Nat.zero_le _, rfl⟩
  case round =>
    obtain ⟨k, hk, rfl⟩ := hrel
    by_cases hlt : k < N
    case neg =>
      have hkl : k = N := by omega
      subst hkl
      go_wp2_with fail
      go_ret
      exact ⟨rfl, hb9⟩
    case pos =>
      obtain ⟨a1, a2⟩ := flatS_get L k (by omega)
      have d1 := HC.out _ _ a1
      have d2 := HC.out _ _ a2
      rw [hL.out k (by omega)] at d1 d2
      clear a1 a2
      have m0 : 0 ≤ (k : Int) * S := Int.mul_nonneg (by omega) hS0
      have m1 : (k : Int) * S ≤ 59 * 60480000 := Int.mul_le_mul (by omega) hS1 hS0 (by omega)
      simp only [] at d1 d2
      go_wp2_with fail
      exact ⟨⟨k + 1, by omega, by go_num⟩, by simp [intOf]; omega⟩
end Go.Proofs.YthpndgcaoeokeaaGreatDoor
namespace Go.Proofs.YthpndgcaoeokeaaGreatDoor
open Go.RowKit Go.Sort

theorem stepped_n (start every count length : Int) (wk : Bool) (w : World) (hm : ML w) (ht : Tab w) (r0 : -9223372036854775808 ≤ start ∧ start ≤ 9223372036854775807) (r1 : -9223372036854775808 ≤ every ∧ every ≤ 9223372036854775807) (r2 : -9223372036854775808 ≤ count ∧ count ≤ 9223372036854775807) (r3 : -9223372036854775808 ≤ length ∧ length ≤ 9223372036854775807) :
    Calls Tryz.prog 9 #[.int .i64 start, .int .i64 every, .int .i64 count, .bool wk, .int .i64 length] w fun e w' => e = .returned (.bool true) ∧ Below w.heap.size w w' := by
  have K0 : Hid (∀ W, Below w.heap.size w W → Calls Tryz.prog 16 #[] W fun e w' => e = .returned (.bool true) ∧ Below W.heap.size W w') := hide fun W hb => works_n W (hm.on hb) (ht.on hb)
  have M0 := hide fun W => moment_n start W r0.1 r0.2
  have P1 := hide fun W => pick_n every 100 W r1.1 r1.2 (by omega) (by omega)
  have P2 := hide fun W => pick_n count 60 W r2.1 r2.2 (by omega) (by omega)
  have P3 := hide fun W => pick_n length 2678400 W r3.1 r3.2 (by omega) (by omega)
  have ht0 := pick_bd start 3155760000 (by omega)
  have hn0 := pick_bd every 100 (by omega)
  have hc0 := pick_bd count 60 (by omega)
  have hl0 := pick_bd length 2678400 (by omega)
  obtain ⟨t, et⟩ : ∃ t, t = 315532800 + pickI start 3155760000 := ⟨_, rfl⟩
  rw [← et] at M0
  have ht1 : 0 ≤ t ∧ t ≤ 3471292799 := by omega
  clear et ht0
  generalize pickI every 100 = n at *
  generalize pickI count 60 = c at *
  generalize pickI length 2678400 = l at *
  cases wk with
  | false =>
    have eR : ((⟨#[70, 82, 69, 81, 61, 68, 65, 73, 76, 89, 59, 73, 78, 84, 69, 82, 86, 65, 76, 61]⟩ : ByteArray) ++ ⟨(dgs (1 + n)).toArray⟩ ++ ⟨#[59, 67, 79, 85, 78, 84, 61]⟩ ++ ⟨(dgs (1 + c)).toArray⟩) = ⟨(stRule (1 + n) (1 + c) false).toArray⟩ := by
      show _ = (⟨(dRule (1 + n) (1 + c)).toArray⟩ : ByteArray)
      unfold dRule
      simp only [ba_app]
    have hi := stepped_ins t (1 + n) (1 + c) (1 + l) false (by omega) (by omega) (by omega) (by omega) (by omega) (by omega) (by omega) (by omega)
    obtain ⟨_, hn, _⟩ := st_rule (1 + n) (1 + c) false (by omega) (by omega) (by omega) (by omega)
    refine stepped_d start every count length t n c l (1 + c).toNat ((List.range (1 + c).toNat).map fun i : Nat => (t + i * (stepD (1 + n) false * 86400), t + i * (stepD (1 + n) false * 86400) + (1 + l))) ⟨(dgs (1 + n)).toArray⟩ ⟨(dgs (1 + c)).toArray⟩ ⟨(evTx [120] t (1 + l) (stRule (1 + n) (1 + c) false)).toArray⟩ w
      K0 M0 P1 P2 P3 (hide fun W => digits_n _ W (by omega) (by omega) (by omega)) (hide fun W => digits_n _ W (by omega) (by omega) (by omega))
      (hide fun W hb => by rw [eR]; exact event_n [120] t (1 + l) _ W (ht.on hb) (by decide) hn.1 (by omega) (by omega) (by omega) (by omega))
      (hide fun W hb => (inst_all _ 0 7258118399 W (hm.on hb) (ht.on hb)).mono fun e w' h => ?_) (dgs_nice (1 + n) (by omega) (by omega)).1 (dgs_nice (1 + c) (by omega) (by omega)).1 hn0 hc0 hl0 (by omega) (by omega) ?_ (hide fun i hi' => ?_)
    · unfold InstP at h
      rw [hi] at h
      simpa only [List.length_map, List.length_range] using h
    · rw [List.length_map, List.length_range]
    · rw [List.getElem_map, List.getElem_range]
      rfl
  | true =>
    have eR : ((⟨#[67, 79, 85, 78, 84, 61]⟩ : ByteArray) ++ ⟨(dgs (1 + c)).toArray⟩ ++ ⟨#[59, 73, 78, 84, 69, 82, 86, 65, 76, 61]⟩ ++ ⟨(dgs (1 + n)).toArray⟩ ++ ⟨#[59, 70, 82, 69, 81, 61, 87, 69, 69, 75, 76, 89, 59, 87, 75, 83, 84, 61, 83, 85]⟩) = ⟨(stRule (1 + n) (1 + c) true).toArray⟩ := by
      show _ = (⟨(wRule (1 + n) (1 + c)).toArray⟩ : ByteArray)
      unfold wRule
      simp only [ba_app]
    have hi := stepped_ins t (1 + n) (1 + c) (1 + l) true (by omega) (by omega) (by omega) (by omega) (by omega) (by omega) (by omega) (by omega)
    obtain ⟨_, hn, _⟩ := st_rule (1 + n) (1 + c) true (by omega) (by omega) (by omega) (by omega)
    refine stepped_k start every count length t n c l (1 + c).toNat ((List.range (1 + c).toNat).map fun i : Nat => (t + i * (stepD (1 + n) true * 86400), t + i * (stepD (1 + n) true * 86400) + (1 + l))) ⟨(dgs (1 + n)).toArray⟩ ⟨(dgs (1 + c)).toArray⟩ ⟨(evTx [120] t (1 + l) (stRule (1 + n) (1 + c) true)).toArray⟩ w
      K0 M0 P1 P2 P3 (hide fun W => digits_n _ W (by omega) (by omega) (by omega)) (hide fun W => digits_n _ W (by omega) (by omega) (by omega))
      (hide fun W hb => by rw [eR]; exact event_n [120] t (1 + l) _ W (ht.on hb) (by decide) hn.1 (by omega) (by omega) (by omega) (by omega))
      (hide fun W hb => (inst_all _ 0 7258118399 W (hm.on hb) (ht.on hb)).mono fun e w' h => ?_) (dgs_nice (1 + n) (by omega) (by omega)).1 (dgs_nice (1 + c) (by omega) (by omega)).1 hn0 hc0 hl0 (by omega) (by omega) ?_ (hide fun i hi' => ?_)
    · unfold InstP at h
      rw [hi] at h
      simpa only [List.length_map, List.length_range] using h
    · rw [List.length_map, List.length_range]
    · rw [List.getElem_map, List.getElem_range]
      show (t + i * (7 * (1 + n) * 86400), t + i * (7 * (1 + n) * 86400) + (1 + l)) = _; rw [Int.mul_assoc 7]
end Go.Proofs.YthpndgcaoeokeaaGreatDoor
