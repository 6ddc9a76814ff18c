/- The program's own: giveup, words.Digits, words.Number, days. -/
import Derived.Test.YthpndgcaoeokeaaGreatDoorRef7
import Derived.Laws.Panics
namespace Go.Proofs.YthpndgcaoeokeaaGreatDoor
open Go.RowKit

/-- what the program gives up with -/
def rsn (e : Int) : List PanicEntry := [{ v := .iface 103 (.agg #[.int .i64 e]), recovered := false }]

theorem unless_yes (e : Int) (w : World) : Calls Tryz.prog 65 #[.bool true, .int .i64 e] w fun E w' => E = .returned (.tuple #[]) ∧ w = w' := by
  go_enter Tryz.func65, Tryz.ntmps65
  go_wp2
  go_end0
  exact ⟨rfl, rfl⟩
theorem unless_no (e : Int) (w : World) : Calls Tryz.prog 65 #[.bool false, .int .i64 e] w fun E w' => E = .panicked (rsn e) ∧ w = w' := by
  go_enter Tryz.func65, Tryz.ntmps65
  go_wp2
  exact ⟨rfl, rfl, rfl⟩

theorem isDigit_any (c : Int) (w : World) : Calls Tryz.prog 131 #[.int .u8 c] w fun E w' => E = .returned (.bool (decide (48 ≤ c) && decide (c ≤ 57))) ∧ w = w' := by
  by_cases h : 48 ≤ c
  · go_enter Tryz.func131, Tryz.ntmps131
    go_wp2
    go_ret
    exact ⟨by simp [h], rfl⟩
  · have h' : decide (48 ≤ c) = false := by simpa using h
    rw [h']
    go_enter Tryz.func131, Tryz.ntmps131
    go_wp2
    go_ret
    exact ⟨rfl, rfl⟩

def allDig (s : ByteArray) : Bool := s.data.toList.all dig

set_option maxHeartbeats 1000000 in
theorem words_digits (s : ByteArray) (e : Int) (w : World) (h7 : s.size ≤ 7) :
    Calls Tryz.prog 123 #[.string s, .int .i64 e] w fun E w' => ((allDig s = true ∧ E = .returned (.int .i64 (dval s.data.toList))) ∨ (allDig s = false ∧ E = .panicked (rsn e))) ∧ w = w' := by
  go_enter Tryz.func123, Tryz.ntmps123
  go_wp2
  go_loop [5, 9] (fun v i => ∃ k : Nat, k ≤ s.size ∧ i = .int .i64 (k : Int) ∧ v = .int .i64 (dval (cut s 0 k)) ∧ Hid ((cut s 0 k).all dig = true)) (fun _ i => s.size - (intOf i).toNat)
  case atStart => exact ⟨0, by omega, rfl, rfl, rfl⟩
  case round =>
    obtain ⟨k, k0, rfl, rfl, HD⟩ := hrel
    have hb := dval_le (cut s 0 k) 7 (by rw [cut_length s 0 k (by omega)]; omega) HD.out
    by_cases hlt : k < s.size
    · have hsn := cut_snoc s 0 k (by omega)
      simp only [Nat.zero_add] at hsn
      by_cases hd : dig s[k] = true
      · have hd2 := (dig_iff _).1 hd
        have HD2 : Hid ((cut s 0 (k + 1)).all dig = true) := by
          rw [hsn]; simp [HD.out, hd, Hid]
        have HV : Hid (dval (cut s 0 (k + 1)) = 10 * dval (cut s 0 k) + ((s[k].toNat : Int) - 48)) := by
          rw [hsn]; exact dval_snoc _ _
        have hu : (decide (48 ≤ (s[k].toNat : Int)) && decide ((s[k].toNat : Int) ≤ 57)) = true := hd
        clear hd hsn
        go_wp2_with (first
          | (go_at_call 131; refine (isDigit_any _ _).mono ?_; rintro e w' ⟨rfl, rfl⟩)
          | (go_at_call 65; refine (unless_yes _ _).mono ?_; rintro e w' ⟨rfl, rfl⟩))
        exact ⟨⟨k + 1, by omega, by go_num, by rw [HV.out, Int.mul_comm], HD2⟩, by simp [intOf]; omega⟩
      · have hd' : dig s[k] = false := by simpa using hd
        have hall : allDig s = false := by
          show s.data.toList.all dig = false
          have hm : s[k] ∈ s.data.toList := by
            have := cut_get s 0 s.size k hlt (by omega)
            rw [cut_all] at this
            simp only [Nat.zero_add] at this
            exact List.mem_of_getElem? this
          rw [List.all_eq_false]
          exact ⟨_, hm, by rw [hd']; exact Bool.false_ne_true⟩
        have HA := hide hall
        have hu : (decide (48 ≤ (s[k].toNat : Int)) && decide ((s[k].toNat : Int) ≤ 57)) = false := hd'
        clear hd' hsn HD hd hall
        go_wp2_with (first
          | (go_at_call 131; refine (isDigit_any _ _).mono ?_; rintro e w' ⟨rfl, rfl⟩)
          | (go_at_call 65; refine (unless_no _ _).mono ?_; rintro e w' ⟨rfl, rfl⟩))
        exact ⟨rfl, .inr ⟨HA.out, rfl⟩, rfl⟩
    · have hk : k = s.size := by omega
      subst hk
      have ha := HD.out
      rw [cut_all] at ha ⊢
      have HA : Hid (allDig s = true) := ha
      clear ha
      go_wp2
      go_ret
      exact ⟨.inl ⟨HA.out, rfl⟩, rfl⟩

/-- the digits' contract, its two ends apart -/
theorem words_digits_yes (s : ByteArray) (e : Int) (w : World) (h7 : s.size ≤ 7) (h : allDig s = true) :
    Calls Tryz.prog 123 #[.string s, .int .i64 e] w fun E w' => E = .returned (.int .i64 (dval s.data.toList)) ∧ w = w' :=
  (words_digits s e w h7).mono fun E w' ⟨h1, h2⟩ => ⟨h1.elim (fun q => q.2) (fun q => by rw [h] at q; exact absurd q.1 (by decide)), h2⟩
theorem words_digits_no (s : ByteArray) (e : Int) (w : World) (h7 : s.size ≤ 7) (h : allDig s = false) :
    Calls Tryz.prog 123 #[.string s, .int .i64 e] w fun E w' => E = .panicked (rsn e) ∧ w = w' :=
  (words_digits s e w h7).mono fun E w' ⟨h1, h2⟩ => ⟨h1.elim (fun q => by rw [h] at q; exact absurd q.1 (by decide)) (fun q => q.2), h2⟩

theorem toYear_any (y : Int) (w : World) (h0 : 0 ≤ y) (h1 : y ≤ 100000) :
    Calls Tryz.prog 195 #[.int .i64 y] w fun e w' => e = .returned (.int .i64 (Cal.ty y)) ∧ w = w' := by
  go_enter Tryz.func195, Tryz.ntmps195
  go_wp2
  go_ret
  exact ⟨rfl, rfl⟩
theorem toMonth_any (m : Int) (w : World) (h0 : 0 ≤ m) (h1 : m ≤ 1000) :
    Calls Tryz.prog 196 #[.int .i64 m] w fun e w' => e = .returned (.int .i64 (Cal.tm m)) ∧ w = w' := by
  go_enter Tryz.func196, Tryz.ntmps196
  go_wp2
  go_ret
  exact ⟨rfl, rfl⟩

theorem quiet_ret {P : Program} {f : FuncId} {args : Array Value} {w : World} {n : Nat} {v : Value}
    (h : Calls P f args (w.drewN n) fun e w' => e = .returned v ∧ w.drewN n = w') : Calls P f args (w.drewN n) fun e w'' => e = .returned v ∧ ∃ m, w'' = w.drewN m :=
  h.mono fun _ _ ⟨he, hm⟩ => ⟨he, n, hm.symm⟩
theorem below_drewN {B : Nat} {a w : World} (h : Below B a w) (n : Nat) : Below B a (w.drewN n) := ⟨h.os, h.tape, h.output, h.size, h.block⟩
theorem ty_bd (y : Int) (h0 : 0 ≤ y) (h1 : y ≤ 100000) : 0 ≤ Cal.ty y ∧ Cal.ty y ≤ 40000000 := by unfold Cal.ty; omega
theorem tm_bd (m : Int) (h0 : 0 ≤ m) (h1 : m ≤ 1000) : 0 ≤ Cal.tm m ∧ Cal.tm m ≤ 40000 := by unfold Cal.tm; omega

set_option maxHeartbeats 1000000 in
theorem dayNumber_any (y m d : Int) (w : World) (h0 : 1 ≤ y) (h1 : y ≤ 10000) (h2 : 0 ≤ m) (h3 : m ≤ 100) (h4 : 0 ≤ d) (h5 : d ≤ 100) :
    Calls Tryz.prog 120 #[.agg #[.int .i64 y, .int .i64 m, .int .i64 d]] w fun e w' => e = .returned (.int .i64 (Cal.num y m d)) ∧ Below w.heap.size w w' := by
  unfold Cal.num
  by_cases hm : m - 3 < 0
  case pos =>
    have t1 := ty_bd (y - 1) (by omega) (by omega)
    have t2 := tm_bd (m - 3 + 12) (by omega) (by omega)
    rw [if_pos hm]
    go_enter Tryz.func120, Tryz.ntmps120
    go_wp2
    go_quiet (fail)
    go_wp2
    have hbw := below_close w (.cells #[.int .i64 y, .int .i64 m, .int .i64 d] 106) nq
    have c2 : ((w.alloc (.cells #[.int .i64 y, .int .i64 m, .int .i64 d] 106)).drewN nq).cell? ⟨w.heap.size, 2, none⟩ = some (.int .i64 d) := by simp [go_sem]
    generalize (w.alloc (.cells #[.int .i64 y, .int .i64 m, .int .i64 d] 106)).drewN nq = W at *
    go_quiet (first
      | (go_at_call 195; exact quiet_ret (toYear_any _ _ (by omega) (by omega)))
      | (go_at_call 196; exact quiet_ret (toMonth_any _ _ (by omega) (by omega))))
    go_wp2
    go_ret
    exact ⟨rfl, below_drewN hbw _⟩
  case neg =>
    have t1 := ty_bd y (by omega) (by omega)
    have t2 := tm_bd (m - 3) (by omega) (by omega)
    rw [if_neg hm]
    go_enter Tryz.func120, Tryz.ntmps120
    go_wp2
    go_quiet (fail)
    go_wp2
    have hbw := below_close w (.cells #[.int .i64 y, .int .i64 m, .int .i64 d] 106) nq
    have c2 : ((w.alloc (.cells #[.int .i64 y, .int .i64 m, .int .i64 d] 106)).drewN nq).cell? ⟨w.heap.size, 2, none⟩ = some (.int .i64 d) := by simp [go_sem]
    generalize (w.alloc (.cells #[.int .i64 y, .int .i64 m, .int .i64 d] 106)).drewN nq = W at *
    go_quiet (first
      | (go_at_call 195; exact quiet_ret (toYear_any _ _ (by omega) (by omega)))
      | (go_at_call 196; exact quiet_ret (toMonth_any _ _ (by omega) (by omega))))
    go_wp2
    go_ret
    exact ⟨rfl, below_drewN hbw _⟩

/-- a day, as a value -/
def dayA (y m d : Int) : Value := .agg #[.int .i64 y, .int .i64 m, .int .i64 d]

set_option maxHeartbeats 2000000 in
theorem daysOf_any (n : Int) (w : World) (h0 : -719468 ≤ n) (h1 : n ≤ 1000000) :
    Calls Tryz.prog 121 #[.int .i64 n] w fun e w' => e = .returned (dayA (Cal.ofY n) (Cal.ofM n) (Cal.ofD n)) ∧ Below w.heap.size w w' := by
  have hy := Cal.yr_bd (n + 719468) (by omega) (by omega)
  have hr := Cal.rem_bd (n + 719468) (by omega)
  have hm := Cal.mo_bd _ hr.1 hr.2.1
  have hr1 := hr.1
  have hr2 := hr.2.1
  have hm1 := hm.1
  have hm2 := hm.2.1
  have t := tm_bd _ hm.1 (by omega)
  clear hr hm
  unfold dayA Cal.ofY Cal.ofM Cal.ofD
  by_cases hc : Cal.ty ((n + 719468) * 400 / 146097 + 1) ≤ n + 719468
  case pos =>
    have ey : Cal.yr (n + 719468) = (n + 719468) * 400 / 146097 + 1 := by unfold Cal.yr; rw [if_pos hc]
    rw [ey] at hy hr1 hr2 hm1 hm2 t ⊢
    unfold Cal.mo at hm1 hm2 t ⊢
    clear ey
    by_cases h12 : ((n + 719468 - Cal.ty ((n + 719468) * 400 / 146097 + 1)) * 5 + 2) / 153 + 3 > 12
    case pos =>
      rw [if_pos h12, if_pos h12]
      go_enter Tryz.func121, Tryz.ntmps121
      go_wp2_with (first
        | (go_at_call 195; refine (toYear_any _ _ (by omega) (by omega)).mono ?_; rintro e w' ⟨rfl, rfl⟩)
        | (go_at_call 196; refine (toMonth_any _ _ (by omega) (by omega)).mono ?_; rintro e w' ⟨rfl, rfl⟩))
      exact bodyPost_ret (v := .agg #[.int .i64 ((n + 719468) * 400 / 146097 + 1 + 1), .int .i64 (((n + 719468 - Cal.ty ((n + 719468) * 400 / 146097 + 1)) * 5 + 2) / 153 + 3 - 12), .int .i64 (n + 719468 - Cal.ty ((n + 719468) * 400 / 146097 + 1) - Cal.tm (((n + 719468 - Cal.ty ((n + 719468) * 400 / 146097 + 1)) * 5 + 2) / 153) + 1)]) (by simp [results, Tryz.results121, go_sem]) rfl ⟨rfl, (Below.refl _ _).alloc (Nat.le_refl _) _⟩
    case neg =>
      rw [if_neg h12, if_neg h12]
      go_enter Tryz.func121, Tryz.ntmps121
      go_wp2_with (first
        | (go_at_call 195; refine (toYear_any _ _ (by omega) (by omega)).mono ?_; rintro e w' ⟨rfl, rfl⟩)
        | (go_at_call 196; refine (toMonth_any _ _ (by omega) (by omega)).mono ?_; rintro e w' ⟨rfl, rfl⟩))
      exact bodyPost_ret (v := .agg #[.int .i64 ((n + 719468) * 400 / 146097 + 1), .int .i64 (((n + 719468 - Cal.ty ((n + 719468) * 400 / 146097 + 1)) * 5 + 2) / 153 + 3), .int .i64 (n + 719468 - Cal.ty ((n + 719468) * 400 / 146097 + 1) - Cal.tm (((n + 719468 - Cal.ty ((n + 719468) * 400 / 146097 + 1)) * 5 + 2) / 153) + 1)]) (by simp [results, Tryz.results121, go_sem]) rfl ⟨rfl, (Below.refl _ _).alloc (Nat.le_refl _) _⟩
  case neg =>
    have ey : Cal.yr (n + 719468) = (n + 719468) * 400 / 146097 := by unfold Cal.yr; rw [if_neg hc]
    rw [ey] at hy hr1 hr2 hm1 hm2 t ⊢
    unfold Cal.mo at hm1 hm2 t ⊢
    clear ey
    by_cases h12 : ((n + 719468 - Cal.ty ((n + 719468) * 400 / 146097)) * 5 + 2) / 153 + 3 > 12
    case pos =>
      rw [if_pos h12, if_pos h12]
      go_enter Tryz.func121, Tryz.ntmps121
      go_wp2_with (first
        | (go_at_call 195; refine (toYear_any _ _ (by omega) (by omega)).mono ?_; rintro e w' ⟨rfl, rfl⟩)
        | (go_at_call 196; refine (toMonth_any _ _ (by omega) (by omega)).mono ?_; rintro e w' ⟨rfl, rfl⟩))
      exact bodyPost_ret (v := .agg #[.int .i64 ((n + 719468) * 400 / 146097 + 1), .int .i64 (((n + 719468 - Cal.ty ((n + 719468) * 400 / 146097)) * 5 + 2) / 153 + 3 - 12), .int .i64 (n + 719468 - Cal.ty ((n + 719468) * 400 / 146097) - Cal.tm (((n + 719468 - Cal.ty ((n + 719468) * 400 / 146097)) * 5 + 2) / 153) + 1)]) (by simp [results, Tryz.results121, go_sem]) rfl ⟨rfl, (Below.refl _ _).alloc (Nat.le_refl _) _⟩
    case neg =>
      rw [if_neg h12, if_neg h12]
      go_enter Tryz.func121, Tryz.ntmps121
      go_wp2_with (first
        | (go_at_call 195; refine (toYear_any _ _ (by omega) (by omega)).mono ?_; rintro e w' ⟨rfl, rfl⟩)
        | (go_at_call 196; refine (toMonth_any _ _ (by omega) (by omega)).mono ?_; rintro e w' ⟨rfl, rfl⟩))
      exact bodyPost_ret (v := .agg #[.int .i64 ((n + 719468) * 400 / 146097), .int .i64 (((n + 719468 - Cal.ty ((n + 719468) * 400 / 146097)) * 5 + 2) / 153 + 3), .int .i64 (n + 719468 - Cal.ty ((n + 719468) * 400 / 146097) - Cal.tm (((n + 719468 - Cal.ty ((n + 719468) * 400 / 146097)) * 5 + 2) / 153) + 1)]) (by simp [results, Tryz.results121, go_sem]) rfl ⟨rfl, (Below.refl _ _).alloc (Nat.le_refl _) _⟩
end Go.Proofs.YthpndgcaoeokeaaGreatDoor
