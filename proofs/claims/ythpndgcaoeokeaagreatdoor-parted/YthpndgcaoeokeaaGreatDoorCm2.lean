/- The program's own: giveup, words.Digits, words.Number, days. The program's own: days.There, when.readDay, when.readClock, when.readTime. The program's own: when.readDay where there are no digits. The program's own: when.readDay whole, when.readClock. The program's own days: when a day begins, the day of a time. -/
import Derived.Test.YthpndgcaoeokeaaGreatDoorCm1
import Derived.Laws.Panics
import Derived.ChangeKeysEq
import Derived.Deep.RegionHeld3
import Derived.Deep.DrawnRows
namespace Go.Proofs.YthpndgcaoeokeaaGreatDoor
open Go.RowKit

/-- what the program gives up with -/
def rsn (e : Int) : List PanicEntry := [{ v := .iface 103 (.agg #[.int .i64 e]), recovered := false }]

theorem unless_yes (e : Int) (w : World) : Calls Tryz.prog 65 #[.bool true, .int .i64 e] w fun E w' => E = .returned (.tuple #[]) ∧ w = w' := by
  go_enter Tryz.func65, Tryz.ntmps65
  go_wp2
  go_end0
  exact ⟨rfl, rfl⟩
theorem unless_no (e : Int) (w : World) : Calls Tryz.prog 65 #[.bool false, .int .i64 e] w fun E w' => E = .panicked (rsn e) ∧ w = w' := by
  go_enter Tryz.func65, Tryz.ntmps65
  go_wp2
  exact ⟨rfl, rfl, rfl⟩

theorem isDigit_any (c : Int) (w : World) : Calls Tryz.prog 131 #[.int .u8 c] w fun E w' => E = .returned (.bool (decide (48 ≤ c) && decide (c ≤ 57))) ∧ w = w' := by
  by_cases h : 48 ≤ c
  · go_enter Tryz.func131, Tryz.ntmps131
    go_wp2
    go_ret
    exact ⟨by simp [h], rfl⟩
  · have h' : decide (48 ≤ c) = false := by simpa using h
    rw [h']
    go_enter Tryz.func131, Tryz.ntmps131
    go_wp2
    go_ret
    exact ⟨rfl, rfl⟩

def allDig (s : ByteArray) : Bool := s.data.toList.all dig

set_option maxHeartbeats 1000000 in
theorem words_digits (s : ByteArray) (e : Int) (w : World) (h7 : s.size ≤ 7) :
    Calls Tryz.prog 123 #[.string s, .int .i64 e] w fun E w' => ((allDig s = true ∧ E = .returned (.int .i64 (dval s.data.toList))) ∨ (allDig s = false ∧ E = .panicked (rsn e))) ∧ w = w' := by
  go_enter Tryz.func123, Tryz.ntmps123
  go_wp2
  go_loop [5, 9] (fun v i => ∃ k : Nat, k ≤ s.size ∧ i = .int .i64 (k : Int) ∧ v = .int .i64 (dval (cut s 0 k)) ∧ Hid ((cut s 0 k).all dig = true)) (fun _ i => s.size - (intOf i).toNat)
  case atStart => exact ⟨0, by omega, rfl, rfl, rfl⟩
  case round =>
    obtain ⟨k, k0, rfl, rfl, HD⟩ := hrel
    have hb := dval_le (cut s 0 k) 7 (by rw [cut_length s 0 k (by omega)]; omega) HD.out
    by_cases hlt : k < s.size
    · have hsn := cut_snoc s 0 k (by omega)
      simp only [Nat.zero_add] at hsn
      by_cases hd : dig s[k] = true
      · have hd2 := (dig_iff _).1 hd
        have HD2 : Hid ((cut s 0 (k + 1)).all dig = true) := by
          rw [hsn]; simp [HD.out, hd, Hid]
        have HV : Hid (dval (cut s 0 (k + 1)) = 10 * dval (cut s 0 k) + ((s[k].toNat : Int) - 48)) := by
          rw [hsn]; exact dval_snoc _ _
        have hu : (decide (48 ≤ (s[k].toNat : Int)) && decide ((s[k].toNat : Int) ≤ 57)) = true := hd
        clear hd hsn
        go_wp2_with (first
          | (go_at_call 131; refine (isDigit_any _ _).mono ?_; rintro e w' ⟨rfl, rfl⟩)
          | (go_at_call 65; refine (unless_yes _ _).mono ?_; rintro e w' ⟨rfl, rfl⟩))
        exact ⟨⟨k + 1, by omega, by go_num, by rw [HV.out, Int.mul_comm], HD2⟩, by simp [intOf]; omega⟩
      · have hd' : dig s[k] = false := by simpa using hd
        have hall : allDig s = false := by
          show s.data.toList.all dig = false
          have hm : s[k] ∈ s.data.toList := by
            have := cut_get s 0 s.size k hlt (by omega)
            rw [cut_all] at this
            simp only [Nat.zero_add] at this
            exact List.mem_of_getElem? this
          rw [List.all_eq_false]
          exact ⟨_, hm, by rw [hd']; exact Bool.false_ne_true⟩
        have HA := hide hall
        have hu : (decide (48 ≤ (s[k].toNat : Int)) && decide ((s[k].toNat : Int) ≤ 57)) = false := hd'
        clear hd' hsn HD hd hall
        go_wp2_with (first
          | (go_at_call 131; refine (isDigit_any _ _).mono ?_; rintro e w' ⟨rfl, rfl⟩)
          | (go_at_call 65; refine (unless_no _ _).mono ?_; rintro e w' ⟨rfl, rfl⟩))
        exact ⟨rfl, .inr ⟨HA.out, rfl⟩, rfl⟩
    · have hk : k = s.size := by omega
      subst hk
      have ha := HD.out
      rw [cut_all] at ha ⊢
      have HA : Hid (allDig s = true) := ha
      clear ha
      go_wp2
      go_ret
      exact ⟨.inl ⟨HA.out, rfl⟩, rfl⟩

/-- the digits' contract, its two ends apart -/
theorem words_digits_yes (s : ByteArray) (e : Int) (w : World) (h7 : s.size ≤ 7) (h : allDig s = true) :
    Calls Tryz.prog 123 #[.string s, .int .i64 e] w fun E w' => E = .returned (.int .i64 (dval s.data.toList)) ∧ w = w' :=
  (words_digits s e w h7).mono fun E w' ⟨h1, h2⟩ => ⟨h1.elim (fun q => q.2) (fun q => by rw [h] at q; exact absurd q.1 (by decide)), h2⟩
theorem words_digits_no (s : ByteArray) (e : Int) (w : World) (h7 : s.size ≤ 7) (h : allDig s = false) :
    Calls Tryz.prog 123 #[.string s, .int .i64 e] w fun E w' => E = .panicked (rsn e) ∧ w = w' :=
  (words_digits s e w h7).mono fun E w' ⟨h1, h2⟩ => ⟨h1.elim (fun q => by rw [h] at q; exact absurd q.1 (by decide)) (fun q => q.2), h2⟩

theorem toYear_any (y : Int) (w : World) (h0 : 0 ≤ y) (h1 : y ≤ 100000) :
    Calls Tryz.prog 195 #[.int .i64 y] w fun e w' => e = .returned (.int .i64 (Cal.ty y)) ∧ w = w' := by
  go_enter Tryz.func195, Tryz.ntmps195
  go_wp2
  go_ret
  exact ⟨rfl, rfl⟩
theorem toMonth_any (m : Int) (w : World) (h0 : 0 ≤ m) (h1 : m ≤ 1000) :
    Calls Tryz.prog 196 #[.int .i64 m] w fun e w' => e = .returned (.int .i64 (Cal.tm m)) ∧ w = w' := by
  go_enter Tryz.func196, Tryz.ntmps196
  go_wp2
  go_ret
  exact ⟨rfl, rfl⟩

theorem quiet_ret {P : Program} {f : FuncId} {args : Array Value} {w : World} {n : Nat} {v : Value}
    (h : Calls P f args (w.drewN n) fun e w' => e = .returned v ∧ w.drewN n = w') : Calls P f args (w.drewN n) fun e w'' => e = .returned v ∧ ∃ m, w'' = w.drewN m :=
  h.mono fun _ _ ⟨he, hm⟩ => ⟨he, n, hm.symm⟩
theorem below_drewN {B : Nat} {a w : World} (h : Below B a w) (n : Nat) : Below B a (w.drewN n) := ⟨h.os, h.tape, h.output, h.size, h.block⟩
theorem ty_bd (y : Int) (h0 : 0 ≤ y) (h1 : y ≤ 100000) : 0 ≤ Cal.ty y ∧ Cal.ty y ≤ 40000000 := by unfold Cal.ty; omega
theorem tm_bd (m : Int) (h0 : 0 ≤ m) (h1 : m ≤ 1000) : 0 ≤ Cal.tm m ∧ Cal.tm m ≤ 40000 := by unfold Cal.tm; omega

set_option maxHeartbeats 1000000 in
theorem dayNumber_any (y m d : Int) (w : World) (h0 : 1 ≤ y) (h1 : y ≤ 10000) (h2 : 0 ≤ m) (h3 : m ≤ 100) (h4 : 0 ≤ d) (h5 : d ≤ 100) :
    Calls Tryz.prog 120 #[.agg #[.int .i64 y, .int .i64 m, .int .i64 d]] w fun e w' => e = .returned (.int .i64 (Cal.num y m d)) ∧ Below w.heap.size w w' := by
  unfold Cal.num
  by_cases hm : m - 3 < 0
  case pos =>
    have t1 := ty_bd (y - 1) (by omega) (by omega)
    have t2 := tm_bd (m - 3 + 12) (by omega) (by omega)
    rw [if_pos hm]
    go_enter Tryz.func120, Tryz.ntmps120
    go_wp2
    go_quiet (fail)
    go_wp2
    have hbw := below_close w (.cells #[.int .i64 y, .int .i64 m, .int .i64 d] 106) nq
    have c2 : ((w.alloc (.cells #[.int .i64 y, .int .i64 m, .int .i64 d] 106)).drewN nq).cell? ⟨w.heap.size, 2, none⟩ = some (.int .i64 d) := by simp [go_sem]
    generalize (w.alloc (.cells #[.int .i64 y, .int .i64 m, .int .i64 d] 106)).drewN nq = W at *
    go_quiet (first
      | (go_at_call 195; exact quiet_ret (toYear_any _ _ (by omega) (by omega)))
      | (go_at_call 196; exact quiet_ret (toMonth_any _ _ (by omega) (by omega))))
    go_wp2
    go_ret
    exact ⟨rfl, below_drewN hbw _⟩
  case neg =>
    have t1 := ty_bd y (by omega) (by omega)
    have t2 := tm_bd (m - 3) (by omega) (by omega)
    rw [if_neg hm]
    go_enter Tryz.func120, Tryz.ntmps120
    go_wp2
    go_quiet (fail)
    go_wp2
    have hbw := below_close w (.cells #[.int .i64 y, .int .i64 m, .int .i64 d] 106) nq
    have c2 : ((w.alloc (.cells #[.int .i64 y, .int .i64 m, .int .i64 d] 106)).drewN nq).cell? ⟨w.heap.size, 2, none⟩ = some (.int .i64 d) := by simp [go_sem]
    generalize (w.alloc (.cells #[.int .i64 y, .int .i64 m, .int .i64 d] 106)).drewN nq = W at *
    go_quiet (first
      | (go_at_call 195; exact quiet_ret (toYear_any _ _ (by omega) (by omega)))
      | (go_at_call 196; exact quiet_ret (toMonth_any _ _ (by omega) (by omega))))
    go_wp2
    go_ret
    exact ⟨rfl, below_drewN hbw _⟩

/-- a day, as a value -/
def dayA (y m d : Int) : Value := .agg #[.int .i64 y, .int .i64 m, .int .i64 d]

set_option maxHeartbeats 2000000 in
theorem daysOf_any (n : Int) (w : World) (h0 : -719468 ≤ n) (h1 : n ≤ 1000000) :
    Calls Tryz.prog 121 #[.int .i64 n] w fun e w' => e = .returned (dayA (Cal.ofY n) (Cal.ofM n) (Cal.ofD n)) ∧ Below w.heap.size w w' := by
  have hy := Cal.yr_bd (n + 719468) (by omega) (by omega)
  have hr := Cal.rem_bd (n + 719468) (by omega)
  have hm := Cal.mo_bd _ hr.1 hr.2.1
  have hr1 := hr.1
  have hr2 := hr.2.1
  have hm1 := hm.1
  have hm2 := hm.2.1
  have t := tm_bd _ hm.1 (by omega)
  clear hr hm
  unfold dayA Cal.ofY Cal.ofM Cal.ofD
  by_cases hc : Cal.ty ((n + 719468) * 400 / 146097 + 1) ≤ n + 719468
  case pos =>
    have ey : Cal.yr (n + 719468) = (n + 719468) * 400 / 146097 + 1 := by unfold Cal.yr; rw [if_pos hc]
    rw [ey] at hy hr1 hr2 hm1 hm2 t ⊢
    unfold Cal.mo at hm1 hm2 t ⊢
    clear ey
    by_cases h12 : ((n + 719468 - Cal.ty ((n + 719468) * 400 / 146097 + 1)) * 5 + 2) / 153 + 3 > 12
    case pos =>
      rw [if_pos h12, if_pos h12]
      go_enter Tryz.func121, Tryz.ntmps121
      go_wp2_with (first
        | (go_at_call 195; refine (toYear_any _ _ (by omega) (by omega)).mono ?_; rintro e w' ⟨rfl, rfl⟩)
        | (go_at_call 196; refine (toMonth_any _ _ (by omega) (by omega)).mono ?_; rintro e w' ⟨rfl, rfl⟩))
      exact bodyPost_ret (v := .agg #[.int .i64 ((n + 719468) * 400 / 146097 + 1 + 1), .int .i64 (((n + 719468 - Cal.ty ((n + 719468) * 400 / 146097 + 1)) * 5 + 2) / 153 + 3 - 12), .int .i64 (n + 719468 - Cal.ty ((n + 719468) * 400 / 146097 + 1) - Cal.tm (((n + 719468 - Cal.ty ((n + 719468) * 400 / 146097 + 1)) * 5 + 2) / 153) + 1)]) (by simp [results, Tryz.results121, go_sem]) rfl ⟨rfl, (Below.refl _ _).alloc (Nat.le_refl _) _⟩
    case neg =>
      rw [if_neg h12, if_neg h12]
      go_enter Tryz.func121, Tryz.ntmps121
      go_wp2_with (first
        | (go_at_call 195; refine (toYear_any _ _ (by omega) (by omega)).mono ?_; rintro e w' ⟨rfl, rfl⟩)
        | (go_at_call 196; refine (toMonth_any _ _ (by omega) (by omega)).mono ?_; rintro e w' ⟨rfl, rfl⟩))
      exact bodyPost_ret (v := .agg #[.int .i64 ((n + 719468) * 400 / 146097 + 1), .int .i64 (((n + 719468 - Cal.ty ((n + 719468) * 400 / 146097 + 1)) * 5 + 2) / 153 + 3), .int .i64 (n + 719468 - Cal.ty ((n + 719468) * 400 / 146097 + 1) - Cal.tm (((n + 719468 - Cal.ty ((n + 719468) * 400 / 146097 + 1)) * 5 + 2) / 153) + 1)]) (by simp [results, Tryz.results121, go_sem]) rfl ⟨rfl, (Below.refl _ _).alloc (Nat.le_refl _) _⟩
  case neg =>
    have ey : Cal.yr (n + 719468) = (n + 719468) * 400 / 146097 := by unfold Cal.yr; rw [if_neg hc]
    rw [ey] at hy hr1 hr2 hm1 hm2 t ⊢
    unfold Cal.mo at hm1 hm2 t ⊢
    clear ey
    by_cases h12 : ((n + 719468 - Cal.ty ((n + 719468) * 400 / 146097)) * 5 + 2) / 153 + 3 > 12
    case pos =>
      rw [if_pos h12, if_pos h12]
      go_enter Tryz.func121, Tryz.ntmps121
      go_wp2_with (first
        | (go_at_call 195; refine (toYear_any _ _ (by omega) (by omega)).mono ?_; rintro e w' ⟨rfl, rfl⟩)
        | (go_at_call 196; refine (toMonth_any _ _ (by omega) (by omega)).mono ?_; rintro e w' ⟨rfl, rfl⟩))
      exact bodyPost_ret (v := .agg #[.int .i64 ((n + 719468) * 400 / 146097 + 1), .int .i64 (((n + 719468 - Cal.ty ((n + 719468) * 400 / 146097)) * 5 + 2) / 153 + 3 - 12), .int .i64 (n + 719468 - Cal.ty ((n + 719468) * 400 / 146097) - Cal.tm (((n + 719468 - Cal.ty ((n + 719468) * 400 / 146097)) * 5 + 2) / 153) + 1)]) (by simp [results, Tryz.results121, go_sem]) rfl ⟨rfl, (Below.refl _ _).alloc (Nat.le_refl _) _⟩
    case neg =>
      rw [if_neg h12, if_neg h12]
      go_enter Tryz.func121, Tryz.ntmps121
      go_wp2_with (first
        | (go_at_call 195; refine (toYear_any _ _ (by omega) (by omega)).mono ?_; rintro e w' ⟨rfl, rfl⟩)
        | (go_at_call 196; refine (toMonth_any _ _ (by omega) (by omega)).mono ?_; rintro e w' ⟨rfl, rfl⟩))
      exact bodyPost_ret (v := .agg #[.int .i64 ((n + 719468) * 400 / 146097), .int .i64 (((n + 719468 - Cal.ty ((n + 719468) * 400 / 146097)) * 5 + 2) / 153 + 3), .int .i64 (n + 719468 - Cal.ty ((n + 719468) * 400 / 146097) - Cal.tm (((n + 719468 - Cal.ty ((n + 719468) * 400 / 146097)) * 5 + 2) / 153) + 1)]) (by simp [results, Tryz.results121, go_sem]) rfl ⟨rfl, (Below.refl _ _).alloc (Nat.le_refl _) _⟩
end Go.Proofs.YthpndgcaoeokeaaGreatDoor
namespace Go.Proofs.YthpndgcaoeokeaaGreatDoor
open Go.RowKit Go.Sort

def validB (y m d : Int) : Bool := decide (1 ≤ m) && decide (m ≤ 12) && decide (1 ≤ d) && decide (d ≤ Cal.md y m)
theorem validB_iff (y m d : Int) : validB y m d = true ↔ Cal.Valid y m d := by
  simp [validB, Cal.Valid, and_assoc]

/-- two days compared as a whole -/
theorem eq_days (a b c x y z : Int) (w : World) :
    (Op.equalIn 10000 106 (.agg #[.int .i64 a, .int .i64 b, .int .i64 c]) (.agg #[.int .i64 x, .int .i64 y, .int .i64 z])).run Tryz.prog w = .ok ((a == x) && (b == y) && (c == z)) w := by
  have hs : (Tryz.prog.info? 3).isSome = true := by kernel_rfl
  obtain ⟨i, hi⟩ := Option.isSome_iff_exists.1 hs
  have hc : Tryz.prog.cellsOf 3 = 1 := by kernel_rfl
  rw [run_equalIn_array w 9999 _ _ Tryz.underlying106 hi, hc]
  rw [show List.range 3 = [0, 1, 2] from rfl]
  by_cases h1 : a = x <;> by_cases h2 : b = y <;> by_cases h3 : c = z <;> simp [Op.eqItems, part, go_sem, h1, h2, h3]

theorem thereB {y m d : Int} (hy : 1 ≤ y) (hm : 0 ≤ m) (hd : 0 ≤ d) :
    (Cal.ofY (Cal.num y m d) == y && Cal.ofM (Cal.num y m d) == m && Cal.ofD (Cal.num y m d) == d) = validB y m d := by
  rw [Bool.eq_iff_iff, validB_iff, ← Cal.there_iff hy hm hd]
  simp [and_assoc]

theorem dayNumber_in (W : World) (y m d : Int) (D : Nat) (os : Array Obj) (h0 : 1 ≤ y) (h1 : y ≤ 10000) (h2 : 0 ≤ m) (h3 : m ≤ 100) (h4 : 0 ≤ d) (h5 : d ≤ 100) :
    Calls Tryz.prog 120 #[.agg #[.int .i64 y, .int .i64 m, .int .i64 d]] (grow (redrawn W D) os) fun e w'' => e = .returned (.int .i64 (Cal.num y m d)) ∧ ∃ p : Regrown, w'' = grow (redrawn W p.d) p.os :=
  Calls.regrown_of (dayNumber_any y m d _ h0 h1 h2 h3 h4 h5)
theorem daysOf_in (W : World) (n : Int) (D : Nat) (os : Array Obj) (h0 : -719468 ≤ n) (h1 : n ≤ 1000000) :
    Calls Tryz.prog 121 #[.int .i64 n] (grow (redrawn W D) os) fun e w'' => e = .returned (.agg #[.int .i64 (Cal.ofY n), .int .i64 (Cal.ofM n), .int .i64 (Cal.ofD n)]) ∧ ∃ p : Regrown, w'' = grow (redrawn W p.d) p.os :=
  Calls.regrown_of (daysOf_any n _ h0 h1)

set_option maxRecDepth 100000 in
set_option maxHeartbeats 2000000 in
theorem there_any (y m d : Int) (w : World) (h0 : 1 ≤ y) (h1 : y ≤ 2199) (h2 : 0 ≤ m) (h3 : m ≤ 99) (h4 : 0 ≤ d) (h5 : d ≤ 99) :
    Calls Tryz.prog 124 #[.agg #[.int .i64 y, .int .i64 m, .int .i64 d]] w fun e w' => e = .returned (.bool (validB y m d)) ∧ Below w.heap.size w w' := by
  have hn : -719468 ≤ Cal.num y m d ∧ Cal.num y m d ≤ 1000000 := by
    unfold Cal.num Cal.ty Cal.tm; split <;> omega
  go_enter Tryz.func124, Tryz.ntmps124
  go_wp2
  have hbw : Below w.heap.size w (w.alloc (.cells #[.int .i64 y, .int .i64 m, .int .i64 d] 106)) := (Below.refl _ _).alloc (Nat.le_refl _) _
  have c0 : (w.alloc (.cells #[.int .i64 y, .int .i64 m, .int .i64 d] 106)).cell? ⟨w.heap.size, 0, none⟩ = some (.int .i64 y) := by simp [go_sem]
  have c1 : (w.alloc (.cells #[.int .i64 y, .int .i64 m, .int .i64 d] 106)).cell? ⟨w.heap.size, 1, none⟩ = some (.int .i64 m) := by simp [go_sem]
  have c2 : (w.alloc (.cells #[.int .i64 y, .int .i64 m, .int .i64 d] 106)).cell? ⟨w.heap.size, 2, none⟩ = some (.int .i64 d) := by simp [go_sem]
  generalize (w.alloc (.cells #[.int .i64 y, .int .i64 m, .int .i64 d] 106)) = W at *
  have heq := eq_days
  have k0 := cell_regrown c0
  have k1 := cell_regrown c1
  have k2 := cell_regrown c2
  clear c0 c1 c2
  refine wp_region_quiet_below (by kernel_rfl) (by kernel_rfl) ?_
  repeat (go_big_quiet_step (first | exact dayNumber_in W _ _ _ _ _ (by omega) (by omega) (by omega) (by omega) (by omega) (by omega) | exact daysOf_in W _ _ _ (by omega) (by omega)))
  refine wpQuiet_nil ?_
  intro _ hw'
  obtain ⟨⟨dq, osq⟩, hw''⟩ := hw'
  subst hw''
  go_wp2
  go_ret
  exact ⟨congrArg (fun b => Ending.returned (.bool b)) (thereB h0 h2 h4), hbw.trans ((below_regrown W dq osq).mono hbw.size)⟩

theorem bcell {W w1 : World} (hb : Below W.heap.size W w1) : (∀ b o, b < W.heap.size → w1.cell? ⟨b, o, none⟩ = W.cell? ⟨b, o, none⟩) ∧ (∀ b o, b < W.heap.size → w1.frozen? ⟨b, o, none⟩ = W.frozen? ⟨b, o, none⟩) :=
  ⟨fun b o h => hb.cell (p := ⟨b, o, none⟩) h, fun b o h => hb.frozen (p := ⟨b, o, none⟩) h⟩

theorem allDig_cut (t : ByteArray) (a b : Nat) : allDig (t.extract a b) = (cut t a (b - a)).all dig := by
  unfold allDig; rw [extract_cut]
theorem digs_yes {l : List UInt8} (h : l.all dig = true) : digs l = dval l := by unfold digs; rw [if_pos h]
theorem digs_no {l : List UInt8} (h : l.all dig = false) : digs l = -1 := by unfold digs; rw [if_neg (by rw [h]; exact Bool.false_ne_true)]

/-- how the reading of a day ends -/
def dayE (y m d : Int) : Ending := if 1970 ≤ y ∧ y ≤ 2199 ∧ validB y m d = true then .returned (dayA y m d) else .panicked (rsn 1)
theorem dayE_yes {y m d : Int} (h : 1970 ≤ y ∧ y ≤ 2199 ∧ validB y m d = true) : dayE y m d = .returned (dayA y m d) := by unfold dayE; rw [if_pos h]
theorem dayE_no {y m d : Int} (h : ¬ (1970 ≤ y ∧ y ≤ 2199 ∧ validB y m d = true)) : dayE y m d = .panicked (rsn 1) := by unfold dayE; rw [if_neg h]

attribute [local go_sem] Go.wp_at_zero Go.wp_at_succ
set_option maxRecDepth 100000 in
set_option maxHeartbeats 4000000 in
/-- the day's three numbers are read: what stands behind the first statement -/
theorem readDay_digits (t : ByteArray) (w : World) (y m d : Int) (h8 : t.size = 8) (d1 : allDig (t.extract 0 4) = true) (d2 : allDig (t.extract 4 6) = true) (d3 : allDig (t.extract 6 t.size) = true)
    (e1 : dval (t.extract 0 4).data.toList = y) (e2 : dval (t.extract 4 6).data.toList = m) (e3 : dval (t.extract 6 t.size).data.toList = d)
    (y0 : 0 ≤ y) (y1 : y ≤ 9999) (m0 : 0 ≤ m) (m1 : m ≤ 99) (d0 : 0 ≤ d) (d9 : d ≤ 99) :
    Calls Tryz.prog 69 #[.string t] w fun E w' => E = dayE y m d ∧ Below w.heap.size w w' := by
  have z1 : (4 : Int) ≤ t.size := by omega
  have z2 : (6 : Int) ≤ t.size := by omega
  have z3 : (8 : Int) ≤ t.size := by omega
  have z4 : (t.size : Int) ≤ 8 := by omega
  have s1 : (t.extract 0 4).size ≤ 7 := by simp [ByteArray.size_extract]; omega
  have s2 : (t.extract 4 6).size ≤ 7 := by simp [ByteArray.size_extract]; omega
  have s3 : (t.extract 6 t.size).size ≤ 7 := by simp [ByteArray.size_extract]; omega
  have H8 := hide h8
  have c1 := fun W => words_digits_yes (t.extract 0 4) 1 W s1 d1
  have c2 := fun W => words_digits_yes (t.extract 4 6) 1 W s2 d2
  have c3 := fun W => words_digits_yes (t.extract 6 t.size) 1 W s3 d3
  rw [e1] at c1
  rw [e2] at c2
  rw [e3] at c3
  have C1 := hide c1
  have C2 := hide c2
  have C3 := hide c3
  clear h8 c1 c2 c3 e1 e2 e3 d1 d2 d3 s1 s2 s3
  go_enter Tryz.func69, Tryz.ntmps69
  go_wp2
  go_region_held3 (fun w' => True) (trivial)
    (first
      | (go_at_call_of 123 (Value.string (t.extract 0 4)); refine (C1.out _).mono ?_; rintro e w' ⟨rfl, rfl⟩)
      | (go_at_call_of 123 (Value.string (t.extract 4 6)); refine (C2.out _).mono ?_; rintro e w' ⟨rfl, rfl⟩)
      | (go_at_call_of 123 (Value.string (t.extract 6 t.size)); refine (C3.out _).mono ?_; rintro e w' ⟨rfl, rfl⟩))
  all_goals
    by_cases ya : 1970 ≤ y
    case neg =>
      have ya' : decide (1970 ≤ y) = false := by simpa using ya
      go_wp2_with (go_at_call 65; refine (unless_no _ _).mono ?_; rintro e w' ⟨rfl, rfl⟩)
      exact ⟨rfl, by rw [dayE_no (by omega)], (((Below.refl _ _).alloc (Nat.le_refl _) _).alloc (by simp) _).drew⟩
    case pos =>
      by_cases yb : y ≤ 2199
      case neg =>
        have yb' : decide (y ≤ 2199) = false := by simpa using yb
        go_wp2_with (go_at_call 65; refine (unless_no _ _).mono ?_; rintro e w' ⟨rfl, rfl⟩)
        exact ⟨rfl, by rw [dayE_no (by omega)], (((Below.refl _ _).alloc (Nat.le_refl _) _).alloc (by simp) _).drew⟩
      case pos =>
        have hbw : Below w.heap.size w (((w.alloc (.cells #[.int .i64 0, .int .i64 0, .int .i64 0] 106)).alloc (.cells #[.int .i64 y, .int .i64 m, .int .i64 d] 106)).drew) := (((Below.refl _ _).alloc (Nat.le_refl _) _).alloc (by simp) _).drew
        cases hv : validB y m d
        case false =>
          go_wp2_with (first
            | (go_at_call_of 65 (Value.bool true); refine (unless_yes _ _).mono ?_; rintro e w' ⟨rfl, rfl⟩)
            | (go_at_call_of 65 (Value.bool false); refine (unless_no _ _).mono ?_; rintro e w' ⟨rfl, rfl⟩)
            | (go_at_call 124; refine (there_any _ _ _ _ (by omega) (by omega) (by omega) (by omega) (by omega) (by omega)).mono ?_; rintro e w1 ⟨rfl, hb1⟩; rw [hv]))
          exact ⟨rfl, by rw [dayE_no (by simp [hv])], hbw.trans (hb1.mono hbw.size)⟩
        case true =>
          go_wp2_with (first
            | (go_at_call 65; refine (unless_yes _ _).mono ?_; rintro e w' ⟨rfl, rfl⟩)
            | (go_at_call 124; refine (there_any _ _ _ _ (by omega) (by omega) (by omega) (by omega) (by omega) (by omega)).mono ?_; rintro e w1 ⟨rfl, hb1⟩; rw [hv]; obtain ⟨hc, hf⟩ := bcell hb1; have hz := hb1.size))
          have i0 : (w1.cell? ⟨w.heap.size, 0, none⟩).isSome = true := by rw [hc _ _ (by simp; omega)]; simp [go_sem]
          have i1 : (w1.cell? ⟨w.heap.size, 1, none⟩).isSome = true := by rw [hc _ _ (by simp; omega)]; simp [go_sem]
          have i2 : (w1.cell? ⟨w.heap.size, 2, none⟩).isSome = true := by rw [hc _ _ (by simp; omega)]; simp [go_sem]
          exact bodyPost_ret (v := .agg #[.int .i64 y, .int .i64 m, .int .i64 d]) (by simp [results, Tryz.results69, go_sem, i0, i1, i2]) rfl
            ⟨by rw [dayE_yes ⟨ya, yb, hv⟩]; rfl, (((hbw.trans (hb1.mono hbw.size)).setCell (Nat.le_refl _) _).setCell (Nat.le_refl _) _).setCell (Nat.le_refl _) _⟩
end Go.Proofs.YthpndgcaoeokeaaGreatDoor
namespace Go.Proofs.YthpndgcaoeokeaaGreatDoor
open Go.RowKit Go.Sort

set_option maxRecDepth 100000 in
set_option maxHeartbeats 4000000 in
theorem readDay_bad1 (t : ByteArray) (w : World) (h8 : t.size = 8) (d1 : allDig (t.extract 0 4) = false) :
    Calls Tryz.prog 69 #[.string t] w fun E w' => E = .panicked (rsn 1) ∧ Below w.heap.size w w' := by
  have z1 : (4 : Int) ≤ t.size := by omega
  have z2 : (6 : Int) ≤ t.size := by omega
  have z3 : (8 : Int) ≤ t.size := by omega
  have z4 : (t.size : Int) ≤ 8 := by omega
  have s1 : (t.extract 0 4).size ≤ 7 := by simp [ByteArray.size_extract]; omega
  have c1 := fun W => words_digits_no (t.extract 0 4) 1 W s1 d1
  have C1 := hide c1
  have H8 := hide h8
  clear h8 c1 d1 s1
  go_enter Tryz.func69, Tryz.ntmps69
  go_wp2
  refine wp_region_any (by kernel_rfl) ?_
  change wpAny _ _ _ _ _ _ _ (World.drew _)
  refine wpAny_take (i := 0) (v := ?_) rfl (by kernel_rfl) (by kernel_rfl) (by kernel_rfl) (fun _ _ _ h => h) (Or.inl ⟨by rfl, ?_⟩) ?_
  rotate_left 1
  · intro w; go_simp <;> with_reducible rfl
  refine wpAny_take (i := 1) (v := ?_) rfl (by kernel_rfl) (by kernel_rfl) (by kernel_rfl) (fun _ _ _ h => h) (Or.inl ⟨by rfl, ?_⟩) ?_
  rotate_left 1
  · intro w; go_simp <;> with_reducible rfl
  refine wpAny_take (i := 3) (v := ?_) rfl (by kernel_rfl) (by kernel_rfl) (by kernel_rfl) (fun _ _ _ h => h) (Or.inl ⟨by rfl, ?_⟩) ?_
  rotate_left 1
  · intro w; go_simp <;> with_reducible rfl
  refine wpAny_take (i := 4) (v := ?_) rfl (by kernel_rfl) (by kernel_rfl) (by kernel_rfl) (fun _ _ _ h => h) (Or.inl ⟨by rfl, ?_⟩) ?_
  rotate_left 1
  · intro w; go_simp <;> with_reducible rfl
  refine wpAny_take (i := 6) (v := ?_) rfl (by kernel_rfl) (by kernel_rfl) (by kernel_rfl) (fun _ _ _ h => h) (Or.inl ⟨by rfl, ?_⟩) ?_
  rotate_left 1
  · intro w; go_simp <;> with_reducible rfl
  refine wpAny_take (i := 7) (v := ?_) rfl (by kernel_rfl) (by kernel_rfl) (by kernel_rfl) (fun _ _ _ h => h) (Or.inl ⟨by rfl, ?_⟩) ?_
  rotate_left 1
  · intro w; go_simp <;> with_reducible rfl
  refine wpAny_ready (rs := [2, 10]) (by kernel_rfl) (by simp) ?_
  refine AllReady.cons rfl (fun K hK => ?_) (AllReady.cons rfl (fun K hK => ?_) AllReady.nil)
  · go_simp
    go_wp2_with (go_at_call 123; refine (C1.out _).mono ?_; rintro e w' ⟨rfl, rfl⟩)
    exact ⟨rfl, rfl, ((Below.refl _ _).alloc (Nat.le_refl _) _).drew⟩
  · go_simp
    refine hK _ _ ?_
    clear hK K
    refine wpAny_ready (rs := [2]) (by kernel_rfl) (by simp) ?_
    refine AllReady.cons rfl (fun K hK => ?_) AllReady.nil
    · go_simp
      go_wp2_with (go_at_call 123; refine (C1.out _).mono ?_; rintro e w' ⟨rfl, rfl⟩)
      exact ⟨rfl, rfl, (((Below.refl _ _).alloc (Nat.le_refl _) _).alloc (by simp) _).drew⟩

set_option maxRecDepth 100000 in
set_option maxHeartbeats 4000000 in
theorem readDay_bad2 (t : ByteArray) (w : World) (h8 : t.size = 8) (d1 : allDig (t.extract 0 4) = true) (d2 : allDig (t.extract 4 6) = false) :
    Calls Tryz.prog 69 #[.string t] w fun E w' => E = .panicked (rsn 1) ∧ Below w.heap.size w w' := by
  have z1 : (4 : Int) ≤ t.size := by omega
  have z2 : (6 : Int) ≤ t.size := by omega
  have z3 : (8 : Int) ≤ t.size := by omega
  have z4 : (t.size : Int) ≤ 8 := by omega
  have s1 : (t.extract 0 4).size ≤ 7 := by simp [ByteArray.size_extract]; omega
  have c1 := fun W => words_digits_yes (t.extract 0 4) 1 W s1 d1
  have C1 := hide c1
  have s2 : (t.extract 4 6).size ≤ 7 := by simp [ByteArray.size_extract]; omega
  have c2 := fun W => words_digits_no (t.extract 4 6) 1 W s2 d2
  have C2 := hide c2
  have H8 := hide h8
  clear h8 c1 d1 s1 c2 d2 s2
  go_enter Tryz.func69, Tryz.ntmps69
  go_wp2
  refine wp_region_any (by kernel_rfl) ?_
  change wpAny _ _ _ _ _ _ _ (World.drew _)
  refine wpAny_take (i := 0) (v := ?_) rfl (by kernel_rfl) (by kernel_rfl) (by kernel_rfl) (fun _ _ _ h => h) (Or.inl ⟨by rfl, ?_⟩) ?_
  rotate_left 1
  · intro w; go_simp <;> with_reducible rfl
  refine wpAny_take (i := 1) (v := ?_) rfl (by kernel_rfl) (by kernel_rfl) (by kernel_rfl) (fun _ _ _ h => h) (Or.inl ⟨by rfl, ?_⟩) ?_
  rotate_left 1
  · intro w; go_simp <;> with_reducible rfl
  refine wpAny_take (i := 3) (v := ?_) rfl (by kernel_rfl) (by kernel_rfl) (by kernel_rfl) (fun _ _ _ h => h) (Or.inl ⟨by rfl, ?_⟩) ?_
  rotate_left 1
  · intro w; go_simp <;> with_reducible rfl
  refine wpAny_take (i := 4) (v := ?_) rfl (by kernel_rfl) (by kernel_rfl) (by kernel_rfl) (fun _ _ _ h => h) (Or.inl ⟨by rfl, ?_⟩) ?_
  rotate_left 1
  · intro w; go_simp <;> with_reducible rfl
  refine wpAny_take (i := 6) (v := ?_) rfl (by kernel_rfl) (by kernel_rfl) (by kernel_rfl) (fun _ _ _ h => h) (Or.inl ⟨by rfl, ?_⟩) ?_
  rotate_left 1
  · intro w; go_simp <;> with_reducible rfl
  refine wpAny_take (i := 7) (v := ?_) rfl (by kernel_rfl) (by kernel_rfl) (by kernel_rfl) (fun _ _ _ h => h) (Or.inl ⟨by rfl, ?_⟩) ?_
  rotate_left 1
  · intro w; go_simp <;> with_reducible rfl
  refine wpAny_ready (rs := [2, 10]) (by kernel_rfl) (by simp) ?_
  refine AllReady.cons rfl (fun K hK => ?_) (AllReady.cons rfl (fun K hK => ?_) AllReady.nil)
  · go_simp
    go_wp2_with (go_at_call 123; refine (C1.out _).mono ?_; rintro e w' ⟨rfl, rfl⟩)
    try (refine hK _ _ ?_; clear hK K)
    refine wpAny_ready (rs := [5, 10]) (by kernel_rfl) (by simp) ?_
    refine AllReady.cons rfl (fun K hK => ?_) (AllReady.cons rfl (fun K hK => ?_) AllReady.nil)
    · go_simp
      go_wp2_with (go_at_call 123; refine (C2.out _).mono ?_; rintro e w' ⟨rfl, rfl⟩)
      exact ⟨rfl, rfl, ((Below.refl _ _).alloc (Nat.le_refl _) _).drew⟩
    · go_simp
      refine hK _ _ ?_
      clear hK K
      refine wpAny_ready (rs := [5]) (by kernel_rfl) (by simp) ?_
      refine AllReady.cons rfl (fun K hK => ?_) AllReady.nil
      · go_simp
        go_wp2_with (go_at_call 123; refine (C2.out _).mono ?_; rintro e w' ⟨rfl, rfl⟩)
        exact ⟨rfl, rfl, (((Below.refl _ _).alloc (Nat.le_refl _) _).alloc (by simp) _).drew⟩
  · go_simp
    refine hK _ _ ?_
    clear hK K
    refine wpAny_ready (rs := [2]) (by kernel_rfl) (by simp) ?_
    refine AllReady.cons rfl (fun K hK => ?_) AllReady.nil
    · go_simp
      go_wp2_with (go_at_call 123; refine (C1.out _).mono ?_; rintro e w' ⟨rfl, rfl⟩)
      try (refine hK _ _ ?_; clear hK K)
      refine wpAny_ready (rs := [5]) (by kernel_rfl) (by simp) ?_
      refine AllReady.cons rfl (fun K hK => ?_) AllReady.nil
      · go_simp
        go_wp2_with (go_at_call 123; refine (C2.out _).mono ?_; rintro e w' ⟨rfl, rfl⟩)
        exact ⟨rfl, rfl, (((Below.refl _ _).alloc (Nat.le_refl _) _).alloc (by simp) _).drew⟩

set_option maxRecDepth 100000 in
set_option maxHeartbeats 4000000 in
theorem readDay_bad3 (t : ByteArray) (w : World) (h8 : t.size = 8) (d1 : allDig (t.extract 0 4) = true) (d2 : allDig (t.extract 4 6) = true) (d3 : allDig (t.extract 6 t.size) = false) :
    Calls Tryz.prog 69 #[.string t] w fun E w' => E = .panicked (rsn 1) ∧ Below w.heap.size w w' := by
  have z1 : (4 : Int) ≤ t.size := by omega
  have z2 : (6 : Int) ≤ t.size := by omega
  have z3 : (8 : Int) ≤ t.size := by omega
  have z4 : (t.size : Int) ≤ 8 := by omega
  have s1 : (t.extract 0 4).size ≤ 7 := by simp [ByteArray.size_extract]; omega
  have c1 := fun W => words_digits_yes (t.extract 0 4) 1 W s1 d1
  have C1 := hide c1
  have s2 : (t.extract 4 6).size ≤ 7 := by simp [ByteArray.size_extract]; omega
  have c2 := fun W => words_digits_yes (t.extract 4 6) 1 W s2 d2
  have C2 := hide c2
  have s3 : (t.extract 6 t.size).size ≤ 7 := by simp [ByteArray.size_extract]; omega
  have c3 := fun W => words_digits_no (t.extract 6 t.size) 1 W s3 d3
  have C3 := hide c3
  have H8 := hide h8
  clear h8 c1 d1 s1 c2 d2 s2 c3 d3 s3
  go_enter Tryz.func69, Tryz.ntmps69
  go_wp2
  refine wp_region_any (by kernel_rfl) ?_
  change wpAny _ _ _ _ _ _ _ (World.drew _)
  refine wpAny_take (i := 0) (v := ?_) rfl (by kernel_rfl) (by kernel_rfl) (by kernel_rfl) (fun _ _ _ h => h) (Or.inl ⟨by rfl, ?_⟩) ?_
  rotate_left 1
  · intro w; go_simp <;> with_reducible rfl
  refine wpAny_take (i := 1) (v := ?_) rfl (by kernel_rfl) (by kernel_rfl) (by kernel_rfl) (fun _ _ _ h => h) (Or.inl ⟨by rfl, ?_⟩) ?_
  rotate_left 1
  · intro w; go_simp <;> with_reducible rfl
  refine wpAny_take (i := 3) (v := ?_) rfl (by kernel_rfl) (by kernel_rfl) (by kernel_rfl) (fun _ _ _ h => h) (Or.inl ⟨by rfl, ?_⟩) ?_
  rotate_left 1
  · intro w; go_simp <;> with_reducible rfl
  refine wpAny_take (i := 4) (v := ?_) rfl (by kernel_rfl) (by kernel_rfl) (by kernel_rfl) (fun _ _ _ h => h) (Or.inl ⟨by rfl, ?_⟩) ?_
  rotate_left 1
  · intro w; go_simp <;> with_reducible rfl
  refine wpAny_take (i := 6) (v := ?_) rfl (by kernel_rfl) (by kernel_rfl) (by kernel_rfl) (fun _ _ _ h => h) (Or.inl ⟨by rfl, ?_⟩) ?_
  rotate_left 1
  · intro w; go_simp <;> with_reducible rfl
  refine wpAny_take (i := 7) (v := ?_) rfl (by kernel_rfl) (by kernel_rfl) (by kernel_rfl) (fun _ _ _ h => h) (Or.inl ⟨by rfl, ?_⟩) ?_
  rotate_left 1
  · intro w; go_simp <;> with_reducible rfl
  refine wpAny_ready (rs := [2, 10]) (by kernel_rfl) (by simp) ?_
  refine AllReady.cons rfl (fun K hK => ?_) (AllReady.cons rfl (fun K hK => ?_) AllReady.nil)
  · go_simp
    go_wp2_with (go_at_call 123; refine (C1.out _).mono ?_; rintro e w' ⟨rfl, rfl⟩)
    try (refine hK _ _ ?_; clear hK K)
    refine wpAny_ready (rs := [5, 10]) (by kernel_rfl) (by simp) ?_
    refine AllReady.cons rfl (fun K hK => ?_) (AllReady.cons rfl (fun K hK => ?_) AllReady.nil)
    · go_simp
      go_wp2_with (go_at_call 123; refine (C2.out _).mono ?_; rintro e w' ⟨rfl, rfl⟩)
      try (refine hK _ _ ?_; clear hK K)
      refine wpAny_ready (rs := [8, 10]) (by kernel_rfl) (by simp) ?_
      refine AllReady.cons rfl (fun K hK => ?_) (AllReady.cons rfl (fun K hK => ?_) AllReady.nil)
      · go_simp
        go_wp2_with (go_at_call 123; refine (C3.out _).mono ?_; rintro e w' ⟨rfl, rfl⟩)
        exact ⟨rfl, rfl, ((Below.refl _ _).alloc (Nat.le_refl _) _).drew⟩
      · go_simp
        refine hK _ _ ?_
        clear hK K
        refine wpAny_ready (rs := [8]) (by kernel_rfl) (by simp) ?_
        refine AllReady.cons rfl (fun K hK => ?_) AllReady.nil
        · go_simp
          go_wp2_with (go_at_call 123; refine (C3.out _).mono ?_; rintro e w' ⟨rfl, rfl⟩)
          exact ⟨rfl, rfl, (((Below.refl _ _).alloc (Nat.le_refl _) _).alloc (by simp) _).drew⟩
    · go_simp
      refine hK _ _ ?_
      clear hK K
      refine wpAny_ready (rs := [5]) (by kernel_rfl) (by simp) ?_
      refine AllReady.cons rfl (fun K hK => ?_) AllReady.nil
      · go_simp
        go_wp2_with (go_at_call 123; refine (C2.out _).mono ?_; rintro e w' ⟨rfl, rfl⟩)
        try (refine hK _ _ ?_; clear hK K)
        refine wpAny_ready (rs := [8]) (by kernel_rfl) (by simp) ?_
        refine AllReady.cons rfl (fun K hK => ?_) AllReady.nil
        · go_simp
          go_wp2_with (go_at_call 123; refine (C3.out _).mono ?_; rintro e w' ⟨rfl, rfl⟩)
          exact ⟨rfl, rfl, (((Below.refl _ _).alloc (Nat.le_refl _) _).alloc (by simp) _).drew⟩
  · go_simp
    refine hK _ _ ?_
    clear hK K
    refine wpAny_ready (rs := [2]) (by kernel_rfl) (by simp) ?_
    refine AllReady.cons rfl (fun K hK => ?_) AllReady.nil
    · go_simp
      go_wp2_with (go_at_call 123; refine (C1.out _).mono ?_; rintro e w' ⟨rfl, rfl⟩)
      try (refine hK _ _ ?_; clear hK K)
      refine wpAny_ready (rs := [5]) (by kernel_rfl) (by simp) ?_
      refine AllReady.cons rfl (fun K hK => ?_) AllReady.nil
      · go_simp
        go_wp2_with (go_at_call 123; refine (C2.out _).mono ?_; rintro e w' ⟨rfl, rfl⟩)
        try (refine hK _ _ ?_; clear hK K)
        refine wpAny_ready (rs := [8]) (by kernel_rfl) (by simp) ?_
        refine AllReady.cons rfl (fun K hK => ?_) AllReady.nil
        · go_simp
          go_wp2_with (go_at_call 123; refine (C3.out _).mono ?_; rintro e w' ⟨rfl, rfl⟩)
          exact ⟨rfl, rfl, (((Below.refl _ _).alloc (Nat.le_refl _) _).alloc (by simp) _).drew⟩
end Go.Proofs.YthpndgcaoeokeaaGreatDoor
namespace Go.Proofs.YthpndgcaoeokeaaGreatDoor
open Go.RowKit Go.Sort

theorem readDay_any (t : ByteArray) (w : World) (h8 : t.size = 8) :
    Calls Tryz.prog 69 #[.string t] w fun E w' => E = dayE (digs (cut t 0 4)) (digs (cut t 4 2)) (digs (cut t 6 2)) ∧ Below w.heap.size w w' := by
  have a1 : allDig (t.extract 0 4) = (cut t 0 4).all dig := allDig_cut t 0 4
  have a2 : allDig (t.extract 4 6) = (cut t 4 2).all dig := allDig_cut t 4 6
  have a3 : allDig (t.extract 6 t.size) = (cut t 6 2).all dig := by rw [allDig_cut, h8]
  have no : ∀ {y m d : Int}, (y = -1 ∨ m = -1 ∨ d = -1) → dayE y m d = .panicked (rsn 1) := by
    intro y m d h
    refine dayE_no ?_
    rintro ⟨q1, q2, q3⟩
    obtain ⟨q4, q5, q6, q7⟩ := (validB_iff y m d).1 q3
    omega
  cases d1 : allDig (t.extract 0 4)
  · rw [no (.inl (digs_no (by rw [← a1]; exact d1)))]
    exact readDay_bad1 t w h8 d1
  cases d2 : allDig (t.extract 4 6)
  · rw [no (.inr (.inl (digs_no (by rw [← a2]; exact d2))))]
    exact readDay_bad2 t w h8 d1 d2
  cases d3 : allDig (t.extract 6 t.size)
  · rw [no (.inr (.inr (digs_no (by rw [← a3]; exact d3))))]
    exact readDay_bad3 t w h8 d1 d2 d3
  have b1 := digs_yes (l := cut t 0 4) (by rw [← a1]; exact d1)
  have b2 := digs_yes (l := cut t 4 2) (by rw [← a2]; exact d2)
  have b3 := digs_yes (l := cut t 6 2) (by rw [← a3]; exact d3)
  have r1 := dval_le (cut t 0 4) 4 (by rw [cut_length t 0 4 (by omega)]; omega) (by rw [← a1]; exact d1)
  have r2 := dval_le (cut t 4 2) 2 (by rw [cut_length t 4 2 (by omega)]; omega) (by rw [← a2]; exact d2)
  have r3 := dval_le (cut t 6 2) 2 (by rw [cut_length t 6 2 (by omega)]; omega) (by rw [← a3]; exact d3)
  rw [b1, b2, b3]
  exact readDay_digits t w _ _ _ h8 d1 d2 d3 (by rw [extract_cut]) (by rw [extract_cut]) (by rw [extract_cut, h8]) r1.1 (by omega) r2.1 (by omega) r3.1 (by omega)

/-- how the reading of a clock's number ends -/
def clockE (n last : Int) : Ending := if 0 ≤ n ∧ n ≤ last then .returned (.int .i64 n) else .panicked (rsn 1)
theorem clockE_yes {n last : Int} (h : 0 ≤ n ∧ n ≤ last) : clockE n last = .returned (.int .i64 n) := by unfold clockE; rw [if_pos h]
theorem clockE_no {n last : Int} (h : ¬ (0 ≤ n ∧ n ≤ last)) : clockE n last = .panicked (rsn 1) := by unfold clockE; rw [if_neg h]

set_option maxHeartbeats 1000000 in
theorem readClock_any (t : ByteArray) (last : Int) (w : World) (h2 : t.size = 2) :
    Calls Tryz.prog 70 #[.string t, .int .i64 last] w fun E w' => E = clockE (digs t.data.toList) last ∧ w = w' := by
  cases hd : allDig t
  case false =>
    rw [digs_no hd, clockE_no (by omega)]
    have c := words_digits_no t 1 w (by omega) hd
    have C := hide c
    clear c hd
    go_enter Tryz.func70, Tryz.ntmps70
    go_wp2_with (go_at_call 123; refine (C.out).mono ?_; rintro e w' ⟨rfl, rfl⟩)
    exact ⟨rfl, rfl, rfl⟩
  case true =>
    have hl : t.data.toList.length = 2 := by rw [Array.length_toList]; exact h2
    have hb := dval_le t.data.toList 2 (by omega) hd
    rw [digs_yes hd]
    have c := words_digits_yes t 1 w (by omega) hd
    generalize dval t.data.toList = n at *
    have C := hide c
    clear c hd hl
    by_cases hn : n ≤ last
    case pos =>
      rw [clockE_yes ⟨hb.1, hn⟩]
      go_enter Tryz.func70, Tryz.ntmps70
      go_wp2_with (first
        | (go_at_call 123; refine (C.out).mono ?_; rintro e w' ⟨rfl, rfl⟩)
        | (go_at_call_of 65 (Value.bool true); refine (unless_yes _ _).mono ?_; rintro e w' ⟨rfl, rfl⟩))
      go_ret
      exact ⟨rfl, rfl⟩
    case neg =>
      rw [clockE_no (by omega)]
      have hn' : decide (n ≤ last) = false := by simpa using hn
      go_enter Tryz.func70, Tryz.ntmps70
      go_wp2_with (first
        | (go_at_call 123; refine (C.out).mono ?_; rintro e w' ⟨rfl, rfl⟩)
        | (go_at_call_of 65 (Value.bool false); refine (unless_no _ _).mono ?_; rintro e w' ⟨rfl, rfl⟩))
      exact ⟨rfl, rfl, rfl⟩
end Go.Proofs.YthpndgcaoeokeaaGreatDoor
namespace Go.Proofs.YthpndgcaoeokeaaGreatDoor
open Go.RowKit Go.Sort

theorem wrap_ok {x : Int} (h0 : -9223372036854775808 ≤ x) (h1 : x ≤ 9223372036854775807) : IntKind.i64.wrap x = x := by
  rw [IntKind.wrap_i64]; omega
theorem num_lim (y m d : Int) (h0 : 1 ≤ y) (h1 : y ≤ 10000) (h2 : 0 ≤ m) (h3 : m ≤ 100) (h4 : 0 ≤ d) (h5 : d ≤ 100) : -1000000000 ≤ Cal.num y m d ∧ Cal.num y m d ≤ 1000000000 := by
  unfold Cal.num
  by_cases hm : m - 3 < 0
  · have t1 := ty_bd (y - 1) (by omega) (by omega)
    have t2 := tm_bd (m - 3 + 12) (by omega) (by omega)
    rw [if_pos hm]; omega
  · have t1 := ty_bd y (by omega) (by omega)
    have t2 := tm_bd (m - 3) (by omega) (by omega)
    rw [if_neg hm]; omega

set_option maxHeartbeats 1000000 in
theorem dayBegin_any (y m d : Int) (w : World) (h0 : 1 ≤ y) (h1 : y ≤ 10000) (h2 : 0 ≤ m) (h3 : m ≤ 100) (h4 : 0 ≤ d) (h5 : d ≤ 100) :
    Calls Tryz.prog 64 #[.agg #[.int .i64 y, .int .i64 m, .int .i64 d]] w fun e w' => e = .returned (.int .i64 (Cal.num y m d * 86400)) ∧ Below w.heap.size w w' := by
  have hl := num_lim y m d h0 h1 h2 h3 h4 h5
  go_enter Tryz.func64, Tryz.ntmps64
  go_wp2_with (go_at_call 120; refine (dayNumber_any _ _ _ _ (by omega) (by omega) (by omega) (by omega) (by omega) (by omega)).mono ?_; rintro e w1 ⟨rfl, hb⟩)
  go_ret
  exact ⟨rfl, ((Below.refl _ _).alloc (Nat.le_refl _) _).trans (hb.mono (by simp))⟩

set_option maxHeartbeats 1000000 in
theorem ofTime_any (n : Int) (w : World) (h0 : 0 ≤ n) (h1 : n ≤ 7258118400) :
    Calls Tryz.prog 66 #[.int .i64 n] w fun e w' => e = .returned (dayA (Cal.ofY (n / 86400)) (Cal.ofM (n / 86400)) (Cal.ofD (n / 86400))) ∧ Below w.heap.size w w' := by
  have hn : ∀ o, (w.alloc (.cells #[.int .i64 0, .int .i64 0, .int .i64 0] 106)).frozen? ⟨w.heap.size, o, none⟩ = false := fun o => by simp [go_sem]
  go_enter Tryz.func66, Tryz.ntmps66
  go_wp2_with (go_at_call 121; refine (daysOf_any _ _ (by omega) (by omega)).mono ?_; rintro e w2 ⟨rfl, hb2⟩; unfold dayA; have c0 : w2.cell? ⟨w.heap.size, 0, none⟩ = some (.int .i64 0) := (by rw [hb2.cell (p := ⟨w.heap.size, 0, none⟩) (by simp)]; simp [go_sem]); have c1 : w2.cell? ⟨w.heap.size, 1, none⟩ = some (.int .i64 0) := (by rw [hb2.cell (p := ⟨w.heap.size, 1, none⟩) (by simp)]; simp [go_sem]); have c2 : w2.cell? ⟨w.heap.size, 2, none⟩ = some (.int .i64 0) := (by rw [hb2.cell (p := ⟨w.heap.size, 2, none⟩) (by simp)]; simp [go_sem]); have f0 : w2.frozen? ⟨w.heap.size, 0, none⟩ = false := ((bcell hb2).2 w.heap.size 0 (by simp)).trans (hn 0); have f1 : w2.frozen? ⟨w.heap.size, 1, none⟩ = false := ((bcell hb2).2 w.heap.size 1 (by simp)).trans (hn 1); have f2 : w2.frozen? ⟨w.heap.size, 2, none⟩ = false := ((bcell hb2).2 w.heap.size 2 (by simp)).trans (hn 2))
  have hbw : Below w.heap.size w w2 := ((Below.refl _ _).alloc (Nat.le_refl _) _).trans (hb2.mono (by simp))
  exact bodyPost_ret (v := dayA (Cal.ofY (n / 86400)) (Cal.ofM (n / 86400)) (Cal.ofD (n / 86400))) (by simp [results, Tryz.results66, go_sem, c0, c1, c2, dayA]) rfl ⟨rfl, ((hbw.setCell (Nat.le_refl _) _).setCell (Nat.le_refl _) _).setCell (Nat.le_refl _) _⟩
end Go.Proofs.YthpndgcaoeokeaaGreatDoor
