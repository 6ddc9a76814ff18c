/- The program's days by their numbers: Number, Plus, To, Next, Weekday, Begin, OfTime. The program's periods by the numbers of their days: Alone, Week, Month, Year. Whether a day fits a rule (the program's): BYMONTH, BYMONTHDAY. Whether a day fits a rule (the program's): BYDAY, and all. -/
import Derived.Test.YthpndgcaoeokeaaGreatDoorCm14
namespace Go.Proofs.YthpndgcaoeokeaaGreatDoor
open Go.RowKit Go.Sort

/-- the day with this number, as a value -/
def dnV (n : Int) : Value := dayA (Cal.ofY n) (Cal.ofM n) (Cal.ofD n)

theorem yr_near (l : Int) : Cal.yr l = l * 400 / 146097 + 1 ∨ Cal.yr l = l * 400 / 146097 := by
  unfold Cal.yr; split
  · exact .inl rfl
  · exact .inr rfl
theorem rg_bd (n : Int) (h0 : -700000 ≤ n) (h1 : n ≤ 900000) : 1 ≤ Cal.ofY n ∧ Cal.ofY n ≤ 9000 ∧ 1 ≤ Cal.ofM n ∧ Cal.ofM n ≤ 12 ∧ 1 ≤ Cal.ofD n ∧ Cal.ofD n ≤ 31 := by
  obtain ⟨a, b, c, d⟩ := Cal.of_valid n (by omega)
  have hm := Cal.md_bd (Cal.ofY n) (Cal.ofM n)
  have hy : 1 ≤ Cal.ofY n ∧ Cal.ofY n ≤ 9000 := by
    unfold Cal.ofY
    have := yr_near (n + 719468)
    split <;> omega
  exact ⟨hy.1, hy.2, a, b, c, by omega⟩
/-- a day that is there is the day with its number -/
theorem dn_num {y m d : Int} (hy : 1 ≤ y) (h : Cal.Valid y m d) : dnV (Cal.num y m d) = dayA y m d := by
  have := (Cal.there_iff hy (by have := h.1; omega) (by have := h.2.2.1; omega)).2 h
  unfold dnV
  rw [this.1, this.2.1, this.2.2]
theorem dn_next (n : Int) (h0 : -700000 ≤ n) (h1 : n ≤ 900000) (h : Cal.ofD n < 28) : dayA (Cal.ofY n) (Cal.ofM n) (Cal.ofD n + 1) = dnV (n + 1) := by
  have hr := rg_bd n h0 h1
  have hm := Cal.md_bd (Cal.ofY n) (Cal.ofM n)
  have hv : Cal.Valid (Cal.ofY n) (Cal.ofM n) (Cal.ofD n + 1) := ⟨by omega, by omega, by omega, by omega⟩
  rw [← dn_num (by omega) hv]
  have e1 := Cal.num_day (Cal.ofY n) (Cal.ofM n) (Cal.ofD n + 1)
  have e2 := Cal.num_day (Cal.ofY n) (Cal.ofM n) (Cal.ofD n)
  have e3 := Cal.of_num n (by omega)
  rw [show Cal.num (Cal.ofY n) (Cal.ofM n) (Cal.ofD n + 1) = n + 1 from by omega]
theorem dn_inj {a b : Int} (ha : -700000 ≤ a) (hb : -700000 ≤ b) (h : dnV a = dnV b) : a = b := by
  have e1 := Cal.of_num a (by omega)
  have e2 := Cal.of_num b (by omega)
  unfold dnV dayA at h
  simp only [Value.agg.injEq, Array.mk.injEq, List.cons.injEq, Value.int.injEq, and_true, true_and] at h
  rw [← e1, ← e2, h.1, h.2.1, h.2.2]

theorem cells3 {w : World} {g : Nat} {a b c : Value} {t : TypeId} (h : RowAt w g [a, b, c] t) :
    w.cell? ⟨g, 0, none⟩ = some a ∧ w.cell? ⟨g, 1, none⟩ = some b ∧ w.cell? ⟨g, 2, none⟩ = some c ∧ w.frozen? ⟨g, 0, none⟩ = false ∧ w.frozen? ⟨g, 1, none⟩ = false ∧ w.frozen? ⟨g, 2, none⟩ = false :=
  ⟨h.cell rfl, h.cell rfl, h.cell rfl, h.free, h.free, h.free⟩

theorem number_n (n : Int) (w : World) (h0 : -700000 ≤ n) (h1 : n ≤ 900000) :
    Calls Tryz.prog 120 #[dnV n] w fun e w' => e = .returned (.int .i64 n) ∧ Below w.heap.size w w' := by
  have hr := rg_bd n h0 h1
  have e3 := Cal.of_num n (by omega)
  have := dayNumber_any (Cal.ofY n) (Cal.ofM n) (Cal.ofD n) w (by omega) (by omega) (by omega) (by omega) (by omega) (by omega)
  rw [e3] at this
  exact this
theorem begin_n (n : Int) (w : World) (h0 : -700000 ≤ n) (h1 : n ≤ 900000) :
    Calls Tryz.prog 64 #[dnV n] w fun e w' => e = .returned (.int .i64 (n * 86400)) ∧ Below w.heap.size w w' := by
  have hr := rg_bd n h0 h1
  have e3 := Cal.of_num n (by omega)
  have := dayBegin_any (Cal.ofY n) (Cal.ofM n) (Cal.ofD n) w (by omega) (by omega) (by omega) (by omega) (by omega) (by omega)
  rw [e3] at this
  exact this
theorem of_n (n : Int) (w : World) (h0 : -700000 ≤ n) (h1 : n ≤ 900000) :
    Calls Tryz.prog 121 #[.int .i64 n] w fun e w' => e = .returned (dnV n) ∧ Below w.heap.size w w' := daysOf_any n w (by omega) (by omega)
theorem ofTime_n (n : Int) (w : World) (h0 : 0 ≤ n) (h1 : n ≤ 7258118400) :
    Calls Tryz.prog 66 #[.int .i64 n] w fun e w' => e = .returned (dnV (n / 86400)) ∧ Below w.heap.size w w' := ofTime_any n w h0 h1

set_option maxHeartbeats 1000000 in
theorem weekday_n (n : Int) (w : World) (h0 : -700000 ≤ n) (h1 : n ≤ 900000) :
    Calls Tryz.prog 339 #[dnV n] w fun e w' => e = .returned (.int .i64 ((n + 719470) % 7)) ∧ Below w.heap.size w w' := by
  have hnum := number_n n
  unfold dnV dayA at hnum ⊢
  go_enter Tryz.func339, Tryz.ntmps339
  go_wp2_with (go_at_call 120; refine (hnum _ h0 h1).mono ?_; rintro e w1 ⟨rfl, hb⟩)
  go_ret
  have e : n + 719468 + 2 = n + 719470 := by omega
  rw [e]
  exact ⟨rfl, ((Below.refl _ _).alloc (Nat.le_refl _) _).trans (hb.mono (by simp))⟩

set_option maxHeartbeats 1000000 in
theorem plus_n (n c : Int) (w : World) (h0 : -700000 ≤ n) (h1 : n ≤ 900000) (k0 : -700000 ≤ n + c) (k1 : n + c ≤ 900000) :
    Calls Tryz.prog 351 #[dnV n, .int .i64 c] w fun e w' => e = .returned (dnV (n + c)) ∧ Below w.heap.size w w' := by
  have hnum := number_n n
  have hof := of_n (n + c)
  unfold dnV dayA at hnum hof ⊢
  go_enter Tryz.func351, Tryz.ntmps351
  go_wp2_with fail
  refine (hnum _ h0 h1).mono ?_
  rintro e w1 ⟨rfl, hb⟩
  have r1 := (RowAt.new (w.alloc (.cells #[.int .i64 (Cal.ofY n), .int .i64 (Cal.ofM n), .int .i64 (Cal.ofD n)] 106)) [.int .i64 0, .int .i64 0, .int .i64 0] 106).on hb
  have hbw : Below w.heap.size w w1 := (((Below.refl _ _).alloc (Nat.le_refl _) _).alloc (by simp) _).trans (hb.mono (by simp; omega))
  have hz : w.heap.size + 2 ≤ w1.heap.size := by have := hb.size; simpa using this
  clear hb
  simp only [World.size_alloc] at r1
  go_wp2_with fail
  refine (hof _ k0 k1).mono ?_
  rintro e w2 ⟨rfl, hb2⟩
  have r2 := r1.on hb2
  obtain ⟨c0, c1, c2, f0, f1, f2⟩ := cells3 r2
  go_wp2_with fail
  exact bodyPost_ret (v := .agg #[.int .i64 (Cal.ofY (n + c)), .int .i64 (Cal.ofM (n + c)), .int .i64 (Cal.ofD (n + c))]) (by simp [results, Tryz.results351, go_sem, c0, c1, c2]) rfl ⟨rfl, (((hbw.trans (hb2.mono hbw.size)).setCell (by simp) _).setCell (by simp) _).setCell (by simp) _⟩

set_option maxHeartbeats 1000000 in
theorem next_n (n : Int) (w : World) (h0 : -700000 ≤ n) (h1 : n ≤ 899999) :
    Calls Tryz.prog 359 #[dnV n] w fun e w' => e = .returned (dnV (n + 1)) ∧ Below w.heap.size w w' := by
  have hr := rg_bd n h0 (by omega)
  by_cases hd : Cal.ofD n < 28
  case pos =>
    rw [← dn_next n h0 (by omega) hd]
    unfold dnV dayA
    go_enter Tryz.func359, Tryz.ntmps359
    go_wp2_with fail
    exact bodyPost_ret (v := .agg #[.int .i64 (Cal.ofY n), .int .i64 (Cal.ofM n), .int .i64 (Cal.ofD n + 1)]) (by simp [results, Tryz.results359, go_sem]) rfl ⟨rfl, ((Below.refl _ _).alloc (Nat.le_refl _) _).alloc (by simp) _⟩
  case neg =>
    have hpl := plus_n n 1
    unfold dnV dayA at hpl ⊢
    go_enter Tryz.func359, Tryz.ntmps359
    go_wp2_with fail
    refine (hpl _ h0 (by omega) (by omega) (by omega)).mono ?_
    rintro e w1 ⟨rfl, hb⟩
    have r1 := (RowAt.new (w.alloc (.cells #[.int .i64 (Cal.ofY n), .int .i64 (Cal.ofM n), .int .i64 (Cal.ofD n)] 106)) [.int .i64 0, .int .i64 0, .int .i64 0] 106).on hb
    have hbw : Below w.heap.size w w1 := (((Below.refl _ _).alloc (Nat.le_refl _) _).alloc (by simp) _).trans (hb.mono (by simp; omega))
    clear hb
    simp only [World.size_alloc] at r1
    obtain ⟨c0, c1, c2, f0, f1, f2⟩ := cells3 r1
    go_wp2_with fail
    exact bodyPost_ret (v := .agg #[.int .i64 (Cal.ofY (n + 1)), .int .i64 (Cal.ofM (n + 1)), .int .i64 (Cal.ofD (n + 1))]) (by simp [results, Tryz.results359, go_sem, c0, c1, c2]) rfl ⟨rfl, ((hbw.setCell (by simp) _).setCell (by simp) _).setCell (by simp) _⟩

theorem number_in (W : World) (n : Int) (D : Nat) (os : Array Obj) (h0 : -700000 ≤ n) (h1 : n ≤ 900000) :
    Calls Tryz.prog 120 #[.agg #[.int .i64 (Cal.ofY n), .int .i64 (Cal.ofM n), .int .i64 (Cal.ofD n)]] (grow (redrawn W D) os) fun e w'' => e = .returned (.int .i64 n) ∧ ∃ p : Regrown, w'' = grow (redrawn W p.d) p.os :=
  Calls.regrown_of (number_n n _ h0 h1)

set_option maxRecDepth 100000 in
set_option maxHeartbeats 2000000 in
theorem to_n (a b : Int) (w : World) (h0 : -700000 ≤ a) (h1 : a ≤ 900000) (k0 : -700000 ≤ b) (k1 : b ≤ 900000) :
    Calls Tryz.prog 358 #[dnV a, dnV b] w fun e w' => e = .returned (.int .i64 (b - a)) ∧ Below w.heap.size w w' := by
  unfold dnV dayA
  go_enter Tryz.func358, Tryz.ntmps358
  go_wp2_with fail
  have hbw : Below w.heap.size w ((w.alloc (.cells #[.int .i64 (Cal.ofY a), .int .i64 (Cal.ofM a), .int .i64 (Cal.ofD a)] 106)).alloc (.cells #[.int .i64 (Cal.ofY b), .int .i64 (Cal.ofM b), .int .i64 (Cal.ofD b)] 106)) := ((Below.refl _ _).alloc (Nat.le_refl _) _).alloc (by simp) _
  have r0 : RowAt ((w.alloc (.cells #[.int .i64 (Cal.ofY a), .int .i64 (Cal.ofM a), .int .i64 (Cal.ofD a)] 106)).alloc (.cells #[.int .i64 (Cal.ofY b), .int .i64 (Cal.ofM b), .int .i64 (Cal.ofD b)] 106)) w.heap.size [.int .i64 (Cal.ofY a), .int .i64 (Cal.ofM a), .int .i64 (Cal.ofD a)] 106 := (RowAt.new w [.int .i64 (Cal.ofY a), .int .i64 (Cal.ofM a), .int .i64 (Cal.ofD a)] 106).on ((Below.refl _ _).alloc (Nat.le_refl _) _)
  have r1 : RowAt ((w.alloc (.cells #[.int .i64 (Cal.ofY a), .int .i64 (Cal.ofM a), .int .i64 (Cal.ofD a)] 106)).alloc (.cells #[.int .i64 (Cal.ofY b), .int .i64 (Cal.ofM b), .int .i64 (Cal.ofD b)] 106)) (w.heap.size + 1) [.int .i64 (Cal.ofY b), .int .i64 (Cal.ofM b), .int .i64 (Cal.ofD b)] 106 := by
    have := RowAt.new (w.alloc (.cells #[.int .i64 (Cal.ofY a), .int .i64 (Cal.ofM a), .int .i64 (Cal.ofD a)] 106)) [.int .i64 (Cal.ofY b), .int .i64 (Cal.ofM b), .int .i64 (Cal.ofD b)] 106
    simpa using this
  generalize (w.alloc (.cells #[.int .i64 (Cal.ofY a), .int .i64 (Cal.ofM a), .int .i64 (Cal.ofD a)] 106)).alloc (.cells #[.int .i64 (Cal.ofY b), .int .i64 (Cal.ofM b), .int .i64 (Cal.ofD b)] 106) = W at *
  obtain ⟨c0, c1, c2, _, _, _⟩ := cells3 r0
  obtain ⟨d0, d1, d2, _, _, _⟩ := cells3 r1
  have k0 := cell_regrown c0
  have k1 := cell_regrown c1
  have k2 := cell_regrown c2
  have l0 := cell_regrown d0
  have l1 := cell_regrown d1
  have l2 := cell_regrown d2
  clear c0 c1 c2 d0 d1 d2 r0 r1
  refine wp_region_quiet_below (by kernel_rfl) (by kernel_rfl) ?_
  repeat (go_big_quiet_step (exact number_in W _ _ _ (by assumption) (by assumption)))
  refine wpQuiet_nil ?_
  intro _ hw'
  obtain ⟨⟨dq, osq⟩, hw''⟩ := hw'
  subst hw''
  go_wp2_with fail
  go_ret
  exact ⟨rfl, hbw.trans ((below_regrown W dq osq).mono hbw.size)⟩
end Go.Proofs.YthpndgcaoeokeaaGreatDoor
namespace Go.Proofs.YthpndgcaoeokeaaGreatDoor
open Go.RowKit Go.Sort

/-- the days from the one with the number a on, ahead of the one with the number b, as a value -/
def spanV (a b : Int) : Value := .agg #[.int .i64 (Cal.ofY a), .int .i64 (Cal.ofM a), .int .i64 (Cal.ofD a), .int .i64 (Cal.ofY b), .int .i64 (Cal.ofM b), .int .i64 (Cal.ofD b)]
def spanC (a b : Int) : List Value := [.int .i64 (Cal.ofY a), .int .i64 (Cal.ofM a), .int .i64 (Cal.ofD a), .int .i64 (Cal.ofY b), .int .i64 (Cal.ofM b), .int .i64 (Cal.ofD b)]
def dnC (a : Int) : List Value := [.int .i64 (Cal.ofY a), .int .i64 (Cal.ofM a), .int .i64 (Cal.ofD a)]

theorem cells6 {w : World} {g : Nat} {a b c d e f : Value} {t : TypeId} (h : RowAt w g [a, b, c, d, e, f] t) :
    (w.cell? ⟨g, 0, none⟩ = some a ∧ w.cell? ⟨g, 1, none⟩ = some b ∧ w.cell? ⟨g, 2, none⟩ = some c ∧ w.cell? ⟨g, 3, none⟩ = some d ∧ w.cell? ⟨g, 4, none⟩ = some e ∧ w.cell? ⟨g, 5, none⟩ = some f) ∧
    (w.frozen? ⟨g, 0, none⟩ = false ∧ w.frozen? ⟨g, 1, none⟩ = false ∧ w.frozen? ⟨g, 2, none⟩ = false ∧ w.frozen? ⟨g, 3, none⟩ = false ∧ w.frozen? ⟨g, 4, none⟩ = false ∧ w.frozen? ⟨g, 5, none⟩ = false) :=
  ⟨⟨h.cell rfl, h.cell rfl, h.cell rfl, h.cell rfl, h.cell rfl, h.cell rfl⟩, h.free, h.free, h.free, h.free, h.free, h.free⟩

theorem zero6 (x : World) : Below x.heap.size x (x.alloc (.cells #[.int .i64 0, .int .i64 0, .int .i64 0, .int .i64 0, .int .i64 0, .int .i64 0] 370)) := (Below.refl _ _).alloc (Nat.le_refl _) _

set_option maxRecDepth 100000 in
set_option maxHeartbeats 4000000 in
theorem alone_n (n : Int) (w : World) (h0 : -700000 ≤ n) (h1 : n ≤ 899999) :
    Calls Tryz.prog 350 #[dnV n] w fun e w' => e = .returned (spanV n (n + 1)) ∧ Below w.heap.size w w' := by
  have hnx := next_n n
  unfold dnV dayA at hnx ⊢
  unfold spanV
  go_enter Tryz.func350, Tryz.ntmps350
  go_wp2_with fail
  have r0 := (RowAt.new w [.int .i64 (Cal.ofY n), .int .i64 (Cal.ofM n), .int .i64 (Cal.ofD n)] 106)
  have r1 := (RowAt.new (w.alloc (.cells #[.int .i64 (Cal.ofY n), .int .i64 (Cal.ofM n), .int .i64 (Cal.ofD n)] 106)) [.int .i64 0, .int .i64 0, .int .i64 0, .int .i64 0, .int .i64 0, .int .i64 0] 370)
  have r0' := r0.on ((Below.refl _ _).alloc (Nat.le_refl _) (.cells #[.int .i64 0, .int .i64 0, .int .i64 0, .int .i64 0, .int .i64 0, .int .i64 0] 370))
  have hbw : Below w.heap.size w ((w.alloc (.cells #[.int .i64 (Cal.ofY n), .int .i64 (Cal.ofM n), .int .i64 (Cal.ofD n)] 106)).alloc (.cells #[.int .i64 0, .int .i64 0, .int .i64 0, .int .i64 0, .int .i64 0, .int .i64 0] 370)) := ((Below.refl _ _).alloc (Nat.le_refl _) _).alloc (by simp) _
  clear r0
  simp only [World.size_alloc] at r1
  generalize (w.alloc (.cells #[.int .i64 (Cal.ofY n), .int .i64 (Cal.ofM n), .int .i64 (Cal.ofD n)] 106)).alloc (.cells #[.int .i64 0, .int .i64 0, .int .i64 0, .int .i64 0, .int .i64 0, .int .i64 0] 370) = W at *
  obtain ⟨c0, c1, c2, _, _, _⟩ := cells3 r0'
  go_region_with (go_at_call 359; refine (hnx _ h0 h1).mono ?_; rintro e w2 ⟨rfl, hb2⟩; have hb2' : Below W.heap.size W w2 := ⟨hb2.os, hb2.tape, hb2.output, hb2.size, hb2.block⟩; obtain ⟨q0, q1, q2, _, _, _⟩ := cells3 (r0'.on hb2'); obtain ⟨⟨z0, z1, z2, z3, z4, z5⟩, y0, y1, y2, y3, y4, y5⟩ := cells6 (r1.on hb2'))
  all_goals go_wp2_with fail
  all_goals
    have hbx := hbw.trans (hb2'.mono hbw.size)
    exact bodyPost_ret (v := .agg #[.int .i64 (Cal.ofY n), .int .i64 (Cal.ofM n), .int .i64 (Cal.ofD n), .int .i64 (Cal.ofY (n + 1)), .int .i64 (Cal.ofM (n + 1)), .int .i64 (Cal.ofD (n + 1))]) (by simp [results, Tryz.results350, go_sem, z0, z1, z2, z3, z4, z5]) rfl ⟨rfl, ((((((hbx.setCell (by simp) _).setCell (by simp) _).setCell (by simp) _).setCell (by simp) _).setCell (by simp) _).setCell (by simp) _)⟩

/-- how far into its week, which begins with the weekday s, a day lies -/
def wkIn (n s : Int) : Int := ((n + 719470) % 7 - s + 7) % 7
theorem wkIn_bd (n s : Int) : 0 ≤ wkIn n s ∧ wkIn n s ≤ 6 := by unfold wkIn; omega

set_option maxRecDepth 100000 in
set_option maxHeartbeats 4000000 in
theorem week_n (n s : Int) (w : World) (h0 : -699990 ≤ n) (h1 : n ≤ 899990) (s0 : 0 ≤ s) (s1 : s ≤ 6) :
    Calls Tryz.prog 352 #[dnV n, .int .i64 s] w fun e w' => e = .returned (spanV (n - wkIn n s) (n - wkIn n s + 7)) ∧ Below w.heap.size w w' := by
  have hwk := weekday_n n
  have hp1 := plus_n n (-(((n + 719470) % 7 - s) % 7))
  have hp2 := plus_n (n - wkIn n s) 7
  have hi := wkIn_bd n s
  rw [show n + -(((n + 719470) % 7 - s) % 7) = n - wkIn n s from by unfold wkIn; omega] at hp1
  generalize hf : n - wkIn n s = f at *
  have hf0 : -700000 ≤ f := by omega
  have hf1 : f + 7 ≤ 900000 := by omega
  have hw7 : 0 ≤ (n + 719470) % 7 ∧ (n + 719470) % 7 ≤ 6 := by omega
  have hi7 : 0 ≤ ((n + 719470) % 7 - s + 7) % 7 ∧ ((n + 719470) % 7 - s + 7) % 7 ≤ 6 := by omega
  generalize hk : (n + 719470) % 7 = k at *
  unfold dnV dayA at hwk hp1 hp2 ⊢
  unfold spanV
  go_enter Tryz.func352, Tryz.ntmps352
  go_wp2_with fail
  have rz : RowAt ((w.alloc (.cells #[.int .i64 (Cal.ofY n), .int .i64 (Cal.ofM n), .int .i64 (Cal.ofD n)] 106)).alloc (.cells #[.int .i64 0, .int .i64 0, .int .i64 0, .int .i64 0, .int .i64 0, .int .i64 0] 370)) w.heap.size [.int .i64 (Cal.ofY n), .int .i64 (Cal.ofM n), .int .i64 (Cal.ofD n)] 106 := (RowAt.new w [.int .i64 (Cal.ofY n), .int .i64 (Cal.ofM n), .int .i64 (Cal.ofD n)] 106).on ((Below.refl _ _).alloc (Nat.le_refl _) _)
  have r1 := (RowAt.new (w.alloc (.cells #[.int .i64 (Cal.ofY n), .int .i64 (Cal.ofM n), .int .i64 (Cal.ofD n)] 106)) [.int .i64 0, .int .i64 0, .int .i64 0, .int .i64 0, .int .i64 0, .int .i64 0] 370)
  have hbw : Below w.heap.size w ((w.alloc (.cells #[.int .i64 (Cal.ofY n), .int .i64 (Cal.ofM n), .int .i64 (Cal.ofD n)] 106)).alloc (.cells #[.int .i64 0, .int .i64 0, .int .i64 0, .int .i64 0, .int .i64 0, .int .i64 0] 370)) := ((Below.refl _ _).alloc (Nat.le_refl _) _).alloc (by simp) _
  simp only [World.size_alloc] at r1
  refine (hwk _ (by omega) (by omega)).mono ?_
  rintro e w1 ⟨rfl, hb1⟩
  replace rz := rz.on hb1
  replace r1 := r1.on hb1
  replace hbw := hbw.trans (hb1.mono hbw.size)
  have hz : w.heap.size + 2 ≤ w1.heap.size := by have := hb1.size; simpa using this
  clear hb1
  obtain ⟨c0, c1, c2, _, _, _⟩ := cells3 rz
  go_wp2_with fail
  refine (hp1 _ (by omega) (by omega) (by omega) (by omega)).mono ?_
  rintro e w2 ⟨rfl, hb2⟩
  replace r1 := r1.on hb2
  replace hbw := hbw.trans (hb2.mono hbw.size)
  replace hz : w.heap.size + 2 ≤ w2.heap.size := by have := hb2.size; omega
  clear hb2 c0 c1 c2 rz
  go_wp2_with fail
  have r2 := RowAt.new w2 [.int .i64 (Cal.ofY f), .int .i64 (Cal.ofM f), .int .i64 (Cal.ofD f)] 106
  replace r1 := r1.on ((Below.refl _ _).alloc (Nat.le_refl _) (.cells #[.int .i64 (Cal.ofY f), .int .i64 (Cal.ofM f), .int .i64 (Cal.ofD f)] 106))
  replace hbw := hbw.alloc hbw.size (.cells #[.int .i64 (Cal.ofY f), .int .i64 (Cal.ofM f), .int .i64 (Cal.ofD f)] 106)
  generalize (w2.alloc (.cells #[.int .i64 (Cal.ofY f), .int .i64 (Cal.ofM f), .int .i64 (Cal.ofD f)] 106)) = W at *
  obtain ⟨c0, c1, c2, _, _, _⟩ := cells3 r2
  go_region_with (go_at_call 351; refine (hp2 _ (by omega) (by omega) (by omega) (by omega)).mono ?_; rintro e w3 ⟨rfl, hb3⟩; have hb2' : Below W.heap.size W w3 := ⟨hb3.os, hb3.tape, hb3.output, hb3.size, hb3.block⟩; obtain ⟨q0, q1, q2, _, _, _⟩ := cells3 (r2.on hb2'); obtain ⟨⟨z0, z1, z2, z3, z4, z5⟩, y0, y1, y2, y3, y4, y5⟩ := cells6 (r1.on hb2'))
  all_goals go_wp2_with fail
  all_goals
    have hbx := hbw.trans (hb2'.mono hbw.size)
    exact bodyPost_ret (v := .agg #[.int .i64 (Cal.ofY f), .int .i64 (Cal.ofM f), .int .i64 (Cal.ofD f), .int .i64 (Cal.ofY (f + 7)), .int .i64 (Cal.ofM (f + 7)), .int .i64 (Cal.ofD (f + 7))]) (by simp [results, Tryz.results352, go_sem, z0, z1, z2, z3, z4, z5]) rfl ⟨rfl, ((((((hbx.setCell (by simp) _).setCell (by simp) _).setCell (by simp) _).setCell (by simp) _).setCell (by simp) _).setCell (by simp) _)⟩

/-- the first day of a month; behind the 12 those of the next years are counted on -/
def mBeg (y m : Int) : Int := Cal.num (y + (m - 1) / 12) ((m - 1) % 12 + 1) 1
theorem mBeg_day (y m : Int) (hy : 1 ≤ y) (hm : 1 ≤ m) : dnV (mBeg y m) = dayA (y + (m - 1) / 12) ((m - 1) % 12 + 1) 1 := by
  have hd := Cal.md_bd (y + (m - 1) / 12) ((m - 1) % 12 + 1)
  exact dn_num (by omega) ⟨by omega, by omega, by omega, by omega⟩
theorem yBeg_day (y : Int) (hy : 1 ≤ y) : dnV (Cal.num y 1 1) = dayA y 1 1 := by
  have hd := Cal.md_bd y 1
  exact dn_num (by omega) ⟨by omega, by omega, by omega, by omega⟩

set_option maxHeartbeats 4000000 in
theorem monthBegin_n (y m : Int) (w : World) (y0 : 1 ≤ y) (y1 : y ≤ 5000) (m0 : 1 ≤ m) (m1 : m ≤ 100000) :
    Calls Tryz.prog 360 #[.int .i64 y, .int .i64 m] w fun e w' => e = .returned (dnV (mBeg y m)) ∧ Below w.heap.size w w' := by
  rw [mBeg_day y m y0 m0]
  unfold dayA
  go_enter Tryz.func360, Tryz.ntmps360
  go_wp2_with fail
  exact bodyPost_ret (v := .agg #[.int .i64 (y + (m - 1) / 12), .int .i64 ((m - 1) % 12 + 1), .int .i64 1]) (by simp [results, Tryz.results360, go_sem]) rfl ⟨rfl, (Below.refl _ _).alloc (Nat.le_refl _) _⟩

set_option maxHeartbeats 4000000 in
theorem month_n (y m : Int) (w : World) (y0 : 1 ≤ y) (y1 : y ≤ 5000) (m0 : 1 ≤ m) (m1 : m ≤ 90000) :
    Calls Tryz.prog 353 #[.int .i64 y, .int .i64 m] w fun e w' => e = .returned (spanV (mBeg y m) (mBeg y (m + 1))) ∧ Below w.heap.size w w' := by
  have hb1 := fun w => monthBegin_n y m w y0 y1 m0 (by omega)
  have hb2 := fun w => monthBegin_n y (m + 1) w y0 y1 (by omega) (by omega)
  unfold dnV dayA at hb1 hb2
  unfold spanV
  generalize mBeg y m = a at *
  generalize mBeg y (m + 1) = b at *
  go_enter Tryz.func353, Tryz.ntmps353
  go_wp2_with fail
  have r1 := RowAt.new w [.int .i64 0, .int .i64 0, .int .i64 0, .int .i64 0, .int .i64 0, .int .i64 0] 370
  have hbw := zero6 w
  refine (hb1 _).mono ?_
  rintro e w1 ⟨rfl, hc1⟩
  replace r1 := r1.on hc1
  replace hbw := hbw.trans (hc1.mono hbw.size)
  clear hc1
  go_wp2_with fail
  refine (hb2 _).mono ?_
  rintro e w2 ⟨rfl, hc2⟩
  replace r1 := r1.on hc2
  replace hbw := hbw.trans (hc2.mono hbw.size)
  clear hc2
  obtain ⟨⟨z0, z1, z2, z3, z4, z5⟩, y0, y1, y2, y3, y4, y5⟩ := cells6 r1
  go_wp2_with fail
  exact bodyPost_ret (v := .agg #[.int .i64 (Cal.ofY a), .int .i64 (Cal.ofM a), .int .i64 (Cal.ofD a), .int .i64 (Cal.ofY b), .int .i64 (Cal.ofM b), .int .i64 (Cal.ofD b)]) (by simp [results, Tryz.results353, go_sem, z0, z1, z2, z3, z4, z5]) rfl ⟨rfl, ((((((hbw.setCell (by simp) _).setCell (by simp) _).setCell (by simp) _).setCell (by simp) _).setCell (by simp) _).setCell (by simp) _)⟩

set_option maxHeartbeats 4000000 in
theorem year_n (y : Int) (w : World) (y0 : 1 ≤ y) (y1 : y ≤ 5000) :
    Calls Tryz.prog 354 #[.int .i64 y] w fun e w' => e = .returned (spanV (Cal.num y 1 1) (Cal.num (y + 1) 1 1)) ∧ Below w.heap.size w w' := by
  have e1 := yBeg_day y y0
  have e2 := yBeg_day (y + 1) (by omega)
  unfold dnV dayA at e1 e2
  simp only [Value.agg.injEq, Array.mk.injEq, List.cons.injEq, Value.int.injEq, and_true, true_and] at e1 e2
  unfold spanV
  rw [e1.1, e1.2.1, e1.2.2, e2.1, e2.2.1, e2.2.2]
  clear e1 e2
  go_enter Tryz.func354, Tryz.ntmps354
  go_wp2_with fail
  exact bodyPost_ret (v := .agg #[.int .i64 y, .int .i64 1, .int .i64 1, .int .i64 (y + 1), .int .i64 1, .int .i64 1]) (by simp [results, Tryz.results354, go_sem]) rfl ⟨rfl, (Below.refl _ _).alloc (Nat.le_refl _) _⟩
end Go.Proofs.YthpndgcaoeokeaaGreatDoor
namespace Go.Proofs.YthpndgcaoeokeaaGreatDoor
open Go.RowKit Go.Sort

theorem contains_i {w : World} {v : Value} {zs : List Int} (x : Int) (h : IntsV w v zs) (hb : zs.length ≤ 1000) :
    Calls Tryz.prog 218 #[v, .int .i64 x] w fun e w' => e = .returned (.bool (zs.contains x)) ∧ Below w.heap.size w w' := by
  rcases h with ⟨rfl, rfl⟩ | ⟨g, rfl, hr⟩
  · refine (Tryz.slices_Contains_int_empty none 0 x w).mono ?_
    rintro e w' ⟨rfl, rfl⟩
    exact ⟨rfl, Below.refl _ _⟩
  · refine (Tryz.slices_Contains_int g 0 zs.length zs.length zs x w (Nat.le_refl _) (by omega) (fun j hj => ?_)).mono ?_
    · rw [Nat.zero_add]
      exact hr.cell (by rw [List.getElem?_map, List.getElem?_eq_getElem hj, List.getD_eq_getElem?_getD, List.getElem?_eq_getElem hj]; rfl)
    · rintro e w' ⟨rfl, rfl⟩
      exact ⟨by rw [List.take_length], Below.refl _ _⟩

/-- the lists of a rule, in memory -/
structure RuleL (w : World) (r : RuleD) (m md wk pl : Value) : Prop where
  ms : IntsV w m r.ms
  mds : IntsV w md r.mds
  wks : WksV w wk r.wks
  pls : IntsV w pl r.pls
theorem RuleL.on {w w' : World} {r : RuleD} {m md wk pl : Value} (h : RuleL w r m md wk pl) (hb : Below w.heap.size w w') : RuleL w' r m md wk pl := ⟨h.ms.on hb, h.mds.on hb, h.wks.on hb, h.pls.on hb⟩
/-- a rule's numbers -/
structure RuleOk (r : RuleD) : Prop where
  fq0 : 0 ≤ r.fq
  fq3 : r.fq ≤ 3
  iv1 : 1 ≤ r.iv
  iv9 : r.iv ≤ 100
  ct0 : 0 ≤ r.ct
  ct9 : r.ct ≤ 1000
  un0 : 0 ≤ r.un
  un9 : r.un ≤ 9223372036854775807
  ms : r.ms.length ≤ 100
  mds : r.mds.length ≤ 100
  wks : r.wks.length ≤ 100
  pls : r.pls.length ≤ 100
  ord : ∀ p ∈ r.wks, -53 ≤ p.1 ∧ p.1 ≤ 53
  ws0 : 0 ≤ r.ws
  ws6 : r.ws ≤ 6

def fitM (r : RuleD) (n : Int) : Bool := decide (r.ms.length = 0) || r.ms.contains (Cal.ofM n)
/-- the days of the month from this one on -/
def leftM (n : Int) : Int := mBeg (Cal.ofY n) (Cal.ofM n + 1) - n
def fitD (r : RuleD) (n : Int) : Bool := decide (r.mds.length = 0) || r.mds.contains (Cal.ofD n) || r.mds.contains (-(leftM n))

set_option maxRecDepth 100000 in
set_option maxHeartbeats 4000000 in
theorem fitsMonth_n (r : RuleD) (m md wk pl : Value) (tx : ByteArray) (n : Int) (w : World) (hl : RuleL w r m md wk pl) (ho : RuleOk r) :
    Calls Tryz.prog 362 #[ruleV r.fq r.iv r.ct r.un m md wk pl r.ws tx, dnV n] w fun e w' => e = .returned (.bool (fitM r n)) ∧ Below w.heap.size w w' := by
  have hI := hl.ms
  have h1 := ho.ms
  clear hl ho
  unfold ruleV dnV dayA fitM
  have hC : Hid (∀ W, Below w.heap.size w W → Calls Tryz.prog 218 #[m, .int .i64 (Cal.ofM n)] W fun e w' => e = .returned (.bool (r.ms.contains (Cal.ofM n))) ∧ Below W.heap.size W w') := hide fun W hW => contains_i _ (hI.on hW) (by omega)
  obtain ⟨am, rfl⟩ := hI.form
  clear hI
  generalize r.ms.contains (Cal.ofM n) = B at *
  generalize hL : r.ms.length = L at *
  clear hL
  by_cases hz : L = 0
  case pos =>
    subst hz
    go_enter Tryz.func362, Tryz.ntmps362
    go_wp2_with fail
    go_ret
    exact ⟨rfl, ((Below.refl _ _).alloc (Nat.le_refl _) _).alloc (by simp) _⟩
  case neg =>
    have hz' : ¬ ((L : Int) = 0) := by omega
    go_enter Tryz.func362, Tryz.ntmps362
    go_wp2_with fail
    refine (hC.out _ (((Below.refl _ _).alloc (Nat.le_refl _) _).alloc (by simp) _)).mono ?_
    rintro e w1 ⟨rfl, hb⟩
    go_wp2_with fail
    go_ret
    exact ⟨by simp [hz], (((Below.refl _ _).alloc (Nat.le_refl _) _).alloc (by simp) _).trans (hb.mono (by simp; omega))⟩

theorem mBeg_bd (y m : Int) (y0 : 1800 ≤ y) (y1 : y ≤ 3000) (m0 : 1 ≤ m) (m1 : m ≤ 1300) : -70000 ≤ mBeg y m ∧ mBeg y m ≤ 899000 := by
  have h1 : 1800 ≤ y + (m - 1) / 12 ∧ y + (m - 1) / 12 ≤ 3110 := by omega
  have h2 : 1 ≤ (m - 1) % 12 + 1 ∧ (m - 1) % 12 + 1 ≤ 12 := by omega
  unfold mBeg
  generalize y + (m - 1) / 12 = a at *
  generalize (m - 1) % 12 + 1 = b at *
  unfold Cal.num Cal.ty Cal.tm
  split <;> omega

theorem span_snd (a b : Int) (w : World) : (Instr.field 370 (spanV a b) 1).run Tryz.prog w = .ok (dnV b) w := by
  unfold spanV dnV dayA Instr.field
  simp [part, asAgg, go_sem]

theorem month_in (W : World) (y m : Int) (D : Nat) (os : Array Obj) (y0 : 1 ≤ y) (y1 : y ≤ 5000) (m0 : 1 ≤ m) (m1 : m ≤ 90000) :
    Calls Tryz.prog 353 #[.int .i64 y, .int .i64 m] (grow (redrawn W D) os) fun e w'' => e = .returned (spanV (mBeg y m) (mBeg y (m + 1))) ∧ ∃ p : Regrown, w'' = grow (redrawn W p.d) p.os :=
  Calls.regrown_of (month_n y m _ y0 y1 m0 m1)
theorem to_in (W : World) (a b : Int) (D : Nat) (os : Array Obj) (h0 : -700000 ≤ a) (h1 : a ≤ 900000) (k0 : -700000 ≤ b) (k1 : b ≤ 900000) :
    Calls Tryz.prog 358 #[.agg #[.int .i64 (Cal.ofY a), .int .i64 (Cal.ofM a), .int .i64 (Cal.ofD a)], .agg #[.int .i64 (Cal.ofY b), .int .i64 (Cal.ofM b), .int .i64 (Cal.ofD b)]] (grow (redrawn W D) os) fun e w'' => e = .returned (.int .i64 (b - a)) ∧ ∃ p : Regrown, w'' = grow (redrawn W p.d) p.os :=
  Calls.regrown_of (to_n a b _ h0 h1 k0 k1)

theorem year_bd (n : Int) (h0 : -10000 ≤ n) (h1 : n ≤ 300000) : 1900 ≤ Cal.ofY n ∧ Cal.ofY n ≤ 2900 := by
  unfold Cal.ofY
  have := yr_near (n + 719468)
  split <;> omega

set_option maxRecDepth 100000 in
set_option maxHeartbeats 4000000 in
theorem leftOfMonth_n (n : Int) (w : World) (h0 : -10000 ≤ n) (h1 : n ≤ 300000) :
    Calls Tryz.prog 365 #[dnV n] w fun e w' => e = .returned (.int .i64 (leftM n)) ∧ Below w.heap.size w w' := by
  have hr := rg_bd n (by omega) (by omega)
  have hy := year_bd n h0 h1
  have hb := mBeg_bd (Cal.ofY n) (Cal.ofM n + 1) (by omega) (by omega) (by omega) (by omega)
  unfold leftM
  have hM : Hid (∀ W D os, Calls Tryz.prog 353 #[.int .i64 (Cal.ofY n), .int .i64 (Cal.ofM n)] (grow (redrawn W D) os) fun e w'' => e = .returned (spanV (mBeg (Cal.ofY n) (Cal.ofM n)) (mBeg (Cal.ofY n) (Cal.ofM n + 1))) ∧ ∃ p : Regrown, w'' = grow (redrawn W p.d) p.os) :=
    hide fun W D os => month_in W _ _ D os (by omega) (by omega) (by omega) (by omega)
  have hT : Hid (∀ W D os, Calls Tryz.prog 358 #[.agg #[.int .i64 (Cal.ofY n), .int .i64 (Cal.ofM n), .int .i64 (Cal.ofD n)], dnV (mBeg (Cal.ofY n) (Cal.ofM n + 1))] (grow (redrawn W D) os) fun e w'' => e = .returned (.int .i64 (mBeg (Cal.ofY n) (Cal.ofM n + 1) - n)) ∧ ∃ p : Regrown, w'' = grow (redrawn W p.d) p.os) :=
    hide fun W D os => to_in W _ _ D os (by omega) (by omega) (by omega) (by omega)
  generalize mBeg (Cal.ofY n) (Cal.ofM n) = a at *
  generalize mBeg (Cal.ofY n) (Cal.ofM n + 1) = b at *
  have hs := span_snd a b
  generalize spanV a b = S at *
  generalize dnV b = T at *
  unfold dnV dayA
  go_enter Tryz.func365, Tryz.ntmps365
  go_wp2_with fail
  have r0 := (RowAt.new w [.int .i64 (Cal.ofY n), .int .i64 (Cal.ofM n), .int .i64 (Cal.ofD n)] 106)
  have hbw : Below w.heap.size w (w.alloc (.cells #[.int .i64 (Cal.ofY n), .int .i64 (Cal.ofM n), .int .i64 (Cal.ofD n)] 106)) := (Below.refl _ _).alloc (Nat.le_refl _) _
  generalize (w.alloc (.cells #[.int .i64 (Cal.ofY n), .int .i64 (Cal.ofM n), .int .i64 (Cal.ofD n)] 106)) = W at *
  obtain ⟨c0, c1, c2, _, _, _⟩ := cells3 r0
  have k0 := cell_regrown c0
  have k1 := cell_regrown c1
  have k2 := cell_regrown c2
  clear c0 c1 c2 r0
  refine wp_region_quiet_below (by kernel_rfl) (by kernel_rfl) ?_
  repeat (go_big_quiet_step (first | exact hM.out W _ _ | exact hT.out W _ _))
  refine wpQuiet_nil ?_
  intro _ hw'
  obtain ⟨⟨dq, osq⟩, hw''⟩ := hw'
  subst hw''
  go_wp2_with fail
  go_ret
  exact ⟨rfl, hbw.trans ((below_regrown W dq osq).mono hbw.size)⟩

theorem contains_in {w : World} {v : Value} {zs : List Int} (x : Int) (h : IntsV w v zs) (hb : zs.length ≤ 1000) (D : Nat) (os : Array Obj) :
    Calls Tryz.prog 218 #[v, .int .i64 x] (grow (redrawn w D) os) fun e w'' => e = .returned (.bool (zs.contains x)) ∧ ∃ p : Regrown, w'' = grow (redrawn w p.d) p.os :=
  Calls.regrown_of (contains_i x (h.on (below_regrown w D os)) hb)

set_option maxRecDepth 100000 in
set_option maxHeartbeats 8000000 in
theorem fitsMonthDay_n (r : RuleD) (m md wk pl : Value) (tx : ByteArray) (n : Int) (w : World) (hl : RuleL w r m md wk pl) (ho : RuleOk r) (h0 : -10000 ≤ n) (h1 : n ≤ 300000) :
    Calls Tryz.prog 363 #[ruleV r.fq r.iv r.ct r.un m md wk pl r.ws tx, dnV n] w fun e w' => e = .returned (.bool (fitD r n)) ∧ Below w.heap.size w w' := by
  have hI := hl.mds
  have hq := ho.mds
  have hL0 : -100000000 ≤ leftM n ∧ leftM n ≤ 100000000 := by
    have hr := rg_bd n (by omega) (by omega)
    have hy := year_bd n h0 h1
    have hb := mBeg_bd (Cal.ofY n) (Cal.ofM n + 1) (by omega) (by omega) (by omega) (by omega)
    unfold leftM; omega
  clear hl ho
  have hC1 : Hid (∀ W, Below w.heap.size w W → ∀ D os, Calls Tryz.prog 218 #[md, .int .i64 (Cal.ofD n)] (grow (redrawn W D) os) fun e w'' => e = .returned (.bool (r.mds.contains (Cal.ofD n))) ∧ ∃ p : Regrown, w'' = grow (redrawn W p.d) p.os) := hide fun W hW D os => contains_in _ (hI.on hW) (by omega) D os
  have hC2 : Hid (∀ W, Below w.heap.size w W → ∀ D os, Calls Tryz.prog 218 #[md, .int .i64 (-(leftM n))] (grow (redrawn W D) os) fun e w'' => e = .returned (.bool (r.mds.contains (-(leftM n)))) ∧ ∃ p : Regrown, w'' = grow (redrawn W p.d) p.os) := hide fun W hW D os => contains_in _ (hI.on hW) (by omega) D os
  have hF : Hid (∀ W D os, Calls Tryz.prog 365 #[dnV n] (grow (redrawn W D) os) fun e w'' => e = .returned (.int .i64 (leftM n)) ∧ ∃ p : Regrown, w'' = grow (redrawn W p.d) p.os) := hide fun W D os => Calls.regrown_of (leftOfMonth_n n _ h0 h1)
  obtain ⟨am, rfl⟩ := hI.form
  clear hI
  unfold fitD
  unfold dnV dayA at hF
  unfold ruleV dnV dayA
  generalize leftM n = LM at *
  generalize hB : r.mds.contains (Cal.ofD n) = B at *
  generalize hB2 : r.mds.contains (-LM) = B2 at *
  generalize hL : r.mds.length = L at *
  clear hL hB hB2
  go_enter Tryz.func363, Tryz.ntmps363
  go_wp2_with fail
  have r0 : RowAt ((w.alloc (.cells #[.int .i64 r.fq, .int .i64 r.iv, .int .i64 r.ct, .int .i64 r.un, m, .slice am L L, wk, pl, .int .i64 r.ws, .string tx] 76)).alloc (.cells #[.int .i64 (Cal.ofY n), .int .i64 (Cal.ofM n), .int .i64 (Cal.ofD n)] 106)) w.heap.size [.int .i64 r.fq, .int .i64 r.iv, .int .i64 r.ct, .int .i64 r.un, m, .slice am L L, wk, pl, .int .i64 r.ws, .string tx] 76 := (RowAt.new w [.int .i64 r.fq, .int .i64 r.iv, .int .i64 r.ct, .int .i64 r.un, m, .slice am L L, wk, pl, .int .i64 r.ws, .string tx] 76).on ((Below.refl _ _).alloc (Nat.le_refl _) _)
  have r1 := RowAt.new (w.alloc (.cells #[.int .i64 r.fq, .int .i64 r.iv, .int .i64 r.ct, .int .i64 r.un, m, .slice am L L, wk, pl, .int .i64 r.ws, .string tx] 76)) [.int .i64 (Cal.ofY n), .int .i64 (Cal.ofM n), .int .i64 (Cal.ofD n)] 106
  simp only [World.size_alloc] at r1
  have hbw : Below w.heap.size w ((w.alloc (.cells #[.int .i64 r.fq, .int .i64 r.iv, .int .i64 r.ct, .int .i64 r.un, m, .slice am L L, wk, pl, .int .i64 r.ws, .string tx] 76)).alloc (.cells #[.int .i64 (Cal.ofY n), .int .i64 (Cal.ofM n), .int .i64 (Cal.ofD n)] 106)) := ((Below.refl _ _).alloc (Nat.le_refl _) _).alloc (by simp) _
  generalize ((w.alloc (.cells #[.int .i64 r.fq, .int .i64 r.iv, .int .i64 r.ct, .int .i64 r.un, m, .slice am L L, wk, pl, .int .i64 r.ws, .string tx] 76)).alloc (.cells #[.int .i64 (Cal.ofY n), .int .i64 (Cal.ofM n), .int .i64 (Cal.ofD n)] 106)) = W at *
  have cm : W.cell? ⟨w.heap.size, 5, none⟩ = some (.slice am L L) := r0.cell rfl
  obtain ⟨c0, c1, c2, _, _, _⟩ := cells3 r1
  have km := cell_regrown cm
  have k0 := cell_regrown c0
  have k1 := cell_regrown c1
  have k2 := cell_regrown c2
  clear c0 c1 c2 r0 r1 cm
  by_cases hz : L = 0
  case pos =>
    subst hz
    refine wp_region_quiet_below (by kernel_rfl) (by kernel_rfl) ?_
    repeat (go_big_quiet_step (fail))
    refine wpQuiet_nil ?_
    intro _ hw'
    obtain ⟨⟨dq, osq⟩, hw''⟩ := hw'
    subst hw''
    go_wp2_with fail
    go_ret
    exact ⟨by simp, hbw.trans ((below_regrown W dq osq).mono hbw.size)⟩
  case neg =>
    have hz' : ¬ ((L : Int) = 0) := by omega
    have hz2 : ((L : Int) == 0) = false := by simpa using hz
    cases B
    case true =>
      refine wp_region_quiet_below (by kernel_rfl) (by kernel_rfl) ?_
      repeat (go_big_quiet_step (first | exact hC1.out W hbw _ _))
      refine wpQuiet_nil ?_
      intro _ hw'
      obtain ⟨⟨dq, osq⟩, hw''⟩ := hw'
      subst hw''
      go_wp2_with fail
      go_ret
      exact ⟨by simp, hbw.trans ((below_regrown W dq osq).mono hbw.size)⟩
    case false =>
      refine wp_region_quiet_below (by kernel_rfl) (by kernel_rfl) ?_
      repeat (go_big_quiet_step (first | exact hC1.out W hbw _ _ | exact hF.out W _ _ | exact hC2.out W hbw _ _))
      refine wpQuiet_nil ?_
      intro _ hw'
      obtain ⟨⟨dq, osq⟩, hw''⟩ := hw'
      subst hw''
      go_wp2_with fail
      go_ret
      exact ⟨by simp [hz], hbw.trans ((below_regrown W dq osq).mono hbw.size)⟩
end Go.Proofs.YthpndgcaoeokeaaGreatDoor
namespace Go.Proofs.YthpndgcaoeokeaaGreatDoor
open Go.RowKit Go.Sort

theorem mBeg_own (n : Int) (h0 : -10000 ≤ n) : mBeg (Cal.ofY n) (Cal.ofM n) = Cal.num (Cal.ofY n) (Cal.ofM n) 1 := by
  obtain ⟨a, b, c, d⟩ := Cal.of_valid n (by omega)
  unfold mBeg
  rw [show (Cal.ofM n - 1) / 12 = 0 from by omega, show (Cal.ofM n - 1) % 12 + 1 = Cal.ofM n from by omega, Int.add_zero]
theorem mBeg_next (n : Int) (h0 : -10000 ≤ n) : mBeg (Cal.ofY n) (Cal.ofM n + 1) = Cal.num (Cal.ofY n) (Cal.ofM n) 1 + Cal.md (Cal.ofY n) (Cal.ofM n) := by
  obtain ⟨a, b, c, d⟩ := Cal.of_valid n (by omega)
  unfold mBeg
  by_cases h : Cal.ofM n = 12
  · rw [h, show (12 + 1 - 1 : Int) / 12 = 1 from rfl, show (12 + 1 - 1 : Int) % 12 + 1 = 1 from rfl, Cal.md12]
    exact Cal.num_dec _
  · rw [show (Cal.ofM n + 1 - 1) / 12 = 0 from by omega, show (Cal.ofM n + 1 - 1) % 12 + 1 = Cal.ofM n + 1 from by omega, Int.add_zero]
    exact Cal.num_month _ _ a (by omega)
theorem month_around (n : Int) (h0 : -10000 ≤ n) : mBeg (Cal.ofY n) (Cal.ofM n) ≤ n ∧ n < mBeg (Cal.ofY n) (Cal.ofM n + 1) ∧ mBeg (Cal.ofY n) (Cal.ofM n + 1) ≤ n + 400 ∧ n - 400 ≤ mBeg (Cal.ofY n) (Cal.ofM n) := by
  obtain ⟨a, b, c, d⟩ := Cal.of_valid n (by omega)
  have e := Cal.of_num n (by omega)
  have e1 := Cal.num_day (Cal.ofY n) (Cal.ofM n) (Cal.ofD n)
  have e2 := Cal.md_bd (Cal.ofY n) (Cal.ofM n)
  rw [mBeg_own n h0, mBeg_next n h0]
  omega
theorem year_around (n : Int) (h0 : -10000 ≤ n) : Cal.num (Cal.ofY n) 1 1 ≤ n ∧ n < Cal.num (Cal.ofY n + 1) 1 1 ∧ Cal.num (Cal.ofY n + 1) 1 1 ≤ n + 400 ∧ n - 400 ≤ Cal.num (Cal.ofY n) 1 1 := by
  have h := Cal.in_year (Cal.of_valid n (by omega))
  rw [Cal.of_num n (by omega)] at h
  have h2 := Cal.num_step (Cal.ofY n)
  have h3 : Cal.yd (Cal.ofY n) ≤ 366 := by unfold Cal.yd; split <;> omega
  omega

/-- the days among which a weekday's ordinal counts -/
def arA (r : RuleD) (n : Int) : Int := if r.fq = 3 ∧ r.ms.length = 0 then Cal.num (Cal.ofY n) 1 1 else mBeg (Cal.ofY n) (Cal.ofM n)
def arB (r : RuleD) (n : Int) : Int := if r.fq = 3 ∧ r.ms.length = 0 then Cal.num (Cal.ofY n + 1) 1 1 else mBeg (Cal.ofY n) (Cal.ofM n + 1)
def placeB (r : RuleD) (n o : Int) : Bool := if 0 < o then (n - arA r n) / 7 == o - 1 else (arB r n - 1 - n) / 7 == -o - 1
theorem around (r : RuleD) (n : Int) (h0 : -10000 ≤ n) : arA r n ≤ n ∧ n < arB r n ∧ arB r n ≤ n + 400 ∧ n - 400 ≤ arA r n := by
  unfold arA arB
  split
  · exact year_around n h0
  · exact month_around n h0

theorem cells10 {w : World} {g : Nat} {a b c d m md wk pl s t : Value} {T : TypeId} (h : RowAt w g [a, b, c, d, m, md, wk, pl, s, t] T) :
    w.cell? ⟨g, 0, none⟩ = some a ∧ w.cell? ⟨g, 1, none⟩ = some b ∧ w.cell? ⟨g, 2, none⟩ = some c ∧ w.cell? ⟨g, 3, none⟩ = some d ∧ w.cell? ⟨g, 4, none⟩ = some m ∧ w.cell? ⟨g, 5, none⟩ = some md ∧ w.cell? ⟨g, 6, none⟩ = some wk ∧ w.cell? ⟨g, 7, none⟩ = some pl ∧ w.cell? ⟨g, 8, none⟩ = some s ∧ w.cell? ⟨g, 9, none⟩ = some t :=
  ⟨h.cell rfl, h.cell rfl, h.cell rfl, h.cell rfl, h.cell rfl, h.cell rfl, h.cell rfl, h.cell rfl, h.cell rfl, h.cell rfl⟩

/-- behind the choice of the days around: the rest of hasPlace -/
theorem bl_two (w : World) (a b : Obj) : Below w.heap.size w ((w.alloc a).alloc b) := ((Below.refl _ _).alloc (Nat.le_refl _) _).alloc (by simp) _
theorem row_fst (w : World) (cs : List Value) (t : TypeId) (o : Obj) : RowAt ((w.alloc (.cells cs.toArray t)).alloc o) w.heap.size cs t := (RowAt.new w cs t).on ((Below.refl _ _).alloc (Nat.le_refl _) _)
theorem row_snd (w : World) (cs : List Value) (t : TypeId) (o : Obj) : RowAt ((w.alloc o).alloc (.cells cs.toArray t)) (w.heap.size + 1) cs t := by
  have := RowAt.new (w.alloc o) cs t
  simpa using this

set_option maxRecDepth 100000 in
set_option maxHeartbeats 8000000 in
theorem hasPlace_n (r : RuleD) (m md wk pl : Value) (tx : ByteArray) (n o : Int) (w : World) (hl : RuleL w r m md wk pl) (ho : RuleOk r) (h0 : -10000 ≤ n) (h1 : n ≤ 300000) (o0 : -53 ≤ o) (o1 : o ≤ 53) :
    Calls Tryz.prog 366 #[ruleV r.fq r.iv r.ct r.un m md wk pl r.ws tx, dnV n, .int .i64 o] w fun e w' => e = .returned (.bool (placeB r n o)) ∧ Below w.heap.size w w' := by
  obtain ⟨am, em⟩ := hl.ms.form
  have hq := ho.ms
  have hf0 := ho.fq0
  have hf3 := ho.fq3
  clear hl ho
  have hr := rg_bd n (by omega) (by omega)
  have hy := year_bd n h0 h1
  have hma := month_around n h0
  have hya := year_around n h0
  have hM : Hid (∀ W, Calls Tryz.prog 353 #[.int .i64 (Cal.ofY n), .int .i64 (Cal.ofM n)] W fun e w' => e = .returned (spanV (mBeg (Cal.ofY n) (Cal.ofM n)) (mBeg (Cal.ofY n) (Cal.ofM n + 1))) ∧ Below W.heap.size W w') := hide fun W => month_n _ _ W (by omega) (by omega) (by omega) (by omega)
  have hY : Hid (∀ W, Calls Tryz.prog 354 #[.int .i64 (Cal.ofY n)] W fun e w' => e = .returned (spanV (Cal.num (Cal.ofY n) 1 1) (Cal.num (Cal.ofY n + 1) 1 1)) ∧ Below W.heap.size W w') := hide fun W => year_n _ W (by omega) (by omega)
  have hT1 : Hid (∀ a W, n - 400 ≤ a → a ≤ n → Calls Tryz.prog 358 #[dnV a, dnV n] W fun e w' => e = .returned (.int .i64 (n - a)) ∧ Below W.heap.size W w') := hide fun a W a0 a1 => to_n a n W (by omega) (by omega) (by omega) (by omega)
  have hT2 : Hid (∀ b W, b ≤ n + 400 → n < b → Calls Tryz.prog 358 #[dnV n, dnV (b - 1)] W fun e w' => e = .returned (.int .i64 (b - 1 - n)) ∧ Below W.heap.size W w') := hide fun b W a0 a1 => to_n n (b - 1) W (by omega) (by omega) (by omega) (by omega)
  have hP : Hid (∀ b W, b ≤ n + 400 → n < b → Calls Tryz.prog 351 #[dnV b, .int .i64 (-1)] W fun e w' => e = .returned (dnV (b - 1)) ∧ Below W.heap.size W w') := hide fun b W a0 a1 => by
    have := plus_n b (-1) W (by omega) (by omega) (by omega) (by omega)
    rwa [show b + -1 = b - 1 from by omega] at this
  unfold dnV dayA spanV at *
  have p1 : r.fq ≠ 3 → 0 < o → placeB r n o = ((n - mBeg (Cal.ofY n) (Cal.ofM n)) / 7 == o - 1) := fun a b => by
    unfold placeB arA; rw [if_pos b, if_neg (fun h => a h.1)]
  have p2 : r.fq ≠ 3 → ¬ 0 < o → placeB r n o = ((mBeg (Cal.ofY n) (Cal.ofM n + 1) - 1 - n) / 7 == -o - 1) := fun a b => by
    unfold placeB arB; rw [if_neg b, if_neg (fun h => a h.1)]
  have p3 : r.ms.length ≠ 0 → 0 < o → placeB r n o = ((n - mBeg (Cal.ofY n) (Cal.ofM n)) / 7 == o - 1) := fun a b => by
    unfold placeB arA; rw [if_pos b, if_neg (fun h => a h.2)]
  have p4 : r.ms.length ≠ 0 → ¬ 0 < o → placeB r n o = ((mBeg (Cal.ofY n) (Cal.ofM n + 1) - 1 - n) / 7 == -o - 1) := fun a b => by
    unfold placeB arB; rw [if_neg b, if_neg (fun h => a h.2)]
  have p5 : r.fq = 3 → r.ms.length = 0 → 0 < o → placeB r n o = ((n - Cal.num (Cal.ofY n) 1 1) / 7 == o - 1) := fun a c b => by
    unfold placeB arA; rw [if_pos b, if_pos ⟨a, c⟩]
  have p6 : r.fq = 3 → r.ms.length = 0 → ¬ 0 < o → placeB r n o = ((Cal.num (Cal.ofY n + 1) 1 1 - 1 - n) / 7 == -o - 1) := fun a c b => by
    unfold placeB arB; rw [if_neg b, if_pos ⟨a, c⟩]
  generalize placeB r n o = PB at *
  replace p1 := hide p1
  replace p2 := hide p2
  replace p3 := hide p3
  replace p4 := hide p4
  replace p5 := hide p5
  replace p6 := hide p6
  unfold ruleV
  subst em
  generalize Cal.num (Cal.ofY n) 1 1 = ya at *
  generalize Cal.num (Cal.ofY n + 1) 1 1 = yb at *
  generalize mBeg (Cal.ofY n) (Cal.ofM n) = ma at *
  generalize mBeg (Cal.ofY n) (Cal.ofM n + 1) = mb at *
  generalize hL : r.ms.length = L at *
  clear hL
  go_enter Tryz.func366, Tryz.ntmps366
  go_wp2_with fail
  have r0 := row_fst w [.int .i64 r.fq, .int .i64 r.iv, .int .i64 r.ct, .int .i64 r.un, .slice am L L, md, wk, pl, .int .i64 r.ws, .string tx] 76 (.cells #[.int .i64 (Cal.ofY n), .int .i64 (Cal.ofM n), .int .i64 (Cal.ofD n)] 106)
  have r1 := row_snd w [.int .i64 (Cal.ofY n), .int .i64 (Cal.ofM n), .int .i64 (Cal.ofD n)] 106 (.cells #[.int .i64 r.fq, .int .i64 r.iv, .int .i64 r.ct, .int .i64 r.un, .slice am L L, md, wk, pl, .int .i64 r.ws, .string tx] 76)
  have hbw := bl_two w (.cells #[.int .i64 r.fq, .int .i64 r.iv, .int .i64 r.ct, .int .i64 r.un, .slice am L L, md, wk, pl, .int .i64 r.ws, .string tx] 76) (.cells #[.int .i64 (Cal.ofY n), .int .i64 (Cal.ofM n), .int .i64 (Cal.ofD n)] 106)
  refine (hM.out _).mono ?_
  rintro e w1 ⟨rfl, hb1⟩
  replace r0 := r0.on hb1
  replace r1 := r1.on hb1
  replace hbw := hbw.trans (hb1.mono hbw.size)
  have hz : w.heap.size + 2 ≤ w1.heap.size := by have := hb1.size; simpa using this
  clear hb1
  have ra := RowAt.new w1 [.int .i64 (Cal.ofY ma), .int .i64 (Cal.ofM ma), .int .i64 (Cal.ofD ma), .int .i64 (Cal.ofY mb), .int .i64 (Cal.ofM mb), .int .i64 (Cal.ofD mb)] 370
  have ba : Below w1.heap.size w1 (w1.alloc (.cells #[.int .i64 (Cal.ofY ma), .int .i64 (Cal.ofM ma), .int .i64 (Cal.ofD ma), .int .i64 (Cal.ofY mb), .int .i64 (Cal.ofM mb), .int .i64 (Cal.ofD mb)] 370)) := (Below.refl _ _).alloc (Nat.le_refl _) _
  replace r0 := r0.on ba
  replace r1 := r1.on ba
  replace hbw := hbw.trans (ba.mono hbw.size)
  have hzz : w1.heap.size < (w1.alloc (.cells #[.int .i64 (Cal.ofY ma), .int .i64 (Cal.ofM ma), .int .i64 (Cal.ofD ma), .int .i64 (Cal.ofY mb), .int .i64 (Cal.ofM mb), .int .i64 (Cal.ofD mb)] 370)).heap.size := by simp
  clear ba
  have eW : w1.alloc (.cells [.int .i64 (Cal.ofY ma), .int .i64 (Cal.ofM ma), .int .i64 (Cal.ofD ma), .int .i64 (Cal.ofY mb), .int .i64 (Cal.ofM mb), .int .i64 (Cal.ofD mb)].toArray 370) = w1.alloc (.cells #[.int .i64 (Cal.ofY ma), .int .i64 (Cal.ofM ma), .int .i64 (Cal.ofD ma), .int .i64 (Cal.ofY mb), .int .i64 (Cal.ofM mb), .int .i64 (Cal.ofD mb)] 370) := rfl
  rw [eW] at ra
  clear eW
  obtain ⟨q0, q1, q2, q3, q4, _, _, _, _, _⟩ := cells10 r0
  obtain ⟨c0, c1, c2, _, _, _⟩ := cells3 r1
  obtain ⟨⟨z0, z1, z2, z3, z4, z5⟩, y0, y1, y2, y3, y4, y5⟩ := cells6 ra
  by_cases hf : r.fq = 3
  case neg =>
    have hf' : (r.fq == 3) = false := by simpa using hf
    by_cases hp : 0 < o
    case pos =>
      go_wp2_with fail
      refine (hT1.out ma _ (by omega) (by omega)).mono ?_
      rintro e w5 ⟨rfl, hb5⟩
      go_wp2_with fail
      go_ret
      exact ⟨by rw [p1.out hf hp]; rfl, hbw.trans (hb5.mono hbw.size)⟩
    case neg =>
      have hp' : o ≤ 0 := by omega
      go_wp2_with fail
      refine (hP.out mb _ (by omega) (by omega)).mono ?_
      rintro e w5 ⟨rfl, hb5⟩
      have r5 := r1.on hb5
      replace hbw := hbw.trans (hb5.mono hbw.size)
      clear c0 c1 c2 z0 z1 z2 z3 z4 z5 y0 y1 y2 y3 y4 y5
      have hz5 : w.heap.size + 2 ≤ w5.heap.size := by have := hb5.size; have := r1.lt; omega
      have r6 := r5.on ((Below.refl _ _).alloc (Nat.le_refl _) (.cells #[.int .i64 (Cal.ofY (mb - 1)), .int .i64 (Cal.ofM (mb - 1)), .int .i64 (Cal.ofD (mb - 1))] 106))
      obtain ⟨c0, c1, c2, _, _, _⟩ := cells3 r5
      obtain ⟨d0, d1, d2, _, _, _⟩ := cells3 r6
      go_wp2_with fail
      refine (hT2.out mb _ (by omega) (by omega)).mono ?_
      rintro e w6 ⟨rfl, hb6⟩
      go_wp2_with fail
      go_ret
      exact ⟨by rw [p2.out hf hp]; rfl, (hbw.alloc hbw.size _).trans (hb6.mono (by have := hbw.size; simp; omega))⟩
  case pos =>
    by_cases hc : L = 0
    case neg =>
      have hc' : ((L : Int) == 0) = false := by simpa using hc
      have hf' : (r.fq == 3) = true := by simpa using hf
      by_cases hp : 0 < o
      case pos =>
        go_wp2_with fail
        refine (hT1.out ma _ (by omega) (by omega)).mono ?_
        rintro e w5 ⟨rfl, hb5⟩
        go_wp2_with fail
        go_ret
        exact ⟨by rw [p3.out hc hp]; rfl, hbw.trans (hb5.mono hbw.size)⟩
      case neg =>
        have hp' : o ≤ 0 := by omega
        go_wp2_with fail
        refine (hP.out mb _ (by omega) (by omega)).mono ?_
        rintro e w5 ⟨rfl, hb5⟩
        have r5 := r1.on hb5
        replace hbw := hbw.trans (hb5.mono hbw.size)
        clear c0 c1 c2 z0 z1 z2 z3 z4 z5 y0 y1 y2 y3 y4 y5
        have hz5 : w.heap.size + 2 ≤ w5.heap.size := by have := hb5.size; have := r1.lt; omega
        have r6 := r5.on ((Below.refl _ _).alloc (Nat.le_refl _) (.cells #[.int .i64 (Cal.ofY (mb - 1)), .int .i64 (Cal.ofM (mb - 1)), .int .i64 (Cal.ofD (mb - 1))] 106))
        obtain ⟨c0, c1, c2, _, _, _⟩ := cells3 r5
        obtain ⟨d0, d1, d2, _, _, _⟩ := cells3 r6
        go_wp2_with fail
        refine (hT2.out mb _ (by omega) (by omega)).mono ?_
        rintro e w6 ⟨rfl, hb6⟩
        go_wp2_with fail
        go_ret
        exact ⟨by rw [p4.out hc hp]; rfl, (hbw.alloc hbw.size _).trans (hb6.mono (by have := hbw.size; simp; omega))⟩
    case pos =>
      subst hc
      have hf' : (r.fq == 3) = true := by simpa using hf
      go_wp2_with fail
      refine (hY.out _).mono ?_
      rintro e w2 ⟨rfl, hb2⟩
      replace r1 := r1.on hb2
      replace ra := ra.on hb2
      replace hbw := hbw.trans (hb2.mono hbw.size)
      have hz2 : w1.heap.size + 1 ≤ w2.heap.size := by have := hb2.size; simpa using this
      clear hb2 q0 q1 q2 q3 q4 c0 c1 c2 z0 z1 z2 z3 z4 z5 y0 y1 y2 y3 y4 y5
      obtain ⟨⟨z0, z1, z2, z3, z4, z5⟩, y0, y1, y2, y3, y4, y5⟩ := cells6 ra
      have hne : w.heap.size + 1 ≠ w1.heap.size := by omega
      have rY : RowAt ((((((w2.setCell ⟨w1.heap.size, 0, none⟩ (.int .i64 (Cal.ofY ya))).setCell ⟨w1.heap.size, 1, none⟩ (.int .i64 (Cal.ofM ya))).setCell ⟨w1.heap.size, 2, none⟩ (.int .i64 (Cal.ofD ya))).setCell ⟨w1.heap.size, 3, none⟩ (.int .i64 (Cal.ofY yb))).setCell ⟨w1.heap.size, 4, none⟩ (.int .i64 (Cal.ofM yb))).setCell ⟨w1.heap.size, 5, none⟩ (.int .i64 (Cal.ofD yb))) w1.heap.size [.int .i64 (Cal.ofY ya), .int .i64 (Cal.ofM ya), .int .i64 (Cal.ofD ya), .int .i64 (Cal.ofY yb), .int .i64 (Cal.ofM yb), .int .i64 (Cal.ofD yb)] 370 := ((((((ra.set (k := 0) _).set (k := 1) _).set (k := 2) _).set (k := 3) _).set (k := 4) _).set (k := 5) _)
      have r1Y : RowAt ((((((w2.setCell ⟨w1.heap.size, 0, none⟩ (.int .i64 (Cal.ofY ya))).setCell ⟨w1.heap.size, 1, none⟩ (.int .i64 (Cal.ofM ya))).setCell ⟨w1.heap.size, 2, none⟩ (.int .i64 (Cal.ofD ya))).setCell ⟨w1.heap.size, 3, none⟩ (.int .i64 (Cal.ofY yb))).setCell ⟨w1.heap.size, 4, none⟩ (.int .i64 (Cal.ofM yb))).setCell ⟨w1.heap.size, 5, none⟩ (.int .i64 (Cal.ofD yb))) (w.heap.size + 1) [.int .i64 (Cal.ofY n), .int .i64 (Cal.ofM n), .int .i64 (Cal.ofD n)] 106 := ((((((r1.other hne _).other hne _).other hne _).other hne _).other hne _).other hne _)
      have hbY : Below w.heap.size w ((((((w2.setCell ⟨w1.heap.size, 0, none⟩ (.int .i64 (Cal.ofY ya))).setCell ⟨w1.heap.size, 1, none⟩ (.int .i64 (Cal.ofM ya))).setCell ⟨w1.heap.size, 2, none⟩ (.int .i64 (Cal.ofD ya))).setCell ⟨w1.heap.size, 3, none⟩ (.int .i64 (Cal.ofY yb))).setCell ⟨w1.heap.size, 4, none⟩ (.int .i64 (Cal.ofM yb))).setCell ⟨w1.heap.size, 5, none⟩ (.int .i64 (Cal.ofD yb))) := ((((((hbw.setCell (by show _ ≤ w1.heap.size; omega) _).setCell (by show _ ≤ w1.heap.size; omega) _).setCell (by show _ ≤ w1.heap.size; omega) _).setCell (by show _ ≤ w1.heap.size; omega) _).setCell (by show _ ≤ w1.heap.size; omega) _).setCell (by show _ ≤ w1.heap.size; omega) _)
      go_upto_region 4 with fail
      clear z0 z1 z2 z3 z4 z5 y0 y1 y2 y3 y4 y5
      generalize ((((((w2.setCell ⟨w1.heap.size, 0, none⟩ (.int .i64 (Cal.ofY ya))).setCell ⟨w1.heap.size, 1, none⟩ (.int .i64 (Cal.ofM ya))).setCell ⟨w1.heap.size, 2, none⟩ (.int .i64 (Cal.ofD ya))).setCell ⟨w1.heap.size, 3, none⟩ (.int .i64 (Cal.ofY yb))).setCell ⟨w1.heap.size, 4, none⟩ (.int .i64 (Cal.ofM yb))).setCell ⟨w1.heap.size, 5, none⟩ (.int .i64 (Cal.ofD yb))) = W at *
      obtain ⟨c0, c1, c2, _, _, _⟩ := cells3 r1Y
      obtain ⟨⟨z0, z1, z2, z3, z4, z5⟩, y0, y1, y2, y3, y4, y5⟩ := cells6 rY
      by_cases hp : 0 < o
      case pos =>
        go_wp2_with fail
        refine (hT1.out ya _ (by omega) (by omega)).mono ?_
        rintro e w5 ⟨rfl, hb5⟩
        go_wp2_with fail
        go_ret
        exact ⟨by rw [p5.out hf (by simp) hp]; rfl, hbY.trans (hb5.mono hbY.size)⟩
      case neg =>
        have hp' : o ≤ 0 := by omega
        go_wp2_with fail
        refine (hP.out yb _ (by omega) (by omega)).mono ?_
        rintro e w5 ⟨rfl, hb5⟩
        have r5 := r1Y.on hb5
        replace hbY := hbY.trans (hb5.mono hbY.size)
        clear c0 c1 c2 z0 z1 z2 z3 z4 z5 y0 y1 y2 y3 y4 y5
        have hz5 : w.heap.size + 2 ≤ w5.heap.size := by have := hb5.size; have := r1Y.lt; omega
        have r6 := r5.on ((Below.refl _ _).alloc (Nat.le_refl _) (.cells #[.int .i64 (Cal.ofY (yb - 1)), .int .i64 (Cal.ofM (yb - 1)), .int .i64 (Cal.ofD (yb - 1))] 106))
        obtain ⟨c0, c1, c2, _, _, _⟩ := cells3 r5
        obtain ⟨d0, d1, d2, _, _, _⟩ := cells3 r6
        go_wp2_with fail
        refine (hT2.out yb _ (by omega) (by omega)).mono ?_
        rintro e w6 ⟨rfl, hb6⟩
        go_wp2_with fail
        go_ret
        exact ⟨by rw [p6.out hf (by simp) hp]; rfl, (hbY.alloc hbY.size _).trans (hb6.mono (by have := hbY.size; simp; omega))⟩
end Go.Proofs.YthpndgcaoeokeaaGreatDoor
