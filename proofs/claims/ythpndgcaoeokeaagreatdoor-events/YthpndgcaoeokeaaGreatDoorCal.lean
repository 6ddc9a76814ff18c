/- The calendar: days of months, numbers of days, and back. -/
namespace Go.Proofs.YthpndgcaoeokeaaGreatDoor.Cal
def lp (y : Int) : Bool := y % 4 == 0 && (y % 100 != 0 || y % 400 == 0)
def md (y m : Int) : Int :=
  if m = 4 ∨ m = 6 ∨ m = 9 ∨ m = 11 then 30 else if m = 2 then (if lp y then 29 else 28) else 31
def yd (y : Int) : Int := if lp y then 366 else 365
def ty (y : Int) : Int := y * 365 + y / 4 - y / 100 + y / 400
def tm (m : Int) : Int := (m * 153 + 2) / 5
def num (y m d : Int) : Int :=
  if m - 3 < 0 then ty (y - 1) + tm (m - 3 + 12) + d - 1 - 719468 else ty y + tm (m - 3) + d - 1 - 719468
def yr (l : Int) : Int := if ty (l * 400 / 146097 + 1) ≤ l then l * 400 / 146097 + 1 else l * 400 / 146097
def mo (r : Int) : Int := (r * 5 + 2) / 153
def ofY (n : Int) : Int :=
  if mo (n + 719468 - ty (yr (n + 719468))) + 3 > 12 then yr (n + 719468) + 1 else yr (n + 719468)
def ofM (n : Int) : Int :=
  if mo (n + 719468 - ty (yr (n + 719468))) + 3 > 12 then mo (n + 719468 - ty (yr (n + 719468))) + 3 - 12 else mo (n + 719468 - ty (yr (n + 719468))) + 3
def ofD (n : Int) : Int :=
  n + 719468 - ty (yr (n + 719468)) - tm (mo (n + 719468 - ty (yr (n + 719468)))) + 1

def Valid (y m d : Int) : Prop := 1 ≤ m ∧ m ≤ 12 ∧ 1 ≤ d ∧ d ≤ md y m

theorem lp_iff (y : Int) : lp y = true ↔ (y % 4 = 0 ∧ (y % 100 ≠ 0 ∨ y % 400 = 0)) := by
  simp [lp]

theorem ty_succ (y : Int) : ty (y + 1) = ty y + 365 + (if lp (y + 1) then 1 else 0) := by
  by_cases h : lp (y + 1) = true
  · have h' := (lp_iff (y+1)).1 h
    simp only [h, if_true]; unfold ty; omega
  · have h' : ¬ ((y+1) % 4 = 0 ∧ ((y+1) % 100 ≠ 0 ∨ (y+1) % 400 = 0)) := fun k => h ((lp_iff (y+1)).2 k)
    simp only [h]; unfold ty; simp; omega

theorem yr_lo (l : Int) (_h : 0 ≤ l) : ty (yr l) ≤ l := by
  unfold yr; split
  · assumption
  · unfold ty; omega

theorem yr_hi (l : Int) (_h : 0 ≤ l) : l < ty (yr l + 1) := by
  unfold yr; split
  · unfold ty; omega
  · omega

theorem yr_bd (l : Int) (h : 0 ≤ l) (h2 : l ≤ 3000000) : 0 ≤ yr l ∧ yr l ≤ 8300 := by
  unfold yr; split <;> omega

theorem rem_bd (l : Int) (h : 0 ≤ l) : 0 ≤ l - ty (yr l) ∧ l - ty (yr l) ≤ 365 ∧ (l - ty (yr l) = 365 → lp (yr l + 1) = true) := by
  have a := yr_lo l h
  have b := yr_hi l h
  have c := ty_succ (yr l)
  by_cases e : lp (yr l + 1) = true
  · simp only [e, if_true] at c; exact ⟨by omega, by omega, fun _ => e⟩
  · simp only [e] at c; simp at c; refine ⟨by omega, by omega, fun q => by omega⟩

theorem mo_bd (r : Int) (h : 0 ≤ r) (h2 : r ≤ 365) : 0 ≤ mo r ∧ mo r ≤ 11 ∧ tm (mo r) ≤ r ∧ r < tm (mo r + 1) := by
  unfold mo tm; omega

theorem of_valid (n : Int) (h : 0 ≤ n + 719468) : Valid (ofY n) (ofM n) (ofD n) := by
  have hr := rem_bd _ h
  unfold ofY ofM ofD Valid
  generalize hl : n + 719468 - ty (yr (n + 719468)) = r at *
  have hm := mo_bd r hr.1 hr.2.1
  obtain ⟨m0, m1, m2, m3⟩ := hm
  have hk : mo r = 0 ∨ mo r = 1 ∨ mo r = 2 ∨ mo r = 3 ∨ mo r = 4 ∨ mo r = 5 ∨ mo r = 6 ∨ mo r = 7 ∨ mo r = 8 ∨ mo r = 9 ∨ mo r = 10 ∨ mo r = 11 := by omega
  rcases hk with k | k | k | k | k | k | k | k | k | k | k | k <;> rw [k] at m2 m3 ⊢ <;> simp [tm] at m2 m3 ⊢ <;> simp [md] <;> try omega
  by_cases e : lp (yr (n + 719468) + 1) = true
  · simp only [e]; simp; omega
  · simp only [e]; simp
    have : r ≠ 365 := fun q => e (hr.2.2 q)
    omega

theorem of_num (n : Int) (h : 0 ≤ n + 719468) : num (ofY n) (ofM n) (ofD n) = n := by
  have hr := rem_bd _ h
  unfold ofY ofM ofD num
  have hm := mo_bd _ hr.1 hr.2.1
  generalize hl : n + 719468 - ty (yr (n + 719468)) = r at *
  obtain ⟨m0, m1, m2, m3⟩ := hm
  by_cases c : mo r + 3 > 12
  · simp only [c, if_true]
    rw [if_pos (by omega)]
    rw [show yr (n + 719468) + 1 - 1 = yr (n + 719468) from by omega, show mo r + 3 - 12 - 3 + 12 = mo r from by omega]
    omega
  · simp only [c, if_false]
    rw [if_neg (by omega)]
    rw [show mo r + 3 - 3 = mo r from by omega]
    omega

-- the months' beginnings within a year
def cum (y m : Int) : Int := num y m 1 - num y 1 1

theorem num_step (y : Int) : num (y + 1) 1 1 = num y 1 1 + yd y := by
  have := ty_succ (y - 1)
  rw [show y - 1 + 1 = y from by omega] at this
  unfold num yd
  simp only [show (1:Int) - 3 < 0 from by omega, if_true]
  rw [show y + 1 - 1 = y from by omega, this]
  by_cases e : lp y = true
  · simp only [e]; simp; omega
  · simp only [e]; simp; omega

theorem num_month (y m : Int) (h1 : 1 ≤ m) (h2 : m ≤ 11) : num y (m + 1) 1 = num y m 1 + md y m := by
  have := ty_succ (y - 1)
  rw [show y - 1 + 1 = y from by omega] at this
  have hk : m = 1 ∨ m = 2 ∨ m = 3 ∨ m = 4 ∨ m = 5 ∨ m = 6 ∨ m = 7 ∨ m = 8 ∨ m = 9 ∨ m = 10 ∨ m = 11 := by omega
  rcases hk with k | k | k | k | k | k | k | k | k | k | k <;> subst k <;> simp [num, md, tm] <;> try omega
  rw [this]
  by_cases e : lp y = true
  · simp only [e]; simp; omega
  · simp only [e]; simp; omega

theorem num_day (y m d : Int) : num y m d = num y m 1 + d - 1 := by
  unfold num; split <;> omega

theorem md_bd (y m : Int) : 28 ≤ md y m ∧ md y m ≤ 31 := by
  unfold md; split
  · omega
  · split
    · split <;> omega
    · omega

theorem num_jan1_mono (y : Int) (k : Nat) : num y 1 1 + 365 * k ≤ num (y + k) 1 1 := by
  induction k with
  | zero => simp
  | succ k ih =>
    have := num_step (y + k)
    have hy : 365 ≤ yd (y + k) := by unfold yd; split <;> omega
    rw [show y + ((k + 1 : Nat) : Int) = y + k + 1 from by omega]
    omega

theorem md12 (y : Int) : md y 12 = 31 := by simp [md]
theorem num_dec (y : Int) : num (y + 1) 1 1 = num y 12 1 + 31 := by
  simp [num, tm]; omega

theorem num_mono_month (y m : Int) (k : Nat) (h1 : 1 ≤ m) (h2 : m + k ≤ 12) : num y m 1 + 28 * k ≤ num y (m + k) 1 := by
  induction k with
  | zero => simp
  | succ k ih =>
    have := num_month y (m + k) (by omega) (by omega)
    have hb := md_bd y (m + k)
    have := ih (by omega)
    rw [show m + ((k + 1 : Nat) : Int) = m + k + 1 from by omega]
    omega

/-- where a valid day lies in its year -/
theorem in_year {y m d : Int} (v : Valid y m d) : num y 1 1 ≤ num y m d ∧ num y m d < num (y + 1) 1 1 := by
  obtain ⟨a, b, c, e⟩ := v
  have h1 := num_day y m d
  constructor
  · have := num_mono_month y 1 (m - 1).toNat (by omega) (by omega)
    rw [show (1 : Int) + ((m - 1).toNat : Int) = m from by omega] at this
    omega
  · by_cases q : m = 12
    · subst q
      rw [num_dec, h1]; have := md12 y; omega
    · have h2 := num_month y m a (by omega)
      have := num_mono_month y (m + 1) (11 - m).toNat (by omega) (by omega)
      rw [show m + 1 + ((11 - m).toNat : Int) = 12 from by omega] at this
      have := num_dec y
      omega

theorem in_month {y m m' d d' : Int} (v : Valid y m d) (v' : Valid y m' d') (h : m < m') : num y m d < num y m' d' := by
  obtain ⟨a, b, c, e⟩ := v
  obtain ⟨a', b', c', e'⟩ := v'
  have h1 := num_day y m d
  have h1' := num_day y m' d'
  have h2 := num_month y m a (by omega)
  have := num_mono_month y (m + 1) (m' - m - 1).toNat (by omega) (by omega)
  rw [show m + 1 + ((m' - m - 1).toNat : Int) = m' from by omega] at this
  omega

theorem inj_y {y y' m m' d d' : Int} (v : Valid y m d) (v' : Valid y' m' d') (h : num y m d = num y' m' d') : ¬ y < y' := by
  intro q
  have a := in_year v
  have b := in_year v'
  have := num_jan1_mono (y + 1) (y' - y - 1).toNat
  rw [show y + 1 + ((y' - y - 1).toNat : Int) = y' from by omega] at this
  omega

theorem inj {y y' m m' d d' : Int} (v : Valid y m d) (v' : Valid y' m' d') (h : num y m d = num y' m' d') : y = y' ∧ m = m' ∧ d = d' := by
  have hy : y = y' := by
    have := inj_y v v' h
    have := inj_y v' v h.symm
    omega
  subst hy
  have hm : m = m' := by
    by_cases a : m < m'
    · have := in_month v v' a; omega
    · by_cases b : m' < m
      · have := in_month v' v b; omega
      · omega
  subst hm
  have h1 := num_day y m d
  have h2 := num_day y m d'
  exact ⟨rfl, rfl, by omega⟩

theorem num_lo {y m d : Int} (hy : 1 ≤ y) (hm : 0 ≤ m) (hd : 0 ≤ d) : -719468 - 1 + 275 ≤ num y m d := by
  unfold num ty tm; split <;> omega

/-- the day is there just where the day of its number is itself -/
theorem there_iff {y m d : Int} (hy : 1 ≤ y) (hm : 0 ≤ m) (hd : 0 ≤ d) :
    (ofY (num y m d) = y ∧ ofM (num y m d) = m ∧ ofD (num y m d) = d) ↔ Valid y m d := by
  have h : 0 ≤ num y m d + 719468 := by
    unfold num ty tm; split <;> omega
  have v := of_valid _ h
  constructor
  · rintro ⟨a, b, c⟩; rw [a, b, c] at v; exact v
  · intro w
    exact inj v w (of_num _ h)

theorem of_is {n y m d : Int} (h : 0 ≤ n + 719468) (v : Valid y m d) (e : num y m d = n) : ofY n = y ∧ ofM n = m ∧ ofD n = d :=
  inj (of_valid n h) v (by rw [of_num n h, e])
theorem num_epoch : num 1970 1 1 = 0 := by decide
theorem num_end : num 2200 1 1 = 84006 := by decide
theorem yd_bd (y : Int) : 365 ≤ yd y ∧ yd y ≤ 366 := by unfold yd; split <;> omega
theorem num_jan1_le (y : Int) (k : Nat) : num (y + k) 1 1 ≤ num y 1 1 + 366 * k := by
  induction k with
  | zero => simp
  | succ k ih =>
    have := num_step (y + k)
    have hy := yd_bd (y + k)
    rw [show y + ((k + 1 : Nat) : Int) = y + k + 1 from by omega]
    omega
theorem jan1_bd (y : Int) (h0 : 1970 ≤ y) (h1 : y ≤ 2200) : 0 ≤ num y 1 1 ∧ num y 1 1 ≤ 84180 := by
  have a := num_jan1_mono 1970 (y - 1970).toNat
  have b := num_jan1_le 1970 (y - 1970).toNat
  rw [show (1970 : Int) + ((y - 1970).toNat : Int) = y from by omega, num_epoch] at a b
  omega
theorem month1_bd (y m : Int) (h0 : 1970 ≤ y) (h1 : y ≤ 2200) (a : 1 ≤ m) (b : m ≤ 12) : 0 ≤ num y m 1 ∧ num y m 1 ≤ 84600 := by
  have h := jan1_bd y h0 h1
  have v : Valid y m 1 := ⟨a, b, by omega, by have := md_bd y m; omega⟩
  have i := in_year v
  have s := num_step y
  have := yd_bd y
  omega
theorem jan1_lt {y n : Int} (a : num y 1 1 ≤ n) (b : n < 84006) : y < 2200 := by
  by_cases q : y < 2200
  · exact q
  · have := num_jan1_mono 2200 (y - 2200).toNat
    rw [show (2200 : Int) + ((y - 2200).toNat : Int) = y from by omega, num_end] at this
    omega
/-- where the years' loop ends, the next one begins within its year -/
theorem month_lt {y m n : Int} (h1 : 1 ≤ m) (h2 : m ≤ 12) (a : n - num y 1 1 < yd y) (b : md y m ≤ n - num y m 1) : m < 12 := by
  by_cases q : m < 12
  · exact q
  · have e : m = 12 := by omega
    subst e
    have h1 := num_dec y
    have h2 := num_step y
    have h3 := md12 y
    omega
theorem of_loops {y m n : Int} (h1 : 1 ≤ m) (h2 : m ≤ 12) (h0 : 0 ≤ n) (a : 0 ≤ n - num y m 1) (b : n - num y m 1 < md y m) :
    ofY n = y ∧ ofM n = m ∧ ofD n = n - num y m 1 + 1 := by
  have v : Valid y m (n - num y m 1 + 1) := ⟨h1, h2, by omega, by omega⟩
  exact of_is (by omega) v (by rw [num_day]; omega)
end Go.Proofs.YthpndgcaoeokeaaGreatDoor.Cal
