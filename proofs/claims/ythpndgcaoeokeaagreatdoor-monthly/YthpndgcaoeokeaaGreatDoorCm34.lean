/- The calendar: days of months, numbers of days, and back. A rule without positions that comes every time: the days that fit, one after another. Of no program. Once a month and once a year: the days that come. Of no program. Once a month and once a year: what comes (Monthly). Of no program. -/
import Derived.Test.YthpndgcaoeokeaaGreatDoorCm29
namespace Go.Proofs.YthpndgcaoeokeaaGreatDoor.Cal
theorem num_lo {y m d : Int} (hy : 1 ≤ y) (hm : 0 ≤ m) (hd : 0 ≤ d) : -719468 - 1 + 275 ≤ num y m d := by
  unfold num ty tm; split <;> omega

theorem of_is {n y m d : Int} (h : 0 ≤ n + 719468) (v : Valid y m d) (e : num y m d = n) : ofY n = y ∧ ofM n = m ∧ ofD n = d :=
  inj (of_valid n h) v (by rw [of_num n h, e])
end Go.Proofs.YthpndgcaoeokeaaGreatDoor.Cal
namespace Go.Proofs.YthpndgcaoeokeaaGreatDoor
open Go.RowKit

theorem from_add (a : Int) (m n : Nat) : from' a (m + n) = from' a m ++ from' (a + m) n := by
  unfold from'
  rw [List.range_add, List.map_append, List.map_map]
  congr 1
  apply List.map_congr_left
  intro i _
  simp only [Function.comp]
  omega
theorem from_mem {a x : Int} {n : Nat} : x ∈ from' a n ↔ a ≤ x ∧ x < a + n := by
  unfold from'
  rw [List.mem_map]
  constructor
  · rintro ⟨i, hi, rfl⟩
    have := List.mem_range.1 hi
    omega
  · rintro ⟨h0, h1⟩
    exact ⟨(x - a).toNat, List.mem_range.2 (by omega), by omega⟩
theorem per_next (r : RuleD) (s k : Int) : perB r s k = perA r s (k + 1) := by
  unfold perA perB
  by_cases h0 : r.fq = 0
  · rw [if_pos h0, if_pos h0]; omega
  rw [if_neg h0, if_neg h0]
  by_cases h1 : r.fq = 1
  · rw [if_pos h1, if_pos h1]
    have : wkIn (s + (k + 1) * 7) r.ws = wkIn (s + k * 7) r.ws := by unfold wkIn; omega
    rw [this]; omega
  rw [if_neg h1, if_neg h1]
  by_cases h2 : r.fq = 2
  · rw [if_pos h2, if_pos h2, Int.add_assoc]
  rw [if_neg h2, if_neg h2, Int.add_assoc]
/-- a period's days at least -/
def perE (r : RuleD) : Int := if r.fq = 0 then 1 else if r.fq = 1 then 7 else if r.fq = 2 then 28 else 365
theorem per_up (r : RuleD) (s k : Int) : perA r s k + perE r ≤ perA r s (k + 1) := by
  rw [← per_next]
  unfold perA perB perE
  by_cases h0 : r.fq = 0
  · simp only [if_pos h0]; omega
  simp only [if_neg h0]
  by_cases h1 : r.fq = 1
  · simp only [if_pos h1]; omega
  simp only [if_neg h1]
  by_cases h2 : r.fq = 2
  · simp only [if_pos h2]
    have := (mBeg_step (Cal.ofY s) (Cal.ofM s + k)).1
    omega
  simp only [if_neg h2]
  rw [Cal.num_step]
  have := Cal.yd_bd (Cal.ofY s + k)
  omega
theorem perE_pos (r : RuleD) : 1 ≤ perE r := by unfold perE; repeat' split <;> omega
/-- the choices of the periods in turn, where none is left out -/
theorem chL_fit (r : RuleD) (s last : Int) (hi : r.iv = 1) (hp : r.pls = []) : ∀ (g : Nat) (k : Int), last < (perA r s k + g * perE r) * 86400 → ∃ m : Nat, chL r s last g k = (from' (perA r s k) m).filter (fitA r) ∧ last < (perA r s k + m) * 86400
  | 0, k, h => ⟨0, rfl, by simpa using h⟩
  | g + 1, k, h => by
    by_cases hl : last < perA r s k * 86400
    · exact ⟨0, by rw [chL_end _ _ _ _ _ hl]; rfl, by simpa using hl⟩
    · have h1 := per_up r s k
      have h2 := perE_pos r
      obtain ⟨m, e, hm⟩ := chL_fit r s last hi hp g (k + 1) (by
        have : ((g + 1 : Nat) : Int) * perE r = g * perE r + perE r := by rw [Int.natCast_add, Int.add_mul]; simp
        rw [this] at h
        omega)
      rw [chL_go _ _ _ _ _ hl, hi, e]
      have e2 : choiceL r (perA r s k) (perN r s k) = (from' (perA r s k) (perN r s k)).filter (fitA r) := by unfold choiceL; rw [if_pos (by rw [hp]; rfl)]; rfl
      have e3 : perA r s (k + 1) = perA r s k + (perN r s k : Nat) := by unfold perN; rw [per_next]; omega
      rw [e2, e3, ← List.filter_append, ← from_add]
      exact ⟨_, rfl, by rw [e3] at hm; rw [Int.natCast_add]; omega⟩
/-- so many of a list as are counted, or all -/
def tkC (ct : Int) (l : List Int) : List Int := if ct = 0 then l else l.take ct.toNat
theorem dys_go (st last ct : Int) (s0 : 0 ≤ st) : ∀ (l : List Int) (c : Int), 0 ≤ c → (ct = 0 ∨ c < ct) →
    dysF st 0 last ct c l = (if ct = 0 then id else List.take (ct - c).toNat) ((l.filter fun d => decide (st / 86400 ≤ d)).takeWhile fun d => decide (d * 86400 ≤ last))
  | [], c, _, _ => by rw [dysF]; split <;> simp
  | d :: l, c, hc, hh => by
    rw [dysF]
    by_cases h1 : d * 86400 < st - st % 86400
    · have e : (d :: l).filter (fun d => decide (st / 86400 ≤ d)) = l.filter fun d => decide (st / 86400 ≤ d) := by rw [List.filter_cons, if_neg (by simp; omega)]
      rw [if_pos h1, dys_go st last ct s0 l c hc hh, e]
    have e : (d :: l).filter (fun d => decide (st / 86400 ≤ d)) = d :: l.filter fun d => decide (st / 86400 ≤ d) := by rw [List.filter_cons, if_pos (by simp; omega)]
    rw [if_neg h1, e]
    by_cases h2 : last < d * 86400
    · have e2 : (d :: l.filter fun d => decide (st / 86400 ≤ d)).takeWhile (fun d => decide (d * 86400 ≤ last)) = [] := by rw [List.takeWhile_cons, if_neg (by simp; omega)]
      rw [if_pos h2, e2]
      split <;> simp
    have e2 : (d :: l.filter fun d => decide (st / 86400 ≤ d)).takeWhile (fun d => decide (d * 86400 ≤ last)) = d :: (l.filter fun d => decide (st / 86400 ≤ d)).takeWhile fun d => decide (d * 86400 ≤ last) := by rw [List.takeWhile_cons, if_pos (by simp; omega)]
    rw [if_neg h2, if_pos (show 0 - st % 86400 ≤ d * 86400 by omega), e2, List.singleton_append]
    by_cases h3 : ct = 0
    · rw [if_neg (show ¬ c + 1 = ct by omega), dys_go st last ct s0 l (c + 1) (by omega) (.inl h3), if_pos h3, if_pos h3]
      rfl
    · rw [if_neg h3]
      by_cases h4 : c + 1 = ct
      · rw [if_pos h4, show (ct - c).toNat = 1 by omega]
        simp
      · rw [if_neg h4, dys_go st last ct s0 l (c + 1) (by omega) (.inr (by omega)), if_neg h3, show (ct - c).toNat = (ct - (c + 1)).toNat + 1 by omega, List.take_succ_cons]
/-- the days of a rule -/
theorem dys_all (r : RuleD) (st last : Int) (N : Nat) (s0 : 0 ≤ st) (hi : r.iv = 1) (hp : r.pls = []) (hc : 0 ≤ r.ct) (hA : perA (startW r (st / 86400)) (st / 86400) 0 ≤ st / 86400) (hg : last < (perA (startW r (st / 86400)) (st / 86400) 0 + (kMax r).toNat * perE r) * 86400) (hN0 : last < (st / 86400 + N) * 86400) (hN1 : (st / 86400 + N - 1) * 86400 ≤ last) :
    dysL r st 0 last = tkC r.ct ((from' (st / 86400) N).filter (fitA (startW r (st / 86400)))) := by
  obtain ⟨r', hr⟩ : ∃ r', r' = startW r (st / 86400) := ⟨_, rfl⟩
  have e1 : r'.iv = 1 ∧ r'.pls = [] ∧ r'.fq = r.fq ∧ r'.ct = r.ct := by
    rw [hr]
    unfold startW
    repeat' split
    all_goals exact ⟨hi, hp, rfl, rfl⟩
  obtain ⟨i1, i2, i3, i4⟩ := e1
  have e2 : kMax r' = kMax r := by unfold kMax; rw [i3]
  have e3 : perE r' = perE r := by unfold perE; rw [i3]
  have e4 : firstD r' st 0 = 0 := by unfold firstD; rw [if_pos (.inr s0)]
  unfold dysL chosenL
  rw [← hr] at hA hg ⊢
  rw [e4, e2]
  obtain ⟨m, em, hm⟩ := chL_fit r' (st / 86400) last i1 i2 (kMax r).toNat 0 (by rw [e3]; exact hg)
  rw [em, dys_go st last r.ct s0 _ 0 (by omega) (by omega)]
  have key : ((((from' (perA r' (st / 86400) 0) m).filter (fitA r')).filter fun d => decide (st / 86400 ≤ d)).takeWhile fun d => decide (d * 86400 ≤ last)) = (from' (st / 86400) N).filter (fitA r') := by
    generalize perA r' (st / 86400) 0 = a at *
    generalize st / 86400 = s at *
    have hb : s + N ≤ a + m := by omega
    obtain ⟨u, hu⟩ : ∃ u : Nat, s = a + u := ⟨(s - a).toNat, by omega⟩
    obtain ⟨v, hv⟩ : ∃ v : Nat, m = u + (N + v) := ⟨m - (u + N), by omega⟩
    rw [hv, from_add, from_add, ← hu, List.filter_append, List.filter_append, List.filter_append, List.filter_append]
    have p1 : ((from' a u).filter (fitA r')).filter (fun d => decide (s ≤ d)) = [] := by
      rw [List.filter_eq_nil_iff]
      intro d hd
      have := from_mem.1 (List.mem_filter.1 hd).1
      simp
      omega
    have p2 : ((from' s N).filter (fitA r')).filter (fun d => decide (s ≤ d)) = (from' s N).filter (fitA r') := by
      rw [List.filter_eq_self]
      intro d hd
      have := from_mem.1 (List.mem_filter.1 hd).1
      simp
      omega
    rw [p1, List.nil_append, p2, List.takeWhile_append_of_pos]
    · have p3 : ∀ L : List Int, (∀ d ∈ L, ¬ d * 86400 ≤ last) → L.takeWhile (fun d => decide (d * 86400 ≤ last)) = [] := by
        intro L h
        cases L with
        | nil => rfl
        | cons d r => rw [List.takeWhile_cons, if_neg (by simpa using h d (by simp))]
      rw [p3 _ (fun d hd => by
        have hm2 := (List.mem_filter.1 hd).1
        have := from_mem.1 (List.mem_filter.1 hm2).1
        omega), List.append_nil]
    · intro d hd
      have := from_mem.1 (List.mem_filter.1 hd).1
      simp only [decide_eq_true_eq]
      omega
  rw [key]
  unfold tkC
  split
  · rfl
  · rw [Int.sub_zero]
end Go.Proofs.YthpndgcaoeokeaaGreatDoor
namespace Go.Proofs.YthpndgcaoeokeaaGreatDoor
open Go.RowKit

theorem filt_next {p : Int → Bool} {n n' : Int} {N : Nat} (hp : p n = true) (hlt : n < n') (hno : ∀ j, n < j → j < n' → p j = false) (hN : n' - n ≤ N) :
    (from' n N).filter p = n :: (from' n' (N - (n' - n).toNat)).filter p := by
  obtain ⟨m, hm⟩ : ∃ m : Nat, n' = n + 1 + m := ⟨(n' - n - 1).toNat, by omega⟩
  obtain ⟨k, hk⟩ : ∃ k : Nat, N = 1 + (m + k) := ⟨N - (1 + m), by omega⟩
  have e1 : N - (n' - n).toNat = k := by omega
  have e2 : from' n 1 = [n] := by unfold from'; simp
  have e3 : (from' (n + 1) m).filter p = [] := by
    rw [List.filter_eq_nil_iff]
    intro j hj
    have := from_mem.1 hj
    rw [hno j (by omega) (by omega)]
    exact Bool.false_ne_true
  rw [e1, hk, from_add, from_add, List.filter_append, List.filter_append, e2, show n + ((1 : Nat) : Int) = n + 1 by omega, e3, List.nil_append, List.filter_cons, if_pos hp, List.filter_nil, ← hm]
  rfl
theorem filt_seq (p : Int → Bool) : ∀ (c N : Nat) (q : Nat → Int), (∀ i, i < c → p (q i) = true) → (∀ i, i + 1 < c → q i < q (i + 1) ∧ ∀ j, q i < j → j < q (i + 1) → p j = false) → (∀ i, i < c → q i < q 0 + N) →
    ((from' (q 0) N).filter p).take c = (List.range c).map q
  | 0, N, q, _, _, _ => by simp
  | 1, N, q, h1, _, h3 => by
    have := h3 0 (by omega)
    obtain ⟨k, hk⟩ : ∃ k : Nat, N = 1 + k := ⟨N - 1, by omega⟩
    have e2 : from' (q 0) 1 = [q 0] := by unfold from'; simp
    rw [hk, from_add, e2, List.filter_append, List.filter_cons, if_pos (h1 0 (by omega))]
    rfl
  | c + 2, N, q, h1, h2, h3 => by
    obtain ⟨a1, a2⟩ := h2 0 (by omega)
    have a3 := h3 1 (by omega)
    rw [filt_next (h1 0 (by omega)) a1 a2 (by rw [Nat.zero_add]; omega), List.take_succ_cons, List.range_succ_eq_map, List.map_cons, List.map_map]
    congr 1
    refine filt_seq p (c + 1) _ (fun i => q (i + 1)) (fun i hi => h1 (i + 1) (by omega)) (fun i hi => h2 (i + 1) (by omega)) (fun i hi => ?_)
    have := h3 (i + 1) (by omega)
    simp only [Nat.zero_add] at a1 ⊢
    omega

/-- the days of a month -/
theorem mBeg_len (y m : Int) : mBeg y (m + 1) = mBeg y m + Cal.md (y + (m - 1) / 12) ((m - 1) % 12 + 1) := by
  unfold mBeg
  by_cases h : (m - 1) % 12 = 11
  · rw [show y + (m + 1 - 1) / 12 = y + (m - 1) / 12 + 1 from by omega, show (m + 1 - 1) % 12 + 1 = 1 from by omega, h, Cal.num_dec, show (11 + 1 : Int) = 12 from rfl, Cal.md12]
  · rw [show y + (m + 1 - 1) / 12 = y + (m - 1) / 12 from by omega, show (m + 1 - 1) % 12 + 1 = (m - 1) % 12 + 1 + 1 from by omega]
    exact Cal.num_month (y + (m - 1) / 12) ((m - 1) % 12 + 1) (by omega) (by omega)
theorem ofD_in {y m j : Int} (h : 0 ≤ j + 719468) (h0 : mBeg y m ≤ j) (h1 : j < mBeg y (m + 1)) : Cal.ofD j = j - mBeg y m + 1 := by
  rw [mBeg_len] at h1
  have e : Cal.num (y + (m - 1) / 12) ((m - 1) % 12 + 1) (j - mBeg y m + 1) = j := by
    rw [Cal.num_day]
    show mBeg y m + _ - 1 = j
    omega
  exact (Cal.of_is h ⟨by omega, by omega, by omega, by omega⟩ e).2.2
theorem md_after {y m : Int} (h1 : 1 ≤ m) (h2 : m ≤ 12) (h : Cal.md y m < 31) : m < 12 ∧ Cal.md y (m + 1) = 31 := by
  unfold Cal.md at h ⊢
  split at h
  · rename_i hm
    refine ⟨by omega, ?_⟩
    rw [if_neg (by omega), if_neg (by omega)]
  · split at h
    · refine ⟨by omega, ?_⟩
      rw [if_neg (by omega), if_neg (by omega)]
    · omega
/-- a month's length, by its distance -/
def mLen (Y M k : Int) : Int := mBeg Y (M + k + 1) - mBeg Y (M + k)
theorem mLen_bd (Y M k : Int) : 28 ≤ mLen Y M k ∧ mLen Y M k ≤ 31 := by unfold mLen; have := mBeg_step Y (M + k); omega
theorem mLen_after (Y M k : Int) (h : mLen Y M k < 31) : mLen Y M (k + 1) = 31 := by
  unfold mLen at h ⊢
  rw [mBeg_len] at h
  rw [show M + (k + 1) + 1 = (M + (k + 1)) + 1 by omega, mBeg_len]
  obtain ⟨a, b⟩ := md_after (y := Y + (M + k - 1) / 12) (m := (M + k - 1) % 12 + 1) (by omega) (by omega) (by omega)
  rw [show (M + (k + 1) - 1) / 12 = (M + k - 1) / 12 by omega, show (M + (k + 1) - 1) % 12 + 1 = (M + k - 1) % 12 + 1 + 1 by omega, b]
  omega
/-- how many months on each time comes -/
def mSt (Y M D : Int) : Nat → Int
  | 0 => 0
  | i + 1 => if D ≤ mLen Y M (mSt Y M D i + 1) then mSt Y M D i + 1 else mSt Y M D i + 2
def mDay (Y M D : Int) (i : Nat) : Int := mBeg Y (M + mSt Y M D i) + D - 1
theorem mSt_bd (Y M D : Int) : ∀ i : Nat, 0 ≤ mSt Y M D i ∧ mSt Y M D i ≤ 2 * i
  | 0 => by simp [mSt]
  | i + 1 => by
    have := mSt_bd Y M D i
    rw [mSt]
    split <;> omega
theorem mSt_in (Y M D : Int) (h0 : D ≤ mLen Y M 0) (hD : D ≤ 31) : ∀ i : Nat, D ≤ mLen Y M (mSt Y M D i)
  | 0 => h0
  | i + 1 => by
    rw [mSt]
    split
    · assumption
    · rename_i h
      have := mLen_after Y M (mSt Y M D i + 1) (by omega)
      rw [show mSt Y M D i + 2 = mSt Y M D i + 1 + 1 by omega, this]
      exact hD
theorem mDay_gap (Y M D : Int) (h0 : D ≤ mLen Y M 0) (hD : D ≤ 31) (i : Nat) : (D ≤ 28 → 28 ≤ mDay Y M D (i + 1) - mDay Y M D i ∧ mDay Y M D (i + 1) - mDay Y M D i ≤ 31) ∧ (28 < D → 29 ≤ mDay Y M D (i + 1) - mDay Y M D i ∧ mDay Y M D (i + 1) - mDay Y M D i ≤ 62) := by
  have h1 := mSt_in Y M D h0 hD i
  have b1 := mLen_bd Y M (mSt Y M D i)
  have b2 := mLen_bd Y M (mSt Y M D i + 1)
  unfold mDay
  rw [mSt]
  unfold mLen at *
  split
  · rw [← Int.add_assoc]; omega
  · rename_i h
    rw [show M + (mSt Y M D i + 2) = M + (mSt Y M D i + 1) + 1 by omega]
    rw [show M + (mSt Y M D i + 1) = M + mSt Y M D i + 1 by omega] at *
    omega
theorem mDay_is (Y M D : Int) (h0 : D ≤ mLen Y M 0) (h1 : 1 ≤ D) (hD : D ≤ 31) (hb : 0 ≤ mBeg Y M) (i : Nat) : 0 ≤ mDay Y M D i ∧ Cal.ofD (mDay Y M D i) = D := by
  have a := mSt_in Y M D h0 hD i
  obtain ⟨b1, b2⟩ := mSt_bd Y M D i
  obtain ⟨k, hk⟩ := Int.eq_ofNat_of_zero_le b1
  have c := (mBeg_up Y M k).1
  rw [hk] at a
  unfold mLen at a
  unfold mDay
  rw [hk]
  refine ⟨by omega, ?_⟩
  rw [ofD_in (y := Y) (m := M + k) (by omega) (by omega) (by omega)]
  omega
theorem mDay_no (Y M D : Int) (h0 : D ≤ mLen Y M 0) (h1 : 1 ≤ D) (hD : D ≤ 31) (hb : 0 ≤ mBeg Y M) (i : Nat) (j : Int) (j0 : mDay Y M D i < j) (j1 : j < mDay Y M D (i + 1)) : Cal.ofD j ≠ D := by
  have hj := (mDay_is Y M D h0 h1 hD hb i).1
  have hj0 : 0 ≤ j := by omega
  clear hj
  unfold mDay at j0 j1
  rw [mSt] at j1
  by_cases a : j < mBeg Y (M + mSt Y M D i + 1)
  · rw [ofD_in (y := Y) (m := M + mSt Y M D i) (by omega) (by omega) a]; omega
  · split at j1
    · rename_i h
      unfold mLen at h
      rw [← Int.add_assoc] at j1 h
      rw [ofD_in (y := Y) (m := M + mSt Y M D i + 1) (by omega) (by omega) (by omega)]; omega
    · rename_i h
      unfold mLen at h
      rw [show M + (mSt Y M D i + 1) = M + mSt Y M D i + 1 by omega] at h
      rw [show M + (mSt Y M D i + 2) = M + mSt Y M D i + 1 + 1 by omega] at j1
      by_cases b : j < mBeg Y (M + mSt Y M D i + 1 + 1)
      · rw [ofD_in (y := Y) (m := M + mSt Y M D i + 1) (by omega) (by omega) b]; omega
      · have := mLen_after Y M (mSt Y M D i + 1) (by unfold mLen; rw [show M + (mSt Y M D i + 1) = M + mSt Y M D i + 1 by omega]; omega)
        unfold mLen at this
        rw [show M + (mSt Y M D i + 1 + 1) = M + mSt Y M D i + 1 + 1 by omega] at this
        rw [ofD_in (y := Y) (m := M + mSt Y M D i + 1 + 1) (by omega) (by omega) (by omega)]; omega

/-- years: not on a leap day -/
theorem ty_gap (y : Int) : 365 ≤ Cal.ty (y + 1) - Cal.ty y ∧ Cal.ty (y + 1) - Cal.ty y ≤ 366 := by
  rw [Cal.ty_succ]; split <;> omega
theorem num_gap (y m d : Int) : 365 ≤ Cal.num (y + 1) m d - Cal.num y m d ∧ Cal.num (y + 1) m d - Cal.num y m d ≤ 366 := by
  unfold Cal.num
  split
  · have := ty_gap (y - 1)
    rw [show y - 1 + 1 = y + 1 - 1 by omega] at this
    omega
  · have := ty_gap y
    omega
theorem num_up (y m d : Int) : ∀ k : Nat, Cal.num y m d + 365 * k ≤ Cal.num (y + k) m d ∧ Cal.num (y + k) m d ≤ Cal.num y m d + 366 * k
  | 0 => by simp
  | k + 1 => by
    have h1 := num_up y m d k
    have h2 := num_gap (y + k) m d
    rw [show y + ((k + 1 : Nat) : Int) = y + k + 1 by omega]
    omega
theorem num_lt {y y' m d : Int} (h : Cal.num y m d < Cal.num y' m d) : y < y' := by
  by_cases q : y < y'
  · exact q
  · obtain ⟨k, hk⟩ : ∃ k : Nat, y = y' + k := ⟨(y - y').toNat, by omega⟩
    have := (num_up y' m d k).1
    rw [← hk] at this
    omega
theorem md_year {y y' m d : Int} (h : d ≤ Cal.md y m) (hn : ¬ (m = 2 ∧ d = 29)) : d ≤ Cal.md y' m := by
  unfold Cal.md at h ⊢
  split at h
  · rename_i q; rw [if_pos q]; exact h
  · rename_i q
    rw [if_neg q]
    split at h
    · rename_i q2
      rw [if_pos q2]
      split at h <;> split <;> omega
    · rename_i q2; rw [if_neg q2]; exact h
def yDay (Y M D : Int) (i : Nat) : Int := Cal.num (Y + i) M D
theorem yDay_is (Y M D : Int) (hv : Cal.Valid Y M D) (hn : ¬ (M = 2 ∧ D = 29)) (i : Nat) (h0 : 0 ≤ yDay Y M D i) : Cal.ofM (yDay Y M D i) = M ∧ Cal.ofD (yDay Y M D i) = D := by
  obtain ⟨a, b, c, d⟩ := hv
  exact (Cal.of_is (n := yDay Y M D i) (by omega) ⟨a, b, c, md_year (y' := Y + i) d hn⟩ rfl).2
theorem yDay_no (Y M D : Int) (i : Nat) (j : Int) (hj : 0 ≤ j) (j0 : yDay Y M D i < j) (j1 : j < yDay Y M D (i + 1)) : ¬ (Cal.ofM j = M ∧ Cal.ofD j = D) := by
  rintro ⟨e1, e2⟩
  have e := Cal.of_num j (by omega)
  rw [e1, e2] at e
  unfold yDay at j0 j1
  rw [← e] at j0 j1
  have h1 := num_lt j0
  have h2 := num_lt j1
  omega
/-- leap days -/
def lYear (Y : Int) (i : Nat) : Int := if Y + 4 * i < 2100 then Y + 4 * i else Y + 4 * i + 4
def lDay (Y : Int) (i : Nat) : Int := Cal.num (lYear Y i) 2 29
theorem lYear_leap {Y : Int} (h : Cal.lp Y = true) (h0 : 1980 ≤ Y) (h1 : Y < 2100) (i : Nat) (hi : i ≤ 24) : Cal.lp (lYear Y i) = true ∧ 1980 ≤ lYear Y i ∧ lYear Y i < 2200 := by
  rw [Cal.lp_iff] at h ⊢
  unfold lYear
  split <;> omega
theorem leap_gap {y : Int} (h : Cal.lp y = true) : Cal.num (y + 4) 2 29 - Cal.num y 2 29 = 1461 := by
  rw [Cal.lp_iff] at h
  obtain ⟨h4, h100⟩ := h
  have e : ∀ y : Int, Cal.num y 2 29 = Cal.ty (y - 1) + Cal.tm 11 + 29 - 1 - 719468 := fun y => by unfold Cal.num; rw [if_pos (by omega)]; rfl
  rw [e, e, show y + 4 - 1 = y + 3 by omega]
  unfold Cal.ty
  have a1 : (y + 3) / 4 = y / 4 := by omega
  have a2 : (y - 1) / 4 = y / 4 - 1 := by omega
  by_cases q : y % 100 = 0
  · have q4 : y % 400 = 0 := by omega
    have b1 : (y + 3) / 100 = y / 100 := by omega
    have b2 : (y - 1) / 100 = y / 100 - 1 := by omega
    have b3 : (y + 3) / 400 = y / 400 := by omega
    have b4 : (y - 1) / 400 = y / 400 - 1 := by omega
    omega
  · have r : 4 ≤ y % 100 ∧ y % 100 ≤ 96 := by omega
    have b1 : (y + 3) / 100 = y / 100 := by omega
    have b2 : (y - 1) / 100 = y / 100 := by omega
    have b3 : (y + 3) / 400 = y / 400 := by omega
    have b4 : (y - 1) / 400 = y / 400 := by omega
    omega
theorem leap_2096 : Cal.num 2104 2 29 - Cal.num 2096 2 29 = 2921 := by decide
theorem lDay_gap {Y : Int} (h : Cal.lp Y = true) (h0 : 1980 ≤ Y) (h1 : Y < 2100) (i : Nat) (hi : i + 1 ≤ 24) : lDay Y (i + 1) - lDay Y i = 1461 ∨ lDay Y (i + 1) - lDay Y i = 2921 := by
  obtain ⟨a, b, c⟩ := lYear_leap h h0 h1 i (by omega)
  rw [Cal.lp_iff] at h
  unfold lDay
  by_cases q1 : Y + 4 * ((i + 1 : Nat) : Int) < 2100
  · left
    have e1 : lYear Y i = Y + 4 * i := by unfold lYear; rw [if_pos (by omega)]
    have e2 : lYear Y (i + 1) = Y + 4 * i + 4 := by unfold lYear; rw [if_pos q1]; omega
    rw [e1] at a
    rw [e1, e2]
    exact leap_gap a
  · by_cases q2 : Y + 4 * (i : Int) < 2100
    · right
      have e0 : Y + 4 * (i : Int) = 2096 := by omega
      have e1 : lYear Y i = 2096 := by unfold lYear; rw [if_pos q2]; exact e0
      have e2 : lYear Y (i + 1) = 2104 := by unfold lYear; rw [if_neg q1]; omega
      rw [e1, e2]
      exact leap_2096
    · left
      have e1 : lYear Y i = Y + 4 * i + 4 := by unfold lYear; rw [if_neg q2]
      have e2 : lYear Y (i + 1) = Y + 4 * i + 4 + 4 := by unfold lYear; rw [if_neg q1]; omega
      rw [e1] at a
      rw [e1, e2]
      exact leap_gap a
theorem lDay_is {Y : Int} (h : Cal.lp Y = true) (h0 : 1980 ≤ Y) (h1 : Y < 2100) (i : Nat) (hi : i ≤ 24) : 0 ≤ lDay Y i ∧ Cal.ofM (lDay Y i) = 2 ∧ Cal.ofD (lDay Y i) = 29 := by
  obtain ⟨a, b, c⟩ := lYear_leap h h0 h1 i hi
  have hv : Cal.Valid (lYear Y i) 2 29 := ⟨by omega, by omega, by omega, by unfold Cal.md; simp [a]⟩
  have h2 := Cal.num_lo (y := lYear Y i) (m := 2) (d := 29) (by omega) (by omega) (by omega)
  have h3 : 0 ≤ lDay Y i := by
    unfold lDay Cal.num
    rw [if_pos (by omega)]
    unfold Cal.ty
    have : Cal.tm (2 - 3 + 12) = 337 := by decide
    rw [this]
    omega
  exact ⟨h3, (Cal.of_is (n := lDay Y i) (by omega) hv rfl).2⟩
theorem lDay_no {Y : Int} (h : Cal.lp Y = true) (i : Nat) (j : Int) (hj : 0 ≤ j) (j0 : lDay Y i < j) (j1 : j < lDay Y (i + 1)) : ¬ (Cal.ofM j = 2 ∧ Cal.ofD j = 29) := by
  rintro ⟨e1, e2⟩
  have e := Cal.of_num j (by omega)
  obtain ⟨_, _, _, v⟩ := Cal.of_valid j (by omega)
  rw [e1, e2] at e v
  have hl : Cal.lp (Cal.ofY j) = true := by
    unfold Cal.md at v
    by_cases q : Cal.lp (Cal.ofY j) = true
    · exact q
    · simp [q] at v
  unfold lDay at j0 j1
  rw [← e] at j0 j1
  have k1 := num_lt j0
  have k2 := num_lt j1
  rw [Cal.lp_iff] at h hl
  unfold lYear at k1 k2
  split at k1 <;> split at k2 <;> omega
end Go.Proofs.YthpndgcaoeokeaaGreatDoor
namespace Go.Proofs.YthpndgcaoeokeaaGreatDoor
open Go.RowKit

def moRule (c : Int) (yr : Bool) : List UInt8 := (if yr then [70, 82, 69, 81, 61, 89, 69, 65, 82, 76, 89, 59, 67, 79, 85, 78, 84, 61] else [70, 82, 69, 81, 61, 77, 79, 78, 84, 72, 76, 89, 59, 67, 79, 85, 78, 84, 61]) ++ dgs c
def moR (c : Int) (yr : Bool) : RuleD := ⟨if yr then 3 else 2, 1, c, 9223372036854775807, [], [], [], [], 0⟩
theorem moRule_is (c : Int) (yr : Bool) (c0 : 1 ≤ c) (c1 : c ≤ 1000) : ∃ F, ruleF (moRule c yr) = some F ∧ ruleOf F = moR c yr := by
  have e : moRule c yr = Lib.join (([(0, if yr then [89, 69, 65, 82, 76, 89] else [77, 79, 78, 84, 72, 76, 89]), (2, dgs c)] : List (Nat × List UInt8)).map lnR) [59] := by
    unfold moRule Lib.join lnR
    cases yr <;> simp [List.intercalate, List.intersperse, partNames]
  rw [e]
  refine ⟨_, rule_ps (r := moR c yr) (by simp) ?_ (by simp) (by simp [ofP]) ⟨by cases yr <;> rfl, rfl, wi_dgs 1 1000 c (by omega) (by omega) c0 c1, rfl, rfl, rfl, rfl, rfl, rfl⟩ (by cases yr <;> rfl)⟩
  intro p hp
  simp only [List.mem_cons, List.not_mem_nil, or_false] at hp
  rcases hp with rfl | rfl
  · exact ⟨by simp, by cases yr <;> decide⟩
  · exact ⟨by simp, dgs_no c 59 (by decide) (by omega) (by omega)⟩
theorem moRule_nice (c : Int) (yr : Bool) (c0 : 1 ≤ c) (c1 : c ≤ 1000) : Nice 30 (moRule c yr) ∧ moRule c yr ≠ [] := by
  refine ⟨((show Nice 20 (if yr then [70, 82, 69, 81, 61, 89, 69, 65, 82, 76, 89, 59, 67, 79, 85, 78, 84, 61] else [70, 82, 69, 81, 61, 77, 79, 78, 84, 72, 76, 89, 59, 67, 79, 85, 78, 84, 61]) from ?_).app (dgs_nice c (by omega) (by omega))).to (by omega), by cases yr <;> simp [moRule]⟩
  cases yr <;> exact ⟨by decide, by decide⟩

theorem fitD_one {r : RuleD} {D : Int} (h : r.mds = [D]) (hD : 1 ≤ D) {n : Int} (hn : 0 ≤ n) : fitD r n = decide (Cal.ofD n = D) := by
  unfold fitD
  rw [h]
  have : leftM n ≥ 1 := by unfold leftM; have := month_around n (by omega); omega
  have h1 : ¬ (-(leftM n) = D) := by omega
  simp [h1]
theorem fit_month {r : RuleD} {D : Int} (h : r.mds = [D]) (hm : r.ms = []) (hw : r.wks = []) (hD : 1 ≤ D) {n : Int} (hn : 0 ≤ n) : fitA r n = decide (Cal.ofD n = D) := by
  unfold fitA
  rw [fitD_one h hD hn]
  unfold fitM fitW
  rw [hm, hw]
  simp
theorem fit_year {r : RuleD} {M D : Int} (h : r.mds = [D]) (hm : r.ms = [M]) (hw : r.wks = []) (hD : 1 ≤ D) {n : Int} (hn : 0 ≤ n) : fitA r n = decide (Cal.ofM n = M ∧ Cal.ofD n = D) := by
  unfold fitA
  rw [fitD_one h hD hn]
  unfold fitM fitW
  rw [hm, hw]
  simp [Bool.decide_and]
/-- what two times in a row lie apart, in days -/
def gapOk (yr : Bool) (M D g : Int) : Prop := if yr then (if M = 2 ∧ D = 29 then g = 1461 ∨ g = 2921 else 365 ≤ g ∧ g ≤ 366) else if 28 < D then 29 ≤ g ∧ g ≤ 62 else 28 ≤ g ∧ g ≤ 31
theorem gap_pos {yr : Bool} {M D g : Int} (h : gapOk yr M D g) : 1 ≤ g := by
  unfold gapOk at h
  repeat' split at h
  all_goals omega
theorem mo_days (s : Int) (s1 : 3652 ≤ s) (s2 : s ≤ 40177) (c : Nat) (c0 : 1 ≤ c) (c1 : c ≤ 25) (yr : Bool) (p : Int → Bool) (hp : ∀ n, 0 ≤ n → p n = if yr then decide (Cal.ofM n = Cal.ofM s ∧ Cal.ofD n = Cal.ofD s) else decide (Cal.ofD n = Cal.ofD s)) (N : Nat) (hN : 84004 ≤ s + N) :
    ∃ q : Nat → Int, ((from' s N).filter p).take c = (List.range c).map q ∧ q 0 = s ∧ (∀ i, i < c → s ≤ q i ∧ q i ≤ 80000 ∧ Cal.ofD (q i) = Cal.ofD s ∧ (yr = true → Cal.ofM (q i) = Cal.ofM s)) ∧ ∀ i, i + 1 < c → gapOk yr (Cal.ofM s) (Cal.ofD s) (q (i + 1) - q i) := by
  obtain ⟨v1, v2, v3, v4⟩ := Cal.of_valid s (by omega)
  have e := Cal.of_num s (by omega)
  have md := Cal.md_bd (Cal.ofY s) (Cal.ofM s)
  -- a sequence with the gaps
  have fin : ∀ q : Nat → Int, q 0 = s → (∀ i, i + 1 < c → gapOk yr (Cal.ofM s) (Cal.ofD s) (q (i + 1) - q i)) → (∀ i, i < c → q i ≤ 80000) → (∀ i, i < c → Cal.ofD (q i) = Cal.ofD s ∧ (yr = true → Cal.ofM (q i) = Cal.ofM s)) → (∀ i, i + 1 < c → ∀ j, 0 ≤ j → q i < j → j < q (i + 1) → p j = false) →
      ∃ q : Nat → Int, ((from' s N).filter p).take c = (List.range c).map q ∧ q 0 = s ∧ (∀ i, i < c → s ≤ q i ∧ q i ≤ 80000 ∧ Cal.ofD (q i) = Cal.ofD s ∧ (yr = true → Cal.ofM (q i) = Cal.ofM s)) ∧ ∀ i, i + 1 < c → gapOk yr (Cal.ofM s) (Cal.ofD s) (q (i + 1) - q i) := by
    intro q q0 hg hb hd hno
    have hs : ∀ i, i < c → s ≤ q i := by
      intro i
      induction i with
      | zero => intro _; omega
      | succ i ih =>
        intro hi
        have := ih (by omega)
        have := gap_pos (hg i hi)
        omega
    refine ⟨q, ?_, q0, fun i hi => ⟨hs i hi, hb i hi, hd i hi⟩, hg⟩
    have := filt_seq p c N q (fun i hi => ?_) (fun i hi => ⟨?_, fun j j0 j1 => ?_⟩) (fun i hi => ?_)
    · rwa [q0] at this
    · rw [hp _ (by have := hs i hi; omega)]
      cases yr with
      | true => simp [(hd i hi).1, (hd i hi).2 rfl]
      | false => simp [(hd i hi).1]
    · have := gap_pos (hg i hi); omega
    · exact hno i hi j (by have := hs i (by omega); omega) j0 j1
    · rw [q0]; have := hb i hi; omega
  cases yr with
  | false =>
    have hm0 := mBeg_own s (by omega)
    have hm1 := mBeg_next s (by omega)
    have hl0 : Cal.ofD s ≤ mLen (Cal.ofY s) (Cal.ofM s) 0 := by unfold mLen; rw [Int.add_zero, hm0, hm1]; omega
    have e2 := Cal.num_day (Cal.ofY s) (Cal.ofM s) (Cal.ofD s)
    have hD : Cal.ofD s ≤ 31 := by omega
    have hb : 0 ≤ mBeg (Cal.ofY s) (Cal.ofM s) := by rw [hm0]; omega
    refine fin (mDay (Cal.ofY s) (Cal.ofM s) (Cal.ofD s)) ?_ (fun i _ => ?_) (fun i hi => ?_) (fun i _ => ⟨(mDay_is _ _ _ hl0 v3 hD hb i).2, fun h => by cases h⟩) (fun i _ j _ j0 j1 => ?_)
    · show mBeg (Cal.ofY s) (Cal.ofM s + 0) + Cal.ofD s - 1 = s
      rw [Int.add_zero, hm0]; omega
    · obtain ⟨g1, g2⟩ := mDay_gap _ _ _ hl0 hD i
      unfold gapOk
      simp only [Bool.false_eq_true, if_false]
      split
      · exact g2 (by assumption)
      · exact g1 (by omega)
    · obtain ⟨b1, b2⟩ := mSt_bd (Cal.ofY s) (Cal.ofM s) (Cal.ofD s) i
      obtain ⟨k, hk⟩ := Int.eq_ofNat_of_zero_le b1
      have := (mBeg_up (Cal.ofY s) (Cal.ofM s) k).2
      unfold mDay
      rw [hk]
      rw [hm0] at this
      omega
    · rw [hp j (by omega)]
      have := mDay_no _ _ _ hl0 v3 hD hb i j j0 j1
      simp [this]
  | true =>
    by_cases hlp : Cal.ofM s = 2 ∧ Cal.ofD s = 29
    · have hy : Cal.lp (Cal.ofY s) = true := by
        rw [hlp.1, hlp.2] at v4
        unfold Cal.md at v4
        by_cases q : Cal.lp (Cal.ofY s) = true
        · exact q
        · simp [q] at v4
      have hyr : 1980 ≤ Cal.ofY s ∧ Cal.ofY s < 2081 := by
        have a := year_around s (by omega)
        have a1 : Cal.num 1980 1 1 = 3652 := by decide
        have a2 : Cal.num 2081 1 1 = 40543 := by decide
        constructor
        · have : Cal.num 1980 1 1 < Cal.num (Cal.ofY s + 1) 1 1 := by omega
          have := num_lt this
          omega
        · exact num_lt (show Cal.num (Cal.ofY s) 1 1 < Cal.num 2081 1 1 by omega)
      have q0 : lDay (Cal.ofY s) 0 = s := by
        unfold lDay lYear
        rw [if_pos (by omega)]
        rw [hlp.1, hlp.2] at e
        simpa using e
      refine fin (lDay (Cal.ofY s)) q0 (fun i hi => ?_) (fun i hi => ?_) (fun i hi => ?_) (fun i hi j jj j0 j1 => ?_)
      · unfold gapOk
        rw [if_pos rfl, if_pos hlp]
        exact lDay_gap hy hyr.1 (by omega) i (by omega)
      · obtain ⟨a, b, cc⟩ := lYear_leap hy hyr.1 (by omega) i (by omega)
        have hle : lYear (Cal.ofY s) i ≤ 2180 := by unfold lYear; split <;> omega
        have h1 : Cal.num 2180 2 29 = 76760 := by decide
        by_cases q : lDay (Cal.ofY s) i ≤ 80000
        · exact q
        · have : Cal.num 2180 2 29 < Cal.num (lYear (Cal.ofY s) i) 2 29 := by show _ < lDay (Cal.ofY s) i; omega
          have := num_lt this
          omega
      · obtain ⟨_, a, b⟩ := lDay_is hy hyr.1 (by omega) i (by omega)
        rw [hlp.1, hlp.2]
        exact ⟨b, fun _ => a⟩
      · rw [hp j jj]
        have := lDay_no hy i j jj j0 j1
        rw [← hlp.1, ← hlp.2] at this
        simp only [if_true]
        rw [hlp.1, hlp.2] at this ⊢
        exact decide_eq_false this
    · have hup := fun i => num_up (Cal.ofY s) (Cal.ofM s) (Cal.ofD s) i
      have hge : ∀ i : Nat, 0 ≤ yDay (Cal.ofY s) (Cal.ofM s) (Cal.ofD s) i := fun i => by
        have := (hup i).1
        unfold yDay
        omega
      refine fin (yDay (Cal.ofY s) (Cal.ofM s) (Cal.ofD s)) ?_ (fun i hi => ?_) (fun i hi => ?_) (fun i hi => ?_) (fun i hi j jj j0 j1 => ?_)
      · show Cal.num (Cal.ofY s + ((0 : Nat) : Int)) (Cal.ofM s) (Cal.ofD s) = s
        simpa using e
      · unfold gapOk
        rw [if_pos rfl, if_neg hlp]
        have := num_gap (Cal.ofY s + i) (Cal.ofM s) (Cal.ofD s)
        unfold yDay
        rw [show Cal.ofY s + ((i + 1 : Nat) : Int) = Cal.ofY s + i + 1 by omega]
        exact this
      · have := (hup i).2
        unfold yDay
        omega
      · have := yDay_is _ _ _ (Cal.of_valid s (by omega)) hlp i (hge i)
        exact ⟨this.2, fun _ => this.1⟩
      · rw [hp j jj]
        have := yDay_no _ _ _ i j jj j0 j1
        simp only [if_true]
        exact decide_eq_false this
theorem mon_ins (t c : Int) (yr : Bool) (c0 : 1 ≤ c) (c1 : c ≤ 25) (s0 : 315532800 ≤ t) (s1 : t ≤ 3471292799) :
    ∃ q : Nat → Int, insE (evTx [120] t 60 (moRule c yr)) 0 7258118399 = .ok ((List.range c.toNat).map fun i : Nat => (q i * 86400 + t % 86400, q i * 86400 + t % 86400 + 60)) ∧ q 0 = t / 86400 ∧
      (∀ i, i < c.toNat → t / 86400 ≤ q i ∧ q i ≤ 80000 ∧ Cal.ofD (q i) = Cal.ofD (t / 86400) ∧ (yr = true → Cal.ofM (q i) = Cal.ofM (t / 86400))) ∧ ∀ i, i + 1 < c.toNat → gapOk yr (Cal.ofM (t / 86400)) (Cal.ofD (t / 86400)) (q (i + 1) - q i) := by
  obtain ⟨F, hF, ho⟩ := moRule_is c yr c0 (by omega)
  obtain ⟨hn, hne⟩ := moRule_nice c yr c0 (by omega)
  obtain ⟨_, _, v3, _⟩ := Cal.of_valid (t / 86400) (by omega)
  have hma := month_around (t / 86400) (by omega)
  have hya := year_around (t / 86400) (by omega)
  have hl : lastOf (moR c yr).un t 7258118399 = 7258118398 - t % 86400 := by unfold lastOf moR; simp; omega
  obtain ⟨N, hN⟩ : ∃ N : Nat, (N : Int) = (7258118398 - t % 86400) / 86400 + 1 - t / 86400 := ⟨((7258118398 - t % 86400) / 86400 + 1 - t / 86400).toNat, by omega⟩
  have hfit : ∀ n, 0 ≤ n → fitA (startW (moR c yr) (t / 86400)) n = if yr then decide (Cal.ofM n = Cal.ofM (t / 86400) ∧ Cal.ofD n = Cal.ofD (t / 86400)) else decide (Cal.ofD n = Cal.ofD (t / 86400)) := by
    intro n hn0
    cases yr with
    | true => exact fit_year (r := startW (moR c true) (t / 86400)) rfl rfl rfl v3 hn0
    | false => exact fit_month (r := startW (moR c false) (t / 86400)) rfl rfl rfl v3 hn0
  obtain ⟨q, q1, q2, q3, q4⟩ := mo_days (t / 86400) (by omega) (by omega) c.toNat (by omega) (by omega) yr (fitA (startW (moR c yr) (t / 86400))) hfit N (by omega)
  refine ⟨q, ?_, q2, q3, q4⟩
  have hd : dysL (moR c yr) t 0 (lastOf (moR c yr).un t 7258118399) = (List.range c.toNat).map q := by
    rw [dys_all (moR c yr) t _ N (by omega) rfl rfl (show 0 ≤ c by omega) ?_ ?_ (by rw [hl]; omega) (by rw [hl]; omega)]
    · rw [← q1]
      show (if c = 0 then _ else _) = _
      rw [if_neg (by omega)]
      rfl
    · cases yr with
      | true =>
        show Cal.num (Cal.ofY (t / 86400) + 0) 1 1 ≤ t / 86400
        rw [Int.add_zero]; exact hya.1
      | false =>
        show mBeg (Cal.ofY (t / 86400)) (Cal.ofM (t / 86400) + 0) ≤ t / 86400
        rw [Int.add_zero]; exact hma.1
    · rw [hl]
      cases yr with
      | true =>
        show 7258118398 - t % 86400 < (Cal.num (Cal.ofY (t / 86400) + 0) 1 1 + ((500 : Nat) : Int) * 365) * 86400
        rw [Int.add_zero]; omega
      | false =>
        show 7258118398 - t % 86400 < (mBeg (Cal.ofY (t / 86400)) (Cal.ofM (t / 86400) + 0) + ((6000 : Nat) : Int) * 28) * 86400
        rw [Int.add_zero]; omega
  rw [ins_rule (L := (List.range c.toNat).map fun i : Nat => q i * 86400 + t % 86400) t 60 7258118399 (by omega) (by omega) (by omega) (by omega) (hn.to (by omega)) hF hne ho 0 (by decide) (by rw [hd, List.map_map]; rfl) (by rw [List.length_map, List.length_range]; omega)]
  rw [List.map_map, List.filter_eq_self.2]
  · rfl
  · intro p hp
    obtain ⟨i, hi, rfl⟩ := List.mem_map.1 hp
    have := (q3 i (List.mem_range.1 hi)).1
    simp only [Function.comp, decide_eq_true_eq]
    omega

/-- a time's text from the month on, from the day on -/
theorem print_six (n : Int) : (⟨(printL n).toArray⟩ : ByteArray).extract 6 16 = ⟨(pad 2 (Cal.ofD (n / 86400)) ++ [84] ++ pad 2 (n % 86400 / 3600) ++ pad 2 (n % 86400 / 60 % 60) ++ pad 2 (n % 86400 % 60) ++ [90]).toArray⟩ := by
  apply ByteArray.ext
  rw [ByteArray.data_extract]
  simp only [printL, pad]
  simp
theorem print_four (n : Int) : (⟨(printL n).toArray⟩ : ByteArray).extract 4 16 = ⟨(pad 2 (Cal.ofM (n / 86400)) ++ pad 2 (Cal.ofD (n / 86400)) ++ [84] ++ pad 2 (n % 86400 / 3600) ++ pad 2 (n % 86400 / 60 % 60) ++ pad 2 (n % 86400 % 60) ++ [90]).toArray⟩ := by
  apply ByteArray.ext
  rw [ByteArray.data_extract]
  simp only [printL, pad]
  simp
theorem print_day (n : Int) : (⟨(printL n).toArray⟩ : ByteArray).extract 6 8 = ⟨(pad 2 (Cal.ofD (n / 86400))).toArray⟩ := by
  apply ByteArray.ext
  rw [ByteArray.data_extract]
  simp only [printL, pad]
  simp
theorem print_md (n : Int) : (⟨(printL n).toArray⟩ : ByteArray).extract 4 8 = ⟨(pad 2 (Cal.ofM (n / 86400)) ++ pad 2 (Cal.ofD (n / 86400))).toArray⟩ := by
  apply ByteArray.ext
  rw [ByteArray.data_extract]
  simp only [printL, pad]
  simp
theorem late_nat : ∀ d : Nat, d < 32 → (!Op.bytesLess (pad 2 (d : Int)) [50, 56] && !(pad 2 (d : Int) == [50, 56])) = decide (28 < d) := by decide
theorem leap_nat : ∀ m : Nat, m < 13 → ∀ d : Nat, d < 32 → (pad 2 (m : Int) ++ pad 2 (d : Int) == [48, 50, 50, 57]) = decide (m = 2 ∧ d = 29) := by decide
theorem late_is {d : Int} (h0 : 0 ≤ d) (h1 : d ≤ 31) : (!Op.bytesLess (pad 2 d) [50, 56] && !(pad 2 d == [50, 56])) = decide (28 < d) := by
  obtain ⟨k, rfl⟩ := Int.eq_ofNat_of_zero_le h0
  rw [late_nat k (by omega)]
  rw [Bool.eq_iff_iff, decide_eq_true_iff, decide_eq_true_iff]
  omega
theorem leap_is {m d : Int} (m0 : 0 ≤ m) (m1 : m ≤ 12) (h0 : 0 ≤ d) (h1 : d ≤ 31) : (pad 2 m ++ pad 2 d == [48, 50, 50, 57]) = decide (m = 2 ∧ d = 29) := by
  obtain ⟨k, rfl⟩ := Int.eq_ofNat_of_zero_le h0
  obtain ⟨j, rfl⟩ := Int.eq_ofNat_of_zero_le m0
  rw [leap_nat j (by omega) k (by omega)]
  rw [Bool.eq_iff_iff, decide_eq_true_iff, decide_eq_true_iff]
  omega
end Go.Proofs.YthpndgcaoeokeaaGreatDoor
