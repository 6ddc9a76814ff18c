/- The document's words, weekdays and signed numbers (fallowref). The statements' own helpers: pick, digits, moment (fallowkeep). Ticks: times as they are written: read as themselves, in order; lengths as they are written. Of no program. Ticks: whatever the numbers, it answers true. -/
import Derived.Test.YthpndgcaoeokeaaGreatDoorCm26
namespace Go.Proofs.YthpndgcaoeokeaaGreatDoor
open Go.RowKit

theorem toA_ne (a b : List UInt8) : ((⟨a.toArray⟩ : ByteArray).toList == (⟨b.toArray⟩ : ByteArray).toList) = false ↔ ¬ a = b := by
  rw [← toA_eq a b, Bool.not_eq_true]
end Go.Proofs.YthpndgcaoeokeaaGreatDoor
namespace Go.Proofs.YthpndgcaoeokeaaGreatDoor
open Go.RowKit Go.Sort

theorem dgsF_dval : ∀ (g : Nat) (n : Int), 0 ≤ n → n < 10 ^ g → dval (dgsF g n) = n ∧ (dgsF g n).all dig = true
  | 0, n, h0, h1 => by simp at h1; exact ⟨by simp [dgsF, dval]; omega, rfl⟩
  | g + 1, n, h0, h1 => by
    have hb : ((UInt8.ofNat (48 + n % 10).toNat).toNat : Int) = 48 + n % 10 := by
      rw [UInt8.toNat_ofNat', Nat.mod_eq_of_lt (by omega)]
      omega
    rw [dgsF, dval_snoc, hb, List.all_append]
    have hd : dig (UInt8.ofNat (48 + n % 10).toNat) = true := (dig_iff _).2 (by omega)
    by_cases h : n < 10
    · rw [if_pos h]
      exact ⟨by simp [dval]; omega, by simp [hd]⟩
    · rw [if_neg h]
      obtain ⟨i1, i2⟩ := dgsF_dval g (n / 10) (by omega) (by rw [Int.pow_succ] at h1; omega)
      rw [i1, i2]
      exact ⟨by omega, by simp [hd]⟩
theorem dgsF_head : ∀ (g : Nat) (n : Int), 1 ≤ n → n < 10 ^ g → (dgsF g n).head? ≠ some 48
  | 0, n, h, h2 => by simp [dgsF]
  | g + 1, n, h, h2 => by
    rw [dgsF]
    by_cases h1 : n < 10
    · rw [if_pos h1]
      intro e
      have e' := Option.some.inj e
      have e2 := congrArg UInt8.toNat e'
      rw [UInt8.toNat_ofNat', Nat.mod_eq_of_lt (by omega)] at e2
      have : (48 : UInt8).toNat = 48 := rfl
      omega
    · rw [if_neg h1]
      have hlt : n / 10 < 10 ^ g := by rw [Int.pow_succ] at h2; omega
      have ih := dgsF_head g (n / 10) (by omega) hlt
      cases hd : dgsF g (n / 10) with
      | nil =>
        intro e
        cases g with
        | zero => simp at hlt; omega
        | succ g => rw [dgsF] at hd; simp at hd
      | cons a r => rw [hd] at ih; exact ih
theorem dgs_ne (n : Int) : dgs n ≠ [] := by unfold dgs; rw [dgsF]; simp
/-- what is written is read as itself -/
theorem dgs_num (n : Int) (h0 : 0 ≤ n) (h1 : n < 10000000) : numB (dgs n) = true ∧ numN (dgs n) = n ∧ (dgs n).all dig = true ∧ (dgs n).length ≤ 7 := by
  obtain ⟨a, b⟩ := dgsF_dval 20 n h0 (by omega)
  have hl := dgsF_len 20 n 6 (by omega)
  have hs : numShape (dgs n) = true := by
    unfold numShape
    simp only [Bool.and_eq_true, decide_eq_true_eq, Bool.not_eq_true', Bool.and_eq_false_iff, decide_eq_false_iff_not]
    refine ⟨⟨?_, hl⟩, ?_⟩
    · have := dgs_ne n
      cases h : dgs n with
      | nil => exact absurd h this
      | cons x r => simp
    · by_cases hn : n < 10
      · right
        have := dgsF_len 20 n 0 (by omega)
        show ¬ 1 < (dgsF 20 n).length
        omega
      · left
        have := dgsF_head 20 n (by omega) (by omega)
        cases h : (dgs n).head? == some 48
        · rfl
        · exact absurd (eq_of_beq h) this
  have hd : digs (dgs n) = n := by unfold digs dgs; rw [if_pos b, a]
  refine ⟨?_, ?_, b, hl⟩
  · unfold numB; rw [hs, hd]; simp [h0]
  · unfold numN; rw [if_pos hs, hd]
end Go.Proofs.YthpndgcaoeokeaaGreatDoor
namespace Go.Proofs.YthpndgcaoeokeaaGreatDoor
open Go.RowKit

theorem dgb (n : Int) : ((UInt8.ofNat (48 + n % 10).toNat).toNat : Int) = 48 + n % 10 := by
  rw [UInt8.toNat_ofNat', Nat.mod_eq_of_lt (by omega)]
  omega
theorem pad_dval : ∀ (k : Nat) (n : Int), 0 ≤ n → n < 10 ^ k → dval (pad k n) = n ∧ (pad k n).all dig = true
  | 0, n, h0, h1 => by simp at h1; exact ⟨by simp [pad, dval]; omega, rfl⟩
  | k + 1, n, h0, h1 => by
    obtain ⟨i1, i2⟩ := pad_dval k (n / 10) (by omega) (by rw [Int.pow_succ] at h1; omega)
    have hd : dig (UInt8.ofNat (48 + n % 10).toNat) = true := (dig_iff _).2 (by have := dgb n; omega)
    rw [pad, dval_snoc, dgb, i1, List.all_append, i2]
    exact ⟨by omega, by simp [hd]⟩
theorem pad_digs (k : Nat) (n : Int) (h0 : 0 ≤ n) (h1 : n < 10 ^ k) : digs (pad k n) = n := by
  obtain ⟨a, b⟩ := pad_dval k n h0 h1
  unfold digs; rw [if_pos b, a]

/-- a time's parts -/
structure TimeP (n : Int) : Prop where
  y0 : 1970 ≤ Cal.ofY (n / 86400)
  y1 : Cal.ofY (n / 86400) ≤ 2199
  v : Cal.Valid (Cal.ofY (n / 86400)) (Cal.ofM (n / 86400)) (Cal.ofD (n / 86400))
  e : Cal.num (Cal.ofY (n / 86400)) (Cal.ofM (n / 86400)) (Cal.ofD (n / 86400)) = n / 86400
theorem timeP {n : Int} (h0 : 0 ≤ n) (h1 : n < 7258118400) : TimeP n := by
  obtain ⟨a, b, c⟩ := ofY_bd (n := n / 86400) (by omega) (by omega)
  exact ⟨a, b, c, Cal.of_num _ (by omega)⟩
theorem TimeP.bd {n : Int} (h : TimeP n) : 1 ≤ Cal.ofM (n / 86400) ∧ Cal.ofM (n / 86400) ≤ 12 ∧ 1 ≤ Cal.ofD (n / 86400) ∧ Cal.ofD (n / 86400) ≤ 31 := by
  obtain ⟨a, b, c, d⟩ := h.v
  have := Cal.md_bd (Cal.ofY (n / 86400)) (Cal.ofM (n / 86400))
  omega

theorem cutL (l : List UInt8) (a k : Nat) : cut ⟨l.toArray⟩ a k = (l.drop a).take k := rfl
theorem printL_cuts (n : Int) : cut ⟨(printL n).toArray⟩ 0 4 = pad 4 (Cal.ofY (n / 86400)) ∧ cut ⟨(printL n).toArray⟩ 4 2 = pad 2 (Cal.ofM (n / 86400)) ∧ cut ⟨(printL n).toArray⟩ 6 2 = pad 2 (Cal.ofD (n / 86400)) ∧
    cut ⟨(printL n).toArray⟩ 9 2 = pad 2 (n % 86400 / 3600) ∧ cut ⟨(printL n).toArray⟩ 11 2 = pad 2 (n % 86400 / 60 % 60) ∧ cut ⟨(printL n).toArray⟩ 13 2 = pad 2 (n % 86400 % 60) ∧ at0 ⟨(printL n).toArray⟩ 8 = 84 ∧ at0 ⟨(printL n).toArray⟩ 15 = 90 := by
  simp only [cutL, printL, pad, at0]
  refine ⟨?_, ?_, ?_, ?_, ?_, ?_, ?_, ?_⟩ <;> simp
theorem print_ok {n : Int} (h0 : 0 ≤ n) (h1 : n < 7258118400) : TimeOk ⟨(printL n).toArray⟩ ∧ timeN ⟨(printL n).toArray⟩ = n := by
  obtain ⟨c0, c1, c2, c3, c4, c5, a0, a1⟩ := printL_cuts n
  have p := timeP h0 h1
  have q := p.bd
  have e0 := pad_digs 4 (Cal.ofY (n / 86400)) (by have := p.y0; omega) (by have := p.y1; omega)
  have e1 := pad_digs 2 (Cal.ofM (n / 86400)) (by omega) (by omega)
  have e2 := pad_digs 2 (Cal.ofD (n / 86400)) (by omega) (by omega)
  have e3 := pad_digs 2 (n % 86400 / 3600) (by omega) (by omega)
  have e4 := pad_digs 2 (n % 86400 / 60 % 60) (by omega) (by omega)
  have e5 := pad_digs 2 (n % 86400 % 60) (by omega) (by omega)
  unfold TimeOk timeN
  rw [c0, c1, c2, c3, c4, c5, e0, e1, e2, e3, e4, e5, p.e]
  refine ⟨⟨by show (printL n).length = 16; unfold printL; simp [pad_length], a0, a1, p.y0, p.y1, p.v, by omega, by omega, by omega, by omega, by omega, by omega⟩, by omega⟩
theorem print_inj {a b : Int} (a0 : 0 ≤ a) (a1 : a < 7258118400) (b0 : 0 ≤ b) (b1 : b < 7258118400) (h : printL a = printL b) : a = b := by
  have ha := (print_ok a0 a1).2
  rw [h, (print_ok b0 b1).2] at ha
  exact ha.symm

/-- digits in order -/
theorem less_pad : ∀ (k : Nat) (m n : Int) (u v : List UInt8), 0 ≤ m → m < 10 ^ k → 0 ≤ n → n < 10 ^ k →
    Op.bytesLess (pad k m ++ u) (pad k n ++ v) = (decide (m < n) || (decide (m = n) && Op.bytesLess u v))
  | 0, m, n, u, v, m0, m1, n0, n1 => by
    simp at m1 n1
    have : m = n := by omega
    subst this
    simp [pad]
  | k + 1, m, n, u, v, m0, m1, n0, n1 => by
    rw [Int.pow_succ] at m1 n1
    rw [pad, pad, List.append_assoc, List.append_assoc, less_pad k (m / 10) (n / 10) _ _ (by omega) (by omega) (by omega) (by omega)]
    have hm := dgb m
    have hn := dgb n
    simp only [List.singleton_append, Op.bytesLess]
    have l1 : (UInt8.ofNat (48 + m % 10).toNat < UInt8.ofNat (48 + n % 10).toNat) ↔ m % 10 < n % 10 := by
      rw [UInt8.lt_iff_toNat_lt]; omega
    have l2 : (UInt8.ofNat (48 + m % 10).toNat = UInt8.ofNat (48 + n % 10).toNat) ↔ m % 10 = n % 10 := by
      rw [← UInt8.toNat_inj]; omega
    have l3 : (UInt8.ofNat (48 + m % 10).toNat == UInt8.ofNat (48 + n % 10).toNat) = decide (m % 10 = n % 10) := by
      rw [Bool.eq_iff_iff]; simp [l2]
    have l4 : decide (UInt8.ofNat (48 + m % 10).toNat < UInt8.ofNat (48 + n % 10).toNat) = decide (m % 10 < n % 10) := by
      simp [l1]
    rw [l3, l4]
    by_cases h1 : m < n
    · rw [decide_eq_true h1]
      by_cases h2 : m / 10 < n / 10
      · rw [decide_eq_true h2]; simp
      · rw [decide_eq_true (show m / 10 = n / 10 by omega), decide_eq_true (show m % 10 < n % 10 by omega)]; simp
    · rw [decide_eq_false h1, decide_eq_false (show ¬ m / 10 < n / 10 by omega)]
      by_cases h3 : m = n
      · subst h3; simp
      · rw [decide_eq_false h3]
        by_cases h4 : m / 10 = n / 10
        · rw [decide_eq_false (show ¬ m % 10 < n % 10 by omega), decide_eq_false (show ¬ m % 10 = n % 10 by omega)]; simp
        · rw [decide_eq_false h4]; simp
theorem less_T (u v : List UInt8) : Op.bytesLess ([84] ++ u) ([84] ++ v) = Op.bytesLess u v := by simp [Op.bytesLess]

/-- later days are greater, part by part -/
theorem day_lex {a b : Int} (pa : TimeP a) (pb : TimeP b) (h : a / 86400 < b / 86400) :
    Cal.ofY (a / 86400) < Cal.ofY (b / 86400) ∨ (Cal.ofY (a / 86400) = Cal.ofY (b / 86400) ∧ (Cal.ofM (a / 86400) < Cal.ofM (b / 86400) ∨ (Cal.ofM (a / 86400) = Cal.ofM (b / 86400) ∧ Cal.ofD (a / 86400) < Cal.ofD (b / 86400)))) := by
  have ea := pa.e
  have eb := pb.e
  have va := pa.v
  have vb := pb.v
  generalize Cal.ofY (a / 86400) = Y at *
  generalize Cal.ofM (a / 86400) = M at *
  generalize Cal.ofD (a / 86400) = D at *
  generalize Cal.ofY (b / 86400) = Y' at *
  generalize Cal.ofM (b / 86400) = M' at *
  generalize Cal.ofD (b / 86400) = D' at *
  by_cases h1 : Y < Y'
  · exact .inl h1
  by_cases h2 : Y' < Y
  · have i1 := Cal.in_year va
    have i2 := Cal.in_year vb
    have := Cal.num_jan1_mono (Y' + 1) (Y - Y' - 1).toNat
    rw [show Y' + 1 + ((Y - Y' - 1).toNat : Int) = Y from by omega] at this
    omega
  have hY : Y = Y' := by omega
  subst hY
  refine .inr ⟨rfl, ?_⟩
  by_cases h3 : M < M'
  · exact .inl h3
  by_cases h4 : M' < M
  · have := Cal.in_month vb va h4
    omega
  have hM : M = M' := by omega
  subst hM
  refine .inr ⟨rfl, ?_⟩
  have d1 := Cal.num_day Y M D
  have d2 := Cal.num_day Y M D'
  omega
theorem print_less {a b : Int} (a0 : 0 ≤ a) (h : a < b) (b1 : b < 7258118400) : Op.bytesLess (printL b) (printL a) = false := by
  have pa := timeP a0 (by omega)
  have pb := timeP (n := b) (by omega) b1
  have qa := pa.bd
  have qb := pb.bd
  have y0 := pa.y0
  have y1 := pa.y1
  have z0 := pb.y0
  have z1 := pb.y1
  unfold printL
  simp only [List.append_assoc]
  rw [less_pad 4 _ _ _ _ (by omega) (by omega) (by omega) (by omega), less_pad 2 _ _ _ _ (by omega) (by omega) (by omega) (by omega), less_pad 2 _ _ _ _ (by omega) (by omega) (by omega) (by omega), less_T,
    less_pad 2 _ _ _ _ (by omega) (by omega) (by omega) (by omega), less_pad 2 _ _ _ _ (by omega) (by omega) (by omega) (by omega), less_pad 2 _ _ _ _ (by omega) (by omega) (by omega) (by omega)]
  have hz : Op.bytesLess [90] [90] = false := by decide
  rw [hz]
  by_cases hd : a / 86400 < b / 86400
  · rcases day_lex pa pb hd with h1 | ⟨h1, h2 | ⟨h2, h3⟩⟩
    · rw [decide_eq_false (show ¬ Cal.ofY (b / 86400) < Cal.ofY (a / 86400) by omega), decide_eq_false (show ¬ Cal.ofY (b / 86400) = Cal.ofY (a / 86400) by omega)]; simp
    · rw [h1, decide_eq_false (show ¬ Cal.ofM (b / 86400) < Cal.ofM (a / 86400) by omega), decide_eq_false (show ¬ Cal.ofM (b / 86400) = Cal.ofM (a / 86400) by omega)]; simp
    · rw [h1, h2, decide_eq_false (show ¬ Cal.ofD (b / 86400) < Cal.ofD (a / 86400) by omega), decide_eq_false (show ¬ Cal.ofD (b / 86400) = Cal.ofD (a / 86400) by omega)]; simp
  · have hq : b / 86400 = a / 86400 := by omega
    rw [hq]
    by_cases k1 : a % 86400 / 3600 < b % 86400 / 3600
    · rw [decide_eq_false (show ¬ b % 86400 / 3600 < a % 86400 / 3600 by omega), decide_eq_false (show ¬ b % 86400 / 3600 = a % 86400 / 3600 by omega)]; simp
    · rw [show b % 86400 / 3600 = a % 86400 / 3600 by omega]
      by_cases k2 : a % 86400 / 60 % 60 < b % 86400 / 60 % 60
      · rw [decide_eq_false (show ¬ b % 86400 / 60 % 60 < a % 86400 / 60 % 60 by omega), decide_eq_false (show ¬ b % 86400 / 60 % 60 = a % 86400 / 60 % 60 by omega)]; simp
      · rw [show b % 86400 / 60 % 60 = a % 86400 / 60 % 60 by omega, decide_eq_false (show ¬ b % 86400 % 60 < a % 86400 % 60 by omega)]; simp
/-- lengths as they are written -/
theorem lenGo_digs : ∀ (ds rest cur : List UInt8) (u : Nat) (tm : Bool) (sum : Int) (parts : Nat), ds.all dig = true → lenGo (ds ++ rest) cur u tm sum parts = lenGo rest (cur ++ ds) u tm sum parts
  | [], rest, cur, u, tm, sum, parts, h => by simp
  | c :: ds, rest, cur, u, tm, sum, parts, h => by
    simp only [List.all_cons, Bool.and_eq_true] at h
    rw [List.cons_append, lenGo, if_pos h.1, lenGo_digs ds rest _ u tm sum parts h.2]
    simp
theorem lenGo_mark (c : UInt8) (rest cur : List UInt8) (u k : Nat) (tm : Bool) (sum : Int) (parts : Nat) (hc : dig c = false) (h84 : c.toNat ≠ 84) (hn : numB cur = true) (hk : nextU u c = k) (k4 : k ≠ 4) (ht : decide (0 < k) = tm) :
    lenGo (c :: rest) cur u tm sum parts = lenGo rest [] (k + 1) tm (sum + numN cur * sizeU k) (parts + 1) := by
  subst hk
  rw [lenGo, if_neg (by simp [hc]), if_neg h84, if_neg (by rintro (h | h | h); · simp [hn] at h
                                                           · exact k4 h
                                                           · exact h ht)]
end Go.Proofs.YthpndgcaoeokeaaGreatDoor
namespace Go.Proofs.YthpndgcaoeokeaaGreatDoor
open Go.RowKit Go.Sort

theorem printV_in {n : Int} (h0 : 0 ≤ n) (h1 : n < 7258118400) : printV n = .tuple #[.string ⟨(printL n).toArray⟩, .int .i64 0] := by
  unfold printV; rw [if_pos (by unfold isTimeB; simp; omega)]
theorem toL (l : List UInt8) : (⟨l.toArray⟩ : ByteArray).toList = l := by
  rw [ByteArray.toList_eq]
end Go.Proofs.YthpndgcaoeokeaaGreatDoor
