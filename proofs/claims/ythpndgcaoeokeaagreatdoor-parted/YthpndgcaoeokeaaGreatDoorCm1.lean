/- The calendar: days of months, numbers of days, and back. The document's calendar (fallowref): contracts of leap, yearDays, monthDays, numberOf, limit, isTime. The document's days and texts (fallowref): contracts of limit, isTime, dayOf, padded. The document's digits, Parse and Print (fallowref). The document's Parse (fallowref). The document's Print (fallowref). The document's number and Length (fallowref). The document's Length (fallowref): a walk over the text, byte by byte. The document's pieces of a text (fallowref.split). The document's names, unfolding and lines (fallowref). The document's unfolding (fallowref). The document's lines (fallowref). How a length is read by cutting comes to the same as by going through it byte by byte (plain lists). The document's places (fallowref). The document's words, weekdays and signed numbers (fallowref). The document's lists in order (fallowref.with). The document's lists of times (fallowref). The document's lists of times and of numbers (fallowref.times, fallowref.list). The document's lists of numbers (fallowref.list). The document's numbers and lists of times, as they are written (fallowref.plain, fallowref.printed). The document's BYDAY (fallowref): (*Rule).days. The document's parts of a rule (fallowref): (*Rule).part. The document's parts of a rule: FREQ and BYDAY (fallowref). The document's printed lists of times, whole (fallowref.printed). The document's Check as functions on bytes: what both sides are to be held against. Iterators (a range over a function) that give one element: what the loop and the iterator promise each other, with cells of the iterator's own; and the law for the loop. Of no program. -/
import Derived.Test.YthpndgcaoeokeaaGreatDoorProg
import Derived.WalkKit
import Derived.WalkSpells
import Derived.WalkLawsBesides
import Derived.Deep.QuietTactic
import Derived.BigQuiet
import Derived.Lib.QuietBelow
import Derived.Lib.SlicesS
import Derived.Deep.AppendLies
import Derived.RangeFuncNested
import Derived.RangeFuncBound
namespace Go.Proofs.YthpndgcaoeokeaaGreatDoor.Cal
def lp (y : Int) : Bool := y % 4 == 0 && (y % 100 != 0 || y % 400 == 0)
def md (y m : Int) : Int :=
  if m = 4 ∨ m = 6 ∨ m = 9 ∨ m = 11 then 30 else if m = 2 then (if lp y then 29 else 28) else 31
def yd (y : Int) : Int := if lp y then 366 else 365
def ty (y : Int) : Int := y * 365 + y / 4 - y / 100 + y / 400
def tm (m : Int) : Int := (m * 153 + 2) / 5
def num (y m d : Int) : Int :=
  if m - 3 < 0 then ty (y - 1) + tm (m - 3 + 12) + d - 1 - 719468 else ty y + tm (m - 3) + d - 1 - 719468
def yr (l : Int) : Int := if ty (l * 400 / 146097 + 1) ≤ l then l * 400 / 146097 + 1 else l * 400 / 146097
def mo (r : Int) : Int := (r * 5 + 2) / 153
def ofY (n : Int) : Int :=
  if mo (n + 719468 - ty (yr (n + 719468))) + 3 > 12 then yr (n + 719468) + 1 else yr (n + 719468)
def ofM (n : Int) : Int :=
  if mo (n + 719468 - ty (yr (n + 719468))) + 3 > 12 then mo (n + 719468 - ty (yr (n + 719468))) + 3 - 12 else mo (n + 719468 - ty (yr (n + 719468))) + 3
def ofD (n : Int) : Int :=
  n + 719468 - ty (yr (n + 719468)) - tm (mo (n + 719468 - ty (yr (n + 719468)))) + 1

def Valid (y m d : Int) : Prop := 1 ≤ m ∧ m ≤ 12 ∧ 1 ≤ d ∧ d ≤ md y m

theorem lp_iff (y : Int) : lp y = true ↔ (y % 4 = 0 ∧ (y % 100 ≠ 0 ∨ y % 400 = 0)) := by
  simp [lp]

theorem ty_succ (y : Int) : ty (y + 1) = ty y + 365 + (if lp (y + 1) then 1 else 0) := by
  by_cases h : lp (y + 1) = true
  · have h' := (lp_iff (y+1)).1 h
    simp only [h, if_true]; unfold ty; omega
  · have h' : ¬ ((y+1) % 4 = 0 ∧ ((y+1) % 100 ≠ 0 ∨ (y+1) % 400 = 0)) := fun k => h ((lp_iff (y+1)).2 k)
    simp only [h]; unfold ty; simp; omega

theorem yr_lo (l : Int) (_h : 0 ≤ l) : ty (yr l) ≤ l := by
  unfold yr; split
  · assumption
  · unfold ty; omega

theorem yr_hi (l : Int) (_h : 0 ≤ l) : l < ty (yr l + 1) := by
  unfold yr; split
  · unfold ty; omega
  · omega

theorem yr_bd (l : Int) (h : 0 ≤ l) (h2 : l ≤ 3000000) : 0 ≤ yr l ∧ yr l ≤ 8300 := by
  unfold yr; split <;> omega

theorem rem_bd (l : Int) (h : 0 ≤ l) : 0 ≤ l - ty (yr l) ∧ l - ty (yr l) ≤ 365 ∧ (l - ty (yr l) = 365 → lp (yr l + 1) = true) := by
  have a := yr_lo l h
  have b := yr_hi l h
  have c := ty_succ (yr l)
  by_cases e : lp (yr l + 1) = true
  · simp only [e, if_true] at c; exact ⟨by omega, by omega, fun _ => e⟩
  · simp only [e] at c; simp at c; refine ⟨by omega, by omega, fun q => by omega⟩

theorem mo_bd (r : Int) (h : 0 ≤ r) (h2 : r ≤ 365) : 0 ≤ mo r ∧ mo r ≤ 11 ∧ tm (mo r) ≤ r ∧ r < tm (mo r + 1) := by
  unfold mo tm; omega

theorem of_valid (n : Int) (h : 0 ≤ n + 719468) : Valid (ofY n) (ofM n) (ofD n) := by
  have hr := rem_bd _ h
  unfold ofY ofM ofD Valid
  generalize hl : n + 719468 - ty (yr (n + 719468)) = r at *
  have hm := mo_bd r hr.1 hr.2.1
  obtain ⟨m0, m1, m2, m3⟩ := hm
  have hk : mo r = 0 ∨ mo r = 1 ∨ mo r = 2 ∨ mo r = 3 ∨ mo r = 4 ∨ mo r = 5 ∨ mo r = 6 ∨ mo r = 7 ∨ mo r = 8 ∨ mo r = 9 ∨ mo r = 10 ∨ mo r = 11 := by omega
  rcases hk with k | k | k | k | k | k | k | k | k | k | k | k <;> rw [k] at m2 m3 ⊢ <;> simp [tm] at m2 m3 ⊢ <;> simp [md] <;> try omega
  by_cases e : lp (yr (n + 719468) + 1) = true
  · simp only [e]; simp; omega
  · simp only [e]; simp
    have : r ≠ 365 := fun q => e (hr.2.2 q)
    omega

theorem of_num (n : Int) (h : 0 ≤ n + 719468) : num (ofY n) (ofM n) (ofD n) = n := by
  have hr := rem_bd _ h
  unfold ofY ofM ofD num
  have hm := mo_bd _ hr.1 hr.2.1
  generalize hl : n + 719468 - ty (yr (n + 719468)) = r at *
  obtain ⟨m0, m1, m2, m3⟩ := hm
  by_cases c : mo r + 3 > 12
  · simp only [c, if_true]
    rw [if_pos (by omega)]
    rw [show yr (n + 719468) + 1 - 1 = yr (n + 719468) from by omega, show mo r + 3 - 12 - 3 + 12 = mo r from by omega]
    omega
  · simp only [c, if_false]
    rw [if_neg (by omega)]
    rw [show mo r + 3 - 3 = mo r from by omega]
    omega

-- the months' beginnings within a year
theorem num_step (y : Int) : num (y + 1) 1 1 = num y 1 1 + yd y := by
  have := ty_succ (y - 1)
  rw [show y - 1 + 1 = y from by omega] at this
  unfold num yd
  simp only [show (1:Int) - 3 < 0 from by omega, if_true]
  rw [show y + 1 - 1 = y from by omega, this]
  by_cases e : lp y = true
  · simp only [e]; simp; omega
  · simp only [e]; simp; omega

theorem num_month (y m : Int) (h1 : 1 ≤ m) (h2 : m ≤ 11) : num y (m + 1) 1 = num y m 1 + md y m := by
  have := ty_succ (y - 1)
  rw [show y - 1 + 1 = y from by omega] at this
  have hk : m = 1 ∨ m = 2 ∨ m = 3 ∨ m = 4 ∨ m = 5 ∨ m = 6 ∨ m = 7 ∨ m = 8 ∨ m = 9 ∨ m = 10 ∨ m = 11 := by omega
  rcases hk with k | k | k | k | k | k | k | k | k | k | k <;> subst k <;> simp [num, md, tm] <;> try omega
  rw [this]
  by_cases e : lp y = true
  · simp only [e]; simp; omega
  · simp only [e]; simp; omega

theorem num_day (y m d : Int) : num y m d = num y m 1 + d - 1 := by
  unfold num; split <;> omega

theorem md_bd (y m : Int) : 28 ≤ md y m ∧ md y m ≤ 31 := by
  unfold md; split
  · omega
  · split
    · split <;> omega
    · omega

theorem num_jan1_mono (y : Int) (k : Nat) : num y 1 1 + 365 * k ≤ num (y + k) 1 1 := by
  induction k with
  | zero => simp
  | succ k ih =>
    have := num_step (y + k)
    have hy : 365 ≤ yd (y + k) := by unfold yd; split <;> omega
    rw [show y + ((k + 1 : Nat) : Int) = y + k + 1 from by omega]
    omega

theorem md12 (y : Int) : md y 12 = 31 := by simp [md]
theorem num_dec (y : Int) : num (y + 1) 1 1 = num y 12 1 + 31 := by
  simp [num, tm]; omega

theorem num_mono_month (y m : Int) (k : Nat) (h1 : 1 ≤ m) (h2 : m + k ≤ 12) : num y m 1 + 28 * k ≤ num y (m + k) 1 := by
  induction k with
  | zero => simp
  | succ k ih =>
    have := num_month y (m + k) (by omega) (by omega)
    have hb := md_bd y (m + k)
    have := ih (by omega)
    rw [show m + ((k + 1 : Nat) : Int) = m + k + 1 from by omega]
    omega

/-- where a valid day lies in its year -/
theorem in_year {y m d : Int} (v : Valid y m d) : num y 1 1 ≤ num y m d ∧ num y m d < num (y + 1) 1 1 := by
  obtain ⟨a, b, c, e⟩ := v
  have h1 := num_day y m d
  constructor
  · have := num_mono_month y 1 (m - 1).toNat (by omega) (by omega)
    rw [show (1 : Int) + ((m - 1).toNat : Int) = m from by omega] at this
    omega
  · by_cases q : m = 12
    · subst q
      rw [num_dec, h1]; have := md12 y; omega
    · have h2 := num_month y m a (by omega)
      have := num_mono_month y (m + 1) (11 - m).toNat (by omega) (by omega)
      rw [show m + 1 + ((11 - m).toNat : Int) = 12 from by omega] at this
      have := num_dec y
      omega

theorem in_month {y m m' d d' : Int} (v : Valid y m d) (v' : Valid y m' d') (h : m < m') : num y m d < num y m' d' := by
  obtain ⟨a, b, c, e⟩ := v
  obtain ⟨a', b', c', e'⟩ := v'
  have h1 := num_day y m d
  have h1' := num_day y m' d'
  have h2 := num_month y m a (by omega)
  have := num_mono_month y (m + 1) (m' - m - 1).toNat (by omega) (by omega)
  rw [show m + 1 + ((m' - m - 1).toNat : Int) = m' from by omega] at this
  omega

theorem inj_y {y y' m m' d d' : Int} (v : Valid y m d) (v' : Valid y' m' d') (h : num y m d = num y' m' d') : ¬ y < y' := by
  intro q
  have a := in_year v
  have b := in_year v'
  have := num_jan1_mono (y + 1) (y' - y - 1).toNat
  rw [show y + 1 + ((y' - y - 1).toNat : Int) = y' from by omega] at this
  omega

theorem inj {y y' m m' d d' : Int} (v : Valid y m d) (v' : Valid y' m' d') (h : num y m d = num y' m' d') : y = y' ∧ m = m' ∧ d = d' := by
  have hy : y = y' := by
    have := inj_y v v' h
    have := inj_y v' v h.symm
    omega
  subst hy
  have hm : m = m' := by
    by_cases a : m < m'
    · have := in_month v v' a; omega
    · by_cases b : m' < m
      · have := in_month v' v b; omega
      · omega
  subst hm
  have h1 := num_day y m d
  have h2 := num_day y m d'
  exact ⟨rfl, rfl, by omega⟩

/-- the day is there just where the day of its number is itself -/
theorem there_iff {y m d : Int} (hy : 1 ≤ y) (hm : 0 ≤ m) (hd : 0 ≤ d) :
    (ofY (num y m d) = y ∧ ofM (num y m d) = m ∧ ofD (num y m d) = d) ↔ Valid y m d := by
  have h : 0 ≤ num y m d + 719468 := by
    unfold num ty tm; split <;> omega
  have v := of_valid _ h
  constructor
  · rintro ⟨a, b, c⟩; rw [a, b, c] at v; exact v
  · intro w
    exact inj v w (of_num _ h)

theorem num_epoch : num 1970 1 1 = 0 := by decide
theorem num_end : num 2200 1 1 = 84006 := by decide
theorem yd_bd (y : Int) : 365 ≤ yd y ∧ yd y ≤ 366 := by unfold yd; split <;> omega
theorem num_jan1_le (y : Int) (k : Nat) : num (y + k) 1 1 ≤ num y 1 1 + 366 * k := by
  induction k with
  | zero => simp
  | succ k ih =>
    have := num_step (y + k)
    have hy := yd_bd (y + k)
    rw [show y + ((k + 1 : Nat) : Int) = y + k + 1 from by omega]
    omega
theorem jan1_bd (y : Int) (h0 : 1970 ≤ y) (h1 : y ≤ 2200) : 0 ≤ num y 1 1 ∧ num y 1 1 ≤ 84180 := by
  have a := num_jan1_mono 1970 (y - 1970).toNat
  have b := num_jan1_le 1970 (y - 1970).toNat
  rw [show (1970 : Int) + ((y - 1970).toNat : Int) = y from by omega, num_epoch] at a b
  omega
end Go.Proofs.YthpndgcaoeokeaaGreatDoor.Cal
namespace Go.Proofs.YthpndgcaoeokeaaGreatDoor
open Go.RowKit

theorem hide {p : Prop} (h : p) : Hid p := h
theorem ret_int {k : IntKind} {a b : Int} (h : a = b) : Ending.returned (.int k a) = .returned (.int k b) := by rw [h]

end Go.Proofs.YthpndgcaoeokeaaGreatDoor
namespace Go.Proofs.YthpndgcaoeokeaaGreatDoor
open Go.RowKit

def isTimeB (n : Int) : Bool := decide (0 ≤ n) && decide (n < 7258118400)

/-- string([]byte{x}) -/
theorem conv_one (w : World) (x : Int) :
    (convert 72 9 (.slice (some ⟨w.heap.size, 0, none⟩) 1 1)).run Tryz.prog (w.alloc (.cells #[.int .u8 x] 5)) = .ok (.string ⟨#[UInt8.ofNat x.toNat]⟩) (w.alloc (.cells #[.int .u8 x] 5)) := by
  rw [run_convert_bytes_string _ _ _ 5 _ _ _ Tryz.underlying72 Tryz.underlying5 Tryz.underlying9]
  rw [run_bytesToString _ _ _ _ [x] (by simp [loadCells, go_sem])]
  rfl

/-- a number's last k digits, as bytes -/
def pad : Nat → Int → List UInt8
  | 0, _ => []
  | k + 1, n => pad k (n / 10) ++ [UInt8.ofNat (48 + n % 10).toNat]
theorem pad_length (k : Nat) : ∀ n, (pad k n).length = k := by
  induction k with
  | zero => intro n; rfl
  | succ k ih => intro n; simp [pad, ih]

theorem ba_app (a b : List UInt8) : (⟨a.toArray⟩ : ByteArray) ++ ⟨b.toArray⟩ = ⟨(a ++ b).toArray⟩ := by
  apply ByteArray.ext; simp
theorem str_eq {a b : ByteArray} (h : a = b) : Value.string a = Value.string b := by rw [h]
theorem ret_str {a b : ByteArray} (h : a = b) : Ending.returned (.string a) = .returned (.string b) := by rw [h]
end Go.Proofs.YthpndgcaoeokeaaGreatDoor
namespace Go.Proofs.YthpndgcaoeokeaaGreatDoor
open Go.RowKit

def dig (c : UInt8) : Bool := decide (48 ≤ (c.toNat : Int)) && decide ((c.toNat : Int) ≤ 57)
def dval (l : List UInt8) : Int := l.foldl (fun v c => 10 * v + ((c.toNat : Int) - 48)) 0
/-- the digits' value, or -1 -/
def digs (l : List UInt8) : Int := if l.all dig then dval l else -1
def cut (s : ByteArray) (at_ n : Nat) : List UInt8 := (s.data.toList.drop at_).take n

theorem dval_snoc (l : List UInt8) (c : UInt8) : dval (l ++ [c]) = 10 * dval l + ((c.toNat : Int) - 48) := by
  simp [dval, List.foldl_append]
theorem dig_iff (c : UInt8) : dig c = true ↔ (48 ≤ (c.toNat : Int) ∧ (c.toNat : Int) ≤ 57) := by simp [dig]
theorem fold_bd (l : List UInt8) : ∀ v : Int, 0 ≤ v → l.all dig = true →
    0 ≤ l.foldl (fun v c => 10 * v + ((c.toNat : Int) - 48)) v ∧ l.foldl (fun v c => 10 * v + ((c.toNat : Int) - 48)) v < (v + 1) * 10 ^ l.length := by
  induction l with
  | nil => intro v h _; simp; exact ⟨h, by omega⟩
  | cons c l ih =>
    intro v h hd
    simp only [List.all_cons, Bool.and_eq_true] at hd
    have hc := (dig_iff c).1 hd.1
    have := ih (10 * v + ((c.toNat : Int) - 48)) (by omega) hd.2
    simp only [List.foldl_cons, List.length_cons]
    refine ⟨this.1, Int.lt_of_lt_of_le this.2 ?_⟩
    rw [Int.pow_succ, Int.mul_comm (10 ^ l.length) 10, ← Int.mul_assoc]
    exact Int.mul_le_mul_of_nonneg_right (by omega) (Int.pow_nonneg (by omega))
theorem dval_bd (l : List UInt8) (h : l.all dig = true) : 0 ≤ dval l ∧ dval l < 10 ^ l.length := by
  have := fold_bd l 0 (by omega) h
  simpa [dval] using this
theorem dval_le (l : List UInt8) (k : Nat) (hk : l.length ≤ k) (h : l.all dig = true) : 0 ≤ dval l ∧ dval l < 10 ^ k := by
  have := dval_bd l h
  refine ⟨this.1, Int.lt_of_lt_of_le this.2 ?_⟩
  have : (10 : Nat) ^ l.length ≤ 10 ^ k := Nat.pow_le_pow_right (by omega) hk
  have := Int.ofNat_le.2 this
  simpa using this

theorem cut_snoc (s : ByteArray) (a k : Nat) (h : a + k < s.size) : cut s a (k + 1) = cut s a k ++ [s[a + k]] := by
  unfold cut
  rw [List.take_succ_eq_append_getElem (by simp; omega)]
  simp
  rfl

theorem cut_length (s : ByteArray) (a k : Nat) (h : a + k ≤ s.size) : (cut s a k).length = k := by
  unfold cut; simp; have : s.data.size = s.size := rfl; omega

theorem cut_get (s : ByteArray) (a n k : Nat) (hk : k < n) (h : a + n ≤ s.size) : (cut s a n)[k]? = some (s[a + k]'(by omega)) := by
  have e : s.data.size = s.size := rfl
  unfold cut
  rw [List.getElem?_take_of_lt hk, List.getElem?_drop, Array.getElem?_toList, Array.getElem?_eq_getElem (by omega)]
  rfl
end Go.Proofs.YthpndgcaoeokeaaGreatDoor
namespace Go.Proofs.YthpndgcaoeokeaaGreatDoor
open Go.RowKit

/-- the byte at a place (0 behind the end) -/
def at0 (s : ByteArray) (i : Nat) : Int := ((s.data[i]?.getD 0).toNat : Int)
theorem at0_get (s : ByteArray) (i : Nat) (h : i < s.size) : ((s[i]'h).toNat : Int) = at0 s i := by
  have e : s.data.size = s.size := rfl
  unfold at0
  rw [Array.getElem?_eq_getElem (by omega)]
  rfl

/-- a time as it is written -/
def TimeOk (s : ByteArray) : Prop :=
  s.size = 16 ∧ at0 s 8 = 84 ∧ at0 s 15 = 90 ∧ 1970 ≤ digs (cut s 0 4) ∧ digs (cut s 0 4) ≤ 2199 ∧
  Cal.Valid (digs (cut s 0 4)) (digs (cut s 4 2)) (digs (cut s 6 2)) ∧
  0 ≤ digs (cut s 9 2) ∧ digs (cut s 9 2) ≤ 23 ∧ 0 ≤ digs (cut s 11 2) ∧ digs (cut s 11 2) ≤ 59 ∧ 0 ≤ digs (cut s 13 2) ∧ digs (cut s 13 2) ≤ 59
def timeN (s : ByteArray) : Int :=
  Cal.num (digs (cut s 0 4)) (digs (cut s 4 2)) (digs (cut s 6 2)) * 86400 + digs (cut s 9 2) * 3600 + digs (cut s 11 2) * 60 + digs (cut s 13 2)
/-- the same, as a test -/
def timeB (s : ByteArray) : Bool := decide (
  s.size = 16 ∧ at0 s 8 = 84 ∧ at0 s 15 = 90 ∧ 1970 ≤ digs (cut s 0 4) ∧ digs (cut s 0 4) ≤ 2199 ∧
  (1 ≤ digs (cut s 4 2) ∧ digs (cut s 4 2) ≤ 12 ∧ 1 ≤ digs (cut s 6 2) ∧ digs (cut s 6 2) ≤ Cal.md (digs (cut s 0 4)) (digs (cut s 4 2))) ∧
  0 ≤ digs (cut s 9 2) ∧ digs (cut s 9 2) ≤ 23 ∧ 0 ≤ digs (cut s 11 2) ∧ digs (cut s 11 2) ≤ 59 ∧ 0 ≤ digs (cut s 13 2) ∧ digs (cut s 13 2) ≤ 59)
theorem timeB_iff {s : ByteArray} : timeB s = true ↔ TimeOk s := by
  unfold timeB TimeOk Cal.Valid
  exact decide_eq_true_iff
/-- Parse's two answers -/
def parseV (s : ByteArray) : Value := if timeB s = true then .tuple #[.int .i64 (timeN s), .int .i64 0] else .tuple #[.int .i64 0, .int .i64 1]
theorem parseV_yes {s : ByteArray} (h : TimeOk s) : parseV s = .tuple #[.int .i64 (timeN s), .int .i64 0] := by unfold parseV; rw [if_pos (timeB_iff.2 h)]
theorem parseV_no {s : ByteArray} (h : ¬ TimeOk s) : parseV s = .tuple #[.int .i64 0, .int .i64 1] := by unfold parseV; rw [if_neg (fun e => h (timeB_iff.1 e))]

theorem digs_bd (l : List UInt8) (k : Nat) (hk : l.length ≤ k) : -1 ≤ digs l ∧ digs l < 10 ^ k := by
  unfold digs
  split
  · have := dval_le l k hk ‹_›; omega
  · have : (0 : Int) < 10 ^ k := Int.pow_pos (by omega)
    omega

theorem num_bd {y m d : Int} (h0 : 1970 ≤ y) (h1 : y ≤ 2199) (v : Cal.Valid y m d) : 0 ≤ Cal.num y m d ∧ Cal.num y m d < 84006 := by
  have a := Cal.in_year v
  have b := Cal.jan1_bd y h0 (by omega)
  have c := Cal.num_jan1_mono (y + 1) (2199 - y).toNat
  rw [show y + 1 + ((2199 - y).toNat : Int) = 2200 from by omega, Cal.num_end] at c
  omega

end Go.Proofs.YthpndgcaoeokeaaGreatDoor
namespace Go.Proofs.YthpndgcaoeokeaaGreatDoor
open Go.RowKit Go.Sort

theorem ofY_bd {n : Int} (h0 : 0 ≤ n) (h1 : n < 84006) : 1970 ≤ Cal.ofY n ∧ Cal.ofY n ≤ 2199 ∧ Cal.Valid (Cal.ofY n) (Cal.ofM n) (Cal.ofD n) := by
  have v := Cal.of_valid n (by omega)
  have e := Cal.of_num n (by omega)
  have i := Cal.in_year v
  refine ⟨?_, ?_, v⟩
  · by_cases q : 1970 ≤ Cal.ofY n
    · exact q
    · have := Cal.num_jan1_mono (Cal.ofY n + 1) (1970 - Cal.ofY n - 1).toNat
      rw [show Cal.ofY n + 1 + ((1970 - Cal.ofY n - 1).toNat : Int) = 1970 from by omega, Cal.num_epoch] at this
      omega
  · by_cases q : Cal.ofY n ≤ 2199
    · exact q
    · have := Cal.num_jan1_mono 2200 (Cal.ofY n - 2200).toNat
      rw [show 2200 + ((Cal.ofY n - 2200).toNat : Int) = Cal.ofY n from by omega, Cal.num_end] at this
      omega

def printL (n : Int) : List UInt8 :=
  pad 4 (Cal.ofY (n / 86400)) ++ pad 2 (Cal.ofM (n / 86400)) ++ pad 2 (Cal.ofD (n / 86400)) ++ [84] ++ pad 2 (n % 86400 / 3600) ++ pad 2 (n % 86400 / 60 % 60) ++ pad 2 (n % 86400 % 60) ++ [90]
def printV (n : Int) : Value := if isTimeB n then .tuple #[.string ⟨(printL n).toArray⟩, .int .i64 0] else .tuple #[.string ⟨#[]⟩, .int .i64 1]

theorem printL_eq (n : Int) : (⟨(pad 4 (Cal.ofY (n / 86400))).toArray⟩ : ByteArray) ++ ⟨(pad 2 (Cal.ofM (n / 86400))).toArray⟩ ++ ⟨(pad 2 (Cal.ofD (n / 86400))).toArray⟩ ++ ⟨#[84]⟩ ++
    ⟨(pad 2 (n % 86400 / 3600)).toArray⟩ ++ ⟨(pad 2 (n % 86400 / 60 % 60)).toArray⟩ ++ ⟨(pad 2 (n % 60)).toArray⟩ ++ ⟨#[90]⟩ = ⟨(printL n).toArray⟩ := by
  unfold printL
  rw [show n % 86400 % 60 = n % 60 from by omega]
  simp only [ba_app]

end Go.Proofs.YthpndgcaoeokeaaGreatDoor
namespace Go.Proofs.YthpndgcaoeokeaaGreatDoor
open Go.RowKit

/-- is it a number, as far as its length and its first digit go? -/
def numShape (l : List UInt8) : Bool := decide (1 ≤ l.length) && decide (l.length ≤ 7) && !(l.head? == some 48 && decide (1 < l.length))
def numN (l : List UInt8) : Int := if numShape l then digs l else 0
def numB (l : List UInt8) : Bool := numShape l && decide (0 ≤ digs l)

theorem cut_all (s : ByteArray) : cut s 0 s.size = s.data.toList := by
  unfold cut
  have e : s.data.size = s.size := rfl
  rw [List.drop_zero, List.take_of_length_le (by rw [Array.length_toList]; omega)]
end Go.Proofs.YthpndgcaoeokeaaGreatDoor
namespace Go.Proofs.YthpndgcaoeokeaaGreatDoor
open Go.RowKit

def sizeU (u : Nat) : Int := match u with | 0 => 86400 | 1 => 3600 | 2 => 60 | _ => 1
/-- the next unit from u on that this mark names; 4: none -/
def nextU (u : Nat) (c : UInt8) : Nat :=
  if u ≤ 0 ∧ c.toNat = 68 then 0 else if u ≤ 1 ∧ c.toNat = 72 then 1 else if u ≤ 2 ∧ c.toNat = 77 then 2 else if u ≤ 3 ∧ c.toNat = 83 then 3 else 4

def lenGo : List UInt8 → List UInt8 → Nat → Bool → Int → Nat → Option Int
  | [], cur, _, _, sum, parts => if parts = 0 ∨ cur ≠ [] then none else some sum
  | c :: rest, cur, u, times, sum, parts =>
    if dig c = true then lenGo rest (cur ++ [c]) u times sum parts
    else if c.toNat = 84 then (if times = true ∨ cur ≠ [] ∨ rest = [] then none else lenGo rest [] 1 true sum parts)
    else if numB cur = false ∨ nextU u c = 4 ∨ decide (0 < nextU u c) ≠ times then none
    else lenGo rest [] (nextU u c + 1) times (sum + numN cur * sizeU (nextU u c)) (parts + 1)

/-- a length's seconds -/
def lenL : List UInt8 → Option Int
  | c :: rest => if c.toNat = 80 then lenGo rest [] 0 false 0 0 else none
  | [] => none
def lenV (o : Option Int) : Value := match o with | some n => .tuple #[.int .i64 n, .int .i64 0] | none => .tuple #[.int .i64 0, .int .i64 1]

theorem numN_bd (l : List UInt8) (h : numB l = true) : 0 ≤ numN l ∧ numN l ≤ 9999999 := by
  simp only [numB, Bool.and_eq_true, decide_eq_true_eq] at h
  have hs := h.1
  unfold numN
  rw [if_pos hs]
  simp only [numShape, Bool.and_eq_true, decide_eq_true_eq] at hs
  have := digs_bd l 7 hs.1.2
  exact ⟨h.2, by omega⟩

theorem extract_cut (s : ByteArray) (a b : Nat) : (s.extract a b).data.toList = cut s a (b - a) := by
  unfold cut
  simp [ByteArray.data_extract]

theorem drop_cons (s : ByteArray) (i : Nat) (h : i < s.size) : s.data.toList.drop i = (s[i]'h) :: s.data.toList.drop (i + 1) := by
  have e : s.data.size = s.size := rfl
  rw [List.drop_eq_getElem_cons (by rw [Array.length_toList]; omega)]
  rfl

theorem nextU_ge (u : Nat) (c : UInt8) (h : u ≤ 4) : u ≤ nextU u c ∧ nextU u c ≤ 4 := by
  unfold nextU; repeat' split
  all_goals omega
theorem below_close (w : World) (o : Obj) (q : Nat) : Below w.heap.size w ((w.alloc o).drewN q) := by
  have h := (Below.refl w.heap.size w).alloc (Nat.le_refl _) o
  exact ⟨h.os, h.tape, h.output, h.size, h.block⟩
end Go.Proofs.YthpndgcaoeokeaaGreatDoor
namespace Go.Proofs.YthpndgcaoeokeaaGreatDoor
open Go.RowKit

theorem infoString : (Tryz.prog.info? 9).map (fun i => (i.zero, i.size, i.bytes)) = some (some (.string ⟨#[]⟩), 1, 16) := by kernel_rfl
theorem infoInt : (Tryz.prog.info? 3).map (fun i => (i.zero, i.size, i.bytes)) = some (some (.int .i64 0), 1, 8) := by kernel_rfl

/-- the pieces ahead of place k, and where the last one begins -/
def spf (s : ByteArray) (c : Int) : Nat → Nat × List ByteArray
  | 0 => (0, [])
  | k + 1 => if at0 s k = c then (k + 1, (spf s c k).2 ++ [s.extract (spf s c k).1 k]) else spf s c k
def splitF (s : ByteArray) (c : Int) : List ByteArray := (spf s c s.size).2 ++ [s.extract (spf s c s.size).1 s.size]
theorem spf_hit {s : ByteArray} {c : Int} {k : Nat} (h : at0 s k = c) : spf s c (k + 1) = (k + 1, (spf s c k).2 ++ [s.extract (spf s c k).1 k]) := by rw [spf, if_pos h]
theorem spf_miss {s : ByteArray} {c : Int} {k : Nat} (h : ¬ at0 s k = c) : spf s c (k + 1) = spf s c k := by rw [spf, if_neg h]
theorem spf_le (s : ByteArray) (c : Int) (k : Nat) : (spf s c k).1 ≤ k ∧ (spf s c k).2.length ≤ k := by
  induction k with
  | zero => simp [spf]
  | succ k ih =>
    by_cases h : at0 s k = c
    · rw [spf_hit h]; simp; omega
    · rw [spf_miss h]; omega

/-- one cell more behind an append: what the relation keeps -/
theorem own_append {B : Nat} {e : TypeId} {w wr w1 : World} {v v' : Value} {n : Nat} {xs : List Value} {x : Value} {o : Obj} (hB : B ≤ wr.heap.size)
    (hown : wr.ownsRow B e 1 v n xs) (hb : Below B w wr) (hown' : w1.ownsRow B e 1 v' (n + 1) (xs ++ [x])) (hgrow : (wr.alloc o).grownBy w1 v.ownBlock) :
    w1.ownsRow B e 1 v' (n + 1) (xs ++ [x]) ∧ Below B w w1 :=
  ⟨hown', (hb.alloc hB o).grown hgrow (by simp; omega) (fun j hj => (hown.lt j hj).1)⟩

end Go.Proofs.YthpndgcaoeokeaaGreatDoor
namespace Go.Proofs.YthpndgcaoeokeaaGreatDoor
open Go.RowKit

/-- a name's byte -/
def nameC (c : UInt8) : Bool := (decide (97 ≤ (c.toNat : Int)) && decide ((c.toNat : Int) ≤ 122)) || (decide (48 ≤ (c.toNat : Int)) && decide ((c.toNat : Int) ≤ 57))
def nameB (s : ByteArray) : Bool := s.data.toList.all nameC && decide (1 ≤ s.size) && decide (s.size ≤ 12)

theorem take_snoc (s : ByteArray) (k : Nat) (h : k < s.size) : s.data.toList.take (k + 1) = s.data.toList.take k ++ [s[k]] := by
  rw [List.take_succ_eq_append_getElem (by simpa using h)]
  rfl
theorem take_all (s : ByteArray) : s.data.toList.take s.size = s.data.toList := List.take_of_length_le (Nat.le_of_eq (show s.data.toList.length = s.size by simp))
theorem mem_bytes (s : ByteArray) (k : Nat) (h : k < s.size) : s[k] ∈ s.data.toList := by
  have : s[k] = s.data[k] := rfl
  rw [this]; exact Array.mem_def.1 (Array.getElem_mem _)

end Go.Proofs.YthpndgcaoeokeaaGreatDoor
namespace Go.Proofs.YthpndgcaoeokeaaGreatDoor
open Go.RowKit

/-- a text without its folds -/
def unf : List UInt8 → List UInt8
  | [] => []
  | [a] => [a]
  | [a, b] => [a, b]
  | a :: b :: c :: r => if a = 13 ∧ b = 10 ∧ c = 32 then unf r else a :: unf (b :: c :: r)

theorem dropE (s : ByteArray) : s.data.toList.drop s.size = [] := List.drop_of_length_le (Nat.le_of_eq (show s.data.toList.length = s.size by simp))
end Go.Proofs.YthpndgcaoeokeaaGreatDoor
namespace Go.Proofs.YthpndgcaoeokeaaGreatDoor
open Go.RowKit

/-- texts as values -/
def strs (ls : List (List UInt8)) : List Value := ls.map fun l => Value.string ⟨l.toArray⟩
theorem strs_length (ls : List (List UInt8)) : (strs ls).length = ls.length := List.length_map _
theorem strs_snoc (ls : List (List UInt8)) (l : List UInt8) : strs (ls ++ [l]) = strs ls ++ [Value.string ⟨l.toArray⟩] := by simp [strs]

/-- the lines of what is left, behind what of the first one is read; is the last one's end there? -/
def lns : List UInt8 → List UInt8 → List (List UInt8) × Bool
  | [], acc => ([], acc.isEmpty)
  | [_], _ => ([], false)
  | a :: b :: r, acc => if a = 13 ∧ b = 10 then (acc :: (lns r []).1, (lns r []).2) else lns (b :: r) (acc ++ [a])
end Go.Proofs.YthpndgcaoeokeaaGreatDoor
namespace Go.Proofs.YthpndgcaoeokeaaGreatDoor

/-- a text cut at the first byte c -/
def sp (c : UInt8) : List UInt8 → Option (List UInt8 × List UInt8)
  | [] => none
  | x :: r => if x = c then some ([], r) else (sp c r).map fun q => (x :: q.1, q.2)

theorem sp_none {c : UInt8} : ∀ {l : List UInt8}, c ∉ l → sp c l = none
  | [], _ => rfl
  | x :: r, h => by
    unfold sp
    rw [if_neg (fun e => h (by rw [e]; exact List.mem_cons_self)), sp_none (fun q => h (List.mem_cons_of_mem _ q))]
    rfl
theorem sp_at {c : UInt8} : ∀ {a b : List UInt8}, c ∉ a → sp c (a ++ c :: b) = some (a, b)
  | [], b, _ => by simp [sp]
  | x :: r, b, h => by
    simp only [List.cons_append]
    unfold sp
    rw [if_neg (fun e => h (by rw [e]; exact List.mem_cons_self)), sp_at (fun q => h (List.mem_cons_of_mem _ q))]
    rfl
theorem sp_some {c : UInt8} : ∀ {l a b : List UInt8}, sp c l = some (a, b) → l = a ++ c :: b ∧ c ∉ a
  | [], _, _, h => by cases h
  | x :: r, a, b, h => by
    unfold sp at h
    by_cases e : x = c
    · rw [if_pos e] at h; cases h; subst e; simp
    · rw [if_neg e] at h
      cases q : sp c r with
      | none => rw [q] at h; cases h
      | some y =>
        rw [q] at h
        obtain ⟨a', b'⟩ := y
        cases h
        obtain ⟨h1, h2⟩ := sp_some q
        refine ⟨by rw [h1]; rfl, ?_⟩
        intro m
        rcases List.mem_cons.1 m with m | m
        · exact e m.symm
        · exact h2 m

theorem numB_dig {l : List UInt8} (h : numB l = true) : ∀ x ∈ l, dig x = true := by
  simp only [numB, Bool.and_eq_true, decide_eq_true_eq] at h
  have : l.all dig = true := by
    cases q : l.all dig
    · have := h.2; unfold digs at this; rw [if_neg (by rw [q]; exact Bool.false_ne_true)] at this; omega
    · rfl
  exact List.all_eq_true.1 this

def unitC (mark : UInt8) (secs : Int) (l : List UInt8) : Option (Int × List UInt8) :=
  match sp mark l with
  | none => some (0, l)
  | some (a, b) => if numB a = true then some (numN a * secs, b) else none

def chain : List (UInt8 × Int) → List UInt8 → Option Int
  | [], l => if l = [] then some 0 else none
  | (m, s) :: ms, l => match unitC m s l with
    | none => none
    | some (v, r) => (chain ms r).map (v + ·)

theorem chain_absent {m : UInt8} {s : Int} {ms : List (UInt8 × Int)} {l : List UInt8} (h : m ∉ l) : chain ((m, s) :: ms) l = chain ms l := by
  simp only [chain, unitC, sp_none h]
  cases chain ms l with
  | none => rfl
  | some v => simp
theorem chain_nil (ms : List (UInt8 × Int)) : chain ms [] = some 0 := by
  induction ms with
  | nil => rfl
  | cons m ms ih => obtain ⟨m, s⟩ := m; rw [chain_absent (by simp), ih]
/-- a byte that is no digit, and none of the marks, stands in the way -/
theorem chain_other {x : UInt8} (hx : dig x = false) : ∀ (ms : List (UInt8 × Int)) (l : List UInt8), (∀ m ∈ ms, m.1 ≠ x) → x ∈ l → chain ms l = none
  | [], l, _, h => by
    unfold chain
    rw [if_neg]
    intro e; rw [e] at h; cases h
  | (m, s) :: ms, l, hm, h => by
    cases q : sp m l with
    | none => 
      have : chain ((m, s) :: ms) l = (chain ms l).map (0 + ·) := by simp only [chain, unitC, q]
      rw [this, chain_other hx ms l (fun y hy => hm y (List.mem_cons_of_mem _ hy)) h]
      rfl
    | some y =>
      obtain ⟨a, b⟩ := y
      obtain ⟨e, _⟩ := sp_some q
      simp only [chain, unitC, q]
      by_cases hn : numB a = true
      · rw [if_pos hn]
        have hb : x ∈ b := by
          rw [e] at h
          rcases List.mem_append.1 h with h | h
          · have := numB_dig hn x h; rw [hx] at this; cases this
          · rcases List.mem_cons.1 h with h | h
            · exact absurd h.symm (hm (m, s) List.mem_cons_self)
            · exact h
        simp only [chain_other hx ms b (fun y hy => hm y (List.mem_cons_of_mem _ hy)) hb]
        rfl
      · rw [if_neg hn]
/-- a mark behind another byte that is no digit -/
theorem chain_behind {m c : UInt8} {s : Int} {ms : List (UInt8 × Int)} {ds r : List UInt8} (hds : m ∉ ds) (hc : dig c = false) (hcm : c ≠ m) (hm : m ∈ r) :
    chain ((m, s) :: ms) (ds ++ c :: r) = none := by
  have : m ∈ ds ++ c :: r := by simp [hm]
  cases q : sp m (ds ++ c :: r) with
  | none =>
    exfalso
    clear hds hm
    have : ∀ l : List UInt8, m ∈ l → sp m l ≠ none := by
      intro l
      induction l with
      | nil => intro h; cases h
      | cons x l ih =>
        intro h
        unfold sp
        by_cases e : x = m
        · rw [if_pos e]; simp
        · rw [if_neg e]
          rcases List.mem_cons.1 h with h | h
          · exact absurd h.symm e
          · have := ih h
            cases q : sp m l with
            | none => exact absurd q this
            | some y => simp
    exact this _ ‹_› q
  | some y =>
    obtain ⟨a, b⟩ := y
    obtain ⟨e, ha⟩ := sp_some q
    have hca : c ∈ a := by
      rcases List.append_eq_append_iff.1 e with ⟨t, e1, e2⟩ | ⟨t, e1, e2⟩
      · cases t with
        | nil => simp at e2; exact absurd e2.1 hcm
        | cons y t => simp at e2; rw [e1, ← e2.1]; simp
      · cases t with
        | nil => simp at e2; exact absurd e2.1.symm hcm
        | cons y t => simp at e2; exfalso; apply hds; rw [e1, ← e2.1]; simp
    simp only [chain, unitC, q]
    rw [if_neg]
    intro hn
    have := numB_dig hn c hca
    rw [hc] at this; cases this

theorem chain_here {m : UInt8} {s : Int} {ms : List (UInt8 × Int)} {ds r : List UInt8} (hds : m ∉ ds) (hn : numB ds = true) :
    chain ((m, s) :: ms) (ds ++ m :: r) = (chain ms r).map (numN ds * s + ·) := by
  simp only [chain, unitC, sp_at hds, hn, if_true]
theorem chain_here_no {m : UInt8} {s : Int} {ms : List (UInt8 × Int)} {ds r : List UInt8} (hds : m ∉ ds) (hn : numB ds = false) :
    chain ((m, s) :: ms) (ds ++ m :: r) = none := by
  simp only [chain, unitC, sp_at hds]
  rw [if_neg (by rw [hn]; exact Bool.false_ne_true)]

theorem lenGo_run : ∀ (ds rest cur : List UInt8) (u : Nat) (t : Bool) (s : Int) (p : Nat), (∀ x ∈ ds, dig x = true) → lenGo (ds ++ rest) cur u t s p = lenGo rest (cur ++ ds) u t s p
  | [], _, _, _, _, _, _, _ => by simp
  | x :: ds, rest, cur, u, t, s, p, h => by
    simp only [List.cons_append]
    conv => lhs; unfold lenGo
    rw [if_pos (h x List.mem_cons_self), lenGo_run ds rest (cur ++ [x]) u t s p (fun y hy => h y (List.mem_cons_of_mem _ hy))]
    simp

/-- digits, and what follows them -/
theorem split_digits (l : List UInt8) : ∃ ds rest, l = ds ++ rest ∧ (∀ x ∈ ds, dig x = true) ∧ (rest = [] ∨ ∃ c r, rest = c :: r ∧ dig c = false) := by
  induction l with
  | nil => exact ⟨[], [], rfl, by simp, .inl rfl⟩
  | cons x l ih =>
    cases h : dig x
    · exact ⟨[], x :: l, rfl, by simp, .inr ⟨x, l, rfl, h⟩⟩
    · obtain ⟨ds, rest, e, hd, hr⟩ := ih
      refine ⟨x :: ds, rest, by rw [e]; rfl, ?_, hr⟩
      intro y hy
      rcases List.mem_cons.1 hy with rfl | hy
      · exact h
      · exact hd y hy
end Go.Proofs.YthpndgcaoeokeaaGreatDoor
namespace Go.Proofs.YthpndgcaoeokeaaGreatDoor
open Go.RowKit

/-- the place of a name -/
def idx : List (List UInt8) → List UInt8 → Option Nat
  | [], _ => none
  | a :: r, n => if a = n then some 0 else (idx r n).map (· + 1)
theorem idx_none {n : List UInt8} : ∀ {ns : List (List UInt8)}, (∀ j, j < ns.length → ns.getD j [] ≠ n) → idx ns n = none
  | [], _ => rfl
  | a :: r, h => by
    have h0 : a ≠ n := h 0 (by simp)
    have hr : idx r n = none := idx_none fun j hj => h (j + 1) (by simpa using hj)
    rw [idx, if_neg h0, hr]; rfl
def plc (ns : List (List UInt8)) (c : UInt8) (l : List UInt8) : Option (Nat × List UInt8) :=
  match sp c l with
  | none => none
  | some (n, v) => (idx ns n).map fun k => (k, v)
end Go.Proofs.YthpndgcaoeokeaaGreatDoor
namespace Go.Proofs.YthpndgcaoeokeaaGreatDoor
open Go.RowKit

/-- which of three words -/
def wrd (s a b c : List UInt8) : Int := if s = a then 1 else if s = b then 2 else if s = c then 3 else 0
theorem toA_eq (a b : List UInt8) : ((⟨a.toArray⟩ : ByteArray).toList == (⟨b.toArray⟩ : ByteArray).toList) = true ↔ a = b := by
  rw [Lib.bytes_beq_iff]
  exact ⟨fun h => by have := congrArg (fun x => x.data.toList) h; simpa using this, fun h => by rw [h]⟩
theorem ba_iff (a b : List UInt8) : (⟨a.toArray⟩ : ByteArray) = ⟨b.toArray⟩ ↔ a = b :=
  ⟨fun h => by have := congrArg (fun x => x.data.toList) h; simpa using this, fun h => by rw [h]⟩
def wdays : List (List UInt8) := [[77, 79], [84, 85], [87, 69], [84, 72], [70, 82], [83, 65], [83, 85]]
def wdI (l : List UInt8) : Int := match idx wdays l with | some k => k | none => -1

/-- a number from 1 to most -/
def within (l : List UInt8) (most : Int) : Bool := numB l && decide (1 ≤ numN l) && decide (numN l ≤ most)
def sgn (l : List UInt8) (most : Int) : Int := if l.head? = some 45 then (if within l.tail most then -(numN l.tail) else 0) else (if within l most then numN l else 0)
end Go.Proofs.YthpndgcaoeokeaaGreatDoor
namespace Go.Proofs.YthpndgcaoeokeaaGreatDoor
open Go.RowKit

/-- one element more on a slice of the call's own: the element lies in a new block of its own -/
theorem app_one {P : Program} {ops : Array Oper} {rest : List Oper} {o : Oper} {a : Act} {Q : Exit → Act → World → Prop} {w wr : World} {obj : Obj} (hgd : o.guard = none) (s x : Operand) (t e : TypeId) (z : Value) (bytes : Nat)
    (ho : o.op = .call { callee := .builtin .append, args := #[s, x], argTypes := #[t, t] }) (hu : P.underlying t = some (.slice e))
    (hinfo : (P.info? e).map (fun i => (i.zero, i.size, i.bytes)) = some (some z, 1, bytes)) (hz : z.cells.size = 1) (B : Nat) (v : Value) (n : Nat) (xs : List Value) (hs : a.eval s = v)
    (hown : wr.ownsRow B e 1 v n xs) (hnx : Below B w wr) (hB : B ≤ wr.heap.size) (y : Value) (hy : y.oneCell' = true) (hx : a.eval x = .slice (some ⟨wr.heap.size, 0, none⟩) 1 1)
    (hc : (wr.alloc obj).cell? ⟨wr.heap.size, 0, none⟩ = some y) (hn : n ≤ 4194304) (hbytes : bytes ≤ 64)
    (h : ∀ v' w1, w1.ownsRow B e 1 v' (n + 1) (xs ++ [y]) → Below B w w1 → B ≤ w1.heap.size → wpList P ops Q rest (a.put o.dst v') w1) : wpList P ops Q (o :: rest) a (wr.alloc obj) := by
  obtain ⟨i0, hi, hz0, hz1, hz2⟩ := info_parts hinfo
  refine wpList_append_own _ hgd s x t ho B e i0 z 1 bytes hu hi hz0 hz1 hz2 hz (by decide) v n xs hs (hown.alloc _) ⟨wr.heap.size, 0, none⟩ 1 1 [y] hx rfl ?_ ?_ ?_ ?_ ?_ ?_
  · intro j u hj
    match j, hj with
    | 0, hj => simp at hj; subst hj; exact hc
  · intro u hu; simp at hu; subst hu; exact hy
  · unfold maxLen; omega
  · have : (n + 1) * bytes ≤ 4194305 * 64 := Nat.mul_le_mul (by omega) hbytes
    omega
  · simp; omega
  · intro v' w1 hown' hgrow _
    have R := own_append hB hown hnx hown' hgrow
    exact h v' w1 R.1 R.2 (by have := hgrow.size; simp at this; omega)

/-- a list in order, each once, and one more number: what is left -/
def wth (n : Int) : Bool → List Int → List Int
  | d, [] => if d = true then [] else [n]
  | d, a :: r => (if d = false ∧ n ≤ a then [n] else []) ++ (if a = n then [] else [a]) ++ wth n (d || decide (n ≤ a)) r
end Go.Proofs.YthpndgcaoeokeaaGreatDoor
namespace Go.Proofs.YthpndgcaoeokeaaGreatDoor
open Go.RowKit

/-- what a call owns lies in the memory -/
theorem own_cells {w : World} {B : Nat} {e : TypeId} {v : Value} {n : Nat} {xs : List Value} (h : w.ownsRow B e 1 v n xs) :
    (v = .slice none 0 0 ∧ xs = []) ∨ ∃ g cap, v = .slice (some ⟨g, 0, none⟩) n cap ∧ B ≤ g ∧ g < w.heap.size ∧ ∀ j y, xs[j]? = some y → w.cell? ⟨g, j, none⟩ = some y := by
  obtain ⟨hl, h | ⟨g, cap, cur, hv, hb, hh, hc1, hc2, hsz, ht⟩⟩ := h
  · exact .inl ⟨h.1, List.eq_nil_of_length_eq_zero (by rw [hl, h.2])⟩
  · refine .inr ⟨g, cap, hv, hb, ?_, fun j y hj => ?_⟩
    · exact (Array.getElem?_eq_some_iff.1 hh).1
    · rw [← ht] at hj
      have h2 := List.getElem?_eq_some_iff.1 hj
      obtain ⟨hlt, he⟩ := h2
      rw [List.length_take] at hlt
      rw [List.getElem_take] at he
      unfold World.cell?
      rw [hh]
      simp only [Option.isSome_none, Bool.false_eq_true, if_false]
      rw [Array.getElem?_eq_getElem (by have := Nat.min_le_right (n * 1) cur.toList.length; rw [Array.length_toList] at this; omega)]
      rw [← he]; rfl
end Go.Proofs.YthpndgcaoeokeaaGreatDoor
namespace Go.Proofs.YthpndgcaoeokeaaGreatDoor
open Go.RowKit

/-- the times of pieces, in order, each once -/
def tms : List ByteArray → List Int → Option (List Int)
  | [], acc => some acc
  | l :: r, acc => if timeB l = true then tms r (wth (timeN l) false acc) else none
def timesF (s : ByteArray) : Option (List Int) := if (splitF s 44).length ≤ 20 then tms (splitF s 44) [] else none
theorem own_form {w : World} {B : Nat} {e : TypeId} {v : Value} {n : Nat} {xs : List Value} (h : w.ownsRow B e 1 v n xs) : ∃ a n c, v = .slice a n c := by
  rcases own_cells h with ⟨h, _⟩ | ⟨g, cap, h, _⟩
  · exact ⟨_, _, _, h⟩
  · exact ⟨_, _, _, h⟩
end Go.Proofs.YthpndgcaoeokeaaGreatDoor
namespace Go.Proofs.YthpndgcaoeokeaaGreatDoor
open Go.RowKit

/-- one of a list's numbers -/
def lst1 (most : Int) (signs : Bool) (l : ByteArray) : Option Int :=
  if sgn l.data.toList most = 0 then none else if sgn l.data.toList most < 0 ∧ signs = false then none else some (sgn l.data.toList most)
def lst (most : Int) (signs : Bool) : List ByteArray → List Int → Option (List Int)
  | [], acc => some acc
  | l :: r, acc => match lst1 most signs l with | none => none | some z => lst most signs r (acc ++ [z])
def listF (s : ByteArray) (most : Int) (signs : Bool) : Option (List Int) := if (splitF s 44).length ≤ 20 then lst most signs (splitF s 44) [] else none
end Go.Proofs.YthpndgcaoeokeaaGreatDoor
namespace Go.Proofs.YthpndgcaoeokeaaGreatDoor
open Go.RowKit

/-- a time as it is printed, or nothing -/
def ptx (z : Int) : List UInt8 := if isTimeB z = true then printL z else []
end Go.Proofs.YthpndgcaoeokeaaGreatDoor
namespace Go.Proofs.YthpndgcaoeokeaaGreatDoor
open Go.RowKit

/-- one of BYDAY's values: its weekday and its ordinal -/
def day1 (l : ByteArray) : Option (Int × Int) :=
  if l.size < 2 then none
  else if wdI (cut l (l.size - 2) 2) < 0 then none
  else if l.size = 2 then some (wdI (cut l (l.size - 2) 2), 0)
  else if sgn (cut l 0 (l.size - 2)) 53 = 0 then none
  else some (wdI (cut l (l.size - 2) 2), sgn (cut l 0 (l.size - 2)) 53)
def dys : List ByteArray → List Int × List Int → Option (List Int × List Int)
  | [], acc => some acc
  | l :: r, acc => match day1 l with | none => none | some q => dys r (acc.1 ++ [q.1], acc.2 ++ [q.2])
def daysF (s : ByteArray) : Option (List Int × List Int) := if (splitF s 44).length ≤ 20 then dys (splitF s 44) ([], []) else none
end Go.Proofs.YthpndgcaoeokeaaGreatDoor
namespace Go.Proofs.YthpndgcaoeokeaaGreatDoor
open Go.RowKit

theorem setCell_size (w : World) (a : Addr) (v : Value) : (w.setCell a v).heap.size = w.heap.size := by simp [World.setCell]
end Go.Proofs.YthpndgcaoeokeaaGreatDoor
namespace Go.Proofs.YthpndgcaoeokeaaGreatDoor
open Go.RowKit

/-- which period -/
def frq (l : List UInt8) : Int := if l = [89, 69, 65, 82, 76, 89] then 4 else wrd l [68, 65, 73, 76, 89] [87, 69, 69, 75, 76, 89] [77, 79, 78, 84, 72, 76, 89]

end Go.Proofs.YthpndgcaoeokeaaGreatDoor
namespace Go.Proofs.YthpndgcaoeokeaaGreatDoor
open Go.RowKit

/-- the names of the properties and of the parts -/
def propNames : List (List UInt8) := [[85, 73, 68], [68, 84, 83, 84, 65, 82, 84], [68, 85, 82, 65, 84, 73, 79, 78], [68, 84, 69, 78, 68], [82, 82, 85, 76, 69], [69, 88, 68, 65, 84, 69], [82, 68, 65, 84, 69], [84, 82, 65, 78, 83, 80], [83, 84, 65, 84, 85, 83]]
def partNames : List (List UInt8) := [[70, 82, 69, 81], [73, 78, 84, 69, 82, 86, 65, 76], [67, 79, 85, 78, 84], [85, 78, 84, 73, 76], [66, 89, 77, 79, 78, 84, 72], [66, 89, 77, 79, 78, 84, 72, 68, 65, 89], [66, 89, 68, 65, 89], [66, 89, 83, 69, 84, 80, 79, 83], [87, 75, 83, 84]]
/-- the fields of pieces, by their names' places: none of them twice, none of another name -/
def flds (ns : List (List UInt8)) (c : UInt8) : List (List UInt8) → (Nat → Option (List UInt8)) → Option (Nat → Option (List UInt8))
  | [], f => some f
  | l :: r, f => match plc ns c l with
    | none => none
    | some (k, v) => if (f k).isSome then none else flds ns c r (fun j => if j = k then some v else f j)
end Go.Proofs.YthpndgcaoeokeaaGreatDoor
namespace Go.Proofs.YthpndgcaoeokeaaGreatDoor

/-- a text as bytes -/
def ba (l : List UInt8) : ByteArray := ⟨l.toArray⟩
/-- is a part of a rule as it must be? -/
def partOk (k : Nat) (v : List UInt8) : Bool := match k with
  | 0 => decide (0 < frq v)
  | 1 => decide (0 < sgn v 100)
  | 2 => decide (0 < sgn v 1000)
  | 3 => timeB (ba v)
  | 4 => (listF (ba v) 12 false).isSome
  | 5 => (listF (ba v) 31 true).isSome
  | 6 => (daysF (ba v)).isSome
  | 7 => (listF (ba v) 366 true).isSome
  | 8 => decide (0 ≤ wdI v)
  | _ => false
def has (f : Nat → Option (List UInt8)) (k : Nat) : Bool := (f k).isSome
/-- has BYDAY an ordinal? -/
def ordinals (f : Nat → Option (List UInt8)) : Bool := match f 6 with
  | none => false
  | some v => match daysF (ba v) with
    | none => false
    | some q => q.2.any fun o => decide (o ≠ 0)
def freqOf (f : Nat → Option (List UInt8)) : Int := match f 0 with | none => 0 | some v => frq v
/-- do a rule's parts agree? -/
def agree (f : Nat → Option (List UInt8)) : Bool :=
  has f 0 && !(has f 2 && has f 3) && !(has f 5 && decide (freqOf f = 2)) && !(ordinals f && (decide (freqOf f < 3) || has f 5)) && (!has f 7 || has f 4 || has f 5 || has f 6)
def eachOk (f : Nat → Option (List UInt8)) : Bool := (List.range 9).all fun k => match f k with | none => true | some v => partOk k v
/-- the pieces of a text, as bytes -/
def piecesL (c : UInt8) (s : List UInt8) : List (List UInt8) := (splitF (ba s) c.toNat).map (·.data.toList)
/-- a rule's parts, if it is one -/
def ruleF (s : List UInt8) : Option (Nat → Option (List UInt8)) := match flds partNames 61 (piecesL 59 s) (fun _ => none) with
  | none => none
  | some f => if eachOk f && agree f then some f else none
end Go.Proofs.YthpndgcaoeokeaaGreatDoor
namespace Go.Proofs.YthpndgcaoeokeaaGreatDoor
open Go.RowKit

/-- of what was there nothing has turned but the blocks of O -/
structure Exc (O : Nat → Prop) (W W' : World) : Prop where
  os : W'.os = W.os
  tape : W'.tape = W.tape
  output : W'.output = W.output
  size : W.heap.size ≤ W'.heap.size
  block : ∀ k, k < W.heap.size → ¬ O k → W'.heap[k]? = W.heap[k]?

theorem Exc.refl (O : Nat → Prop) (W : World) : Exc O W W := ⟨rfl, rfl, rfl, Nat.le_refl _, fun _ _ _ => rfl⟩
theorem Exc.trans {O O' : Nat → Prop} {A B C : World} (h : Exc O A B) (k : Exc O' B C) (hO : ∀ i, O' i → O i ∨ A.heap.size ≤ i) : Exc O A C :=
  ⟨k.os.trans h.os, k.tape.trans h.tape, k.output.trans h.output, Nat.le_trans h.size k.size, fun i hi hn => (k.block i (Nat.lt_of_lt_of_le hi h.size) (fun ho => (hO i ho).elim hn (by omega))).trans (h.block i hi hn)⟩
theorem Exc.trans1 {O : Nat → Prop} {A B C : World} (h : Exc O A B) (k : Exc O B C) : Exc O A C := h.trans k (fun _ h => .inl h)
theorem Exc.of_below {O : Nat → Prop} {W W' : World} (h : Below W.heap.size W W') : Exc O W W' := ⟨h.os, h.tape, h.output, h.size, fun k hk _ => h.block k hk⟩
theorem Exc.below {O : Nat → Prop} {W W' : World} {B : Nat} (h : Exc O W W') (hB : B ≤ W.heap.size) (hO : ∀ k, O k → B ≤ k) : Below B W W' :=
  ⟨h.os, h.tape, h.output, h.size, fun k hk => h.block k (by omega) (fun ho => by have := hO k ho; omega)⟩
theorem Exc.mono {O O' : Nat → Prop} {W W' : World} (h : Exc O W W') (hO : ∀ k, O k → O' k ∨ W.heap.size ≤ k) : Exc O' W W' :=
  ⟨h.os, h.tape, h.output, h.size, fun k hk hn => h.block k hk (fun ho => (hO k ho).elim hn (by omega))⟩
theorem Exc.setCell {O : Nat → Prop} {W W' : World} (h : Exc O W W') {p : Addr} (hp : O p.block ∨ W.heap.size ≤ p.block) (v : Value) : Exc O W (W'.setCell p v) :=
  ⟨h.os, h.tape, h.output, by simpa [World.setCell] using h.size, fun k hk hn => (Below.heap_setCell _ _ _ _ (fun e => by subst e; exact hp.elim hn (by omega))).trans (h.block k hk hn)⟩
theorem Exc.alloc {O : Nat → Prop} {W W' : World} (h : Exc O W W') (o : Obj) : Exc O W (W'.alloc o) :=
  ⟨h.os, h.tape, h.output, by have := h.size; simp; omega, fun k hk hn => (Below.heap_alloc _ _ _ (by have := h.size; omega)).trans (h.block k hk hn)⟩
theorem Exc.put {O : Nat → Prop} {W W' : World} (h : Exc O W W') {r : Nat} (hr : O r ∨ W.heap.size ≤ r) (o : Obj) : Exc O W (W'.putObj r o) :=
  ⟨h.os, h.tape, h.output, by simpa using h.size, fun k hk hn => (World.putObj_heap_other (fun e => by subst e; exact hr.elim hn (by omega))).trans (h.block k hk hn)⟩

/-- J holds wherever the blocks of D are as they are here -/
def HoldAt (D : Nat → Prop) (J : World → Prop) (W : World) : Prop := ∀ W2 : World, (∀ k, D k → W2.heap[k]? = W.heap[k]?) → J W2
theorem HoldAt.out {D : Nat → Prop} {J : World → Prop} {W : World} (h : HoldAt D J W) : J W := h W (fun _ _ => rfl)
theorem HoldAt.on {D : Nat → Prop} {J : World → Prop} {W W' : World} (h : HoldAt D J W) (hk : ∀ k, D k → W'.heap[k]? = W.heap[k]?) : HoldAt D J W' :=
  fun W2 h2 => h W2 (fun k hd => (h2 k hd).trans (hk k hd))
theorem lt_of_same {W W' : World} {k : Nat} (hk : k < W.heap.size) (e : W'.heap[k]? = W.heap[k]?) : k < W'.heap.size := by
  rw [Array.getElem?_eq_getElem hk] at e
  exact (Array.getElem?_eq_some_iff.1 e).1

end Go.Proofs.YthpndgcaoeokeaaGreatDoor
