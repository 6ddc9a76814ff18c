/- An event's text, as the statements write it (fallowkeep.event). The statements' head: works (fallowkeep). The document's fields (fallowref.fields): what is made, what its loop keeps, what goes back. The document's Text ((fallowref.Event).Text): its region that draws. Written by gen34r.py. Times: the row, lifted: whatever the script, the answer is the document's. Events: the row of bounded bulk, lifted: whatever the script, the answer is the document's. Arguments of the statements that are plain: numbers, texts, truths, opened and shut; the world at the call. Times: the row's closed facts, one by one. Texts that are too long: Check and Instances of any text at all. -/
import Derived.Test.YthpndgcaoeokeaaGreatDoorCm25
import Derived.Test.YthpndgcaoeokeaaGreatDoorCards
import Derived.Test.YthpndgcaoeokeaaGreatDoorTie
import Derived.ProofKit
import Derived.OpenShut
import Derived.LaidMore
import Derived.Lay
import Derived.SevenTiedAt
import Derived.Stop.Joined
import Derived.Carry
import Derived.Deep.DeepHandedRow
import Derived.Shelf.LaysM
import Derived.ChangeMaps5
import Derived.WalkArith
namespace Go.Proofs.YthpndgcaoeokeaaGreatDoor
open Go.RowKit Go.Sort

def prL (n : Int) : List UInt8 := if isTimeB n then printL n else []
theorem printV_fst (n : Int) : ∃ x : Int, printV n = .tuple #[.string ⟨(prL n).toArray⟩, .int .i64 x] := by
  unfold printV prL
  by_cases h : isTimeB n = true
  · rw [if_pos h, if_pos h]; exact ⟨_, rfl⟩
  · rw [if_neg h, if_neg h]; exact ⟨_, rfl⟩
theorem printL_len (n : Int) : (printL n).length = 16 := by unfold printL; simp [pad_length]
theorem prL_len (n : Int) : (prL n).length ≤ 16 := by unfold prL; split <;> simp [printL_len]

def evEnd (st ln : Int) : List UInt8 := if ln % 86400 = 0 ∧ ln / 86400 < 32 then [68, 85, 82, 65, 84, 73, 79, 78, 58, 80] ++ dgs (ln / 86400) ++ [68] ++ [13, 10] else [68, 84, 69, 78, 68, 58] ++ prL (st + ln) ++ [13, 10]
def evRul (rule : List UInt8) : List UInt8 := if rule = [] then [] else [82, 82, 85, 76, 69, 58] ++ rule ++ [13, 10]
def evHd (u : List UInt8) (st : Int) : List UInt8 := [66, 69, 71, 73, 78, 58, 86, 69, 86, 69, 78, 84, 13, 10, 85, 73, 68, 58] ++ u ++ [13, 10] ++ [68, 84, 83, 84, 65, 82, 84, 58] ++ prL st ++ [13, 10]
/-- the text -/
def evTx (u : List UInt8) (st ln : Int) (rule : List UInt8) : List UInt8 := evHd u st ++ evEnd st ln ++ evRul rule ++ [69, 78, 68, 58, 86, 69, 86, 69, 78, 84] ++ [13, 10]
set_option maxRecDepth 100000 in
set_option maxHeartbeats 4000000 in
theorem event_dr (U P1 D R : ByteArray) (x1 st ln : Int) (w : World) (C1 : Hid (Calls Tryz.prog 18 #[.int .i64 st] w fun E w' => E = .returned (.tuple #[.string P1, .int .i64 x1]) ∧ Below w.heap.size w w'))
    (C3 : Hid (∀ W, Below w.heap.size w W → Calls Tryz.prog 21 #[.int .i64 (ln / 86400)] W fun E w' => E = .returned (.string D) ∧ Below W.heap.size W w'))
    (hU : U.size ≤ 1000) (h1 : P1.size ≤ 16) (h3 : D.size ≤ 20) (h4 : R.size ≤ 1000) (l0 : 0 ≤ ln) (l1 : ln ≤ 100000000000)
    (hd : ln % 86400 = 0 ∧ ln / 86400 < 32) (hR : R.toList ≠ []) :
    Calls Tryz.prog 25 #[.string U, .int .i64 st, .int .i64 ln, .string R] w fun e w' => e = .returned (.string ((⟨#[66, 69, 71, 73, 78, 58, 86, 69, 86, 69, 78, 84, 13, 10, 85, 73, 68, 58]⟩ : ByteArray) ++ U ++ ⟨#[13, 10]⟩ ++ ⟨#[68, 84, 83, 84, 65, 82, 84, 58]⟩ ++ P1 ++ ⟨#[13, 10]⟩ ++ ⟨#[68, 85, 82, 65, 84, 73, 79, 78, 58, 80]⟩ ++ D ++ ⟨#[68]⟩ ++ ⟨#[13, 10]⟩ ++ ⟨#[82, 82, 85, 76, 69, 58]⟩ ++ R ++ ⟨#[13, 10]⟩ ++ ⟨#[69, 78, 68, 58, 86, 69, 86, 69, 78, 84]⟩ ++ ⟨#[13, 10]⟩)) ∧ Below w.heap.size w w' := by
  have hR2 : (R.toList == []) = false := by simp [hR]
  have d1 : (ln % 86400 == 0) = true := by simp [hd.1]
  obtain ⟨hd1, hd2⟩ := hd
  go_enter Tryz.func25, Tryz.ntmps25
  go_wp2_with fail
  refine (C1.out).mono ?_
  rintro e w1 ⟨rfl, hb1⟩
  go_wp2_with fail
  refine (C3.out _ hb1).mono ?_
  rintro e w2 ⟨rfl, hb2⟩
  go_wp2_with fail
  go_ret
  exact ⟨rfl, hb1.trans (hb2.mono hb1.size)⟩

set_option maxRecDepth 100000 in
set_option maxHeartbeats 4000000 in
theorem event_dn (U P1 D R : ByteArray) (x1 st ln : Int) (w : World) (C1 : Hid (Calls Tryz.prog 18 #[.int .i64 st] w fun E w' => E = .returned (.tuple #[.string P1, .int .i64 x1]) ∧ Below w.heap.size w w'))
    (C3 : Hid (∀ W, Below w.heap.size w W → Calls Tryz.prog 21 #[.int .i64 (ln / 86400)] W fun E w' => E = .returned (.string D) ∧ Below W.heap.size W w'))
    (hU : U.size ≤ 1000) (h1 : P1.size ≤ 16) (h3 : D.size ≤ 20) (h4 : R.size ≤ 1000) (l0 : 0 ≤ ln) (l1 : ln ≤ 100000000000)
    (hd : ln % 86400 = 0 ∧ ln / 86400 < 32) (hR : R = ⟨#[]⟩) :
    Calls Tryz.prog 25 #[.string U, .int .i64 st, .int .i64 ln, .string R] w fun e w' => e = .returned (.string ((⟨#[66, 69, 71, 73, 78, 58, 86, 69, 86, 69, 78, 84, 13, 10, 85, 73, 68, 58]⟩ : ByteArray) ++ U ++ ⟨#[13, 10]⟩ ++ ⟨#[68, 84, 83, 84, 65, 82, 84, 58]⟩ ++ P1 ++ ⟨#[13, 10]⟩ ++ ⟨#[68, 85, 82, 65, 84, 73, 79, 78, 58, 80]⟩ ++ D ++ ⟨#[68]⟩ ++ ⟨#[13, 10]⟩  ++ ⟨#[69, 78, 68, 58, 86, 69, 86, 69, 78, 84]⟩ ++ ⟨#[13, 10]⟩)) ∧ Below w.heap.size w w' := by
  subst hR
  have d1 : (ln % 86400 == 0) = true := by simp [hd.1]
  obtain ⟨hd1, hd2⟩ := hd
  go_enter Tryz.func25, Tryz.ntmps25
  go_wp2_with fail
  refine (C1.out).mono ?_
  rintro e w1 ⟨rfl, hb1⟩
  go_wp2_with fail
  refine (C3.out _ hb1).mono ?_
  rintro e w2 ⟨rfl, hb2⟩
  go_wp2_with fail
  go_ret
  exact ⟨rfl, hb1.trans (hb2.mono hb1.size)⟩

set_option maxRecDepth 100000 in
set_option maxHeartbeats 4000000 in
theorem event_er (U P1 P2 R : ByteArray) (x1 x2 st ln : Int) (w : World) (C1 : Hid (Calls Tryz.prog 18 #[.int .i64 st] w fun E w' => E = .returned (.tuple #[.string P1, .int .i64 x1]) ∧ Below w.heap.size w w'))
    (C2 : Hid (∀ W, Below w.heap.size w W → Calls Tryz.prog 18 #[.int .i64 (st + ln)] W fun E w' => E = .returned (.tuple #[.string P2, .int .i64 x2]) ∧ Below W.heap.size W w'))
    (hU : U.size ≤ 1000) (h1 : P1.size ≤ 16) (h2 : P2.size ≤ 16) (h4 : R.size ≤ 1000) (s0 : 0 ≤ st) (s1 : st ≤ 100000000000) (l0 : 0 ≤ ln) (l1 : ln ≤ 100000000000)
    (hd : ¬ (ln % 86400 = 0 ∧ ln / 86400 < 32)) (hR : R.toList ≠ []) :
    Calls Tryz.prog 25 #[.string U, .int .i64 st, .int .i64 ln, .string R] w fun e w' => e = .returned (.string ((⟨#[66, 69, 71, 73, 78, 58, 86, 69, 86, 69, 78, 84, 13, 10, 85, 73, 68, 58]⟩ : ByteArray) ++ U ++ ⟨#[13, 10]⟩ ++ ⟨#[68, 84, 83, 84, 65, 82, 84, 58]⟩ ++ P1 ++ ⟨#[13, 10]⟩ ++ ⟨#[68, 84, 69, 78, 68, 58]⟩ ++ P2 ++ ⟨#[13, 10]⟩ ++ ⟨#[82, 82, 85, 76, 69, 58]⟩ ++ R ++ ⟨#[13, 10]⟩ ++ ⟨#[69, 78, 68, 58, 86, 69, 86, 69, 78, 84]⟩ ++ ⟨#[13, 10]⟩)) ∧ Below w.heap.size w w' := by
  have hR2 : (R.toList == []) = false := by simp [hR]
  by_cases d0 : ln % 86400 = 0
  · have hd1 : ¬ ln / 86400 < 32 := fun h => hd ⟨d0, h⟩
    clear hd
    go_enter Tryz.func25, Tryz.ntmps25
    go_wp2_with fail
    refine (C1.out).mono ?_
    rintro e w1 ⟨rfl, hb1⟩
    go_wp2_with fail
    refine (C2.out _ hb1).mono ?_
    rintro e w2 ⟨rfl, hb2⟩
    go_wp2_with fail
    go_ret
    exact ⟨rfl, hb1.trans (hb2.mono hb1.size)⟩
  · clear hd
    have d1 : (ln % 86400 == 0) = false := by simp [d0]
    go_enter Tryz.func25, Tryz.ntmps25
    go_wp2_with fail
    refine (C1.out).mono ?_
    rintro e w1 ⟨rfl, hb1⟩
    go_wp2_with fail
    refine (C2.out _ hb1).mono ?_
    rintro e w2 ⟨rfl, hb2⟩
    go_wp2_with fail
    go_ret
    exact ⟨rfl, hb1.trans (hb2.mono hb1.size)⟩

set_option maxRecDepth 100000 in
set_option maxHeartbeats 4000000 in
theorem event_en (U P1 P2 R : ByteArray) (x1 x2 st ln : Int) (w : World) (C1 : Hid (Calls Tryz.prog 18 #[.int .i64 st] w fun E w' => E = .returned (.tuple #[.string P1, .int .i64 x1]) ∧ Below w.heap.size w w'))
    (C2 : Hid (∀ W, Below w.heap.size w W → Calls Tryz.prog 18 #[.int .i64 (st + ln)] W fun E w' => E = .returned (.tuple #[.string P2, .int .i64 x2]) ∧ Below W.heap.size W w'))
    (hU : U.size ≤ 1000) (h1 : P1.size ≤ 16) (h2 : P2.size ≤ 16) (h4 : R.size ≤ 1000) (s0 : 0 ≤ st) (s1 : st ≤ 100000000000) (l0 : 0 ≤ ln) (l1 : ln ≤ 100000000000)
    (hd : ¬ (ln % 86400 = 0 ∧ ln / 86400 < 32)) (hR : R = ⟨#[]⟩) :
    Calls Tryz.prog 25 #[.string U, .int .i64 st, .int .i64 ln, .string R] w fun e w' => e = .returned (.string ((⟨#[66, 69, 71, 73, 78, 58, 86, 69, 86, 69, 78, 84, 13, 10, 85, 73, 68, 58]⟩ : ByteArray) ++ U ++ ⟨#[13, 10]⟩ ++ ⟨#[68, 84, 83, 84, 65, 82, 84, 58]⟩ ++ P1 ++ ⟨#[13, 10]⟩ ++ ⟨#[68, 84, 69, 78, 68, 58]⟩ ++ P2 ++ ⟨#[13, 10]⟩  ++ ⟨#[69, 78, 68, 58, 86, 69, 86, 69, 78, 84]⟩ ++ ⟨#[13, 10]⟩)) ∧ Below w.heap.size w w' := by
  subst hR
  by_cases d0 : ln % 86400 = 0
  · have hd1 : ¬ ln / 86400 < 32 := fun h => hd ⟨d0, h⟩
    clear hd
    go_enter Tryz.func25, Tryz.ntmps25
    go_wp2_with fail
    refine (C1.out).mono ?_
    rintro e w1 ⟨rfl, hb1⟩
    go_wp2_with fail
    refine (C2.out _ hb1).mono ?_
    rintro e w2 ⟨rfl, hb2⟩
    go_wp2_with fail
    go_ret
    exact ⟨rfl, hb1.trans (hb2.mono hb1.size)⟩
  · clear hd
    have d1 : (ln % 86400 == 0) = false := by simp [d0]
    go_enter Tryz.func25, Tryz.ntmps25
    go_wp2_with fail
    refine (C1.out).mono ?_
    rintro e w1 ⟨rfl, hb1⟩
    go_wp2_with fail
    refine (C2.out _ hb1).mono ?_
    rintro e w2 ⟨rfl, hb2⟩
    go_wp2_with fail
    go_ret
    exact ⟨rfl, hb1.trans (hb2.mono hb1.size)⟩

theorem ba_ne {l : List UInt8} (h : l ≠ []) : (⟨l.toArray⟩ : ByteArray).toList ≠ [] := by
  intro e
  have h1 : ((⟨l.toArray⟩ : ByteArray).toList == (⟨([] : List UInt8).toArray⟩ : ByteArray).toList) = true := by rw [e]; simp [go_sem]
  exact h ((toA_eq l []).1 h1)
set_option maxHeartbeats 4000000 in
theorem event_n (u : List UInt8) (st ln : Int) (rule : List UInt8) (w : World) (ht : Tab w) (hu : u.length ≤ 1000) (hr : rule.length ≤ 1000) (s0 : 0 ≤ st) (s1 : st ≤ 100000000000) (l0 : 0 ≤ ln) (l1 : ln ≤ 100000000000) :
    Calls Tryz.prog 25 #[.string ⟨u.toArray⟩, .int .i64 st, .int .i64 ln, .string ⟨rule.toArray⟩] w fun e w' => e = .returned (.string ⟨(evTx u st ln rule).toArray⟩) ∧ Below w.heap.size w w' := by
  obtain ⟨x1, e1⟩ := printV_fst st
  obtain ⟨x2, e2⟩ := printV_fst (st + ln)
  have C1 := hide (print_any st w ht)
  have C2 : Hid (∀ W, Below w.heap.size w W → Calls Tryz.prog 18 #[.int .i64 (st + ln)] W fun E w' => E = .returned (printV (st + ln)) ∧ Below W.heap.size W w') := hide fun W hb => print_any _ W (ht.on hb)
  have C3 : Hid (∀ W, Below w.heap.size w W → Calls Tryz.prog 21 #[.int .i64 (ln / 86400)] W fun E w' => E = .returned (.string ⟨(dgs (ln / 86400)).toArray⟩) ∧ Below W.heap.size W w') := hide fun W hb => digits_n _ W (by omega) (by omega) (by omega)
  rw [e1] at C1
  rw [e2] at C2
  have p1 := prL_len st
  have p2 := prL_len (st + ln)
  have p3 : (dgs (ln / 86400)).length ≤ 20 := Nat.le_trans (dgsF_len 20 (ln / 86400) 19 (by omega)) (Nat.le_refl _)
  by_cases hd : ln % 86400 = 0 ∧ ln / 86400 < 32
  · by_cases hR : rule = []
    · refine (event_dn ⟨u.toArray⟩ _ _ ⟨rule.toArray⟩ x1 st ln w C1 C3 hu p1 p3 hr l0 l1 hd (by rw [hR])).mono ?_
      rintro e w' ⟨rfl, hb⟩
      refine ⟨ret_str ?_, hb⟩
      unfold evTx evHd evEnd evRul; rw [if_pos hd, if_pos hR]; simp only [ba_app, List.append_assoc, List.append_nil, List.cons_append, List.nil_append]
    · refine (event_dr ⟨u.toArray⟩ _ _ ⟨rule.toArray⟩ x1 st ln w C1 C3 hu p1 p3 hr l0 l1 hd (ba_ne hR)).mono ?_
      rintro e w' ⟨rfl, hb⟩
      refine ⟨ret_str ?_, hb⟩
      unfold evTx evHd evEnd evRul; rw [if_pos hd, if_neg hR]; simp only [ba_app, List.append_assoc, List.cons_append, List.nil_append]
  · by_cases hR : rule = []
    · refine (event_en ⟨u.toArray⟩ _ _ ⟨rule.toArray⟩ x1 x2 st ln w C1 C2 hu p1 p2 hr s0 s1 l0 l1 hd (by rw [hR])).mono ?_
      rintro e w' ⟨rfl, hb⟩
      refine ⟨ret_str ?_, hb⟩
      unfold evTx evHd evEnd evRul; rw [if_neg hd, if_pos hR]; simp only [ba_app, List.append_assoc, List.append_nil, List.cons_append, List.nil_append]
    · refine (event_er ⟨u.toArray⟩ _ _ ⟨rule.toArray⟩ x1 x2 st ln w C1 C2 hu p1 p2 hr s0 s1 l0 l1 hd (ba_ne hR)).mono ?_
      rintro e w' ⟨rfl, hb⟩
      refine ⟨ret_str ?_, hb⟩
      unfold evTx evHd evEnd evRul; rw [if_neg hd, if_neg hR]; simp only [ba_app, List.append_assoc, List.cons_append, List.nil_append]
end Go.Proofs.YthpndgcaoeokeaaGreatDoor
namespace Go.Proofs.YthpndgcaoeokeaaGreatDoor
open Go.RowKit Go.Sort

def oneRule : List UInt8 := [70, 82, 69, 81, 61, 68, 65, 73, 76, 89, 59, 67, 79, 85, 78, 84, 61, 50]
theorem wk_inst : insE (evTx [120] 951868800 60 oneRule) 951868800 951868801 = .ok [(951868800, 951868860)] := by
  kernel_rfl
theorem wk_parse : parseV ⟨#[50, 48, 48, 48, 48, 51, 48, 49, 84, 48, 48, 48, 48, 48, 48, 90]⟩ = .tuple #[.int .i64 951868800, .int .i64 0] := by kernel_rfl
theorem wk_print : printV 951868800 = .tuple #[.string ⟨#[50, 48, 48, 48, 48, 51, 48, 49, 84, 48, 48, 48, 48, 48, 48, 90]⟩, .int .i64 0] := by kernel_rfl
theorem own_cellsN {w : World} {B s : Nat} {e : TypeId} {v : Value} {n : Nat} {xs : List Value} (h : w.ownsRow B e s v n xs) :
    (v = .slice none 0 0 ∧ n = 0) ∨ ∃ g cap, v = .slice (some ⟨g, 0, none⟩) n cap ∧ B ≤ g ∧ g < w.heap.size ∧ ∀ j y, xs[j]? = some y → w.cell? ⟨g, j, none⟩ = some y := by
  obtain ⟨hl, h | ⟨g, cap, cur, hv, hb, hh, hc1, hc2, hsz, ht⟩⟩ := h
  · exact .inl h
  · refine .inr ⟨g, cap, hv, hb, ?_, fun j y hj => ?_⟩
    · exact (Array.getElem?_eq_some_iff.1 hh).1
    · rw [← ht] at hj
      have h2 := List.getElem?_eq_some_iff.1 hj
      obtain ⟨hlt, he⟩ := h2
      rw [List.length_take] at hlt
      rw [List.getElem_take] at he
      unfold World.cell?
      rw [hh]
      simp only [Option.isSome_none, Bool.false_eq_true, if_false]
      rw [Array.getElem?_eq_getElem (by have := Nat.lt_of_lt_of_le hlt (Nat.min_le_right _ _); rw [Array.length_toList] at this; simpa using this)]
      rw [← he]; rfl

set_option maxRecDepth 100000 in
set_option maxHeartbeats 4000000 in
theorem works_n (w : World) (hm : ML w) (ht : Tab w) :
    Calls Tryz.prog 16 #[] w fun e w' => e = .returned (.bool true) ∧ Below w.heap.size w w' := by
  have C1 := hide (parse_any ⟨#[50, 48, 48, 48, 48, 51, 48, 49, 84, 48, 48, 48, 48, 48, 48, 90]⟩ w)
  rw [wk_parse] at C1
  have C2 : Hid (∀ W, Below w.heap.size w W → Calls Tryz.prog 18 #[.int .i64 951868800] W fun E w' => E = .returned (printV 951868800) ∧ Below W.heap.size W w') := hide fun W hb => print_any _ W (ht.on hb)
  rw [wk_print] at C2
  have C3 : Hid (∀ W, Below w.heap.size w W → Calls Tryz.prog 25 #[.string ⟨#[120]⟩, .int .i64 951868800, .int .i64 60, .string ⟨oneRule.toArray⟩] W fun E w' => E = .returned (.string ⟨(evTx [120] 951868800 60 oneRule).toArray⟩) ∧ Below W.heap.size W w') := hide fun W hb => event_n [120] 951868800 60 oneRule W (ht.on hb) (by decide) (by decide) (by omega) (by omega) (by omega) (by omega)
  have C4 : Hid (∀ W, Below w.heap.size w W → Calls Tryz.prog 23 #[.string ⟨(evTx [120] 951868800 60 oneRule).toArray⟩, .int .i64 951868800, .int .i64 951868801] W fun E w' => (∃ v, E = .returned (.tuple #[v, .int .i64 0]) ∧ w'.ownsRow W.heap.size 39 2 v 1 [.int .i64 951868800, .int .i64 951868860]) ∧ Below W.heap.size W w') := hide fun W hb =>
    (instAll_n (evTx [120] 951868800 60 oneRule) 951868800 951868801 W (hm.on hb) (ht.on hb) (of_decide_eq_true (by kernel_rfl))).mono fun E w' h => by
      unfold InstP at h; rw [wk_inst] at h; exact h
  generalize evTx [120] 951868800 60 oneRule = T at *
  unfold oneRule at C3
  clear hm ht
  go_enter Tryz.func16, Tryz.ntmps16
  go_wp2_with fail
  refine (C1.out).mono ?_
  rintro e w1 ⟨rfl, hb1⟩
  go_wp2_with fail
  refine (C2.out _ hb1).mono ?_
  rintro e w2 ⟨rfl, hb2⟩
  replace hb2 := hb1.trans (hb2.mono hb1.size)
  go_wp2_with fail
  refine (C3.out _ hb2).mono ?_
  rintro e w3 ⟨rfl, hb3⟩
  replace hb3 := hb2.trans (hb3.mono hb2.size)
  go_wp2_with fail
  refine (C4.out _ hb3).mono ?_
  rintro e w4 ⟨⟨v, rfl, hown⟩, hb4⟩
  replace hb4 := hb3.trans (hb4.mono hb3.size)
  rcases own_cellsN hown with ⟨_, h⟩ | ⟨g, cap, rfl, hg0, hg1, hcell⟩
  case inl => cases h
  have c0 := hcell 0 _ rfl
  have c1 := hcell 1 _ rfl
  clear hcell C1 C2 C3 C4 hown
  go_wp2_with fail
  go_ret
  exact ⟨rfl, hb4⟩
end Go.Proofs.YthpndgcaoeokeaaGreatDoor
namespace Go.Proofs.YthpndgcaoeokeaaGreatDoor
open Go.RowKit

/-- the properties' texts and marks, as values -/
def vals (f : Nat → Option (List UInt8)) : List Value := (List.range 9).map fun k => Value.string ⟨((f k).getD []).toArray⟩
end Go.Proofs.YthpndgcaoeokeaaGreatDoor
namespace Go.Proofs.YthpndgcaoeokeaaGreatDoor
open Go.RowKit

def rA : ByteArray := ⟨#[66, 69, 71, 73, 78, 58, 86, 69, 86, 69, 78, 84, 13, 10, 85, 73, 68, 58]⟩
def rC : ByteArray := ⟨#[13, 10]⟩
def rD : ByteArray := ⟨#[68, 84, 83, 84, 65, 82, 84, 58]⟩
def rU : ByteArray := ⟨#[68, 85, 82, 65, 84, 73, 79, 78, 58, 80, 84]⟩
def rS : ByteArray := ⟨#[83]⟩
def c2 (U : ByteArray) : ByteArray := rA ++ U
def c3 (U : ByteArray) : ByteArray := c2 U ++ rC
def c4 (U : ByteArray) : ByteArray := c3 U ++ rD
def c6 (U T : ByteArray) : ByteArray := c4 U ++ T
def c7 (U T : ByteArray) : ByteArray := c6 U T ++ rC
def c8 (U T : ByteArray) : ByteArray := c7 U T ++ rU
def c12 (U T D : ByteArray) : ByteArray := c8 U T ++ D
def c13 (U T D : ByteArray) : ByteArray := c12 U T D ++ rS
def c14 (U T D : ByteArray) : ByteArray := c13 U T D ++ rC
theorem s2 (U : ByteArray) : (c2 U).size = U.size + 18 := by
  unfold c2
  rw [ByteArray.size_append]
  have : rA.size = 18 := rfl
  omega
theorem s3 (U : ByteArray) : (c3 U).size = U.size + 20 := by
  unfold c3
  rw [ByteArray.size_append, s2]
  have : rC.size = 2 := rfl
  omega
theorem s4 (U : ByteArray) : (c4 U).size = U.size + 28 := by
  unfold c4
  rw [ByteArray.size_append, s3]
  have : rD.size = 8 := rfl
  omega
theorem s6 (U T : ByteArray) : (c6 U T).size = U.size + T.size + 28 := by
  unfold c6
  rw [ByteArray.size_append, s4]
  omega
end Go.Proofs.YthpndgcaoeokeaaGreatDoor
namespace Go.Proofs.YthpndgcaoeokeaaGreatDoor
open Go.ChangeShapes Go.WideShapes Go.ChangeAt Go.RowKit

theorem own : ownKnob Tryz.prog.godebug = none := by kernel_rfl
end Go.Proofs.YthpndgcaoeokeaaGreatDoor
namespace Go.Proofs.YthpndgcaoeokeaaGreatDoor
open Go.ChangeShapes Go.WideShapes Go.ChangeAt Go.RowKit

section
variable {H : Type} {enc : TypeId × Value → H} {w : World} {spare : Nat → Bool} {held : Bool}
end
theorem ml_of {W : World} (h : W.ShapedOpen Tryz.prog) : ML W := by
  obtain ⟨m, hm⟩ := cell_of_shapedOpen_int (g := 0) (zero := #[.int .i64 0]) (t := 3) h (of_decide_eq_true (by kernel_rfl)) (by kernel_rfl) rfl (by kernel_rfl) (by kernel_rfl) Tryz.underlying3
  exact ⟨World.block_lt_of_cell? W _ hm, m, hm⟩
end Go.Proofs.YthpndgcaoeokeaaGreatDoor
namespace Go.Proofs.YthpndgcaoeokeaaGreatDoor
open Go.ChangeShapes Go.WideShapes Go.ChangeAt Go.RowKit

section
variable {H : Type} {enc : TypeId × Value → H} {w : World} {base : Nat} {spare : Nat → Bool} {held : Bool}
set_option maxRecDepth 100000 in
theorem op_int {r : Reach} {b0 : Nat} {v : Value} {d : DataW H} {p : List MemPlace} (ho : Value.okWide Tryz.prog w r b0 3 v) (h : DataW.Trod enc Tryz.prog w base spare held 3 v d p) : ∃ n, v = .int .i64 n ∧ d = .lit (.int .i64 n) ∧ p = [] ∧ (-9223372036854775808 ≤ n ∧ n ≤ 9223372036854775807) := by
  obtain ⟨fuel, hf⟩ := h
  obtain ⟨m, rfl⟩ := okWide_int Tryz.underlying3 ho
  obtain ⟨n, e1, e2, e3⟩ := DataW.trod_int Tryz.underlying3 hf
  have e5 : [Value.int .i64 m] = [.int .i64 n] := e1
  injection e5 with e5
  injection e5 with _ e5
  subst e5
  injection e2 with e2 e4
  exact ⟨_, rfl, e2, e4, bounds_i64 e3⟩
theorem sh_int (n : Int) (h : -9223372036854775808 ≤ n ∧ n ≤ 9223372036854775807) : DataW.Trod enc Tryz.prog w base spare held 3 (.int .i64 n) (.lit (.int .i64 n)) [] := shut_int Tryz.underlying3 (WalkArith.wf_i64 h)
end
/-- the table stands third in these rows -/
theorem tab_of2 {W : World} {a b : String × DataW Unit} {r : List (String × DataW Unit)} (h : laidMet Tryz.prog (a :: b :: ("internal/strconv.uint64pow10", Rows.laid_internal_strconv_uint64pow10) :: r) W) : Tab W :=
  Lib.tabIs_of_head gTab gTabType Tryz.underlying354 Tryz.underlying309 cellsU64 cellsTab (show laidMet Tryz.prog (("internal/strconv.uint64pow10", Lib.tabData .u64 Lib.pow10Tab) :: r) W from h.tail.tail)
end Go.Proofs.YthpndgcaoeokeaaGreatDoor
namespace Go.Proofs.YthpndgcaoeokeaaGreatDoor
open Go.ChangeShapes Go.WideShapes Go.ChangeAt Go.RowKit

theorem both {a b : Bool} (h : a = true) (k : b = true) : (a && b) = true := by rw [h, k]; rfl
end Go.Proofs.YthpndgcaoeokeaaGreatDoor
namespace Go.Proofs.YthpndgcaoeokeaaGreatDoor
open Go.RowKit Go.Sort

theorem readF_big {s : List UInt8} (h : ¬ s.length ≤ 2000) : readF s = .error 2 := by
  unfold readF fieldsF framed
  simp [h]
set_option maxHeartbeats 1000000 in
theorem readProps_big (s : List UInt8) (w : World) (h2k : ¬ s.length ≤ 2000) :
    Calls Tryz.prog 74 #[.string ⟨s.toArray⟩] w fun e w' => e = .panicked (rsn 2) ∧ w = w' := by
  have h' : decide ((s.length : Int) ≤ 2000) = false := by simp; omega
  go_enter Tryz.func74, Tryz.ntmps74
  go_wp2_with (go_at_call_of 65 (Value.bool false); refine (unless_no _ _).mono ?_; rintro e w' ⟨rfl, rfl⟩)
  exact ⟨rfl, rfl, rfl⟩
set_option maxHeartbeats 1000000 in
theorem eventsRead_big (s : List UInt8) (w : World) (h2k : ¬ s.length ≤ 2000) :
    Calls Tryz.prog 43 #[.string ⟨s.toArray⟩] w fun e w' => e = .panicked (rsn 2) ∧ Below w.heap.size w w' := by
  have C := hide fun W => readProps_big s W h2k
  clear h2k
  go_enter Tryz.func43, Tryz.ntmps43
  go_wp2_with (go_at_call 74; refine (C.out _).mono ?_; rintro e w3 ⟨rfl, rfl⟩)
  exact ⟨rfl, rfl, (Below.refl _ _).alloc (Nat.le_refl _) _⟩
end Go.Proofs.YthpndgcaoeokeaaGreatDoor
