/- An event's text, as the statements write it (fallowkeep.event). The texts of events that the statements write, read. Of no program. One time taken out, one laid in: what comes (Taken). Of no program. Taken (fallowkeep): the walk. Taken: whatever the numbers, it answers true. -/
import Derived.Test.YthpndgcaoeokeaaGreatDoorCm29
namespace Go.Proofs.YthpndgcaoeokeaaGreatDoor
open Go.RowKit Go.Sort

theorem evEnd_len (st ln : Int) (h : 0 ≤ ln) : (evEnd st ln).length ≤ 40 := by
  unfold evEnd
  split
  · rename_i q
    have := dgsF_len 20 (ln / 86400) 6 (by omega)
    simp [dgs]; omega
  · have := prL_len (st + ln)
    simp; omega
theorem evHd_len (u : List UInt8) (st : Int) : (evHd u st).length ≤ u.length + 60 := by
  have := prL_len st
  unfold evHd; simp; omega


end Go.Proofs.YthpndgcaoeokeaaGreatDoor
namespace Go.Proofs.YthpndgcaoeokeaaGreatDoor
open Go.RowKit

theorem prL_is (t : Int) : prL t = ptx t := rfl
end Go.Proofs.YthpndgcaoeokeaaGreatDoor
namespace Go.Proofs.YthpndgcaoeokeaaGreatDoor
open Go.RowKit

def tRule (c : Int) : List UInt8 := [70, 82, 69, 81, 61, 68, 65, 73, 76, 89, 59, 67, 79, 85, 78, 84, 61] ++ dgs c
theorem tRule_is (c : Int) (c0 : 1 ≤ c) (c1 : c ≤ 1000) : ∃ F, ruleF (tRule c) = some F ∧ ruleOf F = dR 1 c := by
  have e : tRule c = Lib.join (([(0, [68, 65, 73, 76, 89]), (2, dgs c)] : List (Nat × List UInt8)).map lnR) [59] := by
    unfold tRule Lib.join lnR
    simp [List.intercalate, List.intersperse, partNames]
  rw [e]
  refine ⟨_, rule_ps (r := dR 1 c) (by simp) ?_ (by simp) (by simp [ofP]) ⟨rfl, rfl, wi_dgs 1 1000 c (by omega) (by omega) c0 c1, rfl, rfl, rfl, rfl, rfl, rfl⟩ (by rfl)⟩
  intro p hp
  simp only [List.mem_cons, List.not_mem_nil, or_false] at hp
  rcases hp with rfl | rfl
  · exact ⟨by simp, by decide⟩
  · exact ⟨by simp, dgs_no c 59 (by decide) (by omega) (by omega)⟩
theorem tRule_nice (c : Int) (c0 : 1 ≤ c) (c1 : c ≤ 1000) : Nice 1000 (tRule c) ∧ tRule c ≠ [] :=
  ⟨((show Nice 20 [70, 82, 69, 81, 61, 68, 65, 73, 76, 89, 59, 67, 79, 85, 78, 84, 61] from ⟨by decide, by decide⟩).app (dgs_nice c (by omega) (by omega))).to (by omega), by simp [tRule]⟩

theorem mrg_snoc {x y : Int} (hy : x < y) : ∀ l : List Int, x ∉ l → mrgF (l ++ [y]) [x] = mrgF l [x] ++ [y]
  | [], _ => by rw [List.nil_append, mrgF, mrgF]; simp [hy, dropEq, mrgF]
  | h :: r, hx => by
    rw [List.cons_append, mrgF, mrgF]
    by_cases q : x < h
    · simp [q, dropEq, mrgF_nil]
    · have hne : x ≠ h := fun e => hx (by simp [e])
      have ih := mrg_snoc hy r (fun hm => hx (List.mem_cons_of_mem _ hm))
      simp [q, dropEq, hne, ih]
def tmI (t : Int) (i : Nat) : Int := t + i * 86400
def tkH (t x : Int) (j : Nat) : Int := if j = 0 then t else if j = 1 then x else tmI t (j - 1)
/-- the times with one taken out and one laid in -/
def tkG (n : Nat) (t x : Int) (j : Nat) : Int := if j = 0 then (if n = 0 then x else t) else if j = 1 ∧ n ≠ 0 then x else if j ≤ n then tmI t (j - 1) else tmI t j
theorem tmI_no {t x : Int} (h0 : t < x) (h1 : x < t + 86400) (i : Nat) : x ≠ tmI t i := by unfold tmI; omega
theorem tk_first {t x : Int} (h0 : t < x) (h1 : x < t + 86400) : ∀ n : Nat, mrgF ((List.range (n + 1)).map (tmI t)) [x] = (List.range (n + 2)).map (tkH t x)
  | 0 => by
    have e : (List.range 1).map (tmI t) = [tmI t 0] := rfl
    have e0 : tmI t 0 = t := by unfold tmI; simp
    rw [e, e0, mrgF]
    have : ¬ x < t := by omega
    have hne : x ≠ t := by omega
    simp [this, dropEq, hne, mrgF]
    rfl
  | n + 1 => by
    rw [List.range_succ, List.map_append, List.map_cons, List.map_nil, mrg_snoc (by unfold tmI; omega), tk_first h0 h1 n, List.range_succ (n := n + 2), List.map_append]
    · rfl
    · intro hm
      obtain ⟨i, _, e⟩ := List.mem_map.1 hm
      exact tmI_no h0 h1 i e.symm
theorem tk_all {t x : Int} (h0 : t < x) (h1 : x < t + 86400) (n : Nat) : ∀ m : Nat, mrgF (((List.range (n + 1 + m)).map (tmI t)).filter fun y => !([tmI t n] : List Int).contains y) [x] = (List.range (n + 1 + m)).map (tkG n t x)
  | 0 => by
    have hA : ((List.range (n + 1)).map (tmI t)).filter (fun y => !([tmI t n] : List Int).contains y) = (List.range n).map (tmI t) := by
      rw [List.range_succ, List.map_append, List.filter_append, List.filter_eq_self.2, List.filter_eq_nil_iff.2, List.append_nil]
      · intro y hy
        simp only [List.map_cons, List.map_nil, List.mem_singleton] at hy
        subst hy
        simp
      · intro y hy
        obtain ⟨i, hi, rfl⟩ := List.mem_map.1 hy
        have := List.mem_range.1 hi
        have hne : tmI t i ≠ tmI t n := by unfold tmI; omega
        simp [hne]
    rw [Nat.add_zero, hA]
    cases n with
    | zero => rfl
    | succ n =>
      rw [tk_first h0 h1 n]
      apply List.map_congr_left
      intro j hj
      have := List.mem_range.1 hj
      unfold tkH tkG
      by_cases j0 : j = 0
      · rw [if_pos j0, if_pos j0, if_neg (by omega)]
      · by_cases j1 : j = 1
        · rw [if_neg j0, if_neg j0, if_pos j1, if_pos ⟨j1, by omega⟩]
        · rw [if_neg j0, if_neg j0, if_neg j1, if_neg (fun q => j1 q.1), if_pos (by omega)]
  | m + 1 => by
    have hA : tmI t (n + 1 + m) ≠ tmI t n := by unfold tmI; omega
    rw [← Nat.add_assoc, List.range_succ, List.map_append, List.filter_append, List.map_cons, List.map_nil]
    have e : ([tmI t (n + 1 + m)] : List Int).filter (fun y => !([tmI t n] : List Int).contains y) = [tmI t (n + 1 + m)] := by simp [hA]
    rw [e, mrg_snoc (by unfold tmI; omega), tk_all h0 h1 n m, List.map_append]
    · congr 1
      have : tkG n t x (n + 1 + m) = tmI t (n + 1 + m) := by
        unfold tkG
        rw [if_neg (by omega), if_neg (by omega), if_neg (by omega)]
      rw [List.map_cons, List.map_nil, this]
    · intro hm
      obtain ⟨hm, _⟩ := List.mem_filter.1 hm
      obtain ⟨i, _, e⟩ := List.mem_map.1 hm
      exact tmI_no h0 h1 i e.symm
theorem tmO_one {x : Int} (h0 : 0 ≤ x) (h1 : x ≤ 7258118399) : tmO (some (prL x)) = some [x] := by
  have := tmO_again (ex := [x]) (by simp) (by simp [Inc]) (by simp) (by simp; omega)
  rwa [List.map_cons, List.map_nil, Lib.join_one] at this
theorem taken_all (t c : Int) (c0 : 1 ≤ c) (c1 : c ≤ 60) (s0 : 0 ≤ t) (s1 : t ≤ 3471292799) :
    insE (evTx [120] t 60 (tRule c)) 0 7258118399 = .ok ((List.range c.toNat).map fun i : Nat => (tmI t i, tmI t i + 60)) := by
  obtain ⟨F, hF, ho⟩ := tRule_is c c0 (by omega)
  obtain ⟨hn, hne⟩ := tRule_nice c c0 (by omega)
  rw [ins_rule (L := (List.range c.toNat).map (tmI t)) t 60 7258118399 s0 (by omega) (by omega) (by omega) hn hF hne ho 0 (by decide) ?_ ?_]
  · rw [List.map_map, List.filter_eq_self.2]
    · rfl
    · intro p hp
      obtain ⟨i, _, rfl⟩ := List.mem_map.1 hp
      show decide (0 < tmI t i + 60) = true
      rw [decide_eq_true_iff]
      unfold tmI
      omega
  · have := st_days 1 c t false (by omega) (by omega) c0 c1 s0 s1
    have e : stR 1 c false = dR 1 c := rfl
    rw [e] at this
    rw [this, List.map_map]
    apply List.map_congr_left
    intro i _
    simp only [Function.comp, tmI, stepD]
    simp
    omega
  · rw [List.length_map, List.length_range]; omega
theorem taken_ins (t c x : Int) (n : Nat) (c0 : 1 ≤ c) (c1 : c ≤ 60) (s0 : 0 ≤ t) (s1 : t ≤ 3471292799) (hn : (n : Int) < c) (x0 : t < x) (x1 : x < t + 86400) :
    insE (evTm [120] t 60 (tRule c) (some (prL x)) (some (prL (tmI t n)))) 0 7258118399 = .ok ((List.range c.toNat).map fun j : Nat => (tkG n t x j, tkG n t x j + 60)) := by
  obtain ⟨F, hF, ho⟩ := tRule_is c c0 (by omega)
  obtain ⟨hr, hne⟩ := tRule_nice c c0 (by omega)
  have ta : 0 ≤ tmI t n ∧ tmI t n ≤ 7258118399 := by unfold tmI; omega
  obtain ⟨f, hf⟩ := read_evm [120] t 60 (tRule c) (some (prL x)) (some (prL (tmI t n))) [tmI t n] [x] (by decide) s0 (by omega) (by omega) (by omega) hr (fun v h => by cases h; exact (ptx_nice x).to (by omega)) (fun v h => by cases h; exact (ptx_nice _).to (by omega)) (tmO_one (by omega) (by omega)) (tmO_one ta.1 ta.2)
  rw [if_neg hne] at hf
  have hf' : readF (evTm [120] t 60 (tRule c) (some (prL x)) (some (prL (tmI t n)))) = .ok ⟨f, t, 60, [tmI t n], [x], some F⟩ := by
    rw [hf]
    show (match (ruleF (tRule c)).map some with | none => _ | some rl => _) = _
    rw [hF]
    rfl
  have hx : xbF t 0 7258118399 [tmI t n] [x] = [x] := by
    unfold xbF
    have hne := tmI_no x0 x1 n
    have h1 : max t 0 ≤ x := by omega
    have h2 : x < 7258118399 := by omega
    simp [h1, h2, hne]
  have hd : (dysL (dR 1 c) t 0 (lastOf (dR 1 c).un t 7258118399)).map (fun d => d * 86400 + t % 86400) = (List.range c.toNat).map (tmI t) := by
    have := st_days 1 c t false (by omega) (by omega) c0 c1 s0 s1
    have e : stR 1 c false = dR 1 c := rfl
    rw [e] at this
    rw [this, List.map_map]
    apply List.map_congr_left
    intro i _
    simp only [Function.comp, tmI, stepD]
    simp
    omega
  have ht : evTimes ⟨f, t, 60, [tmI t n], [x], some F⟩ 7258118399 = (List.range c.toNat).map (tkG n t x) := by
    have e : evTimes ⟨f, t, 60, [tmI t n], [x], some F⟩ 7258118399 = mrgF (((dysL (ruleOf F) t 0 (lastOf (ruleOf F).un t 7258118399)).map (fun d => d * 86400 + t % 86400)).filter fun y => !([tmI t n] : List Int).contains y) (xbF t 0 7258118399 [tmI t n] [x]) := rfl
    rw [e, ho, hx, hd]
    have := tk_all x0 x1 n (c.toNat - (n + 1))
    rw [show n + 1 + (c.toNat - (n + 1)) = c.toNat by omega] at this
    exact this
  unfold insE
  rw [hf']
  simp only [show winB 0 7258118399 = true by decide, if_true]
  rw [ht, if_pos (by rw [List.length_map, List.length_range]; omega)]
  unfold insL
  rw [List.map_map, List.filter_eq_self.2]
  · rfl
  · intro p hp
    obtain ⟨i, _, rfl⟩ := List.mem_map.1 hp
    simp only [Function.comp, decide_eq_true_eq]
    have : 0 ≤ tkG n t x i := by
      unfold tkG tmI
      split
      · split <;> omega
      · split
        · omega
        · split <;> omega
    omega
/-- the text with the two lines more -/
theorem taken_text (u : List UInt8) (st ln : Int) (rule b a : List UInt8) :
    (evTx u st ln rule).take ((evTx u st ln rule).length - 12) ++ [82, 68, 65, 84, 69, 58] ++ b ++ [13, 10] ++ [69, 88, 68, 65, 84, 69, 58] ++ a ++ [13, 10] ++ [69, 78, 68, 58, 86, 69, 86, 69, 78, 84] ++ [13, 10] = evTm u st ln rule (some b) (some a) := by
  have e : evTx u st ln rule = txl (beginL :: (evPs u st ln rule).map lnP) ++ (endL ++ [13, 10]) := by
    rw [evTx_is]
    unfold evTm evMo op1
    rw [List.append_nil, txl_app]
    simp [txl]
  have hl : (endL ++ [13, 10]).length = 12 := rfl
  rw [e, List.length_append, hl, Nat.add_sub_cancel, List.take_left']
  · unfold evTm evMo op1
    simp [txl, lnP, propNames, endL]
  · rfl
end Go.Proofs.YthpndgcaoeokeaaGreatDoor
namespace Go.Proofs.YthpndgcaoeokeaaGreatDoor
open Go.RowKit Go.Sort

/-- how many were met, how many of them were the one laid in, ahead of the i-th -/
def tkM (n i : Nat) : Nat := if 3 ≤ i ∨ (i = 2 ∧ n ≠ 1) then 1 else 0
def tkK (n i : Nat) : Nat := i - (if n < i then 1 else 0) + tkM n i
/-- a round: the one laid in is met now -/
theorem tk_meet {n i : Nat} (h1 : 1 ≤ i) (hi : i ≠ n) (hm : tkM n i = 0) (t x : Int) : tkG n t x (tkK n i) = x ∧ tkG n t x (tkK n i + 1) = tmI t i ∧ tkK n (i + 1) = tkK n i + 2 ∧ tkM n (i + 1) = 1 := by
  unfold tkM at hm
  have hc : (i = 1 ∧ n = 0) ∨ (i = 1 ∧ 2 ≤ n) ∨ (i = 2 ∧ n = 1) := by
    split at hm
    · cases hm
    · omega
  rcases hc with ⟨rfl, rfl⟩ | ⟨rfl, h2⟩ | ⟨rfl, rfl⟩
  · exact ⟨rfl, rfl, rfl, rfl⟩
  · have e1 : tkK n 1 = 1 := by unfold tkK tkM; rw [if_neg (by omega), if_neg (by omega)]
    have e2 : tkK n 2 = 3 := by unfold tkK tkM; rw [if_neg (by omega), if_pos (by omega)]
    have e3 : tkM n 2 = 1 := by unfold tkM; rw [if_pos (by omega)]
    rw [e1]
    refine ⟨?_, ?_, e2, e3⟩
    · unfold tkG; rw [if_neg (by omega), if_pos ⟨rfl, by omega⟩]
    · unfold tkG; rw [if_neg (by omega), if_neg (by omega), if_pos (by omega)]
  · exact ⟨rfl, rfl, rfl, rfl⟩
/-- a round: it was met -/
theorem tk_past {n i : Nat} (hi : i ≠ n) (hm : tkM n i = 1) (t x : Int) : tkG n t x (tkK n i) = tmI t i ∧ 1 ≤ i ∧ tkK n (i + 1) = tkK n i + 1 ∧ tkM n (i + 1) = 1 := by
  have h2 : 2 ≤ i := by unfold tkM at hm; split at hm <;> omega
  have e1 : tkM n (i + 1) = 1 := by unfold tkM; rw [if_pos (by omega)]
  unfold tkK
  rw [hm, e1]
  by_cases q : n < i
  · rw [if_pos q, if_pos (by omega)]
    refine ⟨?_, by omega, by omega, rfl⟩
    rw [show i - 1 + 1 = i by omega]
    unfold tkG
    rw [if_neg (by omega), if_neg (by omega), if_neg (by omega)]
  · rw [if_neg q, if_neg (by omega)]
    refine ⟨?_, by omega, by omega, rfl⟩
    unfold tkG
    rw [if_neg (by omega), if_neg (by omega), if_pos (by omega)]
    rfl
theorem tk_skip (n : Nat) : tkK n (n + 1) = tkK n n ∧ tkM n (n + 1) = tkM n n := by
  have e : tkM n (n + 1) = tkM n n := by
    unfold tkM
    by_cases h : n ≤ 1
    · have : n = 0 ∨ n = 1 := by omega
      rcases this with rfl | rfl <;> rfl
    · rw [if_pos (by omega), if_pos (by omega)]
  refine ⟨?_, e⟩
  unfold tkK
  rw [e, if_pos (by omega), if_neg (by omega)]
  omega
theorem tk_zero {n : Nat} (h : n ≠ 0) (t x : Int) : tkG n t x (tkK n 0) = t ∧ tkK n 0 = 0 ∧ tkK n 1 = 1 ∧ tkM n 0 = 0 ∧ tkM n 1 = 0 := by
  have e0 : tkK n 0 = 0 := by unfold tkK tkM; rw [if_neg (by omega), if_neg (by omega)]
  refine ⟨?_, e0, ?_, rfl, rfl⟩
  · rw [e0]; unfold tkG; rw [if_pos rfl, if_neg h]
  · unfold tkK tkM; rw [if_neg (by omega), if_neg (by omega)]
theorem tkK_bd {n i c : Nat} (hn : n < c) (hi : i ≤ c) : tkK n i ≤ c ∧ (i < c → i ≠ n → tkK n i < c) ∧ (i < c → i ≠ n → tkM n i = 0 → 1 ≤ i → tkK n i + 1 < c) := by
  unfold tkK tkM
  by_cases h1 : n < i
  · rw [if_pos h1]
    split <;> refine ⟨by omega, fun _ _ => by omega, fun _ _ _ _ => by omega⟩
  · rw [if_neg h1, Nat.sub_zero]
    split <;> refine ⟨by omega, fun _ _ => by omega, fun _ _ _ _ => by omega⟩
theorem tk_end {n c : Nat} (hc : 2 ≤ c) (hn : n < c) : (tkM n c = 1 ∧ tkK n c = c) ∨ (tkM n c = 0 ∧ tkK n c = 1 ∧ c = 2 ∧ n = 1) := by
  unfold tkK
  rw [if_pos hn]
  unfold tkM
  by_cases q : 3 ≤ c ∨ (c = 2 ∧ n ≠ 1)
  · rw [if_pos q]; left; exact ⟨rfl, by omega⟩
  · rw [if_neg q]; right; exact ⟨rfl, by omega, by omega, by omega⟩

set_option maxRecDepth 100000 in
set_option maxHeartbeats 16000000 in
theorem taken_w (start count which extra t c' : Int) (n c : Nat) (z : Int) (X S PA PB : ByteArray) (w : World)
    (K0 : Hid (∀ W, Below w.heap.size w W → Calls Tryz.prog 16 #[] W fun e w' => e = .returned (.bool true) ∧ Below W.heap.size W w'))
    (M0 : Hid (∀ W, Calls Tryz.prog 24 #[.int .i64 start] W fun e w' => e = .returned (.int .i64 t) ∧ W = w'))
    (P1 : Hid (∀ W, Calls Tryz.prog 17 #[.int .i64 count, .int .i64 50] W fun e w' => e = .returned (.int .i64 c') ∧ W = w'))
    (P2 : Hid (∀ W, Calls Tryz.prog 17 #[.int .i64 which, .int .i64 (2 + c')] W fun e w' => e = .returned (.int .i64 n) ∧ W = w'))
    (D1 : Hid (∀ W, Calls Tryz.prog 21 #[.int .i64 (2 + c')] W fun e w' => e = .returned (.string X) ∧ Below W.heap.size W w'))
    (E : Hid (∀ W, Below w.heap.size w W → Calls Tryz.prog 25 #[.string ⟨#[120]⟩, .int .i64 t, .int .i64 60, .string (⟨#[70, 82, 69, 81, 61, 68, 65, 73, 76, 89, 59, 67, 79, 85, 78, 84, 61]⟩ ++ X)] W fun e w' => e = .returned (.string S) ∧ Below W.heap.size W w'))
    (Q1 : Hid (∀ W, Below w.heap.size w W → Calls Tryz.prog 18 #[.int .i64 (t + n * 86400)] W fun e w' => e = .returned (.tuple #[.string PA, .int .i64 0]) ∧ Below W.heap.size W w'))
    (P3 : Hid (∀ W, Calls Tryz.prog 17 #[.int .i64 extra, .int .i64 86399] W fun e w' => e = .returned (.int .i64 z) ∧ W = w'))
    (Q2 : Hid (∀ W, Below w.heap.size w W → Calls Tryz.prog 18 #[.int .i64 (t + z + 1)] W fun e w' => e = .returned (.tuple #[.string PB, .int .i64 0]) ∧ Below W.heap.size W w'))
    (I1 : Hid (∀ W, Below w.heap.size w W → Calls Tryz.prog 23 #[.string S, .int .i64 0, .int .i64 7258118399] W fun e w' => (∃ v, e = .returned (.tuple #[v, .int .i64 0]) ∧ w'.ownsRow W.heap.size 39 2 v c (flatS ((List.range c).map fun i : Nat => (tmI t i, tmI t i + 60)))) ∧ Below W.heap.size W w'))
    (I2 : Hid (∀ W, Below w.heap.size w W → Calls Tryz.prog 23 #[.string (S.extract 0 (S.size - 12) ++ ⟨#[82, 68, 65, 84, 69, 58]⟩ ++ PB ++ ⟨#[13, 10]⟩ ++ ⟨#[69, 88, 68, 65, 84, 69, 58]⟩ ++ PA ++ ⟨#[13, 10]⟩ ++ ⟨#[69, 78, 68, 58, 86, 69, 86, 69, 78, 84]⟩ ++ ⟨#[13, 10]⟩), .int .i64 0, .int .i64 7258118399] W fun e w' => (∃ v, e = .returned (.tuple #[v, .int .i64 0]) ∧ w'.ownsRow W.heap.size 39 2 v c (flatS ((List.range c).map fun j : Nat => (tkG n t (t + z + 1) j, tkG n t (t + z + 1) j + 60)))) ∧ Below W.heap.size W w'))
    (hX : X.size ≤ 7) (hS0 : 12 ≤ S.size) (hS1 : S.size ≤ 1900) (hPA : PA.size ≤ 16) (hPB : PB.size ≤ 16) (c0 : 0 ≤ c') (c1 : c' < 50) (hc : (c : Int) = 2 + c') (hn : n < c) (z0 : 0 ≤ z) (z1 : z < 86399) (t0 : 0 ≤ t) (t1 : t ≤ 3471292799) :
    Calls Tryz.prog 12 #[.int .i64 start, .int .i64 count, .int .i64 which, .int .i64 extra] w fun e w' => e = .returned (.bool true) ∧ Below w.heap.size w w' := by
  go_enter Tryz.func12, Tryz.ntmps12
  go_wp2_with fail
  refine (K0.out _ (Below.refl _ _)).mono ?_
  rintro e w1 ⟨rfl, hb1⟩
  go_wp2_with fail
  refine (M0.out _).mono ?_
  rintro e w2 ⟨rfl, rfl⟩
  go_wp2_with fail
  refine (P1.out _).mono ?_
  rintro e w2 ⟨rfl, rfl⟩
  go_wp2_with fail
  refine (P2.out _).mono ?_
  rintro e w2 ⟨rfl, rfl⟩
  go_wp2_with fail
  refine (D1.out _).mono ?_
  rintro e w4 ⟨rfl, hb4⟩
  replace hb4 := hb1.trans (hb4.mono hb1.size)
  go_wp2_with fail
  refine (E.out _ hb4).mono ?_
  rintro e w5 ⟨rfl, hb5⟩
  replace hb5 := hb4.trans (hb5.mono hb4.size)
  go_wp2_with fail
  refine (Q1.out _ hb5).mono ?_
  rintro e w6 ⟨rfl, hb6⟩
  replace hb6 := hb5.trans (hb6.mono hb5.size)
  go_wp2_with fail
  refine (P3.out _).mono ?_
  rintro e w7 ⟨rfl, rfl⟩
  go_wp2_with fail
  refine (Q2.out _ hb6).mono ?_
  rintro e w7 ⟨rfl, hb7⟩
  replace hb7 := hb6.trans (hb7.mono hb6.size)
  clear K0 M0 P1 P2 D1 E Q1 P3 Q2 hb1 hb4 hb5 hb6
  go_wp2_with fail
  refine (I1.out _ hb7).mono ?_
  rintro e w8 ⟨⟨v, rfl, hown⟩, hb8⟩
  replace hb8 := hb7.trans (hb8.mono hb7.size)
  rcases own_cellsN hown with ⟨_, h⟩ | ⟨g, cap, rfl, hg0, hg1, hcell⟩
  case inl => omega
  have HC1 := hide hcell
  clear hcell hown
  go_wp2_with fail
  refine (I2.out _ hb8).mono ?_
  rintro e w9 ⟨⟨v, rfl, hown⟩, hb9'⟩
  have hb9 := hb8.trans (hb9'.mono hb8.size)
  rcases own_cellsN hown with ⟨_, h⟩ | ⟨g', cap', rfl, hg0', hg1', hcell⟩
  case inl => omega
  have HC2 := hide hcell
  replace HC1 := hide fun j y hj => ((hb9'.cell (p := ⟨g, j, none⟩) hg1).trans (HC1.out j y hj) : w9.cell? ⟨g, j, none⟩ = some y)
  clear I1 I2 hb7 hb8 hb9' hcell hown
  have F1 : Hid (∀ i, i < c → w9.cell? ⟨g, i * 2, none⟩ = some (.int .i64 (tmI t i)) ∧ w9.cell? ⟨g, i * 2 + 1, none⟩ = some (.int .i64 (tmI t i + 60))) := hide fun i hi => by
    obtain ⟨a1, a2⟩ := flatS_get ((List.range c).map fun i : Nat => (tmI t i, tmI t i + 60)) i (by simpa using hi)
    rw [List.getElem_map, List.getElem_range] at a1 a2
    exact ⟨HC1.out _ _ a1, HC1.out _ _ a2⟩
  have F2 : Hid (∀ i, i < c → w9.cell? ⟨g', i * 2, none⟩ = some (.int .i64 (tkG n t (t + z + 1) i)) ∧ w9.cell? ⟨g', i * 2 + 1, none⟩ = some (.int .i64 (tkG n t (t + z + 1) i + 60))) := hide fun i hi => by
    obtain ⟨a1, a2⟩ := flatS_get ((List.range c).map fun j : Nat => (tkG n t (t + z + 1) j, tkG n t (t + z + 1) j + 60)) i (by simpa using hi)
    rw [List.getElem_map, List.getElem_range] at a1 a2
    exact ⟨HC2.out _ _ a1, HC2.out _ _ a2⟩
  clear HC1 HC2
  have hce : ((c : Int) != 2 + c') = false := by simp [hc]
  have hcq : ((c : Int) == 2 + c') = true := by simp [hc]
  have h2c : 2 ≤ c := by omega
  go_wp2_with fail
  go_loopw [24, 25, 26] (fun a b d wr => ∃ i q : Nat, i ≤ c ∧ a = .int .i64 (tkK n i) ∧ b = .int .i64 (tkM n i) ∧ d = .int .i64 i ∧ wr = w9.drewN q) (fun _ _ d _ => c - (intOf d).toNat)
  case atStart => exact ⟨0, 0, Nat.zero_le _, by unfold tkK tkM; simp, by unfold tkM; simp, rfl, (World.drewN_zero w9).symm⟩
  case round =>
    obtain ⟨i, q, hi, rfl, rfl, rfl, rfl⟩ := hrel
    obtain ⟨kb1, kb2, kb3⟩ := tkK_bd hn hi
    by_cases hlt : i < c
    case neg =>
      have hic : i = c := by omega
      subst hic
      rcases tk_end h2c hn with ⟨e1, e2⟩ | ⟨e1, e2, e3, e4⟩
      case inl =>
        rw [e1, e2]
        clear kb1 kb2 kb3 e1 e2 hi hlt h2c hn
        go_wp2_with fail
        go_ret
        exact ⟨rfl, below_drewN hb9 q⟩
      case inr =>
        obtain ⟨d1, d2⟩ := F2.out 1 (by omega)
        rw [e1, e2]
        have ex : tkG n t (t + z + 1) 1 = t + z + 1 := by unfold tkG; rw [if_neg (by omega), if_pos ⟨rfl, by omega⟩]
        rw [ex] at d1 d2
        have e5 : c' = 0 := by omega
        subst e3 e4 e5
        clear kb1 kb2 kb3 e1 e2 ex hc hce hcq hi hlt h2c hn c0 c1
        go_wp2_with fail
        go_ret
        exact ⟨rfl, below_drewN hb9 q⟩
    case pos =>
      by_cases hin : i = n
      case pos =>
        subst hin
        obtain ⟨e1, e2⟩ := tk_skip i
        rw [← e1, ← e2]
        go_wp2_with fail
        exact ⟨⟨i + 1, q, by omega, rfl, rfl, by go_num, rfl⟩, by simp [intOf]; omega⟩
      case neg =>
        have hin' : ((i : Int) == (n : Int)) = false := by simp; omega
        obtain ⟨a1, a2⟩ := F1.out i hlt
        obtain ⟨b1, b2⟩ := F2.out (tkK n i) (kb2 hlt hin)
        by_cases hm : tkM n i = 0
        case pos =>
          by_cases h0 : i = 0
          case pos =>
            subst h0
            obtain ⟨f1, f2, f3, f4, f5⟩ := tk_zero (n := n) (by omega) t (t + z + 1)
            have f6 : tmI t 0 = t := by unfold tmI; simp
            rw [f1, f2] at b1 b2
            rw [f6] at a1 a2
            rw [f2, f4]
            clear kb1 kb2 kb3
            have g1 : decide (2 + c' ≤ 0) = false := by simp; omega
            go_wp2_with fail
            go_big_quiet (fail)
            go_wp2_with fail
            exact ⟨⟨1, q + nq, by omega, by rw [f3]; try go_num, by rw [f5]; try go_num, by go_num, rfl⟩, by simp [intOf]; omega⟩
          case neg =>
            obtain ⟨f1, f2, f3, f4⟩ := tk_meet (by omega) hin hm t (t + z + 1)
            have kb4 := kb3 hlt hin hm (by omega)
            obtain ⟨b3, b4⟩ := F2.out (tkK n i + 1) kb4
            rw [f1] at b1 b2
            rw [f2] at b3 b4
            have kb5 := kb2 hlt hin
            rw [hm]
            clear kb1 kb2 kb3 f1 f2
            generalize tkK n i = k at *
            have g1 : decide (2 + c' ≤ (k : Int) + 1) = false := by simp; omega
            generalize tmI t i = y at *
            have ey : (y != y) = false := by simp
            have ey2 : (y == y) = true := by simp
            go_wp2_with fail
            go_big_quiet (fail)
            go_wp2_with fail
            exact ⟨⟨i + 1, q + nq, by omega, by rw [f3]; try go_num, by rw [f4]; try go_num, by go_num, rfl⟩, by simp [intOf]; omega⟩
        case neg =>
          have hm1 : tkM n i = 1 := by unfold tkM at hm ⊢; split at hm <;> simp_all
          obtain ⟨f1, f2, f3, f4⟩ := tk_past hin hm1 t (t + z + 1)
          have kb5 := kb2 hlt hin
          rw [f1] at b1 b2
          have hy : t + 86400 ≤ tmI t i := by unfold tmI; omega
          rw [hm1]
          clear kb1 kb2 kb3 f1 hm
          generalize tkK n i = k at *
          have g1 : decide (2 + c' ≤ (k : Int)) = false := by simp; omega
          generalize tmI t i = y at *
          have ey : (y != y) = false := by simp
          have ey2 : (y == y) = true := by simp
          go_wp2_with fail
          go_big_quiet (fail)
          go_wp2_with fail
          exact ⟨⟨i + 1, q + nq, by omega, by rw [f3]; try go_num, by rw [f4]; try go_num, by go_num, rfl⟩, by simp [intOf]; omega⟩
end Go.Proofs.YthpndgcaoeokeaaGreatDoor
namespace Go.Proofs.YthpndgcaoeokeaaGreatDoor
open Go.RowKit Go.Sort

theorem evTx_len (u : List UInt8) (st ln : Int) (rule : List UInt8) (h : 0 ≤ ln) : 12 ≤ (evTx u st ln rule).length ∧ (evTx u st ln rule).length ≤ u.length + rule.length + 130 := by
  have h1 := evHd_len u st
  have h2 := evEnd_len st ln h
  have h3 : (evRul rule).length ≤ rule.length + 8 := by unfold evRul; split <;> simp
  unfold evTx
  simp only [List.length_append, List.length_cons, List.length_nil]
  omega
theorem ext_take (l : List UInt8) (k : Nat) : (⟨l.toArray⟩ : ByteArray).extract 0 k = ⟨(l.take k).toArray⟩ := by
  apply ByteArray.ext; rw [ByteArray.data_extract]; simp
theorem print_is {t : Int} (h0 : 0 ≤ t) (h1 : t ≤ 7258118399) (W : World) (ht : Tab W) : Calls Tryz.prog 18 #[.int .i64 t] W fun e w' => e = .returned (.tuple #[.string ⟨(prL t).toArray⟩, .int .i64 0]) ∧ Below W.heap.size W w' := by
  have := print_any t W ht
  rw [printV_in h0 (by omega)] at this
  rwa [prL_is, ptx_in h0 h1]
theorem taken_n (start count which extra : Int) (w : World) (hm : ML w) (ht : Tab w) (r0 : -9223372036854775808 ≤ start ∧ start ≤ 9223372036854775807) (r1 : -9223372036854775808 ≤ count ∧ count ≤ 9223372036854775807) (r2 : -9223372036854775808 ≤ which ∧ which ≤ 9223372036854775807) (r3 : -9223372036854775808 ≤ extra ∧ extra ≤ 9223372036854775807) :
    Calls Tryz.prog 12 #[.int .i64 start, .int .i64 count, .int .i64 which, .int .i64 extra] w fun e w' => e = .returned (.bool true) ∧ Below w.heap.size w w' := by
  have K0 : Hid (∀ W, Below w.heap.size w W → Calls Tryz.prog 16 #[] W fun e w' => e = .returned (.bool true) ∧ Below W.heap.size W w') := hide fun W hb => works_n W (hm.on hb) (ht.on hb)
  have M0 := hide fun W => moment_n start W r0.1 r0.2
  have P1 := hide fun W => pick_n count 50 W r1.1 r1.2 (by omega) (by omega)
  have P3 := hide fun W => pick_n extra 86399 W r3.1 r3.2 (by omega) (by omega)
  have ht0 := pick_bd start 3155760000 (by omega)
  have hc0 := pick_bd count 50 (by omega)
  have hz0 := pick_bd extra 86399 (by omega)
  obtain ⟨t, et⟩ : ∃ t, t = 315532800 + pickI start 3155760000 := ⟨_, rfl⟩
  rw [← et] at M0
  have ht1 : 0 ≤ t ∧ t ≤ 3471292799 := by omega
  clear et ht0
  generalize pickI count 50 = c at *
  generalize pickI extra 86399 = z at *
  have P2 := hide fun W => pick_n which (2 + c) W r2.1 r2.2 (by omega) (by omega)
  have hn0 := pick_bd which (2 + c) (by omega)
  obtain ⟨n, en⟩ := Int.eq_ofNat_of_zero_le hn0.1
  rw [en] at P2 hn0
  clear en
  have hall := taken_all t (2 + c) (by omega) (by omega) ht1.1 ht1.2
  have hins := taken_ins t (2 + c) (t + z + 1) n (by omega) (by omega) ht1.1 ht1.2 hn0.2 (by omega) (by omega)
  obtain ⟨hn, _⟩ := tRule_nice (2 + c) (by omega) (by omega)
  have hl := evTx_len [120] t 60 (tRule (2 + c)) (by omega)
  have hl1 : (tRule (2 + c)).length ≤ 1000 := hn.1
  have hs : (⟨(evTx [120] t 60 (tRule (2 + c))).toArray⟩ : ByteArray).size = (evTx [120] t 60 (tRule (2 + c))).length := rfl
  have eR : (⟨#[70, 82, 69, 81, 61, 68, 65, 73, 76, 89, 59, 67, 79, 85, 78, 84, 61]⟩ : ByteArray) ++ ⟨(dgs (2 + c)).toArray⟩ = ⟨(tRule (2 + c)).toArray⟩ := by unfold tRule; rw [ba_app]
  refine taken_w start count which extra t c n (2 + c).toNat z ⟨(dgs (2 + c)).toArray⟩ ⟨(evTx [120] t 60 (tRule (2 + c))).toArray⟩ ⟨(prL (tmI t n)).toArray⟩ ⟨(prL (t + z + 1)).toArray⟩ w K0 M0 P1 P2 (hide fun W => digits_n _ W (by omega) (by omega) (by omega))
    (hide fun W hb => by rw [eR]; exact event_n [120] t 60 _ W (ht.on hb) (by decide) hn.1 (by omega) (by omega) (by omega) (by omega))
    (hide fun W hb => print_is (by omega) (by omega) W (ht.on hb)) P3 (hide fun W hb => print_is (by omega) (by omega) W (ht.on hb))
    (hide fun W hb => (inst_all _ 0 7258118399 W (hm.on hb) (ht.on hb)).mono fun e w' h => ?_)
    (hide fun W hb => ?_)
    (dgs_nice (2 + c) (by omega) (by omega)).1 ?_ ?_ (prL_len _) (prL_len _) hc0.1 hc0.2 (by omega) (by omega) hz0.1 hz0.2 ht1.1 ht1.2
  · unfold InstP at h
    rw [hall] at h
    simpa only [List.length_map, List.length_range] using h
  · rw [ext_take, hs]
    simp only [ba_app]
    rw [taken_text]
    refine (inst_all _ 0 7258118399 W (hm.on hb) (ht.on hb)).mono fun e w' h => ?_
    unfold InstP at h
    rw [hins] at h
    simpa only [List.length_map, List.length_range] using h
  · rw [hs]; exact hl.1
  · rw [hs]
    have : (tRule (2 + c)).length ≤ 30 := by
      unfold tRule
      have := (dgs_nice (2 + c) (by omega) (by omega)).1
      simp only [List.length_append, List.length_cons, List.length_nil]
      omega
    have e1 : ([120] : List UInt8).length = 1 := rfl
    omega
end Go.Proofs.YthpndgcaoeokeaaGreatDoor
