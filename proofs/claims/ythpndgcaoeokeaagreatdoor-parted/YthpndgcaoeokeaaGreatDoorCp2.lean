/- Weekdays part a rule, and so do a month's last days: what comes (Parted). Of no program. Parted (fallowkeep): the walk. Parted: whatever the numbers, it answers true. -/
import Derived.Test.YthpndgcaoeokeaaGreatDoorCp1
namespace Go.Proofs.YthpndgcaoeokeaaGreatDoor
open Go.RowKit

def pT0 : List UInt8 := [70, 82, 69, 81, 61, 68, 65, 73, 76, 89]
def pR0 : RuleD := ⟨0, 1, 0, 9223372036854775807, [], [], [], [], 0⟩
theorem pT0_rule : ∃ F, ruleF pT0 = some F ∧ ruleOf F = pR0 := by
  have h : (ruleF pT0).map ruleOf = some pR0 := by kernel_rfl
  exact Option.map_eq_some_iff.1 h
theorem pT0_nice : Nice 1000 pT0 ∧ pT0 ≠ [] := ⟨⟨by decide, by decide⟩, by decide⟩
def pT1 : List UInt8 := [70, 82, 69, 81, 61, 87, 69, 69, 75, 76, 89, 59, 66, 89, 68, 65, 89, 61, 77, 79, 44, 84, 85, 44, 87, 69]
def pR1 : RuleD := ⟨1, 1, 0, 9223372036854775807, [], [], [(0, 0), (0, 1), (0, 2)], [], 0⟩
theorem pT1_rule : ∃ F, ruleF pT1 = some F ∧ ruleOf F = pR1 := by
  have h : (ruleF pT1).map ruleOf = some pR1 := by kernel_rfl
  exact Option.map_eq_some_iff.1 h
theorem pT1_nice : Nice 1000 pT1 ∧ pT1 ≠ [] := ⟨⟨by decide, by decide⟩, by decide⟩
def pT2 : List UInt8 := [70, 82, 69, 81, 61, 77, 79, 78, 84, 72, 76, 89, 59, 66, 89, 68, 65, 89, 61, 84, 72, 44, 70, 82, 44, 83, 65, 44, 83, 85]
def pR2 : RuleD := ⟨2, 1, 0, 9223372036854775807, [], [], [(0, 3), (0, 4), (0, 5), (0, 6)], [], 0⟩
theorem pT2_rule : ∃ F, ruleF pT2 = some F ∧ ruleOf F = pR2 := by
  have h : (ruleF pT2).map ruleOf = some pR2 := by kernel_rfl
  exact Option.map_eq_some_iff.1 h
theorem pT2_nice : Nice 1000 pT2 ∧ pT2 ≠ [] := ⟨⟨by decide, by decide⟩, by decide⟩
def pT3 : List UInt8 := [70, 82, 69, 81, 61, 68, 65, 73, 76, 89, 59, 66, 89, 77, 79, 78, 84, 72, 68, 65, 89, 61, 45, 49]
def pR3 : RuleD := ⟨0, 1, 0, 9223372036854775807, [], [-1], [], [], 0⟩
theorem pT3_rule : ∃ F, ruleF pT3 = some F ∧ ruleOf F = pR3 := by
  have h : (ruleF pT3).map ruleOf = some pR3 := by kernel_rfl
  exact Option.map_eq_some_iff.1 h
theorem pT3_nice : Nice 1000 pT3 ∧ pT3 ≠ [] := ⟨⟨by decide, by decide⟩, by decide⟩
def pT4 : List UInt8 := [70, 82, 69, 81, 61, 89, 69, 65, 82, 76, 89, 59, 66, 89, 77, 79, 78, 84, 72, 61, 49, 44, 50, 44, 51, 44, 52, 44, 53, 44, 54, 44, 55, 44, 56, 44, 57, 44, 49, 48] ++ [44, 49, 49, 44, 49, 50, 59, 66, 89, 68, 65, 89, 61, 45, 49, 77, 79, 44, 45, 49, 84, 85, 44, 45, 49, 87, 69, 44, 45, 49, 84, 72, 44, 45, 49, 70, 82, 44, 45, 49] ++ [83, 65, 44, 45, 49, 83, 85]
def pR4 : RuleD := ⟨3, 1, 0, 9223372036854775807, [1, 2, 3, 4, 5, 6, 7, 8, 9, 10, 11, 12], [], [(-1, 0), (-1, 1), (-1, 2), (-1, 3), (-1, 4), (-1, 5), (-1, 6)], [], 0⟩
theorem pT4_rule : ∃ F, ruleF pT4 = some F ∧ ruleOf F = pR4 := by
  have h : (ruleF pT4).map ruleOf = some pR4 := by kernel_rfl
  exact Option.map_eq_some_iff.1 h
theorem pT4_nice : Nice 1000 pT4 ∧ pT4 ≠ [] := ⟨⟨by decide, by decide⟩, by decide⟩

def fA (n : Int) : Bool := decide ((n + 719470) % 7 < 3)
def fB (n : Int) : Bool := !fA n
def fC (n : Int) : Bool := decide (Cal.ofD (n + 1) = 1)
def fD (n : Int) : Bool := decide ((leftM n - 1) / 7 = 0)
theorem fC_left {n : Int} (hn : 0 ≤ n) : fC n = decide (leftM n = 1) := by
  unfold fC
  rw [Bool.eq_iff_iff, decide_eq_true_iff, decide_eq_true_iff]
  have ha := month_around n (by omega)
  unfold leftM
  constructor
  · intro h
    by_cases q : n + 1 < mBeg (Cal.ofY n) (Cal.ofM n + 1)
    · rw [ofD_in (y := Cal.ofY n) (m := Cal.ofM n) (by omega) (by omega) q] at h
      omega
    · omega
  · intro h
    have hs := mBeg_step (Cal.ofY n) (Cal.ofM n + 1)
    rw [ofD_in (y := Cal.ofY n) (m := Cal.ofM n + 1) (by omega) (by omega) (by omega)]
    omega
theorem fC_fD {n : Int} (hn : 0 ≤ n) (h : fC n = true) : fD n = true := by
  rw [fC_left hn, decide_eq_true_iff] at h
  unfold fD
  rw [h]
  rfl
theorem fit0 (n : Int) : fitA pR0 n = true := rfl
theorem fit1 (n : Int) : fitA pR1 n = fA n := by
  have e : fitA pR1 n = ((0 == (n + 719470) % 7 && (true || placeB pR1 n 0)) || ((1 == (n + 719470) % 7 && (true || placeB pR1 n 0)) || ((2 == (n + 719470) % 7 && (true || placeB pR1 n 0)) || false))) := rfl
  rw [e]
  unfold fA
  have h : 0 ≤ (n + 719470) % 7 ∧ (n + 719470) % 7 < 7 := by omega
  generalize (n + 719470) % 7 = x at *
  have hx : x = 0 ∨ x = 1 ∨ x = 2 ∨ x = 3 ∨ x = 4 ∨ x = 5 ∨ x = 6 := by omega
  rcases hx with rfl | rfl | rfl | rfl | rfl | rfl | rfl <;> rfl
theorem fit2 (n : Int) : fitA pR2 n = fB n := by
  have e : fitA pR2 n = ((3 == (n + 719470) % 7 && (true || placeB pR2 n 0)) || ((4 == (n + 719470) % 7 && (true || placeB pR2 n 0)) || ((5 == (n + 719470) % 7 && (true || placeB pR2 n 0)) || ((6 == (n + 719470) % 7 && (true || placeB pR2 n 0)) || false)))) := rfl
  rw [e]
  unfold fB fA
  have h : 0 ≤ (n + 719470) % 7 ∧ (n + 719470) % 7 < 7 := by omega
  generalize (n + 719470) % 7 = x at *
  have hx : x = 0 ∨ x = 1 ∨ x = 2 ∨ x = 3 ∨ x = 4 ∨ x = 5 ∨ x = 6 := by omega
  rcases hx with rfl | rfl | rfl | rfl | rfl | rfl | rfl <;> rfl
theorem fit3 {n : Int} (hn : 0 ≤ n) : fitA pR3 n = fC n := by
  rw [fC_left hn]
  unfold fitA fitM fitD fitW pR3
  obtain ⟨_, _, v, _⟩ := Cal.of_valid n (by omega)
  have h1 : ¬ (Cal.ofD n = -1) := by omega
  simp only [List.length_nil, List.length_cons, decide_true, Bool.true_or, Bool.and_true, Bool.true_and]
  rw [Bool.eq_iff_iff]
  simp [h1]
theorem fit4 {n : Int} (hn : 0 ≤ n) : fitA pR4 n = fD n := by
  have hv := Cal.of_valid n (by omega)
  have e1 : fitM pR4 n = true := by
    unfold fitM pR4
    obtain ⟨a, b, _, _⟩ := hv
    generalize Cal.ofM n = m at *
    have hm : m = 1 ∨ m = 2 ∨ m = 3 ∨ m = 4 ∨ m = 5 ∨ m = 6 ∨ m = 7 ∨ m = 8 ∨ m = 9 ∨ m = 10 ∨ m = 11 ∨ m = 12 := by omega
    rcases hm with rfl | rfl | rfl | rfl | rfl | rfl | rfl | rfl | rfl | rfl | rfl | rfl <;> rfl
  have e2 : fitD pR4 n = true := rfl
  have e3 : placeB pR4 n (-1) = fD n := by
    unfold placeB fD
    rw [if_neg (by omega)]
    have : arB pR4 n = mBeg (Cal.ofY n) (Cal.ofM n + 1) := by unfold arB; rw [if_neg (by unfold pR4; simp)]
    rw [this]
    unfold leftM
    rw [show mBeg (Cal.ofY n) (Cal.ofM n + 1) - 1 - n = mBeg (Cal.ofY n) (Cal.ofM n + 1) - n - 1 by omega]
    rfl
  have e4 : fitW pR4 n = ((0 == (n + 719470) % 7 && (false || placeB pR4 n (-1))) || ((1 == (n + 719470) % 7 && (false || placeB pR4 n (-1))) || ((2 == (n + 719470) % 7 && (false || placeB pR4 n (-1))) || ((3 == (n + 719470) % 7 && (false || placeB pR4 n (-1))) || ((4 == (n + 719470) % 7 && (false || placeB pR4 n (-1))) || ((5 == (n + 719470) % 7 && (false || placeB pR4 n (-1))) || ((6 == (n + 719470) % 7 && (false || placeB pR4 n (-1))) || false))))))) := rfl
  unfold fitA
  rw [e1, e2, e4, e3]
  have h : 0 ≤ (n + 719470) % 7 ∧ (n + 719470) % 7 < 7 := by omega
  generalize (n + 719470) % 7 = x at *
  have hx : x = 0 ∨ x = 1 ∨ x = 2 ∨ x = 3 ∨ x = 4 ∨ x = 5 ∨ x = 6 := by omega
  cases fD n <;> rcases hx with rfl | rfl | rfl | rfl | rfl | rfl | rfl <;> rfl

/-- the days, and what comes of them -/
def pL (p : Int → Bool) (s : Int) (N : Nat) : List Int := (from' s N).filter p
def tauI (t n : Int) : Int := n * 86400 + t % 86400
theorem part_ins (t : Int) (N : Nat) (N0 : 1 ≤ N) (N1 : N ≤ 701) (s0 : 0 ≤ t) (s1 : t ≤ 3471292799) {rule : List UInt8} {r : RuleD} {p : Int → Bool} (hr : ∃ F, ruleF rule = some F ∧ ruleOf F = r) (hn : Nice 1000 rule ∧ rule ≠ []) (h1 : r.iv = 1) (h2 : r.pls = []) (h3 : r.ct = 0) (h4 : r.un = 9223372036854775807) (hS : ∀ s, startW r s = r) (hp : ∀ n, 0 ≤ n → fitA r n = p n)
    (hA : perA r (t / 86400) 0 ≤ t / 86400) (hG : t / 86400 + 1000 ≤ perA r (t / 86400) 0 + (kMax r).toNat * perE r) (to : Int) (hto : to = t + 86400 * N) :
    insE (evTx [120] t 60 rule) t to = .ok ((pL p (t / 86400) N).map fun n => (tauI t n, tauI t n + 60)) := by
  obtain ⟨F, hF, ho⟩ := hr
  have hl : lastOf r.un t to = (t / 86400 + N) * 86400 - 1 := by unfold lastOf; rw [h4, hto]; omega
  have hd : dysL r t 0 (lastOf r.un t to) = pL p (t / 86400) N := by
    rw [dys_all r t _ N s0 h1 h2 (by omega) (by rw [hS]; exact hA) (by rw [hS, hl]; omega) (by rw [hl]; omega) (by rw [hl]; omega), hS, h3]
    unfold tkC pL
    rw [if_pos rfl]
    apply List.filter_congr
    intro n hm
    exact hp n (by have := from_mem.1 hm; omega)
  have hlen : (pL p (t / 86400) N).length ≤ 3000 := by
    unfold pL
    have := List.length_filter_le p (from' (t / 86400) N)
    rw [from_len] at this
    omega
  rw [ins_rule (L := (pL p (t / 86400) N).map (tauI t)) t 60 to s0 (by omega) (by omega) (by omega) hn.1 hF hn.2 ho t (by unfold winB isTimeB; simp; omega) (by rw [hd]; rfl) (by rw [List.length_map]; exact hlen)]
  rw [List.map_map, List.filter_eq_self.2]
  · rfl
  · intro q hq
    obtain ⟨n, hm, rfl⟩ := List.mem_map.1 hq
    have := from_mem.1 (List.mem_filter.1 hm).1
    show decide (t < tauI t n + 60) = true
    rw [decide_eq_true_iff]
    unfold tauI
    omega
/-- how many of the first k days -/
def pC (p : Int → Bool) (s : Int) (k : Nat) : Nat := (pL p s k).length
theorem pC_succ (p : Int → Bool) (s : Int) (k : Nat) : pC p s (k + 1) = pC p s k + (if p (s + k) then 1 else 0) := by
  unfold pC pL
  rw [from_add, List.filter_append, List.length_append]
  have : from' (s + k) 1 = [s + k] := by unfold from'; simp
  rw [this, List.filter_cons]
  split <;> simp
theorem pL_at {p : Int → Bool} {s : Int} {k N : Nat} (hk : k < N) (h : p (s + k) = true) : (pL p s N)[pC p s k]? = some (s + k) ∧ pC p s k < (pL p s N).length := by
  obtain ⟨m, hm⟩ : ∃ m : Nat, N = k + (1 + m) := ⟨N - k - 1, by omega⟩
  have e : from' (s + k) 1 = [s + k] := by unfold from'; simp
  have : (pL p s N)[pC p s k]? = some (s + k) := by
    unfold pL pC
    rw [hm, from_add, from_add, List.filter_append, List.filter_append, e, List.filter_cons, if_pos h]
    unfold pL
    rw [List.getElem?_append_right (Nat.le_refl _), Nat.sub_self]
    rfl
  exact ⟨this, (List.getElem?_eq_some_iff.1 this).1⟩
theorem pL_ne {p : Int → Bool} {s : Int} {N i : Nat} {n m : Int} (h : p n = false) (hm : (pL p s N)[i]? = some m) : m ≠ n := by
  intro e
  subst e
  have := List.mem_of_getElem? hm
  rw [(List.mem_filter.1 this).2] at h
  cases h
theorem pC_two (s : Int) : ∀ k : Nat, pC fA s k + pC fB s k = k
  | 0 => rfl
  | k + 1 => by
    have := pC_two s k
    rw [pC_succ, pC_succ, show fB (s + k) = !fA (s + k) from rfl]
    cases fA (s + k) <;> simp <;> omega
theorem pC_le (p : Int → Bool) (s : Int) (k : Nat) : pC p s k ≤ k := by
  unfold pC pL
  have := List.length_filter_le p (from' s k)
  rwa [from_len] at this
theorem pL_all (s : Int) (N : Nat) : pL (fun _ => true) s N = from' s N := by unfold pL; rw [List.filter_eq_self]; intro _ _; rfl
theorem one_nat : ∀ d : Nat, d < 32 → (pad 2 (d : Int) == [48, 49]) = decide (d = 1) := by decide
theorem one_is {d : Int} (h0 : 0 ≤ d) (h1 : d ≤ 31) : (pad 2 d == [48, 49]) = decide (d = 1) := by
  obtain ⟨k, rfl⟩ := Int.eq_ofNat_of_zero_le h0
  rw [one_nat k (by omega)]
  rw [Bool.eq_iff_iff, decide_eq_true_iff, decide_eq_true_iff]
  omega
end Go.Proofs.YthpndgcaoeokeaaGreatDoor
namespace Go.Proofs.YthpndgcaoeokeaaGreatDoor
open Go.RowKit Go.Sort

/-- a list of spans that a call gave: its slice, and its cells where it has any -/
theorem own_spans {w : World} {B : Nat} {v : Value} {L : List (Int × Int)} (h : w.ownsRow B 39 2 v L.length (flatS L)) :
    ∃ p cap, v = .slice p L.length cap ∧ ∀ k z, L[k]? = some z → ∃ g, p = some ⟨g, 0, none⟩ ∧ g < w.heap.size ∧ w.cell? ⟨g, k * 2, none⟩ = some (.int .i64 z.1) ∧ w.cell? ⟨g, k * 2 + 1, none⟩ = some (.int .i64 z.2) := by
  rcases own_cellsN h with ⟨rfl, h0⟩ | ⟨g, cap, rfl, _, hg, hc⟩
  · refine ⟨none, 0, by rw [h0], fun k z hk => ?_⟩
    have := (List.getElem?_eq_some_iff.1 hk).1
    omega
  · refine ⟨_, cap, rfl, fun k z hk => ⟨g, rfl, hg, ?_⟩⟩
    obtain ⟨hl, rfl⟩ := List.getElem?_eq_some_iff.1 hk
    obtain ⟨a1, a2⟩ := flatS_get L k hl
    exact ⟨hc _ _ a1, hc _ _ a2⟩
/-- the cells of such a list of days, in a world that has grown -/
def DayC (W : World) (p : Option Addr) (t : Int) (L : List Int) : Prop := ∀ k n, L[k]? = some n → ∃ g, p = some ⟨g, 0, none⟩ ∧ g < W.heap.size ∧ W.cell? ⟨g, k * 2, none⟩ = some (.int .i64 (tauI t n)) ∧ W.cell? ⟨g, k * 2 + 1, none⟩ = some (.int .i64 (tauI t n + 60))
theorem DayC.on {W W' : World} {p : Option Addr} {t : Int} {L : List Int} (h : DayC W p t L) (hb : Below W.heap.size W W') : DayC W' p t L := fun k n hk => by
  obtain ⟨g, a, b, c, d⟩ := h k n hk
  exact ⟨g, a, Nat.lt_of_lt_of_le b hb.size, (hb.cell (p := ⟨g, k * 2, none⟩) b).trans c, (hb.cell (p := ⟨g, k * 2 + 1, none⟩) b).trans d⟩
def dayP (t n : Int) : Int × Int := (tauI t n, tauI t n + 60)
theorem own_days {w : World} {B : Nat} {v : Value} {t : Int} {L : List Int} (h : w.ownsRow B 39 2 v (L.map (dayP t)).length (flatS (L.map (dayP t)))) : ∃ p cap, v = .slice p L.length cap ∧ DayC w p t L := by
  obtain ⟨p, cap, rfl, hc⟩ := own_spans h
  rw [List.length_map]
  refine ⟨p, cap, rfl, fun k n hk => ?_⟩
  exact hc k (dayP t n) (by rw [List.getElem?_map, hk]; rfl)
theorem tau_ne {t a b : Int} (h : a ≠ b) : (tauI t a == tauI t b) = false ∧ (tauI t a + 60 == tauI t b + 60) = false := by
  unfold tauI
  constructor <;> simp <;> omega
theorem tau_bd {t n : Int} (h0 : 0 ≤ n) (h1 : n ≤ 50000) : 0 ≤ tauI t n ∧ tauI t n ≤ 4320086400 := by unfold tauI; omega
set_option maxRecDepth 100000 in
set_option maxHeartbeats 32000000 in
theorem parted_w (start days t s P : Int) (N : Nat) (V0 V1 V2 V3 V4 : ByteArray) (w : World)
    (K0 : Hid (∀ W, Below w.heap.size w W → Calls Tryz.prog 16 #[] W fun e w' => e = .returned (.bool true) ∧ Below W.heap.size W w'))
    (M0 : Hid (∀ W, Calls Tryz.prog 24 #[.int .i64 start] W fun e w' => e = .returned (.int .i64 t) ∧ W = w'))
    (P1 : Hid (∀ W, Calls Tryz.prog 17 #[.int .i64 days, .int .i64 700] W fun e w' => e = .returned (.int .i64 P) ∧ W = w'))
    (E0 : Hid (∀ W, Below w.heap.size w W → ∀ s : ByteArray, s.data.toList = pT0 → Calls Tryz.prog 25 #[.string ⟨#[120]⟩, .int .i64 t, .int .i64 60, .string s] W fun e w' => e = .returned (.string V0) ∧ Below W.heap.size W w'))
    (I0 : Hid (∀ W, Below w.heap.size w W → Calls Tryz.prog 23 #[.string V0, .int .i64 t, .int .i64 (t + 86400 * (1 + P))] W fun e w' => (∃ v, e = .returned (.tuple #[v, .int .i64 0]) ∧ w'.ownsRow W.heap.size 39 2 v ((from' s N).map (dayP t)).length (flatS ((from' s N).map (dayP t)))) ∧ Below W.heap.size W w'))
    (E1 : Hid (∀ W, Below w.heap.size w W → ∀ s : ByteArray, s.data.toList = pT1 → Calls Tryz.prog 25 #[.string ⟨#[120]⟩, .int .i64 t, .int .i64 60, .string s] W fun e w' => e = .returned (.string V1) ∧ Below W.heap.size W w'))
    (I1 : Hid (∀ W, Below w.heap.size w W → Calls Tryz.prog 23 #[.string V1, .int .i64 t, .int .i64 (t + 86400 * (1 + P))] W fun e w' => (∃ v, e = .returned (.tuple #[v, .int .i64 0]) ∧ w'.ownsRow W.heap.size 39 2 v ((pL fA s N).map (dayP t)).length (flatS ((pL fA s N).map (dayP t)))) ∧ Below W.heap.size W w'))
    (E2 : Hid (∀ W, Below w.heap.size w W → ∀ s : ByteArray, s.data.toList = pT2 → Calls Tryz.prog 25 #[.string ⟨#[120]⟩, .int .i64 t, .int .i64 60, .string s] W fun e w' => e = .returned (.string V2) ∧ Below W.heap.size W w'))
    (I2 : Hid (∀ W, Below w.heap.size w W → Calls Tryz.prog 23 #[.string V2, .int .i64 t, .int .i64 (t + 86400 * (1 + P))] W fun e w' => (∃ v, e = .returned (.tuple #[v, .int .i64 0]) ∧ w'.ownsRow W.heap.size 39 2 v ((pL fB s N).map (dayP t)).length (flatS ((pL fB s N).map (dayP t)))) ∧ Below W.heap.size W w'))
    (E3 : Hid (∀ W, Below w.heap.size w W → ∀ s : ByteArray, s.data.toList = pT3 → Calls Tryz.prog 25 #[.string ⟨#[120]⟩, .int .i64 t, .int .i64 60, .string s] W fun e w' => e = .returned (.string V3) ∧ Below W.heap.size W w'))
    (I3 : Hid (∀ W, Below w.heap.size w W → Calls Tryz.prog 23 #[.string V3, .int .i64 t, .int .i64 (t + 86400 * (1 + P))] W fun e w' => (∃ v, e = .returned (.tuple #[v, .int .i64 0]) ∧ w'.ownsRow W.heap.size 39 2 v ((pL fC s N).map (dayP t)).length (flatS ((pL fC s N).map (dayP t)))) ∧ Below W.heap.size W w'))
    (E4 : Hid (∀ W, Below w.heap.size w W → ∀ s : ByteArray, s.data.toList = pT4 → Calls Tryz.prog 25 #[.string ⟨#[120]⟩, .int .i64 t, .int .i64 60, .string s] W fun e w' => e = .returned (.string V4) ∧ Below W.heap.size W w'))
    (I4 : Hid (∀ W, Below w.heap.size w W → Calls Tryz.prog 23 #[.string V4, .int .i64 t, .int .i64 (t + 86400 * (1 + P))] W fun e w' => (∃ v, e = .returned (.tuple #[v, .int .i64 0]) ∧ w'.ownsRow W.heap.size 39 2 v ((pL fD s N).map (dayP t)).length (flatS ((pL fD s N).map (dayP t)))) ∧ Below W.heap.size W w'))
    (R1 : Hid (∀ n, 0 ≤ n → n ≤ 50000 → ∀ W, Below w.heap.size w W → ∃ B : ByteArray, B.size = 16 ∧ Calls Tryz.prog 18 #[.int .i64 (tauI t n)] W fun e w' => e = .returned (.tuple #[.string B, .int .i64 0]) ∧ Below W.heap.size W w'))
    (R2 : Hid (∀ n, 0 ≤ n → n ≤ 50000 → ∀ W, Below w.heap.size w W → ∃ B : ByteArray, B.size = 16 ∧ ((B.extract 6 8).toList == [48, 49]) = fC n ∧ Calls Tryz.prog 18 #[.int .i64 (tauI t n + 86400)] W fun e w' => e = .returned (.tuple #[.string B, .int .i64 0]) ∧ Below W.heap.size W w'))
    (P0 : 0 ≤ P) (P2 : P < 700) (hN : (N : Int) = 1 + P) (t0 : 0 ≤ t) (t1 : t ≤ 3471292799) (s0 : 0 ≤ s) (s1 : s ≤ 40177) (hCD : Hid (∀ m, m ∈ pL fC s N → m ∈ pL fD s N)) :
    Calls Tryz.prog 11 #[.int .i64 start, .int .i64 days] w fun e w' => e = .returned (.bool true) ∧ Below w.heap.size w w' := by
  go_enter Tryz.func11, Tryz.ntmps11
  go_wp2_with fail
  refine (K0.out _ (Below.refl _ _)).mono ?_
  rintro e w1 ⟨rfl, hb⟩
  go_wp2_with fail
  refine (M0.out _).mono ?_
  rintro e w2 ⟨rfl, rfl⟩
  go_wp2_with fail
  refine (P1.out _).mono ?_
  rintro e w2 ⟨rfl, rfl⟩
  clear K0 M0 P1
  go_wp2_with fail
  refine (E0.out _ hb _ (by rfl)).mono ?_
  rintro e wa0 ⟨rfl, ha1⟩
  have ha := hb.trans (ha1.mono hb.size)
  clear hb ha1 E0
  go_wp2_with fail
  refine (I0.out _ ha).mono ?_
  rintro e wb0 ⟨⟨v, rfl, hown⟩, hb1⟩
  have hb := ha.trans (hb1.mono ha.size)
  obtain ⟨p0, c0, rfl, hC0⟩ := own_days hown
  have D0 := hide hC0
  clear ha hb1 I0 hown hC0
  go_wp2_with fail
  refine (E1.out _ hb _ (by rfl)).mono ?_
  rintro e wa1 ⟨rfl, ha1⟩
  have ha := hb.trans (ha1.mono hb.size)
  replace D0 := hide (D0.out.on ha1)
  clear hb ha1 E1
  go_wp2_with fail
  refine (I1.out _ ha).mono ?_
  rintro e wb1 ⟨⟨v, rfl, hown⟩, hb1⟩
  have hb := ha.trans (hb1.mono ha.size)
  replace D0 := hide (D0.out.on hb1)
  obtain ⟨p1, c1, rfl, hC1⟩ := own_days hown
  have D1 := hide hC1
  clear ha hb1 I1 hown hC1
  go_wp2_with fail
  refine (E2.out _ hb _ (by rfl)).mono ?_
  rintro e wa2 ⟨rfl, ha1⟩
  have ha := hb.trans (ha1.mono hb.size)
  replace D0 := hide (D0.out.on ha1)
  replace D1 := hide (D1.out.on ha1)
  clear hb ha1 E2
  go_wp2_with fail
  refine (I2.out _ ha).mono ?_
  rintro e wb2 ⟨⟨v, rfl, hown⟩, hb1⟩
  have hb := ha.trans (hb1.mono ha.size)
  replace D0 := hide (D0.out.on hb1)
  replace D1 := hide (D1.out.on hb1)
  obtain ⟨p2, c2, rfl, hC2⟩ := own_days hown
  have D2 := hide hC2
  clear ha hb1 I2 hown hC2
  go_wp2_with fail
  refine (E3.out _ hb _ (by rfl)).mono ?_
  rintro e wa3 ⟨rfl, ha1⟩
  have ha := hb.trans (ha1.mono hb.size)
  replace D0 := hide (D0.out.on ha1)
  replace D1 := hide (D1.out.on ha1)
  replace D2 := hide (D2.out.on ha1)
  clear hb ha1 E3
  go_wp2_with fail
  refine (I3.out _ ha).mono ?_
  rintro e wb3 ⟨⟨v, rfl, hown⟩, hb1⟩
  have hb := ha.trans (hb1.mono ha.size)
  replace D0 := hide (D0.out.on hb1)
  replace D1 := hide (D1.out.on hb1)
  replace D2 := hide (D2.out.on hb1)
  obtain ⟨p3, c3, rfl, hC3⟩ := own_days hown
  have D3 := hide hC3
  clear ha hb1 I3 hown hC3
  go_wp2_with fail
  refine (E4.out _ hb _ (by rfl)).mono ?_
  rintro e wa4 ⟨rfl, ha1⟩
  have ha := hb.trans (ha1.mono hb.size)
  replace D0 := hide (D0.out.on ha1)
  replace D1 := hide (D1.out.on ha1)
  replace D2 := hide (D2.out.on ha1)
  replace D3 := hide (D3.out.on ha1)
  clear hb ha1 E4
  go_wp2_with fail
  refine (I4.out _ ha).mono ?_
  rintro e wb4 ⟨⟨v, rfl, hown⟩, hb1⟩
  have hb := ha.trans (hb1.mono ha.size)
  replace D0 := hide (D0.out.on hb1)
  replace D1 := hide (D1.out.on hb1)
  replace D2 := hide (D2.out.on hb1)
  replace D3 := hide (D3.out.on hb1)
  obtain ⟨p4, c4, rfl, hC4⟩ := own_days hown
  have D4 := hide hC4
  clear ha hb1 I4 hown hC4
  rw [from_len]
  have hAB := pC_two s N
  have hla : pC fA s N = (pL fA s N).length := rfl
  have hlb : pC fB s N = (pL fB s N).length := rfl
  have hlc : pC fC s N = (pL fC s N).length := rfl
  generalize hLA : (pL fA s N).length = la at *
  generalize hLB : (pL fB s N).length = lb at *
  generalize hLC : (pL fC s N).length = lc at *
  generalize hLD : (pL fD s N).length = ld at *
  have la1 := pC_le fA s N
  have lb1 := pC_le fB s N
  have lc1 := pC_le fC s N
  have ld1 : ld ≤ N := by rw [← hLD]; exact pC_le fD s N
  have hsum : ((N : Int) != (la : Int) + lb) = false := by simp; omega
  have hsum2 : (1 + P != (la : Int) + lb) = false := by simp; omega
  generalize hW : wb4 = W at *
  clear hW wb0 wb1 wb2 wb3 wb4
  go_wp2_with fail
  clear hsum hsum2
  go_loopw [18, 19, 20, 21] (fun a b d f wr => ∃ k : Nat, k ≤ N ∧ a = .int .i64 (pC fA s k) ∧ b = .int .i64 (pC fB s k) ∧ d = .int .i64 (pC fC s k) ∧ f = .int .i64 k ∧ Below W.heap.size W wr) (fun _ _ _ f _ => N - (intOf f).toNat)
  case atStart => exact ⟨0, Nat.zero_le _, rfl, rfl, rfl, rfl, Below.refl _ _⟩
  case round =>
    obtain ⟨k, hk, rfl, rfl, rfl, rfl, hr⟩ := hrel
    by_cases hlt : k < N
    case neg =>
      have hkN : k = N := by omega
      rw [hkN, hlc]
      have hzc : ((lc : Int) == (lc : Int)) = true := by simp
      clear hlt hk hkN D0 D1 D2 R1 R2
      go_wp2_with fail
      go_loopw [26] (fun a wr => ∃ k : Nat, k ≤ lc ∧ a = .int .i64 k ∧ Below W.heap.size W wr) (fun a _ => lc - (intOf a).toNat)
      case atStart => exact ⟨0, Nat.zero_le _, rfl, hr⟩
      case round =>
        obtain ⟨k2, hk2, rfl, hr2⟩ := hrel
        by_cases hlt2 : k2 < lc
        case neg =>
          go_wp2_with fail
          go_ret
          exact ⟨rfl, hb.trans (hr2.mono hb.size)⟩
        case pos =>
          obtain ⟨m, hm⟩ : ∃ m, (pL fC s N)[k2]? = some m := ⟨_, List.getElem?_eq_getElem (by rw [hLC]; exact hlt2)⟩
          have hmD := hCD.out m (List.mem_of_getElem? hm)
          have HM := hide hmD
          obtain ⟨g3, rfl, hg3, m1, m2⟩ := D3.out k2 m hm
          clear hmD
          go_wp2_with fail
          go_loopw [27, 28] (fun a b wr => ∃ j : Nat, j ≤ ld ∧ a = .bool (((pL fD s N).take j).contains m) ∧ b = .int .i64 j ∧ Below W.heap.size W wr) (fun _ b _ => ld - (intOf b).toNat)
          case atStart => exact ⟨0, Nat.zero_le _, rfl, rfl, hr2⟩
          case round =>
            obtain ⟨j, hj, rfl, rfl, hr3⟩ := hrel
            by_cases hlt3 : j < ld
            case neg =>
              have hall : ((pL fD s N).take j).contains m = true := by
                rw [List.take_of_length_le (by rw [hLD]; omega)]
                exact List.contains_iff_mem.2 HM.out
              rw [hall]
              go_wp2_with fail
              exact ⟨⟨k2 + 1, by omega, by go_num, hr3⟩, by simp [intOf]; omega⟩
            case pos =>
              obtain ⟨d, hd⟩ : ∃ d, (pL fD s N)[j]? = some d := ⟨_, List.getElem?_eq_getElem (by rw [hLD]; exact hlt3)⟩
              have hsuc : ((pL fD s N).take (j + 1)).contains m = (((pL fD s N).take j).contains m || (d == m)) := by
                obtain ⟨hx, hy⟩ := List.getElem?_eq_some_iff.1 hd
                rw [List.take_succ_eq_append_getElem hx, hy, Bool.eq_iff_iff]
                simp only [List.contains_iff_mem, List.mem_append, List.mem_singleton, Bool.or_eq_true, beq_iff_eq]
                constructor
                · rintro (h | h)
                  · exact .inl h
                  · exact .inr h.symm
                · rintro (h | h)
                  · exact .inl h
                  · exact .inr h.symm
              obtain ⟨g4, hp4, hg4, n1, n2⟩ := D4.out j d hd
              have y1 := (hr3.cell (p := ⟨g3, k2 * 2, none⟩) hg3).trans m1
              have y2 := (hr3.cell (p := ⟨g3, k2 * 2 + 1, none⟩) hg3).trans m2
              have y3 := (hr3.cell (p := ⟨g4, j * 2, none⟩) hg4).trans n1
              have y4 := (hr3.cell (p := ⟨g4, j * 2 + 1, none⟩) hg4).trans n2
              subst hp4
              cases hcon : ((pL fD s N).take j).contains m with
              | true =>
                rw [hcon, Bool.true_or] at hsuc
                go_wp2_with fail
                go_big_quiet (fail)
                go_wp2_with fail
                exact ⟨⟨j + 1, by omega, by rw [hsuc], by go_num, below_drewN hr3 _⟩, by simp [intOf]; omega⟩
              | false =>
                rw [hcon, Bool.false_or] at hsuc
                by_cases hdm : d = m
                · subst hdm
                  have e1 : (tauI t d == tauI t d) = true := by simp
                  have e2 : (tauI t d + 60 == tauI t d + 60) = true := by simp
                  rw [show (d == d) = true by simp] at hsuc
                  go_wp2_with fail
                  go_big_quiet (fail)
                  go_wp2_with fail
                  exact ⟨⟨j + 1, by omega, by rw [hsuc], by go_num, below_drewN hr3 _⟩, by simp [intOf]; omega⟩
                · obtain ⟨e1, e2⟩ := tau_ne (t := t) hdm
                  rw [show (d == m) = false by simp [hdm]] at hsuc
                  go_wp2_with fail
                  go_big_quiet (fail)
                  go_wp2_with fail
                  exact ⟨⟨j + 1, by omega, by rw [hsuc], by go_num, below_drewN hr3 _⟩, by simp [intOf]; omega⟩
    case pos =>
      have hn0 : 0 ≤ s + (k : Int) := by omega
      have hn1 : s + (k : Int) ≤ 50000 := by omega
      obtain ⟨g0, rfl, hg0, x1, x2⟩ := D0.out k (s + k) (from_get s N k hlt)
      obtain ⟨q1, q2⟩ := tau_bd (t := t) hn0 hn1
      have z1 := (hr.cell (p := ⟨g0, k * 2, none⟩) hg0).trans x1
      have z2 := (hr.cell (p := ⟨g0, k * 2 + 1, none⟩) hg0).trans x2
      have e1 : (tauI t (s + k) == tauI t (s + k)) = true := by simp
      have e2 : (tauI t (s + k) + 60 == tauI t (s + k) + 60) = true := by simp
      have e3 : (tauI t (s + k) != tauI t (s + k)) = false := by simp
      have e4 : (tauI t (s + k) + 60 != tauI t (s + k) + 60) = false := by simp
      have sA := pC_succ fA s k
      have sB := pC_succ fB s k
      have sC := pC_succ fC s k
      cases hA : fA (s + k) with
      | true =>
        rw [hA, if_pos rfl] at sA
        rw [show fB (s + k) = false by unfold fB; rw [hA]; rfl, if_neg (by decide)] at sB
        obtain ⟨i1, i2⟩ := pL_at hlt hA
        rw [hLA] at i2
        obtain ⟨g1, rfl, hg1, m1, m2⟩ := D1.out _ _ i1
        have y1 := (hr.cell (p := ⟨g1, pC fA s k * 2, none⟩) hg1).trans m1
        have y2 := (hr.cell (p := ⟨g1, pC fA s k * 2 + 1, none⟩) hg1).trans m2
        have f0 : decide ((pC fA s k : Int) < (la : Int)) = true := by simp; omega
        clear i1
        go_wp2_with fail
        go_big_quiet (fail)
        have hr' := below_drewN hr nq
        have z9 := (hr'.cell (p := ⟨g0, k * 2, none⟩) hg0).trans x1
        generalize wr.drewN nq = wx at *
        clear y1 y2 z1 z2
        go_wp2_with fail
        obtain ⟨B1, b1, C1⟩ := R1.out (s + k) hn0 hn1 _ (hb.trans (hr'.mono hb.size))
        refine C1.mono ?_
        rintro e wp ⟨rfl, hp'⟩
        have hp := hr'.trans (hp'.mono hr'.size)
        have z3 := (hp.cell (p := ⟨g0, k * 2, none⟩) hg0).trans x1
        clear hp' C1
        go_wp2_with fail
        obtain ⟨B2, b2, b3, C2⟩ := R2.out (s + k) hn0 hn1 _ (hb.trans (hp.mono hb.size))
        refine C2.mono ?_
        rintro e wq ⟨rfl, hq'⟩
        have hq := hp.trans (hq'.mono hp.size)
        have z5 := (hq.cell (p := ⟨g0, k * 2, none⟩) hg0).trans x1
        have z6 := (hq.cell (p := ⟨g0, k * 2 + 1, none⟩) hg0).trans x2
        clear hq' C2 z3 hp
        cases hc : fC (s + k) with
        | true =>
          rw [hc] at b3
          rw [hc, if_pos rfl] at sC
          obtain ⟨i1, i2⟩ := pL_at hlt hc
          rw [hLC] at i2
          obtain ⟨g3, rfl, hg3, m1, m2⟩ := D3.out _ _ i1
          have z7 := (hq.cell (p := ⟨g3, pC fC s k * 2, none⟩) hg3).trans m1
          have z8 := (hq.cell (p := ⟨g3, pC fC s k * 2 + 1, none⟩) hg3).trans m2
          have f1 : decide ((lc : Int) ≤ (pC fC s k : Int)) = false := by simp; omega
          have f3 : decide (lc ≤ pC fC s k) = false := by simp; omega
          clear i1
          go_wp2_with fail
          go_big_quiet (fail)
          go_wp2_with fail
          exact ⟨⟨k + 1, by omega, by rw [sA]; try go_num, by rw [sB]; try go_num, by rw [sC]; try go_num, by go_num, below_drewN hq _⟩, by simp [intOf]; omega⟩
        | false =>
          rw [hc] at b3
          rw [hc, if_neg (by decide)] at sC
          go_wp2_with fail
          exact ⟨⟨k + 1, by omega, by rw [sA]; try go_num, by rw [sB]; try go_num, by rw [sC]; try go_num, by go_num, hq⟩, by simp [intOf]; omega⟩
      | false =>
        rw [hA, if_neg (by decide)] at sA
        have hB : fB (s + k) = true := by unfold fB; rw [hA]; rfl
        rw [hB, if_pos rfl] at sB
        obtain ⟨i1, i2⟩ := pL_at hlt hB
        rw [hLB] at i2
        obtain ⟨g2, rfl, hg2, m1, m2⟩ := D2.out _ _ i1
        have y1 := (hr.cell (p := ⟨g2, pC fB s k * 2, none⟩) hg2).trans m1
        have y2 := (hr.cell (p := ⟨g2, pC fB s k * 2 + 1, none⟩) hg2).trans m2
        have f0 : decide ((pC fB s k : Int) < (lb : Int)) = true := by simp; omega
        clear i1
        by_cases hx : pC fA s k < la
        case pos =>
          obtain ⟨d, hd⟩ : ∃ d, (pL fA s N)[pC fA s k]? = some d := ⟨_, List.getElem?_eq_getElem (by rw [hLA]; exact hx)⟩
          obtain ⟨n1, n2⟩ := tau_ne (t := t) (pL_ne hA hd)
          obtain ⟨g1, rfl, hg1, m3, m4⟩ := D1.out _ _ hd
          have y3 := (hr.cell (p := ⟨g1, pC fA s k * 2, none⟩) hg1).trans m3
          have y4 := (hr.cell (p := ⟨g1, pC fA s k * 2 + 1, none⟩) hg1).trans m4
          have f2 : decide ((pC fA s k : Int) < (la : Int)) = true := by simp; omega
          clear hd
          go_wp2_with fail
          go_big_quiet (fail)
          have hr1 := below_drewN hr nq
          have y5 := (hr1.cell (p := ⟨g2, pC fB s k * 2, none⟩) hg2).trans m1
          have y6 := (hr1.cell (p := ⟨g2, pC fB s k * 2 + 1, none⟩) hg2).trans m2
          have z3 := (hr1.cell (p := ⟨g0, k * 2, none⟩) hg0).trans x1
          have z4 := (hr1.cell (p := ⟨g0, k * 2 + 1, none⟩) hg0).trans x2
          generalize wr.drewN nq = wx1 at *
          clear y1 y2 y3 y4 z1 z2
          go_wp2_with fail
          go_big_quiet (fail)
          have hr' := below_drewN hr1 nq
          have z9 := (hr'.cell (p := ⟨g0, k * 2, none⟩) hg0).trans x1
          generalize wx1.drewN nq = wx at *
          clear y5 y6 z3 z4 hr1
          go_wp2_with fail
          obtain ⟨B1, b1, C1⟩ := R1.out (s + k) hn0 hn1 _ (hb.trans (hr'.mono hb.size))
          refine C1.mono ?_
          rintro e wp ⟨rfl, hp'⟩
          have hp := hr'.trans (hp'.mono hr'.size)
          have z3 := (hp.cell (p := ⟨g0, k * 2, none⟩) hg0).trans x1
          clear hp' C1
          go_wp2_with fail
          obtain ⟨B2, b2, b3, C2⟩ := R2.out (s + k) hn0 hn1 _ (hb.trans (hp.mono hb.size))
          refine C2.mono ?_
          rintro e wq ⟨rfl, hq'⟩
          have hq := hp.trans (hq'.mono hp.size)
          have z5 := (hq.cell (p := ⟨g0, k * 2, none⟩) hg0).trans x1
          have z6 := (hq.cell (p := ⟨g0, k * 2 + 1, none⟩) hg0).trans x2
          clear hq' C2 z3 hp
          cases hc : fC (s + k) with
          | true =>
            rw [hc] at b3
            rw [hc, if_pos rfl] at sC
            obtain ⟨i1, i2⟩ := pL_at hlt hc
            rw [hLC] at i2
            obtain ⟨g3, rfl, hg3, m1, m2⟩ := D3.out _ _ i1
            have z7 := (hq.cell (p := ⟨g3, pC fC s k * 2, none⟩) hg3).trans m1
            have z8 := (hq.cell (p := ⟨g3, pC fC s k * 2 + 1, none⟩) hg3).trans m2
            have f1 : decide ((lc : Int) ≤ (pC fC s k : Int)) = false := by simp; omega
            have f3 : decide (lc ≤ pC fC s k) = false := by simp; omega
            clear i1
            go_wp2_with fail
            go_big_quiet (fail)
            go_wp2_with fail
            exact ⟨⟨k + 1, by omega, by rw [sA]; try go_num, by rw [sB]; try go_num, by rw [sC]; try go_num, by go_num, below_drewN hq _⟩, by simp [intOf]; omega⟩
          | false =>
            rw [hc] at b3
            rw [hc, if_neg (by decide)] at sC
            go_wp2_with fail
            exact ⟨⟨k + 1, by omega, by rw [sA]; try go_num, by rw [sB]; try go_num, by rw [sC]; try go_num, by go_num, hq⟩, by simp [intOf]; omega⟩
        case neg =>
          have f2 : decide ((pC fA s k : Int) < (la : Int)) = false := by simp; omega
          go_wp2_with fail
          go_big_quiet (fail)
          have hr1 := below_drewN hr nq
          have y5 := (hr1.cell (p := ⟨g2, pC fB s k * 2, none⟩) hg2).trans m1
          have y6 := (hr1.cell (p := ⟨g2, pC fB s k * 2 + 1, none⟩) hg2).trans m2
          have z3 := (hr1.cell (p := ⟨g0, k * 2, none⟩) hg0).trans x1
          have z4 := (hr1.cell (p := ⟨g0, k * 2 + 1, none⟩) hg0).trans x2
          generalize wr.drewN nq = wx1 at *
          clear y1 y2 z1 z2
          go_wp2_with fail
          go_big_quiet (fail)
          have hr' := below_drewN hr1 nq
          have z9 := (hr'.cell (p := ⟨g0, k * 2, none⟩) hg0).trans x1
          generalize wx1.drewN nq = wx at *
          clear y5 y6 z3 z4 hr1
          go_wp2_with fail
          obtain ⟨B1, b1, C1⟩ := R1.out (s + k) hn0 hn1 _ (hb.trans (hr'.mono hb.size))
          refine C1.mono ?_
          rintro e wp ⟨rfl, hp'⟩
          have hp := hr'.trans (hp'.mono hr'.size)
          have z3 := (hp.cell (p := ⟨g0, k * 2, none⟩) hg0).trans x1
          clear hp' C1
          go_wp2_with fail
          obtain ⟨B2, b2, b3, C2⟩ := R2.out (s + k) hn0 hn1 _ (hb.trans (hp.mono hb.size))
          refine C2.mono ?_
          rintro e wq ⟨rfl, hq'⟩
          have hq := hp.trans (hq'.mono hp.size)
          have z5 := (hq.cell (p := ⟨g0, k * 2, none⟩) hg0).trans x1
          have z6 := (hq.cell (p := ⟨g0, k * 2 + 1, none⟩) hg0).trans x2
          clear hq' C2 z3 hp
          cases hc : fC (s + k) with
          | true =>
            rw [hc] at b3
            rw [hc, if_pos rfl] at sC
            obtain ⟨i1, i2⟩ := pL_at hlt hc
            rw [hLC] at i2
            obtain ⟨g3, rfl, hg3, m1, m2⟩ := D3.out _ _ i1
            have z7 := (hq.cell (p := ⟨g3, pC fC s k * 2, none⟩) hg3).trans m1
            have z8 := (hq.cell (p := ⟨g3, pC fC s k * 2 + 1, none⟩) hg3).trans m2
            have f1 : decide ((lc : Int) ≤ (pC fC s k : Int)) = false := by simp; omega
            have f3 : decide (lc ≤ pC fC s k) = false := by simp; omega
            clear i1
            go_wp2_with fail
            go_big_quiet (fail)
            go_wp2_with fail
            exact ⟨⟨k + 1, by omega, by rw [sA]; try go_num, by rw [sB]; try go_num, by rw [sC]; try go_num, by go_num, below_drewN hq _⟩, by simp [intOf]; omega⟩
          | false =>
            rw [hc] at b3
            rw [hc, if_neg (by decide)] at sC
            go_wp2_with fail
            exact ⟨⟨k + 1, by omega, by rw [sA]; try go_num, by rw [sB]; try go_num, by rw [sC]; try go_num, by go_num, hq⟩, by simp [intOf]; omega⟩
end Go.Proofs.YthpndgcaoeokeaaGreatDoor
namespace Go.Proofs.YthpndgcaoeokeaaGreatDoor
open Go.RowKit Go.Sort

theorem parted_n (start days : Int) (w : World) (hm : ML w) (ht : Tab w) (r0 : -9223372036854775808 ≤ start ∧ start ≤ 9223372036854775807) (r1 : -9223372036854775808 ≤ days ∧ days ≤ 9223372036854775807) :
    Calls Tryz.prog 11 #[.int .i64 start, .int .i64 days] w fun e w' => e = .returned (.bool true) ∧ Below w.heap.size w w' := by
  have K0 : Hid (∀ W, Below w.heap.size w W → Calls Tryz.prog 16 #[] W fun e w' => e = .returned (.bool true) ∧ Below W.heap.size W w') := hide fun W hb => works_n W (hm.on hb) (ht.on hb)
  have M0 := hide fun W => moment_n start W r0.1 r0.2
  have P1 := hide fun W => pick_n days 700 W r1.1 r1.2 (by omega) (by omega)
  have ht0 := pick_bd start 3155760000 (by omega)
  have hP := pick_bd days 700 (by omega)
  obtain ⟨t, et⟩ : ∃ t, t = 315532800 + pickI start 3155760000 := ⟨_, rfl⟩
  rw [← et] at M0
  have ht1 : 0 ≤ t ∧ t ≤ 3471292799 := by omega
  clear et ht0
  generalize pickI days 700 = P at *
  obtain ⟨N, hN⟩ : ∃ N : Nat, (N : Int) = 1 + P := ⟨(1 + P).toNat, by omega⟩
  have hma := month_around (t / 86400) (by omega)
  have hya := year_around (t / 86400) (by omega)
  have hto : t + 86400 * (1 + P) = t + 86400 * N := by rw [hN]
  have ev : ∀ (rule : List UInt8) (_ : Nice 1000 rule ∧ rule ≠ []) (W : World), Below w.heap.size w W → ∀ s : ByteArray, s.data.toList = rule → Calls Tryz.prog 25 #[.string ⟨#[120]⟩, .int .i64 t, .int .i64 60, .string s] W fun e w' => e = .returned (.string ⟨(evTx [120] t 60 rule).toArray⟩) ∧ Below W.heap.size W w' := by
    intro rule hn W hb s hs
    obtain rfl : s = ⟨rule.toArray⟩ := by apply ByteArray.ext; rw [← hs]
    exact event_n [120] t 60 rule W (ht.on hb) (by decide) hn.1.1 (by omega) (by omega) (by omega) (by omega)
  have ins : ∀ (rule : List UInt8) (L : List Int), insE (evTx [120] t 60 rule) t (t + 86400 * (1 + P)) = .ok (L.map (dayP t)) → ∀ W, Below w.heap.size w W → Calls Tryz.prog 23 #[.string ⟨(evTx [120] t 60 rule).toArray⟩, .int .i64 t, .int .i64 (t + 86400 * (1 + P))] W fun e w' => (∃ v, e = .returned (.tuple #[v, .int .i64 0]) ∧ w'.ownsRow W.heap.size 39 2 v (L.map (dayP t)).length (flatS (L.map (dayP t)))) ∧ Below W.heap.size W w' := by
    intro rule L hi W hb
    refine (inst_all _ t (t + 86400 * (1 + P)) W (hm.on hb) (ht.on hb)).mono fun e w' h => ?_
    unfold InstP at h
    rw [hi] at h
    exact h
  have i0 := part_ins t N (by omega) (by omega) ht1.1 ht1.2 (p := fun _ => true) pT0_rule pT0_nice rfl rfl rfl rfl (fun _ => rfl) (fun n _ => fit0 n) (show t / 86400 + 0 ≤ t / 86400 by omega) (show t / 86400 + 1000 ≤ t / 86400 + 0 + ((200000 : Nat) : Int) * 1 by omega) _ hto
  have i1 := part_ins t N (by omega) (by omega) ht1.1 ht1.2 (p := fA) pT1_rule pT1_nice rfl rfl rfl rfl (fun _ => rfl) (fun n _ => fit1 n) (show t / 86400 + 0 * 7 - wkIn (t / 86400 + 0 * 7) 0 ≤ t / 86400 by have := wkIn_bd (t / 86400 + 0 * 7) 0; omega) (show t / 86400 + 1000 ≤ t / 86400 + 0 * 7 - wkIn (t / 86400 + 0 * 7) 0 + ((25000 : Nat) : Int) * 7 by have := wkIn_bd (t / 86400 + 0 * 7) 0; omega) _ hto
  have i2 := part_ins t N (by omega) (by omega) ht1.1 ht1.2 (p := fB) pT2_rule pT2_nice rfl rfl rfl rfl (fun _ => rfl) (fun n _ => fit2 n) (show mBeg (Cal.ofY (t / 86400)) (Cal.ofM (t / 86400) + 0) ≤ t / 86400 by rw [Int.add_zero]; exact hma.1) (show t / 86400 + 1000 ≤ mBeg (Cal.ofY (t / 86400)) (Cal.ofM (t / 86400) + 0) + ((6000 : Nat) : Int) * 28 by rw [Int.add_zero]; omega) _ hto
  have i3 := part_ins t N (by omega) (by omega) ht1.1 ht1.2 (p := fC) pT3_rule pT3_nice rfl rfl rfl rfl (fun _ => rfl) (fun n hn => fit3 hn) (show t / 86400 + 0 ≤ t / 86400 by omega) (show t / 86400 + 1000 ≤ t / 86400 + 0 + ((200000 : Nat) : Int) * 1 by omega) _ hto
  have i4 := part_ins t N (by omega) (by omega) ht1.1 ht1.2 (p := fD) pT4_rule pT4_nice rfl rfl rfl rfl (fun _ => rfl) (fun n hn => fit4 hn) (show Cal.num (Cal.ofY (t / 86400) + 0) 1 1 ≤ t / 86400 by rw [Int.add_zero]; exact hya.1) (show t / 86400 + 1000 ≤ Cal.num (Cal.ofY (t / 86400) + 0) 1 1 + ((500 : Nat) : Int) * 365 by rw [Int.add_zero]; omega) _ hto
  rw [pL_all] at i0
  have pr : ∀ x : Int, 0 ≤ x → x ≤ 7258118399 → ∀ W, Below w.heap.size w W → Calls Tryz.prog 18 #[.int .i64 x] W fun e w' => e = .returned (.tuple #[.string ⟨(printL x).toArray⟩, .int .i64 0]) ∧ Below W.heap.size W w' := by
    intro x h0 h1 W hb
    have := print_any x W (ht.on hb)
    rwa [printV_in h0 (by omega)] at this
  refine parted_w start days t (t / 86400) P N ⟨(evTx [120] t 60 pT0).toArray⟩ ⟨(evTx [120] t 60 pT1).toArray⟩ ⟨(evTx [120] t 60 pT2).toArray⟩ ⟨(evTx [120] t 60 pT3).toArray⟩ ⟨(evTx [120] t 60 pT4).toArray⟩ w K0 M0 P1
    (hide (ev pT0 pT0_nice)) (hide (ins pT0 _ i0)) (hide (ev pT1 pT1_nice)) (hide (ins pT1 _ i1)) (hide (ev pT2 pT2_nice)) (hide (ins pT2 _ i2)) (hide (ev pT3 pT3_nice)) (hide (ins pT3 _ i3)) (hide (ev pT4 pT4_nice)) (hide (ins pT4 _ i4))
    (hide fun n n0 n1 W hb => ?_) (hide fun n n0 n1 W hb => ?_) hP.1 hP.2 hN ht1.1 ht1.2 (by omega) (by omega) (hide fun m hm' => ?_)
  · have := tau_bd (t := t) n0 n1
    exact ⟨⟨(printL (tauI t n)).toArray⟩, printL_len _, pr (tauI t n) (by omega) (by omega) W hb⟩
  · have := tau_bd (t := t) n0 n1
    refine ⟨⟨(printL (tauI t n + 86400)).toArray⟩, printL_len _, ?_, pr (tauI t n + 86400) (by omega) (by omega) W hb⟩
    have e : (tauI t n + 86400) / 86400 = n + 1 := by unfold tauI; omega
    rw [print_day, toL, e]
    obtain ⟨_, _, v3, v4⟩ := Cal.of_valid (n + 1) (by omega)
    have vm := Cal.md_bd (Cal.ofY (n + 1)) (Cal.ofM (n + 1))
    exact one_is (by omega) (by omega)
  · obtain ⟨h1, h2⟩ := List.mem_filter.1 hm'
    have := from_mem.1 h1
    exact List.mem_filter.2 ⟨h1, fC_fD (by omega) h2⟩
end Go.Proofs.YthpndgcaoeokeaaGreatDoor
