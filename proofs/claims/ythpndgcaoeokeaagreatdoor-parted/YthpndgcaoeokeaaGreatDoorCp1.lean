/- The calendar: days of months, numbers of days, and back. The statements' own helpers: pick, digits, moment (fallowkeep). Arguments of the statements that are plain: numbers, texts, truths, opened and shut; the world at the call. The texts of events that the statements write, read. Of no program. Every so many days, every so many weeks: what comes (Stepped). Of no program. A rule without positions that comes every time: the days that fit, one after another. Of no program. Once a month and once a year: the days that come. Of no program. Once a month and once a year: what comes (Monthly). Of no program. -/
import Derived.Test.YthpndgcaoeokeaaGreatDoorCm28
namespace Go.Proofs.YthpndgcaoeokeaaGreatDoor.Cal
theorem of_is {n y m d : Int} (h : 0 ≤ n + 719468) (v : Valid y m d) (e : num y m d = n) : ofY n = y ∧ ofM n = m ∧ ofD n = d :=
  inj (of_valid n h) v (by rw [of_num n h, e])
end Go.Proofs.YthpndgcaoeokeaaGreatDoor.Cal
namespace Go.Proofs.YthpndgcaoeokeaaGreatDoor
open Go.RowKit Go.Sort

set_option maxHeartbeats 1000000 in
theorem moment_n (c : Int) (w : World) (h0 : -9223372036854775808 ≤ c) (h1 : c ≤ 9223372036854775807) :
    Calls Tryz.prog 24 #[.int .i64 c] w fun e w' => e = .returned (.int .i64 (315532800 + pickI c 3155760000)) ∧ w = w' := by
  have hb := pick_bd c 3155760000 (by omega)
  have C := hide (pick_n c 3155760000 w h0 h1 (by omega) (by omega))
  generalize pickI c 3155760000 = x at *
  clear h0 h1
  go_enter Tryz.func24, Tryz.ntmps24
  go_wp2_with (go_at_call 17; refine (C.out).mono ?_; rintro e w' ⟨rfl, rfl⟩)
  go_ret
  exact ⟨rfl, rfl⟩
end Go.Proofs.YthpndgcaoeokeaaGreatDoor
namespace Go.Proofs.YthpndgcaoeokeaaGreatDoor
open Go.ChangeShapes Go.WideShapes Go.ChangeAt Go.RowKit

section
variable {H : Type} {enc : TypeId × Value → H} {w : World} {base : Nat} {spare : Nat → Bool} {held : Bool}
set_option maxRecDepth 100000 in
theorem op_bool {r : Reach} {b0 : Nat} {v : Value} {d : DataW H} {p : List MemPlace} (ho : Value.okWide Tryz.prog w r b0 4 v) (h : DataW.Trod enc Tryz.prog w base spare held 4 v d p) : ∃ n, v = .bool n ∧ d = .lit (.bool n) ∧ p = [] := by
  obtain ⟨fuel, hf⟩ := h
  obtain ⟨m, rfl⟩ := okWide_bool Tryz.underlying4 ho
  obtain ⟨n, e1, e2⟩ := DataW.trod_bool Tryz.underlying4 hf
  have e5 : [Value.bool m] = [.bool n] := e1
  injection e5 with e5
  injection e5 with e5
  subst e5
  injection e2 with e2 e4
  exact ⟨_, rfl, e2, e4⟩
theorem sh_bool (b : Bool) : DataW.Trod enc Tryz.prog w base spare held 4 (.bool b) (.lit (.bool b)) [] := shut_bool Tryz.underlying4 b
end
end Go.Proofs.YthpndgcaoeokeaaGreatDoor
namespace Go.Proofs.YthpndgcaoeokeaaGreatDoor
open Go.RowKit

/-- the event's properties, as the statements write them -/
def evPs (u : List UInt8) (st ln : Int) (rule : List UInt8) : List (Nat × List UInt8) :=
  [(0, u), (1, prL st)] ++ (if ln % 86400 = 0 ∧ ln / 86400 < 32 then [(2, [80] ++ dgs (ln / 86400) ++ [68])] else [(3, prL (st + ln))]) ++ (if rule = [] then [] else [(4, rule)])
def evMo (b a : Option (List UInt8)) : List (Nat × List UInt8) := op1 6 b ++ op1 5 a
/-- its text, with more lines ahead of its end -/
def evTm (u : List UInt8) (st ln : Int) (rule : List UInt8) (b a : Option (List UInt8)) : List UInt8 := txl (beginL :: (evPs u st ln rule ++ evMo b a).map lnP ++ [endL])
theorem evTx_is (u : List UInt8) (st ln : Int) (rule : List UInt8) : evTx u st ln rule = evTm u st ln rule none none := by
  unfold evTx evHd evEnd evRul evTm evPs evMo op1 txl lnP
  split <;> split <;> simp [propNames, beginL, endL]
theorem txl_len (ls : List (List UInt8)) : (txl ls).length = (ls.map fun l => l.length + 2).sum := by
  induction ls with
  | nil => rfl
  | cons l r ih => rw [txl_cons, List.map_cons, List.sum_cons, List.length_append, List.length_cons, List.length_cons, ih]; omega
theorem len_days (n : Int) (h0 : 0 ≤ n) (h1 : n < 32) : lenL ([80] ++ dgs n ++ [68]) = some (n * 86400) := by
  obtain ⟨a1, a2, a3, _⟩ := dgs_num n h0 (by omega)
  simp only [List.cons_append, List.nil_append, lenL]
  rw [if_pos (by rfl), lenGo_digs _ _ _ _ _ _ _ a3, List.nil_append, lenGo_mark 68 _ _ 0 0 false _ _ (by decide) (by decide) a1 (by decide) (by decide) (by decide), a2]
  rw [lenGo, if_neg (by simp)]
  simp [sizeU]
theorem dgs_nice (n : Int) (h0 : 0 ≤ n) (h1 : n < 10000000) : Nice 7 (dgs n) := num_nice (dgs_num n h0 h1).1
theorem read_evm (u : List UInt8) (st ln : Int) (rule : List UInt8) (b a : Option (List UInt8)) (ex xt : List Int) (hu : nameB (ba u) = true) (s0 : 0 ≤ st) (s1 : st + ln ≤ 7258118399) (l0 : 1 ≤ ln) (l1 : ln ≤ 2678400) (hr : Nice 1000 rule)
    (hb : ∀ v, b = some v → Nice 20 v) (ha : ∀ v, a = some v → Nice 20 v) (hxt : tmO b = some xt) (hex : tmO a = some ex) :
    ∃ f, readF (evTm u st ln rule b a) = match rlO (if rule = [] then none else some rule) with | none => .error 3 | some rl => .ok ⟨f, st, ln, ex, xt, rl⟩ := by
  have nu := name_nice hu
  have n1 : Nice 16 (prL st) := ptx_nice st
  have n3 : Nice 16 (prL (st + ln)) := ptx_nice (st + ln)
  have n2 : ln / 86400 < 32 → Nice 9 ([80] ++ dgs (ln / 86400) ++ [68]) := fun h => ((show Nice 1 [80] from ⟨by decide, by decide⟩).app (dgs_nice (ln / 86400) (by omega) (by omega))).app (show Nice 1 [68] from ⟨by decide, by decide⟩)
  have h1 : ∀ p ∈ evPs u st ln rule ++ evMo b a, p.1 < 9 ∧ 13 ∉ p.2 := by
    intro p hp
    unfold evPs evMo at hp
    simp only [List.mem_append, op1_mem] at hp
    rcases hp with ((hp | hp) | hp) | ⟨e1, hp⟩ | ⟨e1, hp⟩
    · simp only [List.mem_cons, List.not_mem_nil, or_false] at hp
      rcases hp with rfl | rfl
      · exact ⟨by simp, nu.2⟩
      · exact ⟨by simp, n1.2⟩
    · split at hp
      · rename_i hq
        simp only [List.mem_singleton] at hp
        subst hp
        exact ⟨by simp, (n2 hq.2).2⟩
      · simp only [List.mem_singleton] at hp
        subst hp
        exact ⟨by simp, n3.2⟩
    · split at hp
      · simp at hp
      · simp only [List.mem_singleton] at hp
        subst hp
        exact ⟨by simp, hr.2⟩
    · exact ⟨by omega, (hb _ hp).2⟩
    · exact ⟨by omega, (ha _ hp).2⟩
  have h2 : ((evPs u st ln rule ++ evMo b a).map (·.1)).Nodup := by
    unfold evPs evMo op1
    cases a <;> cases b <;> split <;> split <;> simp
  have hl : (txl (beginL :: (evPs u st ln rule ++ evMo b a).map lnP ++ [endL])).length ≤ 2000 := by
    have q0 := nu.1
    have q1 := n1.1
    have q3 := n3.1
    have q4 := hr.1
    have qb : beginL.length = 12 := rfl
    have qe : endL.length = 10 := rfl
    have p0 : (propNames.getD 0 []).length = 3 := rfl
    have p1 : (propNames.getD 1 []).length = 7 := rfl
    have p2 : (propNames.getD 2 []).length = 8 := rfl
    have p3 : (propNames.getD 3 []).length = 5 := rfl
    have p4 : (propNames.getD 4 []).length = 5 := rfl
    have p5 : (propNames.getD 5 []).length = 6 := rfl
    have p6 : (propNames.getD 6 []).length = 5 := rfl
    have m1 : (((evPs u st ln rule).map lnP).map fun l => l.length + 2).sum ≤ 1200 := by
      unfold evPs
      split
      · rename_i hq
        have q2 := (n2 hq.2).1
        split <;> simp only [List.cons_append, List.nil_append, List.append_nil, List.map_cons, List.map_nil, List.sum_cons, List.sum_nil, lnP, List.length_append, List.length_cons, p0, p1, p2, p4] <;> simp only [List.cons_append, List.nil_append, List.length_append, List.length_cons] at q2 <;> omega
      · split <;> simp only [List.cons_append, List.nil_append, List.append_nil, List.map_cons, List.map_nil, List.sum_cons, List.sum_nil, lnP, List.length_append, List.length_cons, p0, p1, p3, p4] <;> omega
    have m2 : (((op1 6 b).map lnP).map fun l => l.length + 2).sum ≤ 40 := by
      cases b with
      | none => simp [op1]
      | some v =>
        have := (hb v rfl).1
        simp only [op1, List.map_cons, List.map_nil, List.sum_cons, List.sum_nil, lnP, List.length_append, List.length_cons, p6]
        omega
    have m3 : (((op1 5 a).map lnP).map fun l => l.length + 2).sum ≤ 40 := by
      cases a with
      | none => simp [op1]
      | some v =>
        have := (ha v rfl).1
        simp only [op1, List.map_cons, List.map_nil, List.sum_cons, List.sum_nil, lnP, List.length_append, List.length_cons, p5]
        omega
    rw [txl_len]
    unfold evMo
    simp only [List.cons_append, List.map_cons, List.sum_cons, List.map_append, List.sum_append, List.map_nil, List.sum_nil, qb, qe]
    omega
  have hfl := fields_ps _ h1 h2 hl
  obtain ⟨f, hf⟩ : ∃ f, f = ofP (evPs u st ln rule ++ evMo b a) fun _ => none := ⟨_, rfl⟩
  rw [← hf] at hfl
  have g : f 0 = some u ∧ f 1 = some (prL st) ∧ ((ln % 86400 = 0 ∧ ln / 86400 < 32 ∧ f 2 = some ([80] ++ dgs (ln / 86400) ++ [68]) ∧ f 3 = none) ∨ (f 2 = none ∧ f 3 = some (prL (st + ln)))) ∧ f 4 = (if rule = [] then none else some rule) ∧ f 5 = a ∧ f 6 = b ∧ f 7 = none ∧ f 8 = none := by
    subst hf
    unfold evPs evMo op1
    cases a <;> cases b <;> split <;> split <;> simp_all [ofP]
  obtain ⟨g0, g1, g23, g4, g5, g6, g7, g8⟩ := g
  have hmust : must f = true := by
    unfold must has val
    rw [g0, g1]
    rcases g23 with ⟨_, _, e2, e3⟩ | ⟨e2, e3⟩
    · rw [e2, e3]; simpa using hu
    · rw [e2, e3]; simpa using hu
  have hwords : words2 f = true := by
    unfold words2 has
    rw [g7, g8]
    rfl
  rw [hmust, hwords] at hfl
  simp only [Bool.and_self, if_true] at hfl
  have r1 : timF (val f 1) = some st := by
    unfold val
    rw [g1]
    exact tim_again s0 (by omega)
  have r2 : lnF st (f 3) (f 2) = some ln := by
    unfold lnF
    rcases g23 with ⟨q1, q2, e2, e3⟩ | ⟨e2, e3⟩
    · rw [e2, e3]
      simp only [Option.getD_some]
      rw [len_days (ln / 86400) (by omega) q2]
      simp only []
      rw [show ln / 86400 * 86400 = ln by omega, if_pos ⟨l0, l1⟩]
    · rw [e2, e3]
      simp only []
      rw [show timF (prL (st + ln)) = some (st + ln) from tim_again (by omega) s1, Option.map_some]
      simp only []
      rw [show st + ln - st = ln by omega, if_pos ⟨l0, l1⟩]
  refine ⟨f, ?_⟩
  rw [← g4]
  exact read_of hfl r1 r2 (by rw [g5]; exact hex) (by rw [g6]; exact hxt)

/-- a rule's part -/
def lnR (p : Nat × List UInt8) : List UInt8 := partNames.getD p.1 [] ++ 61 :: p.2
theorem parts_ps (ps : List (Nat × List UInt8)) (hne : ps ≠ []) (h1 : ∀ p ∈ ps, p.1 < 9 ∧ 59 ∉ p.2) (h2 : (ps.map (·.1)).Nodup) : partsOf (Lib.join (ps.map lnR) [59]) = some (ofP ps fun _ => none) := by
  have hn59 : ∀ k, k < 9 → 59 ∉ partNames.getD k [] := by decide
  have hsp : spl 59 (Lib.join (ps.map lnR) [59]) = ps.map lnR := spl_join 59 _ (by simpa using hne) (fun p hp => by
    obtain ⟨q, hq, rfl⟩ := List.mem_map.1 hp
    unfold lnR
    simp only [List.mem_append, List.mem_cons, not_or]
    exact ⟨hn59 _ (h1 q hq).1, by decide, (h1 q hq).2⟩)
  unfold partsOf
  rw [hsp]
  have e : ps.map lnR = ps.map fun p => partNames.getD p.1 [] ++ 61 :: p.2 := rfl
  rw [e, flds_ofP partNames 61 ps _ (fun p hp => plc_part p.1 p.2 (h1 p hp).1) h2 (fun _ _ => rfl)]
theorem rule_ps {ps : List (Nat × List UInt8)} {r : RuleD} (hne : ps ≠ []) (h1 : ∀ p ∈ ps, p.1 < 9 ∧ 59 ∉ p.2) (h2 : (ps.map (·.1)).Nodup) (h3 : ¬ ((ofP ps (fun _ => none) 2).isSome = true ∧ (ofP ps (fun _ => none) 3).isSome = true)) (h4 : Parts (ofP ps fun _ => none) r) (h5 : agreeR r = true) :
    ruleF (Lib.join (ps.map lnR) [59]) = some (ofP ps fun _ => none) ∧ ruleOf (ofP ps fun _ => none) = r :=
  ⟨(rule_iff _ _).2 ⟨r, parts_ps ps hne h1 h2, h3, h4, h5⟩, ruleOf_is h4⟩
theorem wi_dgs (lo hi n : Int) (h0 : 0 ≤ n) (h1 : n < 10000000) (hl : lo ≤ n) (hh : n ≤ hi) : wiF lo hi (dgs n) = some n := by
  obtain ⟨a1, a2, _, _⟩ := dgs_num n h0 h1
  unfold wiF wiB
  rw [a1, a2, if_pos (by simp [hl, hh])]
theorem dgs_no (n : Int) (c : UInt8) (hc : dig c = false) (h0 : 0 ≤ n) (h1 : n < 10000000) : c ∉ dgs n := fun hm => by
  have := List.all_eq_true.1 (dgs_num n h0 h1).2.2.1 c hm
  rw [hc] at this
  cases this

theorem mrgF_nil : ∀ l : List Int, mrgF l [] = l
  | [] => rfl
  | t :: r => by rw [mrgF]; simp [dropEq, mrgF_nil r]
theorem rbF_nil (st : Int) (l : List Int) : rbF st [] l = l.map fun d => d * 86400 + st % 86400 := by
  unfold rbF
  rw [List.filter_eq_self]
  intro t _
  rfl
/-- the times of an event with a rule and nothing else -/
theorem times_plain {f : Nat → Option (List UInt8)} {st ln : Int} {F : Nat → Option (List UInt8)} {r : RuleD} (hr : ruleOf F = r) (to : Int) :
    evTimes ⟨f, st, ln, [], [], some F⟩ to = (dysL r st 0 (lastOf r.un st to)).map fun d => d * 86400 + st % 86400 := by
  have e : evTimes ⟨f, st, ln, [], [], some F⟩ to = evT' true (ruleOf F) st 0 to [] [] := rfl
  rw [e, hr]
  unfold evT' rbL xbF rdL
  rw [List.filter_nil, mrgF_nil, rbF_nil]
  rfl
/-- what is chosen by equal steps, as it is counted -/
theorem dys_steps (r : RuleD) (st last e : Int) (s0 : 0 ≤ st) (hi : 0 ≤ r.iv) (he : 0 ≤ e) (hp : ∀ k, 0 ≤ k → perA r (st / 86400) k ≤ st / 86400 + e * k ∧ choiceL r (perA r (st / 86400) k) (perN r (st / 86400) k) = [st / 86400 + e * k]) (ct : Int) :
    ∀ (m g : Nat) (c k : Int), ct = c + m → m ≤ g → 0 ≤ k → (m ≠ 0 → (st / 86400 + e * (k + (m - 1) * r.iv)) * 86400 ≤ last) → 0 < m →
      dysF st 0 last ct c (chL r (st / 86400) last g k) = (List.range m).map fun i : Nat => st / 86400 + e * (k + i * r.iv)
  | 0, g, c, k, _, _, _, _, h => absurd h (by omega)
  | m + 1, 0, c, k, _, h, _, _, _ => absurd h (by omega)
  | m + 1, g + 1, c, k, hc, hg, hk, hb, _ => by
    obtain ⟨p1, p2⟩ := hp k hk
    have hek : 0 ≤ e * k := Int.mul_nonneg he hk
    have hm : 0 ≤ e * (m * r.iv) := Int.mul_nonneg he (Int.mul_nonneg (by omega) hi)
    have hb' := hb (by omega)
    rw [show ((m + 1 : Nat) : Int) - 1 = m by omega, Int.mul_add] at hb'
    rw [chL_go r _ last g k (by omega), p2, List.singleton_append, dysF, if_neg (by omega), if_neg (by omega), if_pos (by omega), List.singleton_append, List.range_succ_eq_map, List.map_cons, List.map_map]
    congr 1
    · simp
    · by_cases h0 : m = 0
      · subst h0
        rw [if_pos (by omega)]
        rfl
      · rw [if_neg (by omega), dys_steps r st last e s0 hi he hp ct m g (c + 1) (k + r.iv) (by omega) (by omega) (by omega) (fun _ => ?_) (by omega)]
        · apply List.map_congr_left
          intro i _
          simp only [Function.comp]
          rw [show k + r.iv + (i : Int) * r.iv = k + ((i + 1 : Nat) : Int) * r.iv by push_cast; rw [Int.add_mul]; omega]
        · rw [show k + r.iv + ((m : Int) - 1) * r.iv = k + m * r.iv by rw [Int.sub_mul]; omega, Int.mul_add]
          exact hb'
end Go.Proofs.YthpndgcaoeokeaaGreatDoor
namespace Go.Proofs.YthpndgcaoeokeaaGreatDoor
open Go.RowKit

def dR (n c : Int) : RuleD := ⟨0, n, c, 9223372036854775807, [], [], [], [], 0⟩
def wR (n c : Int) : RuleD := ⟨1, n, c, 9223372036854775807, [], [], [], [], 6⟩
theorem from7 (a : Int) : from' a 7 = [a + 0, a + 1, a + 2, a + 3, a + 4, a + 5, a + 6] := rfl
theorem filt7 (p : Int → Bool) (a j : Int) (h0 : 0 ≤ j) (h6 : j ≤ 6) (hp : ∀ i : Int, 0 ≤ i → i ≤ 6 → p (a + i) = decide (i = j)) : (from' a 7).filter p = [a + j] := by
  rw [from7]
  simp only [List.filter_cons, List.filter_nil, hp 0 (by omega) (by omega), hp 1 (by omega) (by omega), hp 2 (by omega) (by omega), hp 3 (by omega) (by omega), hp 4 (by omega) (by omega), hp 5 (by omega) (by omega), hp 6 (by omega) (by omega)]
  have : j = 0 ∨ j = 1 ∨ j = 2 ∨ j = 3 ∨ j = 4 ∨ j = 5 ∨ j = 6 := by omega
  rcases this with rfl | rfl | rfl | rfl | rfl | rfl | rfl <;> rfl
theorem d_choice (n c s k : Int) : perA (dR n c) s k ≤ s + 1 * k ∧ choiceL (dR n c) (perA (dR n c) s k) (perN (dR n c) s k) = [s + 1 * k] := by
  have e1 : perA (dR n c) s k = s + k := rfl
  have e2 : perB (dR n c) s k = s + k + 1 := rfl
  have e3 : perN (dR n c) s k = 1 := by unfold perN; rw [e1, e2]; omega
  refine ⟨by omega, ?_⟩
  rw [e3, e1]
  have e4 : choiceL (dR n c) (s + k) 1 = [s + k + ((0 : Nat) : Int)] := rfl
  rw [e4]
  congr 1
  omega
theorem w_choice (n c s k : Int) : perA (startW (wR n c) s) s k ≤ s + 7 * k ∧ choiceL (startW (wR n c) s) (perA (startW (wR n c) s) s k) (perN (startW (wR n c) s) s k) = [s + 7 * k] := by
  have e0 : startW (wR n c) s = ⟨1, n, c, 9223372036854775807, [], [], [(0, (s + 719470) % 7)], [], 6⟩ := rfl
  rw [e0]
  generalize hr : (⟨1, n, c, 9223372036854775807, [], [], [(0, (s + 719470) % 7)], [], 6⟩ : RuleD) = r
  have e1 : perA r s k = s + k * 7 - wkIn (s + k * 7) 6 := by rw [← hr]; rfl
  have e2 : perB r s k = s + k * 7 - wkIn (s + k * 7) 6 + 7 := by rw [← hr]; rfl
  have e3 : perN r s k = 7 := by unfold perN; rw [e1, e2]; omega
  have hw : 0 ≤ wkIn (s + k * 7) 6 ∧ wkIn (s + k * 7) 6 ≤ 6 := by unfold wkIn; omega
  refine ⟨by omega, ?_⟩
  rw [e3, e1]
  generalize wkIn (s + k * 7) 6 = j at *
  have e4 : choiceL r (s + k * 7 - j) 7 = (from' (s + k * 7 - j) 7).filter (fitA r) := by rw [← hr]; rfl
  rw [e4, filt7 (fitA r) (s + k * 7 - j) j hw.1 hw.2 ?_]
  · congr 1; omega
  · intro i i0 i6
    have e5 : fitA r (s + k * 7 - j + i) = ((s + 719470) % 7 == (s + k * 7 - j + i + 719470) % 7) := by
      rw [← hr]
      unfold fitA fitM fitD fitW
      simp
    rw [e5, Bool.eq_iff_iff, beq_iff_eq, decide_eq_true_iff]
    omega
def stepD (n : Int) (wk : Bool) : Int := if wk then 7 * n else n
def stR (n c : Int) (wk : Bool) : RuleD := if wk then wR n c else dR n c
theorem st_days (n c st : Int) (wk : Bool) (n0 : 1 ≤ n) (n1 : n ≤ 100) (c0 : 1 ≤ c) (c1 : c ≤ 60) (s0 : 0 ≤ st) (s1 : st ≤ 3471292799) :
    dysL (stR n c wk) st 0 (lastOf (stR n c wk).un st 7258118399) = (List.range c.toNat).map fun i : Nat => st / 86400 + i * stepD n wk := by
  have hl : lastOf 9223372036854775807 st 7258118399 = 7258118398 - st % 86400 := by unfold lastOf; omega
  have hm : 0 ≤ (c - 1) * n ∧ (c - 1) * n ≤ 59 * 100 := ⟨Int.mul_nonneg (by omega) (by omega), Int.mul_le_mul (by omega) n1 (by omega) (by omega)⟩
  have hc : (c.toNat : Int) = c := by omega
  cases wk with
  | false =>
    show dysF st 0 (lastOf 9223372036854775807 st 7258118399) c 0 (chL (dR n c) (st / 86400) (lastOf 9223372036854775807 st 7258118399) 200000 (firstD (dR n c) st 0)) = _
    rw [hl, show firstD (dR n c) st 0 = 0 by unfold firstD; rw [if_pos (.inl (show 0 < c by omega))]]
    rw [dys_steps (dR n c) st _ 1 s0 (show 0 ≤ n by omega) (by omega) (fun k _ => d_choice n c (st / 86400) k) c c.toNat 200000 0 0 (by omega) (by omega) (by omega) (fun _ => ?_) (by omega)]
    · apply List.map_congr_left
      intro i _
      show st / 86400 + 1 * (0 + i * n) = st / 86400 + i * n
      omega
    · show (st / 86400 + 1 * (0 + ((c.toNat : Int) - 1) * n)) * 86400 ≤ _
      rw [hc]
      omega
  | true =>
    show dysF st 0 (lastOf 9223372036854775807 st 7258118399) c 0 (chL (startW (wR n c) (st / 86400)) (st / 86400) (lastOf 9223372036854775807 st 7258118399) 25000 (firstD (startW (wR n c) (st / 86400)) st 0)) = _
    rw [hl, show firstD (startW (wR n c) (st / 86400)) st 0 = 0 by unfold firstD; rw [if_pos (.inl (show 0 < c by omega))]]
    rw [dys_steps (startW (wR n c) (st / 86400)) st _ 7 s0 (show 0 ≤ n by omega) (by omega) (fun k _ => w_choice n c (st / 86400) k) c c.toNat 25000 0 0 (by omega) (by omega) (by omega) (fun _ => ?_) (by omega)]
    · apply List.map_congr_left
      intro i _
      show st / 86400 + 7 * (0 + i * n) = st / 86400 + i * (7 * n)
      rw [Int.zero_add, Int.mul_left_comm]
    · show (st / 86400 + 7 * (0 + ((c.toNat : Int) - 1) * n)) * 86400 ≤ _
      rw [hc]
      omega
/-- an event with a rule, read -/
theorem read_rule (st ln : Int) {rule : List UInt8} {F : Nat → Option (List UInt8)} (s0 : 0 ≤ st) (s1 : st + ln ≤ 7258118399) (l0 : 1 ≤ ln) (l1 : ln ≤ 2678400) (hr : Nice 1000 rule) (hF : ruleF rule = some F) (hne : rule ≠ []) :
    ∃ f, readF (evTx [120] st ln rule) = .ok ⟨f, st, ln, [], [], some F⟩ := by
  obtain ⟨f, hf⟩ := read_evm [120] st ln rule none none [] [] (by decide) s0 s1 l0 l1 hr (fun v h => by cases h) (fun v h => by cases h) rfl rfl
  refine ⟨f, ?_⟩
  rw [evTx_is, hf, if_neg hne]
  show (match (ruleF rule).map some with | none => _ | some rl => _) = _
  rw [hF]
  rfl
theorem ins_rule (st ln to : Int) {rule : List UInt8} {F : Nat → Option (List UInt8)} {r : RuleD} {L : List Int} (s0 : 0 ≤ st) (s1 : st + ln ≤ 7258118399) (l0 : 1 ≤ ln) (l1 : ln ≤ 2678400) (hr : Nice 1000 rule) (hF : ruleF rule = some F) (hne : rule ≠ []) (ho : ruleOf F = r) (from_ : Int) (hw : winB from_ to = true)
    (hd : (dysL r st 0 (lastOf r.un st to)).map (fun d => d * 86400 + st % 86400) = L) (hL : L.length ≤ 3000) : insE (evTx [120] st ln rule) from_ to = .ok ((L.map fun b => (b, b + ln)).filter fun p => decide (from_ < p.2)) := by
  obtain ⟨f, hf⟩ := read_rule st ln s0 s1 l0 l1 hr hF hne
  unfold insE
  rw [hf]
  simp only [hw, if_true]
  rw [times_plain ho, hd, if_pos hL]
  rfl
end Go.Proofs.YthpndgcaoeokeaaGreatDoor
namespace Go.Proofs.YthpndgcaoeokeaaGreatDoor
open Go.RowKit

theorem from_add (a : Int) (m n : Nat) : from' a (m + n) = from' a m ++ from' (a + m) n := by
  unfold from'
  rw [List.range_add, List.map_append, List.map_map]
  congr 1
  apply List.map_congr_left
  intro i _
  simp only [Function.comp]
  omega
theorem from_mem {a x : Int} {n : Nat} : x ∈ from' a n ↔ a ≤ x ∧ x < a + n := by
  unfold from'
  rw [List.mem_map]
  constructor
  · rintro ⟨i, hi, rfl⟩
    have := List.mem_range.1 hi
    omega
  · rintro ⟨h0, h1⟩
    exact ⟨(x - a).toNat, List.mem_range.2 (by omega), by omega⟩
theorem per_next (r : RuleD) (s k : Int) : perB r s k = perA r s (k + 1) := by
  unfold perA perB
  by_cases h0 : r.fq = 0
  · rw [if_pos h0, if_pos h0]; omega
  rw [if_neg h0, if_neg h0]
  by_cases h1 : r.fq = 1
  · rw [if_pos h1, if_pos h1]
    have : wkIn (s + (k + 1) * 7) r.ws = wkIn (s + k * 7) r.ws := by unfold wkIn; omega
    rw [this]; omega
  rw [if_neg h1, if_neg h1]
  by_cases h2 : r.fq = 2
  · rw [if_pos h2, if_pos h2, Int.add_assoc]
  rw [if_neg h2, if_neg h2, Int.add_assoc]
/-- a period's days at least -/
def perE (r : RuleD) : Int := if r.fq = 0 then 1 else if r.fq = 1 then 7 else if r.fq = 2 then 28 else 365
theorem per_up (r : RuleD) (s k : Int) : perA r s k + perE r ≤ perA r s (k + 1) := by
  rw [← per_next]
  unfold perA perB perE
  by_cases h0 : r.fq = 0
  · simp only [if_pos h0]; omega
  simp only [if_neg h0]
  by_cases h1 : r.fq = 1
  · simp only [if_pos h1]; omega
  simp only [if_neg h1]
  by_cases h2 : r.fq = 2
  · simp only [if_pos h2]
    have := (mBeg_step (Cal.ofY s) (Cal.ofM s + k)).1
    omega
  simp only [if_neg h2]
  rw [Cal.num_step]
  have := Cal.yd_bd (Cal.ofY s + k)
  omega
theorem perE_pos (r : RuleD) : 1 ≤ perE r := by unfold perE; repeat' split <;> omega
/-- the choices of the periods in turn, where none is left out -/
theorem chL_fit (r : RuleD) (s last : Int) (hi : r.iv = 1) (hp : r.pls = []) : ∀ (g : Nat) (k : Int), last < (perA r s k + g * perE r) * 86400 → ∃ m : Nat, chL r s last g k = (from' (perA r s k) m).filter (fitA r) ∧ last < (perA r s k + m) * 86400
  | 0, k, h => ⟨0, rfl, by simpa using h⟩
  | g + 1, k, h => by
    by_cases hl : last < perA r s k * 86400
    · exact ⟨0, by rw [chL_end _ _ _ _ _ hl]; rfl, by simpa using hl⟩
    · have h1 := per_up r s k
      have h2 := perE_pos r
      obtain ⟨m, e, hm⟩ := chL_fit r s last hi hp g (k + 1) (by
        have : ((g + 1 : Nat) : Int) * perE r = g * perE r + perE r := by rw [Int.natCast_add, Int.add_mul]; simp
        rw [this] at h
        omega)
      rw [chL_go _ _ _ _ _ hl, hi, e]
      have e2 : choiceL r (perA r s k) (perN r s k) = (from' (perA r s k) (perN r s k)).filter (fitA r) := by unfold choiceL; rw [if_pos (by rw [hp]; rfl)]; rfl
      have e3 : perA r s (k + 1) = perA r s k + (perN r s k : Nat) := by unfold perN; rw [per_next]; omega
      rw [e2, e3, ← List.filter_append, ← from_add]
      exact ⟨_, rfl, by rw [e3] at hm; rw [Int.natCast_add]; omega⟩
/-- so many of a list as are counted, or all -/
def tkC (ct : Int) (l : List Int) : List Int := if ct = 0 then l else l.take ct.toNat
theorem dys_go (st last ct : Int) (s0 : 0 ≤ st) : ∀ (l : List Int) (c : Int), 0 ≤ c → (ct = 0 ∨ c < ct) →
    dysF st 0 last ct c l = (if ct = 0 then id else List.take (ct - c).toNat) ((l.filter fun d => decide (st / 86400 ≤ d)).takeWhile fun d => decide (d * 86400 ≤ last))
  | [], c, _, _ => by rw [dysF]; split <;> simp
  | d :: l, c, hc, hh => by
    rw [dysF]
    by_cases h1 : d * 86400 < st - st % 86400
    · have e : (d :: l).filter (fun d => decide (st / 86400 ≤ d)) = l.filter fun d => decide (st / 86400 ≤ d) := by rw [List.filter_cons, if_neg (by simp; omega)]
      rw [if_pos h1, dys_go st last ct s0 l c hc hh, e]
    have e : (d :: l).filter (fun d => decide (st / 86400 ≤ d)) = d :: l.filter fun d => decide (st / 86400 ≤ d) := by rw [List.filter_cons, if_pos (by simp; omega)]
    rw [if_neg h1, e]
    by_cases h2 : last < d * 86400
    · have e2 : (d :: l.filter fun d => decide (st / 86400 ≤ d)).takeWhile (fun d => decide (d * 86400 ≤ last)) = [] := by rw [List.takeWhile_cons, if_neg (by simp; omega)]
      rw [if_pos h2, e2]
      split <;> simp
    have e2 : (d :: l.filter fun d => decide (st / 86400 ≤ d)).takeWhile (fun d => decide (d * 86400 ≤ last)) = d :: (l.filter fun d => decide (st / 86400 ≤ d)).takeWhile fun d => decide (d * 86400 ≤ last) := by rw [List.takeWhile_cons, if_pos (by simp; omega)]
    rw [if_neg h2, if_pos (show 0 - st % 86400 ≤ d * 86400 by omega), e2, List.singleton_append]
    by_cases h3 : ct = 0
    · rw [if_neg (show ¬ c + 1 = ct by omega), dys_go st last ct s0 l (c + 1) (by omega) (.inl h3), if_pos h3, if_pos h3]
      rfl
    · rw [if_neg h3]
      by_cases h4 : c + 1 = ct
      · rw [if_pos h4, show (ct - c).toNat = 1 by omega]
        simp
      · rw [if_neg h4, dys_go st last ct s0 l (c + 1) (by omega) (.inr (by omega)), if_neg h3, show (ct - c).toNat = (ct - (c + 1)).toNat + 1 by omega, List.take_succ_cons]
/-- the days of a rule -/
theorem dys_all (r : RuleD) (st last : Int) (N : Nat) (s0 : 0 ≤ st) (hi : r.iv = 1) (hp : r.pls = []) (hc : 0 ≤ r.ct) (hA : perA (startW r (st / 86400)) (st / 86400) 0 ≤ st / 86400) (hg : last < (perA (startW r (st / 86400)) (st / 86400) 0 + (kMax r).toNat * perE r) * 86400) (hN0 : last < (st / 86400 + N) * 86400) (hN1 : (st / 86400 + N - 1) * 86400 ≤ last) :
    dysL r st 0 last = tkC r.ct ((from' (st / 86400) N).filter (fitA (startW r (st / 86400)))) := by
  obtain ⟨r', hr⟩ : ∃ r', r' = startW r (st / 86400) := ⟨_, rfl⟩
  have e1 : r'.iv = 1 ∧ r'.pls = [] ∧ r'.fq = r.fq ∧ r'.ct = r.ct := by
    rw [hr]
    unfold startW
    repeat' split
    all_goals exact ⟨hi, hp, rfl, rfl⟩
  obtain ⟨i1, i2, i3, i4⟩ := e1
  have e2 : kMax r' = kMax r := by unfold kMax; rw [i3]
  have e3 : perE r' = perE r := by unfold perE; rw [i3]
  have e4 : firstD r' st 0 = 0 := by unfold firstD; rw [if_pos (.inr s0)]
  unfold dysL chosenL
  rw [← hr] at hA hg ⊢
  rw [e4, e2]
  obtain ⟨m, em, hm⟩ := chL_fit r' (st / 86400) last i1 i2 (kMax r).toNat 0 (by rw [e3]; exact hg)
  rw [em, dys_go st last r.ct s0 _ 0 (by omega) (by omega)]
  have key : ((((from' (perA r' (st / 86400) 0) m).filter (fitA r')).filter fun d => decide (st / 86400 ≤ d)).takeWhile fun d => decide (d * 86400 ≤ last)) = (from' (st / 86400) N).filter (fitA r') := by
    generalize perA r' (st / 86400) 0 = a at *
    generalize st / 86400 = s at *
    have hb : s + N ≤ a + m := by omega
    obtain ⟨u, hu⟩ : ∃ u : Nat, s = a + u := ⟨(s - a).toNat, by omega⟩
    obtain ⟨v, hv⟩ : ∃ v : Nat, m = u + (N + v) := ⟨m - (u + N), by omega⟩
    rw [hv, from_add, from_add, ← hu, List.filter_append, List.filter_append, List.filter_append, List.filter_append]
    have p1 : ((from' a u).filter (fitA r')).filter (fun d => decide (s ≤ d)) = [] := by
      rw [List.filter_eq_nil_iff]
      intro d hd
      have := from_mem.1 (List.mem_filter.1 hd).1
      simp
      omega
    have p2 : ((from' s N).filter (fitA r')).filter (fun d => decide (s ≤ d)) = (from' s N).filter (fitA r') := by
      rw [List.filter_eq_self]
      intro d hd
      have := from_mem.1 (List.mem_filter.1 hd).1
      simp
      omega
    rw [p1, List.nil_append, p2, List.takeWhile_append_of_pos]
    · have p3 : ∀ L : List Int, (∀ d ∈ L, ¬ d * 86400 ≤ last) → L.takeWhile (fun d => decide (d * 86400 ≤ last)) = [] := by
        intro L h
        cases L with
        | nil => rfl
        | cons d r => rw [List.takeWhile_cons, if_neg (by simpa using h d (by simp))]
      rw [p3 _ (fun d hd => by
        have hm2 := (List.mem_filter.1 hd).1
        have := from_mem.1 (List.mem_filter.1 hm2).1
        omega), List.append_nil]
    · intro d hd
      have := from_mem.1 (List.mem_filter.1 hd).1
      simp only [decide_eq_true_eq]
      omega
  rw [key]
  unfold tkC
  split
  · rfl
  · rw [Int.sub_zero]
end Go.Proofs.YthpndgcaoeokeaaGreatDoor
namespace Go.Proofs.YthpndgcaoeokeaaGreatDoor
open Go.RowKit

/-- the days of a month -/
theorem mBeg_len (y m : Int) : mBeg y (m + 1) = mBeg y m + Cal.md (y + (m - 1) / 12) ((m - 1) % 12 + 1) := by
  unfold mBeg
  by_cases h : (m - 1) % 12 = 11
  · rw [show y + (m + 1 - 1) / 12 = y + (m - 1) / 12 + 1 from by omega, show (m + 1 - 1) % 12 + 1 = 1 from by omega, h, Cal.num_dec, show (11 + 1 : Int) = 12 from rfl, Cal.md12]
  · rw [show y + (m + 1 - 1) / 12 = y + (m - 1) / 12 from by omega, show (m + 1 - 1) % 12 + 1 = (m - 1) % 12 + 1 + 1 from by omega]
    exact Cal.num_month (y + (m - 1) / 12) ((m - 1) % 12 + 1) (by omega) (by omega)
theorem ofD_in {y m j : Int} (h : 0 ≤ j + 719468) (h0 : mBeg y m ≤ j) (h1 : j < mBeg y (m + 1)) : Cal.ofD j = j - mBeg y m + 1 := by
  rw [mBeg_len] at h1
  have e : Cal.num (y + (m - 1) / 12) ((m - 1) % 12 + 1) (j - mBeg y m + 1) = j := by
    rw [Cal.num_day]
    show mBeg y m + _ - 1 = j
    omega
  exact (Cal.of_is h ⟨by omega, by omega, by omega, by omega⟩ e).2.2
end Go.Proofs.YthpndgcaoeokeaaGreatDoor
namespace Go.Proofs.YthpndgcaoeokeaaGreatDoor
open Go.RowKit

theorem print_day (n : Int) : (⟨(printL n).toArray⟩ : ByteArray).extract 6 8 = ⟨(pad 2 (Cal.ofD (n / 86400))).toArray⟩ := by
  apply ByteArray.ext
  rw [ByteArray.data_extract]
  simp only [printL, pad]
  simp
end Go.Proofs.YthpndgcaoeokeaaGreatDoor
