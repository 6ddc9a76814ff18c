/- The periods of a rule (the program's). Months in a row, and days in order (of no program). How far from the start's period a day's lies (the program's). Whether a day fits a rule (the program's): BYDAY, and all. -/
import Derived.Test.YthpndgcaoeokeaaGreatDoorCm15
namespace Go.Proofs.YthpndgcaoeokeaaGreatDoor
open Go.RowKit Go.Sort

def perA (r : RuleD) (s k : Int) : Int :=
  if r.fq = 0 then s + k else if r.fq = 1 then s + k * 7 - wkIn (s + k * 7) r.ws else if r.fq = 2 then mBeg (Cal.ofY s) (Cal.ofM s + k) else Cal.num (Cal.ofY s + k) 1 1
def perB (r : RuleD) (s k : Int) : Int :=
  if r.fq = 0 then s + k + 1 else if r.fq = 1 then s + k * 7 - wkIn (s + k * 7) r.ws + 7 else if r.fq = 2 then mBeg (Cal.ofY s) (Cal.ofM s + k + 1) else Cal.num (Cal.ofY s + k + 1) 1 1
/-- as far as distances go -/
def kMax (r : RuleD) : Int := if r.fq = 0 then 200000 else if r.fq = 1 then 25000 else if r.fq = 2 then 6000 else 500

theorem bl_three (w : World) (a b c : Obj) : Below w.heap.size w (((w.alloc a).alloc b).alloc c) := (((Below.refl _ _).alloc (Nat.le_refl _) _).alloc (by simp) _).alloc (by simp; omega) _
theorem row3_0 (w : World) (cs : List Value) (t : TypeId) (b c : Obj) : RowAt (((w.alloc (.cells cs.toArray t)).alloc b).alloc c) w.heap.size cs t := ((RowAt.new w cs t).on ((Below.refl _ _).alloc (Nat.le_refl _) _)).on ((Below.refl _ _).alloc (Nat.le_refl _) _)
theorem row3_1 (w : World) (a : Obj) (cs : List Value) (t : TypeId) (c : Obj) : RowAt (((w.alloc a).alloc (.cells cs.toArray t)).alloc c) (w.heap.size + 1) cs t := by
  have := (RowAt.new (w.alloc a) cs t).on ((Below.refl _ _).alloc (Nat.le_refl _) c)
  simpa using this
theorem row3_2 (w : World) (a b : Obj) (cs : List Value) (t : TypeId) : RowAt (((w.alloc a).alloc b).alloc (.cells cs.toArray t)) (w.heap.size + 1 + 1) cs t := by
  have := RowAt.new ((w.alloc a).alloc b) cs t
  simpa using this

set_option maxRecDepth 100000 in
set_option maxHeartbeats 8000000 in
theorem period_n (r : RuleD) (m md wk pl : Value) (tx : ByteArray) (s k : Int) (w : World) (hl : RuleL w r m md wk pl) (ho : RuleOk r) (s0 : 0 ≤ s) (s1 : s ≤ 84010) (k0 : 0 ≤ k) (k1 : k ≤ kMax r) :
    Calls Tryz.prog 342 #[ruleV r.fq r.iv r.ct r.un m md wk pl r.ws tx, dnV s, .int .i64 k] w fun e w' => e = .returned (spanV (perA r s k) (perB r s k)) ∧ Below w.heap.size w w' := by
  have hf0 := ho.fq0
  have hf3 := ho.fq3
  have hw0 := ho.ws0
  have hw6 := ho.ws6
  have hr := rg_bd s (by omega) (by omega)
  have hy := year_bd s (by omega) (by omega)
  obtain ⟨a1, e1⟩ := hl.ms.form
  obtain ⟨a2, e2⟩ := hl.mds.form
  obtain ⟨a3, e3⟩ := hl.wks.form
  obtain ⟨a4, e4⟩ := hl.pls.form
  have hwi := wkIn_bd (s + k * 7) r.ws
  have hP0 : Hid (r.fq = 0 → ∀ W, Calls Tryz.prog 351 #[dnV s, .int .i64 k] W fun e w' => e = .returned (dnV (s + k)) ∧ Below W.heap.size W w') := hide fun h W => by
    unfold kMax at k1; rw [if_pos h] at k1; exact plus_n s k W (by omega) (by omega) (by omega) (by omega)
  have hA0 : Hid (r.fq = 0 → ∀ W, Calls Tryz.prog 350 #[dnV (s + k)] W fun e w' => e = .returned (spanV (perA r s k) (perB r s k)) ∧ Below W.heap.size W w') := hide fun h W => by
    unfold kMax at k1; rw [if_pos h] at k1; unfold perA perB; rw [if_pos h, if_pos h]; exact alone_n (s + k) W (by omega) (by omega)
  have hP1 : Hid (r.fq = 1 → ∀ W, Calls Tryz.prog 351 #[dnV s, .int .i64 (k * 7)] W fun e w' => e = .returned (dnV (s + k * 7)) ∧ Below W.heap.size W w') := hide fun h W => by
    unfold kMax at k1; rw [if_neg (by omega), if_pos h] at k1; exact plus_n s (k * 7) W (by omega) (by omega) (by omega) (by omega)
  have hA1 : Hid (r.fq = 1 → ∀ W, Calls Tryz.prog 352 #[dnV (s + k * 7), .int .i64 r.ws] W fun e w' => e = .returned (spanV (perA r s k) (perB r s k)) ∧ Below W.heap.size W w') := hide fun h W => by
    unfold kMax at k1; rw [if_neg (by omega), if_pos h] at k1; unfold perA perB; rw [if_neg (by omega), if_pos h, if_neg (by omega), if_pos h]; exact week_n (s + k * 7) r.ws W (by omega) (by omega) (by omega) (by omega)
  have hA2 : Hid (r.fq = 2 → ∀ W, Calls Tryz.prog 353 #[.int .i64 (Cal.ofY s), .int .i64 (Cal.ofM s + k)] W fun e w' => e = .returned (spanV (perA r s k) (perB r s k)) ∧ Below W.heap.size W w') := hide fun h W => by
    unfold kMax at k1; rw [if_neg (by omega), if_neg (by omega), if_pos h] at k1; unfold perA perB; rw [if_neg (by omega), if_neg (by omega), if_pos h, if_neg (by omega), if_neg (by omega), if_pos h]; exact month_n (Cal.ofY s) (Cal.ofM s + k) W (by omega) (by omega) (by omega) (by omega)
  have hA3 : Hid (r.fq = 3 → ∀ W, Calls Tryz.prog 354 #[.int .i64 (Cal.ofY s + k)] W fun e w' => e = .returned (spanV (perA r s k) (perB r s k)) ∧ Below W.heap.size W w') := hide fun h W => by
    unfold kMax at k1; rw [if_neg (by omega), if_neg (by omega), if_neg (by omega)] at k1; unfold perA perB; rw [if_neg (by omega), if_neg (by omega), if_neg (by omega), if_neg (by omega), if_neg (by omega), if_neg (by omega)]; exact year_n (Cal.ofY s + k) W (by omega) (by omega)
  have hk9 : k ≤ 200000 := by
    unfold kMax at k1; split at k1 <;> (try split at k1) <;> (try split at k1) <;> omega
  clear k1 hl ho
  generalize perA r s k = A at *
  generalize perB r s k = B at *
  generalize r.ms.length = n1 at *
  generalize r.mds.length = n2 at *
  generalize r.wks.length = n3 at *
  generalize r.pls.length = n4 at *
  generalize r.fq = fq at *
  generalize r.iv = iv at *
  generalize r.ct = ct at *
  generalize r.un = un at *
  generalize r.ws = ws at *
  subst e1 e2 e3 e4
  unfold dnV dayA ruleV spanV at *
  have r0 := row3_0 w [.int .i64 fq, .int .i64 iv, .int .i64 ct, .int .i64 un, .slice a1 n1 n1, .slice a2 n2 n2, .slice a3 n3 n3, .slice a4 n4 n4, .int .i64 ws, .string tx] 76 (.cells #[.int .i64 (Cal.ofY s), .int .i64 (Cal.ofM s), .int .i64 (Cal.ofD s)] 106) (.cells #[.int .i64 0, .int .i64 0, .int .i64 0, .int .i64 0, .int .i64 0, .int .i64 0] 370)
  have r1 := row3_1 w (.cells #[.int .i64 fq, .int .i64 iv, .int .i64 ct, .int .i64 un, .slice a1 n1 n1, .slice a2 n2 n2, .slice a3 n3 n3, .slice a4 n4 n4, .int .i64 ws, .string tx] 76) [.int .i64 (Cal.ofY s), .int .i64 (Cal.ofM s), .int .i64 (Cal.ofD s)] 106 (.cells #[.int .i64 0, .int .i64 0, .int .i64 0, .int .i64 0, .int .i64 0, .int .i64 0] 370)
  have r2 := row3_2 w (.cells #[.int .i64 fq, .int .i64 iv, .int .i64 ct, .int .i64 un, .slice a1 n1 n1, .slice a2 n2 n2, .slice a3 n3 n3, .slice a4 n4 n4, .int .i64 ws, .string tx] 76) (.cells #[.int .i64 (Cal.ofY s), .int .i64 (Cal.ofM s), .int .i64 (Cal.ofD s)] 106) [.int .i64 0, .int .i64 0, .int .i64 0, .int .i64 0, .int .i64 0, .int .i64 0] 370
  have hbw := bl_three w (.cells #[.int .i64 fq, .int .i64 iv, .int .i64 ct, .int .i64 un, .slice a1 n1 n1, .slice a2 n2 n2, .slice a3 n3 n3, .slice a4 n4 n4, .int .i64 ws, .string tx] 76) (.cells #[.int .i64 (Cal.ofY s), .int .i64 (Cal.ofM s), .int .i64 (Cal.ofD s)] 106) (.cells #[.int .i64 0, .int .i64 0, .int .i64 0, .int .i64 0, .int .i64 0, .int .i64 0] 370)
  go_enter Tryz.func342, Tryz.ntmps342
  go_upto_region 1 with fail
  generalize ((w.alloc (.cells #[.int .i64 fq, .int .i64 iv, .int .i64 ct, .int .i64 un, .slice a1 n1 n1, .slice a2 n2 n2, .slice a3 n3 n3, .slice a4 n4 n4, .int .i64 ws, .string tx] 76)).alloc (.cells #[.int .i64 (Cal.ofY s), .int .i64 (Cal.ofM s), .int .i64 (Cal.ofD s)] 106)).alloc (.cells #[.int .i64 0, .int .i64 0, .int .i64 0, .int .i64 0, .int .i64 0, .int .i64 0] 370) = W at *
  obtain ⟨g0, g1, g2, g3, g4, g5, g6, g7, g8, g9⟩ := cells10 r0
  obtain ⟨c0, c1, c2, _, _, _⟩ := cells3 r1
  rcases (by omega : fq = 0 ∨ fq = 1 ∨ fq = 2 ∨ fq = 3) with rfl | rfl | rfl | rfl
  · replace hP0 := hide (hP0.out rfl)
    replace hA0 := hide (hA0.out rfl)
    clear hP1 hA1 hA2 hA3
    go_wp2_with fail
    refine (hP0.out _).mono ?_
    rintro e w3 ⟨rfl, hb3⟩
    go_wp2_with fail
    refine (hA0.out _).mono ?_
    rintro e w4 ⟨rfl, hb4⟩
    replace hbw := hbw.trans ((hb3.trans (hb4.mono hb3.size)).mono hbw.size)
    obtain ⟨⟨z0, z1, z2, z3, z4, z5⟩, y0, y1, y2, y3, y4, y5⟩ := cells6 ((r2.on hb3).on hb4)
    go_wp2_with fail
    exact bodyPost_ret (v := .agg #[.int .i64 (Cal.ofY A), .int .i64 (Cal.ofM A), .int .i64 (Cal.ofD A), .int .i64 (Cal.ofY B), .int .i64 (Cal.ofM B), .int .i64 (Cal.ofD B)]) (by simp [results, Tryz.results342, go_sem, z0, z1, z2, z3, z4, z5]) rfl ⟨rfl, ((((((hbw.setCell (by simp; omega) _).setCell (by simp; omega) _).setCell (by simp; omega) _).setCell (by simp; omega) _).setCell (by simp; omega) _).setCell (by simp; omega) _)⟩
  · replace hP1 := hide (hP1.out rfl)
    replace hA1 := hide (hA1.out rfl)
    clear hP0 hA0 hA2 hA3
    have hwr : IntKind.i64.wrap (k * 7) = k * 7 := wrap_ok (by omega) (by omega)
    go_upto_region 6 with fail
    go_region_with (first
      | (go_at_call 351; refine (hP1.out _).mono ?_; rintro e w3 ⟨rfl, hb3⟩; have hb3' : Below W.heap.size W w3 := ⟨hb3.os, hb3.tape, hb3.output, hb3.size, hb3.block⟩; have k8 := (r0.on hb3').cell (k := 8) rfl)
      | (go_at_call 352; refine (hA1.out _).mono ?_; rintro e w4 ⟨rfl, hb4⟩; have hb4' : Below w3.heap.size w3 w4 := ⟨hb4.os, hb4.tape, hb4.output, hb4.size, hb4.block⟩; obtain ⟨⟨z0, z1, z2, z3, z4, z5⟩, y0, y1, y2, y3, y4, y5⟩ := cells6 ((r2.on hb3').on hb4')))
    all_goals go_wp2_with fail
    all_goals
      have hbx := hbw.trans ((hb3'.trans (hb4'.mono hb3'.size)).mono hbw.size)
      exact bodyPost_ret (v := .agg #[.int .i64 (Cal.ofY A), .int .i64 (Cal.ofM A), .int .i64 (Cal.ofD A), .int .i64 (Cal.ofY B), .int .i64 (Cal.ofM B), .int .i64 (Cal.ofD B)]) (by simp [results, Tryz.results342, go_sem, z0, z1, z2, z3, z4, z5]) rfl ⟨rfl, ((((((hbx.setCell (by simp; omega) _).setCell (by simp; omega) _).setCell (by simp; omega) _).setCell (by simp; omega) _).setCell (by simp; omega) _).setCell (by simp; omega) _)⟩
  · replace hA2 := hide (hA2.out rfl)
    clear hP0 hA0 hP1 hA1 hA3
    go_wp2_with fail
    refine (hA2.out _).mono ?_
    rintro e w4 ⟨rfl, hb4⟩
    replace hbw := hbw.trans (hb4.mono hbw.size)
    obtain ⟨⟨z0, z1, z2, z3, z4, z5⟩, y0, y1, y2, y3, y4, y5⟩ := cells6 (r2.on hb4)
    go_wp2_with fail
    exact bodyPost_ret (v := .agg #[.int .i64 (Cal.ofY A), .int .i64 (Cal.ofM A), .int .i64 (Cal.ofD A), .int .i64 (Cal.ofY B), .int .i64 (Cal.ofM B), .int .i64 (Cal.ofD B)]) (by simp [results, Tryz.results342, go_sem, z0, z1, z2, z3, z4, z5]) rfl ⟨rfl, ((((((hbw.setCell (by simp; omega) _).setCell (by simp; omega) _).setCell (by simp; omega) _).setCell (by simp; omega) _).setCell (by simp; omega) _).setCell (by simp; omega) _)⟩
  · replace hA3 := hide (hA3.out rfl)
    clear hP0 hA0 hP1 hA1 hA2
    go_wp2_with fail
    refine (hA3.out _).mono ?_
    rintro e w4 ⟨rfl, hb4⟩
    replace hbw := hbw.trans (hb4.mono hbw.size)
    obtain ⟨⟨z0, z1, z2, z3, z4, z5⟩, y0, y1, y2, y3, y4, y5⟩ := cells6 (r2.on hb4)
    go_wp2_with fail
    exact bodyPost_ret (v := .agg #[.int .i64 (Cal.ofY A), .int .i64 (Cal.ofM A), .int .i64 (Cal.ofD A), .int .i64 (Cal.ofY B), .int .i64 (Cal.ofM B), .int .i64 (Cal.ofD B)]) (by simp [results, Tryz.results342, go_sem, z0, z1, z2, z3, z4, z5]) rfl ⟨rfl, ((((((hbw.setCell (by simp; omega) _).setCell (by simp; omega) _).setCell (by simp; omega) _).setCell (by simp; omega) _).setCell (by simp; omega) _).setCell (by simp; omega) _)⟩
end Go.Proofs.YthpndgcaoeokeaaGreatDoor
namespace Go.Proofs.YthpndgcaoeokeaaGreatDoor

theorem mBeg_step (y m : Int) : mBeg y m + 28 ≤ mBeg y (m + 1) ∧ mBeg y (m + 1) ≤ mBeg y m + 31 := by
  unfold mBeg
  by_cases h : (m - 1) % 12 = 11
  · rw [show y + (m + 1 - 1) / 12 = y + (m - 1) / 12 + 1 from by omega, show (m + 1 - 1) % 12 + 1 = 1 from by omega, h, Cal.num_dec, show (11 + 1 : Int) = 12 from rfl]
    omega
  · rw [show y + (m + 1 - 1) / 12 = y + (m - 1) / 12 from by omega, show (m + 1 - 1) % 12 + 1 = (m - 1) % 12 + 1 + 1 from by omega]
    have e := Cal.num_month (y + (m - 1) / 12) ((m - 1) % 12 + 1) (by omega) (by omega)
    have := Cal.md_bd (y + (m - 1) / 12) ((m - 1) % 12 + 1)
    omega
theorem mBeg_up (y m : Int) (k : Nat) : mBeg y m + 28 * k ≤ mBeg y (m + k) ∧ mBeg y (m + k) ≤ mBeg y m + 31 * k := by
  induction k with
  | zero => simp
  | succ k ih =>
    have := mBeg_step y (m + k)
    rw [show m + ((k + 1 : Nat) : Int) = m + k + 1 from by omega]
    omega
theorem mBeg_same {y m y' m' : Int} (h : 12 * y + m = 12 * y' + m') : mBeg y m = mBeg y' m' := by
  unfold mBeg
  rw [show y + (m - 1) / 12 = y' + (m' - 1) / 12 from by omega, show (m - 1) % 12 = (m' - 1) % 12 from by omega]
theorem mBeg_le {y m y' m' : Int} (h : 12 * y + m ≤ 12 * y' + m') : mBeg y m ≤ mBeg y' m' := by
  obtain ⟨k, hk⟩ : ∃ k : Nat, 12 * y' + m' = 12 * y + (m + k) := ⟨(12 * y' + m' - 12 * y - m).toNat, by omega⟩
  rw [mBeg_same hk]
  have := (mBeg_up y m k).1
  omega
theorem ofYM_mono {a b : Int} (h0 : -10000 ≤ a) (h : a ≤ b) : 12 * Cal.ofY a + Cal.ofM a ≤ 12 * Cal.ofY b + Cal.ofM b := by
  have ha := month_around a h0
  have hb := month_around b (by omega)
  rcases Int.lt_or_le (12 * Cal.ofY b + Cal.ofM b) (12 * Cal.ofY a + Cal.ofM a) with hlt | hge
  · have := mBeg_le (y := Cal.ofY b) (m := Cal.ofM b + 1) (y' := Cal.ofY a) (m' := Cal.ofM a) (by omega)
    omega
  · exact hge
theorem ofY_mono {a b : Int} (h0 : -10000 ≤ a) (h : a ≤ b) : Cal.ofY a ≤ Cal.ofY b := by
  have ha := Cal.of_valid a (by omega)
  have hb := Cal.of_valid b (by omega)
  have := ofYM_mono h0 h
  obtain ⟨a1, a2, _⟩ := ha
  obtain ⟨b1, b2, _⟩ := hb
  omega
end Go.Proofs.YthpndgcaoeokeaaGreatDoor
namespace Go.Proofs.YthpndgcaoeokeaaGreatDoor
open Go.RowKit Go.Sort

def distD (r : RuleD) (s d : Int) : Int :=
  if r.fq = 0 then d - s else if r.fq = 1 then (d - (s - wkIn s r.ws)) / 7 else if r.fq = 2 then (Cal.ofY d - Cal.ofY s) * 12 + Cal.ofM d - Cal.ofM s else Cal.ofY d - Cal.ofY s
def firstD (r : RuleD) (start from_ : Int) : Int :=
  if 0 < r.ct ∨ from_ ≤ start then 0 else distD r (start / 86400) (from_ / 86400) - distD r (start / 86400) (from_ / 86400) % r.iv

theorem span_fst (a b : Int) (w : World) : (Instr.field 370 (spanV a b) 0).run Tryz.prog w = .ok (dnV a) w := by
  unfold spanV dnV dayA Instr.field
  simp [part, asAgg, go_sem]
theorem week_in (W : World) (n s : Int) (D : Nat) (os : Array Obj) (h0 : -699990 ≤ n) (h1 : n ≤ 899990) (s0 : 0 ≤ s) (s1 : s ≤ 6) :
    Calls Tryz.prog 352 #[dnV n, .int .i64 s] (grow (redrawn W D) os) fun e w'' => e = .returned (spanV (n - wkIn n s) (n - wkIn n s + 7)) ∧ ∃ p : Regrown, w'' = grow (redrawn W p.d) p.os :=
  Calls.regrown_of (week_n n s _ h0 h1 s0 s1)

set_option maxRecDepth 100000 in
set_option maxHeartbeats 8000000 in
theorem distance_n (r : RuleD) (m md wk pl : Value) (tx : ByteArray) (s d : Int) (w : World) (hl : RuleL w r m md wk pl) (ho : RuleOk r) (s0 : 0 ≤ s) (s1 : s ≤ d) (d1 : d ≤ 84010) :
    Calls Tryz.prog 349 #[ruleV r.fq r.iv r.ct r.un m md wk pl r.ws tx, dnV s, dnV d] w fun e w' => e = .returned (.int .i64 (distD r s d)) ∧ Below w.heap.size w w' := by
  have hf0 := ho.fq0
  have hf3 := ho.fq3
  have hw0 := ho.ws0
  have hw6 := ho.ws6
  have hr := rg_bd s (by omega) (by omega)
  have hrd := rg_bd d (by omega) (by omega)
  have hwi := wkIn_bd s r.ws
  obtain ⟨a1, e1⟩ := hl.ms.form
  obtain ⟨a2, e2⟩ := hl.mds.form
  obtain ⟨a3, e3⟩ := hl.wks.form
  obtain ⟨a4, e4⟩ := hl.pls.form
  have h0 : Hid (r.fq = 0 → distD r s d = d - s) := hide fun h => by unfold distD; rw [if_pos h]
  have h1 : Hid (r.fq = 1 → distD r s d = (d - (s - wkIn s r.ws)) / 7) := hide fun h => by unfold distD; rw [if_neg (by omega), if_pos h]
  have h2 : Hid (r.fq = 2 → distD r s d = (Cal.ofY d - Cal.ofY s) * 12 + Cal.ofM d - Cal.ofM s) := hide fun h => by unfold distD; rw [if_neg (by omega), if_neg (by omega), if_pos h]
  have h3 : Hid (r.fq = 3 → distD r s d = Cal.ofY d - Cal.ofY s) := hide fun h => by unfold distD; rw [if_neg (by omega), if_neg (by omega), if_neg (by omega)]
  have hT : Hid (∀ W, Calls Tryz.prog 358 #[dnV s, dnV d] W fun e w' => e = .returned (.int .i64 (d - s)) ∧ Below W.heap.size W w') := hide fun W => to_n s d W (by omega) (by omega) (by omega) (by omega)
  have hW : Hid (∀ W D os, Calls Tryz.prog 352 #[dnV s, .int .i64 r.ws] (grow (redrawn W D) os) fun e w'' => e = .returned (spanV (s - wkIn s r.ws) (s - wkIn s r.ws + 7)) ∧ ∃ p : Regrown, w'' = grow (redrawn W p.d) p.os) := hide fun W D os => week_in W s r.ws D os (by omega) (by omega) hw0 hw6
  have hT1 : Hid (∀ W D os, Calls Tryz.prog 358 #[dnV (s - wkIn s r.ws), dnV d] (grow (redrawn W D) os) fun e w'' => e = .returned (.int .i64 (d - (s - wkIn s r.ws))) ∧ ∃ p : Regrown, w'' = grow (redrawn W p.d) p.os) := hide fun W D os => to_in W (s - wkIn s r.ws) d D os (by omega) (by omega) (by omega) (by omega)
  clear hl ho
  have hws : -10 ≤ s - wkIn s r.ws ∧ s - wkIn s r.ws ≤ d := by omega
  have hsf := span_fst (s - wkIn s r.ws) (s - wkIn s r.ws + 7)
  generalize spanV (s - wkIn s r.ws) (s - wkIn s r.ws + 7) = SP at *
  generalize hfw : s - wkIn s r.ws = fw at *
  clear hfw
  generalize hDF : dnV fw = DF at *
  clear hDF
  generalize distD r s d = DD at *
  generalize r.ms.length = n1 at *
  generalize r.mds.length = n2 at *
  generalize r.wks.length = n3 at *
  generalize r.pls.length = n4 at *
  generalize r.fq = fq at *
  generalize r.iv = iv at *
  generalize r.ct = ct at *
  generalize r.un = un at *
  generalize r.ws = ws at *
  subst e1 e2 e3 e4
  unfold dnV dayA ruleV at *
  have r0 := row3_0 w [.int .i64 fq, .int .i64 iv, .int .i64 ct, .int .i64 un, .slice a1 n1 n1, .slice a2 n2 n2, .slice a3 n3 n3, .slice a4 n4 n4, .int .i64 ws, .string tx] 76 (.cells #[.int .i64 (Cal.ofY s), .int .i64 (Cal.ofM s), .int .i64 (Cal.ofD s)] 106) (.cells #[.int .i64 (Cal.ofY d), .int .i64 (Cal.ofM d), .int .i64 (Cal.ofD d)] 106)
  have r1 := row3_1 w (.cells #[.int .i64 fq, .int .i64 iv, .int .i64 ct, .int .i64 un, .slice a1 n1 n1, .slice a2 n2 n2, .slice a3 n3 n3, .slice a4 n4 n4, .int .i64 ws, .string tx] 76) [.int .i64 (Cal.ofY s), .int .i64 (Cal.ofM s), .int .i64 (Cal.ofD s)] 106 (.cells #[.int .i64 (Cal.ofY d), .int .i64 (Cal.ofM d), .int .i64 (Cal.ofD d)] 106)
  have r2 := row3_2 w (.cells #[.int .i64 fq, .int .i64 iv, .int .i64 ct, .int .i64 un, .slice a1 n1 n1, .slice a2 n2 n2, .slice a3 n3 n3, .slice a4 n4 n4, .int .i64 ws, .string tx] 76) (.cells #[.int .i64 (Cal.ofY s), .int .i64 (Cal.ofM s), .int .i64 (Cal.ofD s)] 106) [.int .i64 (Cal.ofY d), .int .i64 (Cal.ofM d), .int .i64 (Cal.ofD d)] 106
  have hbw := bl_three w (.cells #[.int .i64 fq, .int .i64 iv, .int .i64 ct, .int .i64 un, .slice a1 n1 n1, .slice a2 n2 n2, .slice a3 n3 n3, .slice a4 n4 n4, .int .i64 ws, .string tx] 76) (.cells #[.int .i64 (Cal.ofY s), .int .i64 (Cal.ofM s), .int .i64 (Cal.ofD s)] 106) (.cells #[.int .i64 (Cal.ofY d), .int .i64 (Cal.ofM d), .int .i64 (Cal.ofD d)] 106)
  go_enter Tryz.func349, Tryz.ntmps349
  go_upto_region 1 with fail
  generalize ((w.alloc (.cells #[.int .i64 fq, .int .i64 iv, .int .i64 ct, .int .i64 un, .slice a1 n1 n1, .slice a2 n2 n2, .slice a3 n3 n3, .slice a4 n4 n4, .int .i64 ws, .string tx] 76)).alloc (.cells #[.int .i64 (Cal.ofY s), .int .i64 (Cal.ofM s), .int .i64 (Cal.ofD s)] 106)).alloc (.cells #[.int .i64 (Cal.ofY d), .int .i64 (Cal.ofM d), .int .i64 (Cal.ofD d)] 106) = W at *
  obtain ⟨g0, g1, g2, g3, g4, g5, g6, g7, g8, g9⟩ := cells10 r0
  obtain ⟨c0, c1, c2, _, _, _⟩ := cells3 r1
  obtain ⟨d0, d1, d2, _, _, _⟩ := cells3 r2
  rcases (by omega : fq = 0 ∨ fq = 1 ∨ fq = 2 ∨ fq = 3) with rfl | rfl | rfl | rfl
  · replace h0 := hide (h0.out rfl)
    clear h1 h2 h3
    go_wp2_with fail
    refine (hT.out _).mono ?_
    rintro e w3 ⟨rfl, hb3⟩
    go_wp2_with fail
    go_ret
    exact ⟨by rw [h0.out]; rfl, hbw.trans (hb3.mono hbw.size)⟩
  · replace h1 := hide (h1.out rfl)
    clear h0 h2 h3
    go_upto_region 6 with fail
    have j8 := cell_regrown g8
    have j0 := cell_regrown c0
    have j1 := cell_regrown c1
    have j2 := cell_regrown c2
    have i0 := cell_regrown d0
    have i1 := cell_regrown d1
    have i2 := cell_regrown d2
    clear g0 g1 g2 g3 g4 g5 g6 g7 g8 g9 c0 c1 c2 d0 d1 d2
    refine wp_region_quiet_below (by kernel_rfl) (by kernel_rfl) ?_
    repeat (go_big_quiet_step (first | exact hW.out W _ _ | exact hT1.out W _ _))
    refine wpQuiet_nil ?_
    intro _ hw'
    obtain ⟨⟨dq, osq⟩, hw''⟩ := hw'
    subst hw''
    go_wp2_with fail
    go_ret
    exact ⟨by rw [h1.out]; rfl, hbw.trans ((below_regrown W dq osq).mono hbw.size)⟩
  · replace h2 := hide (h2.out rfl)
    clear h0 h1 h3
    go_wp2_with fail
    go_ret
    exact ⟨by rw [h2.out]; rfl, hbw⟩
  · replace h3 := hide (h3.out rfl)
    clear h0 h1 h2
    go_wp2_with fail
    go_ret
    exact ⟨by rw [h3.out]; rfl, hbw⟩

theorem distD_bd (r : RuleD) (s d : Int) (s0 : 0 ≤ s) (s1 : s ≤ d) (d1 : d ≤ 84010) : 0 ≤ distD r s d ∧ distD r s d ≤ 200000 := by
  have hr := rg_bd s (by omega) (by omega)
  have hrd := rg_bd d (by omega) (by omega)
  have hys := year_bd s (by omega) (by omega)
  have hyd := year_bd d (by omega) (by omega)
  have hwi := wkIn_bd s r.ws
  have hle : Cal.ofY s ≤ Cal.ofY d := ofY_mono (by omega) s1
  have hlm := ofYM_mono (by omega) s1
  unfold distD
  split
  · omega
  · split
    · omega
    · split <;> omega

set_option maxRecDepth 100000 in
set_option maxHeartbeats 8000000 in
theorem firstDistance_n (r : RuleD) (m md wk pl : Value) (tx : ByteArray) (s f : Int) (w : World) (hl : RuleL w r m md wk pl) (ho : RuleOk r) (s0 : 0 ≤ s) (s1 : s ≤ 7258118400) (f0 : -1000000000000 ≤ f) (f1 : f ≤ 7258118400) :
    Calls Tryz.prog 341 #[ruleV r.fq r.iv r.ct r.un m md wk pl r.ws tx, .int .i64 s, .int .i64 f] w fun e w' => e = .returned (.int .i64 (firstD r s f)) ∧ Below w.heap.size w w' := by
  have hi1 := ho.iv1
  have hi9 := ho.iv9
  have hct := ho.ct0
  have hD : Hid (s < f → ∀ W, Below w.heap.size w W → ∀ D os, Calls Tryz.prog 349 #[ruleV r.fq r.iv r.ct r.un m md wk pl r.ws tx, dnV (s / 86400), dnV (f / 86400)] (grow (redrawn W D) os) fun e w'' => e = .returned (.int .i64 (distD r (s / 86400) (f / 86400))) ∧ ∃ p : Regrown, w'' = grow (redrawn W p.d) p.os) :=
    hide fun h W hb D os => Calls.regrown_of (distance_n r m md wk pl tx (s / 86400) (f / 86400) _ ((hl.on hb).on (below_regrown W D os)) ho (by omega) (by omega) (by omega))
  have hO1 : Hid (∀ W D os, Calls Tryz.prog 66 #[.int .i64 s] (grow (redrawn W D) os) fun e w'' => e = .returned (dnV (s / 86400)) ∧ ∃ p : Regrown, w'' = grow (redrawn W p.d) p.os) := hide fun W D os => Calls.regrown_of (ofTime_n s _ s0 s1)
  have hO2 : Hid (s < f → ∀ W D os, Calls Tryz.prog 66 #[.int .i64 f] (grow (redrawn W D) os) fun e w'' => e = .returned (dnV (f / 86400)) ∧ ∃ p : Regrown, w'' = grow (redrawn W p.d) p.os) := hide fun h W D os => Calls.regrown_of (ofTime_n f _ (by omega) f1)
  have hbd : Hid (s < f → 0 ≤ distD r (s / 86400) (f / 86400) ∧ distD r (s / 86400) (f / 86400) ≤ 200000) := hide fun h => distD_bd r _ _ (by omega) (by omega) (by omega)
  have hF0 : Hid (0 < r.ct ∨ f ≤ s → firstD r s f = 0) := hide fun h => by unfold firstD; rw [if_pos h]
  have hF1 : Hid (r.ct = 0 → s < f → firstD r s f = distD r (s / 86400) (f / 86400) - distD r (s / 86400) (f / 86400) % r.iv) := hide fun h h' => by unfold firstD; rw [if_neg (by omega)]
  obtain ⟨a1, e1⟩ := hl.ms.form
  obtain ⟨a2, e2⟩ := hl.mds.form
  obtain ⟨a3, e3⟩ := hl.wks.form
  obtain ⟨a4, e4⟩ := hl.pls.form
  clear hl ho
  generalize firstD r s f = FD at *
  generalize distD r (s / 86400) (f / 86400) = DD at *
  generalize r.ms.length = n1 at *
  generalize r.mds.length = n2 at *
  generalize r.wks.length = n3 at *
  generalize r.pls.length = n4 at *
  generalize r.fq = fq at *
  generalize r.iv = iv at *
  generalize r.ct = ct at *
  generalize r.un = un at *
  generalize r.ws = ws at *
  subst e1 e2 e3 e4
  unfold dnV dayA ruleV at *
  have r0 := RowAt.new w [.int .i64 fq, .int .i64 iv, .int .i64 ct, .int .i64 un, .slice a1 n1 n1, .slice a2 n2 n2, .slice a3 n3 n3, .slice a4 n4 n4, .int .i64 ws, .string tx] 76
  have hbw : Below w.heap.size w (w.alloc (.cells #[.int .i64 fq, .int .i64 iv, .int .i64 ct, .int .i64 un, .slice a1 n1 n1, .slice a2 n2 n2, .slice a3 n3 n3, .slice a4 n4 n4, .int .i64 ws, .string tx] 76)) := (Below.refl _ _).alloc (Nat.le_refl _) _
  go_enter Tryz.func341, Tryz.ntmps341
  go_upto_region 1 with fail
  have eW : w.alloc (.cells [.int .i64 fq, .int .i64 iv, .int .i64 ct, .int .i64 un, .slice a1 n1 n1, .slice a2 n2 n2, .slice a3 n3 n3, .slice a4 n4 n4, .int .i64 ws, .string tx].toArray 76) = w.alloc (.cells #[.int .i64 fq, .int .i64 iv, .int .i64 ct, .int .i64 un, .slice a1 n1 n1, .slice a2 n2 n2, .slice a3 n3 n3, .slice a4 n4 n4, .int .i64 ws, .string tx] 76) := rfl
  rw [eW] at r0
  clear eW
  generalize w.alloc (.cells #[.int .i64 fq, .int .i64 iv, .int .i64 ct, .int .i64 un, .slice a1 n1 n1, .slice a2 n2 n2, .slice a3 n3 n3, .slice a4 n4 n4, .int .i64 ws, .string tx] 76) = W at *
  obtain ⟨g0, g1, g2, g3, g4, g5, g6, g7, g8, g9⟩ := cells10 r0
  by_cases hc : 0 < ct
  · replace hF0 := hide (hF0.out (.inl hc))
    clear hF1 hD hO1 hO2 hbd
    go_wp2_with fail
    go_ret
    exact ⟨by rw [hF0.out]; rfl, hbw⟩
  · obtain rfl : ct = 0 := by omega
    clear hc
    by_cases hfs : f ≤ s
    · replace hF0 := hide (hF0.out (.inr hfs))
      clear hF1 hD hO1 hO2 hbd
      go_wp2_with fail
      go_ret
      exact ⟨by rw [hF0.out]; rfl, hbw⟩
    · have hsf : s < f := by omega
      replace hF1 := hide (hF1.out rfl hsf)
      replace hD := hide (hD.out hsf)
      replace hO2 := hide (hO2.out hsf)
      obtain ⟨b0, b1⟩ := hbd.out hsf
      clear hF0 hbd
      go_upto_region 3 with fail
      have j0 := cell_regrown g0
      have j1 := cell_regrown g1
      have j2 := cell_regrown g2
      have j3 := cell_regrown g3
      have j4 := cell_regrown g4
      have j5 := cell_regrown g5
      have j6 := cell_regrown g6
      have j7 := cell_regrown g7
      have j8 := cell_regrown g8
      have j9 := cell_regrown g9
      clear g0 g1 g2 g3 g4 g5 g6 g7 g8 g9
      refine wp_region_quiet_below (by kernel_rfl) (by kernel_rfl) ?_
      repeat (go_big_quiet_step (first | exact hO1.out W _ _ | exact hO2.out W _ _ | exact hD.out W hbw _ _))
      refine wpQuiet_nil ?_
      intro _ hw'
      obtain ⟨⟨dq, osq⟩, hw''⟩ := hw'
      subst hw''
      have hbx := hbw.trans ((below_regrown W dq osq).mono hbw.size)
      have hiz : iv ≠ 0 := by omega
      have hiz' : (iv == 0) = false := by simpa using hiz
      have hm0 : 0 ≤ DD % iv := Int.emod_nonneg _ hiz
      have hm1 : DD % iv < iv := Int.emod_lt_of_pos _ (by omega)
      have htm : DD.tmod iv = DD % iv := Int.tmod_eq_emod_of_nonneg b0
      have hwr : wrap64 (DD - DD % iv) = DD - DD % iv := by unfold wrap64; omega
      go_wp2_with fail
      go_ret
      exact ⟨by rw [hF1.out]; rfl, hbx⟩
end Go.Proofs.YthpndgcaoeokeaaGreatDoor
namespace Go.Proofs.YthpndgcaoeokeaaGreatDoor
open Go.RowKit Go.Sort

def fitW (r : RuleD) (n : Int) : Bool := decide (r.wks.length = 0) || r.wks.any fun p => p.2 == (n + 719470) % 7 && (p.1 == 0 || placeB r n p.1)
def fitA (r : RuleD) (n : Int) : Bool := fitM r n && fitD r n && fitW r n

set_option maxRecDepth 100000 in
set_option maxHeartbeats 8000000 in
theorem fitsWeekday_n (r : RuleD) (m md wk pl : Value) (tx : ByteArray) (n : Int) (w : World) (hl : RuleL w r m md wk pl) (ho : RuleOk r) (h0 : -10000 ≤ n) (h1 : n ≤ 300000) :
    Calls Tryz.prog 364 #[ruleV r.fq r.iv r.ct r.un m md wk pl r.ws tx, dnV n] w fun e w' => e = .returned (.bool (fitW r n)) ∧ Below w.heap.size w w' := by
  have hw := hl.wks
  have hq := ho.wks
  have hord := hide ho.ord
  have hP : Hid (∀ W o, Below w.heap.size w W → -53 ≤ o → o ≤ 53 → Calls Tryz.prog 366 #[ruleV r.fq r.iv r.ct r.un m md wk pl r.ws tx, dnV n, .int .i64 o] W fun e w' => e = .returned (.bool (placeB r n o)) ∧ Below W.heap.size W w') :=
    hide fun W o hb a b => hasPlace_n r m md wk pl tx n o W (hl.on hb) ho h0 h1 a b
  have hD : Hid (∀ W, Calls Tryz.prog 339 #[dnV n] W fun e w' => e = .returned (.int .i64 ((n + 719470) % 7)) ∧ Below W.heap.size W w') := hide fun W => weekday_n n W (by omega) (by omega)
  have hfit : Hid (r.wks.length ≠ 0 → fitW r n = r.wks.any fun p => p.2 == (n + 719470) % 7 && (p.1 == 0 || placeB r n p.1)) := hide fun h => by unfold fitW; simp [h]
  have hfit0 : Hid (r.wks.length = 0 → fitW r n = true) := hide fun h => by unfold fitW; simp [h]
  have hk0 : 0 ≤ (n + 719470) % 7 ∧ (n + 719470) % 7 ≤ 6 := by omega
  obtain ⟨a1, e1⟩ := hl.ms.form
  obtain ⟨a2, e2⟩ := hl.mds.form
  obtain ⟨a3, e3⟩ := hl.pls.form
  clear hl ho
  generalize (n + 719470) % 7 = K at *
  generalize fitW r n = FW at *
  generalize hpb : placeB r n = PB at *
  clear hpb
  generalize r.wks = zs at *
  generalize r.fq = fq at *
  generalize r.iv = iv at *
  generalize r.ct = ct at *
  generalize r.un = un at *
  generalize r.ws = ws at *
  generalize r.ms.length = n1 at *
  generalize r.mds.length = n2 at *
  generalize r.pls.length = n3 at *
  subst e1 e2 e3
  unfold dnV dayA ruleV at *
  by_cases hz : zs.length = 0
  case pos =>
    have HE := hide (hfit0.out hz)
    obtain ⟨a4, rfl⟩ := hw.form
    clear hw hord hfit hfit0 hP hD
    generalize zs.length = L at *
    subst hz
    go_enter Tryz.func364, Tryz.ntmps364
    go_wp2_with fail
    go_ret
    exact ⟨by rw [HE.out]; rfl, ((Below.refl _ _).alloc (Nat.le_refl _) _).alloc (by simp) _⟩
  case neg =>
    rcases hw with ⟨_, h2⟩ | ⟨g, rfl, hrow⟩
    · rw [h2] at hz; exact absurd rfl hz
    have HE := hide (hfit.out hz)
    clear hfit hfit0
    have hz' : ((zs.length : Int) == 0) = false := by simpa using hz
    have hlt := hrow.lt
    go_enter Tryz.func364, Tryz.ntmps364
    go_wp2_with fail
    have r0 := row_fst w [.int .i64 fq, .int .i64 iv, .int .i64 ct, .int .i64 un, .slice a1 n1 n1, .slice a2 n2 n2, .slice (some ⟨g, 0, none⟩) zs.length zs.length, .slice a3 n3 n3, .int .i64 ws, .string tx] 76 (.cells #[.int .i64 (Cal.ofY n), .int .i64 (Cal.ofM n), .int .i64 (Cal.ofD n)] 106)
    have r1 := row_snd w [.int .i64 (Cal.ofY n), .int .i64 (Cal.ofM n), .int .i64 (Cal.ofD n)] 106 (.cells #[.int .i64 fq, .int .i64 iv, .int .i64 ct, .int .i64 un, .slice a1 n1 n1, .slice a2 n2 n2, .slice (some ⟨g, 0, none⟩) zs.length zs.length, .slice a3 n3 n3, .int .i64 ws, .string tx] 76)
    have hbw := bl_two w (.cells #[.int .i64 fq, .int .i64 iv, .int .i64 ct, .int .i64 un, .slice a1 n1 n1, .slice a2 n2 n2, .slice (some ⟨g, 0, none⟩) zs.length zs.length, .slice a3 n3 n3, .int .i64 ws, .string tx] 76) (.cells #[.int .i64 (Cal.ofY n), .int .i64 (Cal.ofM n), .int .i64 (Cal.ofD n)] 106)
    refine (hD.out _).mono ?_
    rintro e w1 ⟨rfl, hb1⟩
    replace r0 := r0.on hb1
    replace r1 := r1.on hb1
    replace hbw := hbw.trans (hb1.mono hbw.size)
    clear hb1
    obtain ⟨q0, q1, q2, q3, q4, q5, q6, q7, q8, q9⟩ := cells10 r0
    go_wp2_with fail
    clear q0 q1 q2 q3 q4 q5 q6 q7 q8 q9
    go_loopw [17] (fun i wr => ∃ k : Nat, k ≤ zs.length ∧ i = .int .i64 k ∧ Below w.heap.size w wr ∧ RowAt wr w.heap.size [.int .i64 fq, .int .i64 iv, .int .i64 ct, .int .i64 un, .slice a1 n1 n1, .slice a2 n2 n2, .slice (some ⟨g, 0, none⟩) zs.length zs.length, .slice a3 n3 n3, .int .i64 ws, .string tx] 76 ∧ RowAt wr (w.heap.size + 1) [.int .i64 (Cal.ofY n), .int .i64 (Cal.ofM n), .int .i64 (Cal.ofD n)] 106 ∧ Hid (FW = (zs.drop k).any fun p => p.2 == K && (p.1 == 0 || PB p.1))) (fun i _ => zs.length - (intOf i).toNat)
    case atStart => exact ⟨0, Nat.zero_le _, rfl, hbw, r0, r1, hide (by simpa using HE.out)⟩
    case round =>
      clear r0 r1 hbw HE
      obtain ⟨k, hk, rfl, hnx, r0, r1, HT⟩ := hrel
      by_cases hlt : k < zs.length
      case neg =>
        have hkl : k = zs.length := by omega
        subst hkl
        have HE : Hid (FW = false) := hide (by rw [HT.out, List.drop_length]; rfl)
        clear HT
        go_wp2_with fail
        go_ret
        exact ⟨by rw [HE.out]; rfl, hnx⟩
      case pos =>
        obtain ⟨q, hqq⟩ : ∃ q, zs[k]? = some q := ⟨_, List.getElem?_eq_getElem hlt⟩
        have hr := hrow.on hnx
        have d0 := hr.cell (flat_get0 zs k q hqq)
        have d1 := hr.cell (flat_get1 zs k q hqq)
        have hqb := hord.out q (List.mem_of_getElem? hqq)
        have hd : zs.drop k = q :: zs.drop (k + 1) := by
          obtain ⟨hk', he⟩ := List.getElem?_eq_some_iff.1 hqq
          rw [List.drop_eq_getElem_cons hk', he]
        have hB := hnx.size
        have hr1 := r1.lt
        by_cases hd0 : q.2 = K
        case neg =>
          have HE : Hid (FW = (zs.drop (k + 1)).any fun p => p.2 == K && (p.1 == 0 || PB p.1)) := hide (by rw [HT.out, hd, List.any_cons]; simp [hd0])
          have g1 : (q.2 == K) = false := by simp [hd0]
          clear HT hd hqq
          go_wp2_with fail
          go_roundw
          case rel =>
            have hba := (Below.refl wr.heap.size wr).alloc (Nat.le_refl _) (.cells #[.int .i64 q.1, .int .i64 q.2] 183)
            exact ⟨k + 1, by omega, by go_num, hnx.alloc hB _, r0.on hba, r1.on hba, HE⟩
          case measure => simp [intOf]; omega
        case pos =>
          subst hd0
          by_cases ho0 : q.1 = 0
          case pos =>
            have HE : Hid (FW = true) := hide (by rw [HT.out, hd, List.any_cons]; simp [ho0])
            have g1 : (q.1 == 0) = true := by simp [ho0]
            clear HT hd hqq
            go_wp2_with fail
            go_ret
            exact ⟨by rw [HE.out]; rfl, hnx.alloc hB _⟩
          case neg =>
            have g1 : (q.1 == 0) = false := by simp [ho0]
            have HE : Hid (FW = (PB q.1 || (zs.drop (k + 1)).any fun p => p.2 == q.2 && (p.1 == 0 || PB p.1))) := hide (by rw [HT.out, hd, List.any_cons, g1]; simp)
            clear HT hd hqq
            have hba := (Below.refl wr.heap.size wr).alloc (Nat.le_refl _) (.cells #[.int .i64 q.1, .int .i64 q.2] 183)
            obtain ⟨q0, q1, q2, q3, q4, q5, q6, q7, q8, q9⟩ := cells10 (r0.on hba)
            obtain ⟨c0, c1, c2, _, _, _⟩ := cells3 (r1.on hba)
            go_wp2_with fail
            refine (hP.out _ q.1 (hnx.alloc hB _) hqb.1 hqb.2).mono ?_
            rintro e w5 ⟨rfl, hb5⟩
            generalize hp : PB q.1 = pb at *
            clear q0 q1 q2 q3 q4 q5 q6 q7 q8 q9 c0 c1 c2
            cases pb
            · go_wp2_with fail
              go_roundw
              case rel => exact ⟨k + 1, by omega, by go_num, (hnx.alloc hB _).trans (hb5.mono (by simp; omega)), (r0.on hba).on hb5, (r1.on hba).on hb5, hide (by rw [HE.out]; simp)⟩
              case measure => simp [intOf]; omega
            · go_wp2_with fail
              go_ret
              exact ⟨by rw [HE.out]; simp, (hnx.alloc hB _).trans (hb5.mono (by simp; omega))⟩

set_option maxRecDepth 100000 in
set_option maxHeartbeats 8000000 in
theorem fits_n (r : RuleD) (m md wk pl : Value) (tx : ByteArray) (n : Int) (w : World) (hl : RuleL w r m md wk pl) (ho : RuleOk r) (h0 : -10000 ≤ n) (h1 : n ≤ 300000) :
    Calls Tryz.prog 356 #[ruleV r.fq r.iv r.ct r.un m md wk pl r.ws tx, dnV n] w fun e w' => e = .returned (.bool (fitA r n)) ∧ Below w.heap.size w w' := by
  have hA : Hid (∀ W, Below w.heap.size w W → Calls Tryz.prog 362 #[ruleV r.fq r.iv r.ct r.un m md wk pl r.ws tx, dnV n] W fun e w' => e = .returned (.bool (fitM r n)) ∧ Below W.heap.size W w') := hide fun W hb => fitsMonth_n r m md wk pl tx n W (hl.on hb) ho
  have hB : Hid (∀ W, Below w.heap.size w W → Calls Tryz.prog 363 #[ruleV r.fq r.iv r.ct r.un m md wk pl r.ws tx, dnV n] W fun e w' => e = .returned (.bool (fitD r n)) ∧ Below W.heap.size W w') := hide fun W hb => fitsMonthDay_n r m md wk pl tx n W (hl.on hb) ho h0 h1
  have hC : Hid (∀ W, Below w.heap.size w W → Calls Tryz.prog 364 #[ruleV r.fq r.iv r.ct r.un m md wk pl r.ws tx, dnV n] W fun e w' => e = .returned (.bool (fitW r n)) ∧ Below W.heap.size W w') := hide fun W hb => fitsWeekday_n r m md wk pl tx n W (hl.on hb) ho h0 h1
  obtain ⟨a1, e1⟩ := hl.ms.form
  obtain ⟨a2, e2⟩ := hl.mds.form
  obtain ⟨a3, e3⟩ := hl.pls.form
  obtain ⟨a4, e4⟩ := hl.wks.form
  clear hl ho
  have hF : Hid (fitA r n = (fitM r n && fitD r n && fitW r n)) := hide rfl
  generalize fitA r n = F at *
  generalize fitM r n = A at *
  generalize fitD r n = B at *
  generalize fitW r n = C at *
  generalize r.fq = fq at *
  generalize r.iv = iv at *
  generalize r.ct = ct at *
  generalize r.un = un at *
  generalize r.ws = ws at *
  generalize r.ms.length = n1 at *
  generalize r.mds.length = n2 at *
  generalize r.pls.length = n3 at *
  generalize r.wks.length = n4 at *
  subst e1 e2 e3 e4
  unfold dnV dayA ruleV at *
  have r0 := row_fst w [.int .i64 fq, .int .i64 iv, .int .i64 ct, .int .i64 un, .slice a1 n1 n1, .slice a2 n2 n2, .slice a4 n4 n4, .slice a3 n3 n3, .int .i64 ws, .string tx] 76 (.cells #[.int .i64 (Cal.ofY n), .int .i64 (Cal.ofM n), .int .i64 (Cal.ofD n)] 106)
  have r1 := row_snd w [.int .i64 (Cal.ofY n), .int .i64 (Cal.ofM n), .int .i64 (Cal.ofD n)] 106 (.cells #[.int .i64 fq, .int .i64 iv, .int .i64 ct, .int .i64 un, .slice a1 n1 n1, .slice a2 n2 n2, .slice a4 n4 n4, .slice a3 n3 n3, .int .i64 ws, .string tx] 76)
  have hbw := bl_two w (.cells #[.int .i64 fq, .int .i64 iv, .int .i64 ct, .int .i64 un, .slice a1 n1 n1, .slice a2 n2 n2, .slice a4 n4 n4, .slice a3 n3 n3, .int .i64 ws, .string tx] 76) (.cells #[.int .i64 (Cal.ofY n), .int .i64 (Cal.ofM n), .int .i64 (Cal.ofD n)] 106)
  go_enter Tryz.func356, Tryz.ntmps356
  go_wp2_with fail
  refine (hA.out _ hbw).mono ?_
  rintro e w1 ⟨rfl, hb1⟩
  replace r0 := r0.on hb1
  replace r1 := r1.on hb1
  replace hbw := hbw.trans (hb1.mono hbw.size)
  clear hb1
  cases A
  · go_wp2_with fail
    go_ret
    exact ⟨by rw [hF.out]; simp, hbw⟩
  · obtain ⟨q0, q1, q2, q3, q4, q5, q6, q7, q8, q9⟩ := cells10 r0
    obtain ⟨c0, c1, c2, _, _, _⟩ := cells3 r1
    go_wp2_with fail
    refine (hB.out _ hbw).mono ?_
    rintro e w2 ⟨rfl, hb2⟩
    replace r0 := r0.on hb2
    replace r1 := r1.on hb2
    replace hbw := hbw.trans (hb2.mono hbw.size)
    clear hb2 q0 q1 q2 q3 q4 q5 q6 q7 q8 q9 c0 c1 c2
    cases B
    · go_wp2_with fail
      go_ret
      exact ⟨by rw [hF.out]; simp, hbw⟩
    · obtain ⟨q0, q1, q2, q3, q4, q5, q6, q7, q8, q9⟩ := cells10 r0
      obtain ⟨c0, c1, c2, _, _, _⟩ := cells3 r1
      go_wp2_with fail
      refine (hC.out _ hbw).mono ?_
      rintro e w3 ⟨rfl, hb3⟩
      go_wp2_with fail
      go_ret
      exact ⟨by rw [hF.out]; simp, hbw.trans (hb3.mono hbw.size)⟩
end Go.Proofs.YthpndgcaoeokeaaGreatDoor
