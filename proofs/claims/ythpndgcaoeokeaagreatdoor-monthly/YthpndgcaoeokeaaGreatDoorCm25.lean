/- What the program's reading of an event answers, by the document's: and what is printed. An event that was read, with its rule: what is known of its numbers. The window, and what is known of the times (the program's). The instances of an event in a window (the program's). fallow.Instances (the program's). The statements' own helpers: pick, digits, moment (fallowkeep). -/
import Derived.Test.YthpndgcaoeokeaaGreatDoorCm24
namespace Go.Proofs.YthpndgcaoeokeaaGreatDoor
open Go.RowKit

theorem read_of {s : List UInt8} {f : Nat → Option (List UInt8)} {st ln : Int} {ex xt : List Int} (hf : fieldsF s = some f) (h1 : timF (val f 1) = some st) (h2 : lnF st (f 3) (f 2) = some ln) (h3 : tmO (f 5) = some ex) (h4 : tmO (f 6) = some xt) :
    readF s = match rlO (f 4) with | none => .error 3 | some rl => .ok ⟨f, st, ln, ex, xt, rl⟩ := by
  unfold readF
  rw [hf]
  simp only [h1, h2, h3, h4]
  cases rlO (f 4) <;> rfl
theorem read_bad {s : List UInt8} {f : Nat → Option (List UInt8)} (hf : fieldsF s = some f) (h : ¬ ∃ st ln ex xt, TimesAre (sw f) st ln ex xt) : readF s = .error 1 := by
  unfold readF
  rw [hf]
  simp only []
  cases h1 : timF (val f 1) with
  | none => rfl
  | some st =>
    simp only []
    cases h2 : lnF st (f 3) (f 2) with
    | none => rfl
    | some ln =>
      simp only []
      cases h3 : tmO (f 5) with
      | none => rfl
      | some ex =>
        simp only []
        cases h4 : tmO (f 6) with
        | none => rfl
        | some xt => exact absurd ⟨st, ln, ex, xt, times_iff.2 ⟨h1, h2, h3, h4⟩⟩ h
/-- the event that the program has read -/
def EvOk (d : EvD) (E : Ending) (w' : World) : Prop :=
  ∃ exv xtv, IntsW w' exv d.ex ∧ IntsW w' xtv d.xt ∧ ((d.rl = none ∧ E = .returned (evV (ofL (val d.f 0)) d.st d.ln false zeroRule exv xtv (openOf d.f) (kindOf d.f - 1))) ∨
    ∃ (F : Nat → Option (List UInt8)) (r : RuleD) (m md wk pl : Value), d.rl = some F ∧ IntsV w' m r.ms ∧ IntsV w' md r.mds ∧ WksV w' wk r.wks ∧ IntsV w' pl r.pls ∧ E = .returned (evV (ofL (val d.f 0)) d.st d.ln true (ruleC r.fq r.iv r.ct r.un m md wk pl r.ws (txF F)) exv xtv (openOf d.f) (kindOf d.f - 1)))
theorem read_prog {s : List UInt8} {w w' : World} {E : Ending} (h : EvPost s w E w') : ((∃ x, readF s = .error x ∧ E = .panicked (rsn x)) ∨ ∃ d, readF s = .ok d ∧ EvOk d E w') ∧ Below w.heap.size w w' := by
  obtain ⟨h, hb⟩ := h
  refine ⟨?_, hb⟩
  rcases h with ⟨F, tr, k, st, ln, ex, xt, hH, hT, hE⟩ | ⟨hn, rfl⟩ | ⟨⟨F, tr, k, hH, hn⟩, rfl⟩ | ⟨⟨F, tr, k, st, ln, ex, xt, v, hH, hT, hv, hn⟩, rfl⟩
  · obtain ⟨f, hf, rfl, rfl, rfl⟩ := (head_iff s F tr k).1 hH
    obtain ⟨h1, h2, h3, h4⟩ := times_iff.1 hT
    have hr := read_of hf h1 h2 h3 h4
    obtain ⟨exv, xtv, i1, i2, hE⟩ := hE
    right
    rcases hE with ⟨h0, rfl⟩ | ⟨v, F', r, m, md, wk, pl, hv, hR, q1, q2, q3, q4, rfl⟩
    · have e4 : f 4 = none := h0
      rw [e4] at hr
      exact ⟨⟨f, st, ln, ex, xt, none⟩, hr, exv, xtv, i1, i2, .inl ⟨rfl, rfl⟩⟩
    · have e4 : f 4 = some v := hv
      have e5 : rlO (f 4) = some (some F') := by rw [e4]; show (ruleF v).map some = _; rw [(rule_iff v F').2 ⟨r, hR⟩]; rfl
      rw [e5] at hr
      exact ⟨⟨f, st, ln, ex, xt, some F'⟩, hr, exv, xtv, i1, i2, .inr ⟨F', r, m, md, wk, pl, rfl, q1, q2, q3, q4, rfl⟩⟩
  · left
    refine ⟨2, ?_, rfl⟩
    unfold readF
    cases hf : fieldsF s with
    | none => rfl
    | some f => exact absurd ⟨sw f, _, _, (head_iff s (sw f) _ _).2 ⟨f, hf, rfl, rfl, rfl⟩⟩ hn
  · left
    obtain ⟨f, hf, rfl, _, _⟩ := (head_iff s F tr k).1 hH
    exact ⟨1, read_bad hf hn, rfl⟩
  · left
    obtain ⟨f, hf, rfl, _, _⟩ := (head_iff s F tr k).1 hH
    obtain ⟨h1, h2, h3, h4⟩ := times_iff.1 hT
    have hr := read_of hf h1 h2 h3 h4
    have e4 : f 4 = some v := hv
    have e5 : rlO (f 4) = none := by
      rw [e4]
      show (ruleF v).map some = none
      cases hq : ruleF v with
      | none => rfl
      | some F' => exact absurd ⟨F', (rule_iff v F').1 hq⟩ hn
    rw [e5] at hr
    exact ⟨3, hr, rfl⟩
theorem wth_le (n : Int) : ∀ (zs : List Int) (d : Bool), (wth n d zs).length ≤ zs.length + 1
  | [], d => by cases d <;> simp [wth]
  | a :: r, d => by
    have h1 := wth_le n r (d || decide (n ≤ a))
    rw [wth, List.length_append, List.length_append]
    by_cases hd : d = false ∧ n ≤ a
    · rw [if_pos hd]
      have h2 : ∀ zs : List Int, (wth n true zs).length ≤ zs.length := fun zs => by
        induction zs with
        | nil => simp [wth]
        | cons b t ih =>
          rw [wth, if_neg (by simp), List.length_append, List.length_append, Bool.true_or]
          split <;> simp <;> omega
      have h3 := h2 r
      rw [show (d || decide (n ≤ a)) = true from by simp [hd.2]]
      split <;> simp <;> omega
    · rw [if_neg hd]
      split <;> simp <;> omega
theorem tms_len : ∀ (P : List ByteArray) (acc out : List Int), tms P acc = some out → out.length ≤ acc.length + P.length
  | [], acc, out, h => by rw [tms] at h; cases h; simp
  | l :: r, acc, out, h => by
    rw [tms] at h
    split at h
    · have h1 := tms_len r _ out h
      have h2 := wth_le (timeN l) acc false
      simp
      omega
    · cases h
theorem tmO_len {o : Option (List UInt8)} {zs : List Int} (h : tmO o = some zs) : zs.length ≤ 20 := by
  cases o with
  | none => cases h; simp
  | some v =>
    unfold tmO timesF at h
    simp only [] at h
    split at h
    · have := tms_len _ _ _ h
      simp at this
      omega
    · cases h
theorem lnF_bd {st ln : Int} {e l : Option (List UInt8)} (h : lnF st e l = some ln) : 1 ≤ ln ∧ ln ≤ 2678400 := by
  unfold lnF at h
  split at h
  · cases h
  · split at h
    · rename_i hb
      cases h
      exact hb
    · cases h
end Go.Proofs.YthpndgcaoeokeaaGreatDoor
namespace Go.Proofs.YthpndgcaoeokeaaGreatDoor
open Go.RowKit

/-- the rule that the parts say -/
def ruleOf (F : Nat → Option (List UInt8)) : RuleD :=
  ⟨(freqF (F 0)).getD 0, (wiF 1 100 ((F 1).getD [49])).getD 0, (cntF (F 2)).getD 0, (untF (F 3)).getD 0, (lsF (wiF 1 12) (F 4)).getD [], (lsF (sgF 31) (F 5)).getD [], (lsF wkF (F 6)).getD [], (lsF (sgF 366) (F 7)).getD [], (dayF ((F 8).getD [77, 79])).getD 0⟩
def noRule : RuleD := ⟨0, 0, 0, 0, [], [], [], [], 0⟩
theorem ruleOf_is {F : Nat → Option (List UInt8)} {r : RuleD} (h : Parts F r) : ruleOf F = r := by
  unfold ruleOf
  rw [h.fq, h.iv, h.ct, h.un, h.ms, h.mds, h.wks, h.pls, h.ws]
  rfl

theorem wiF_bd {lo hi z : Int} {v : List UInt8} (h : wiF lo hi v = some z) : lo ≤ z ∧ z ≤ hi := by
  unfold wiF at h
  split at h
  · rename_i hw
    cases h
    unfold wiB at hw
    simp only [Bool.and_eq_true, decide_eq_true_eq] at hw
    exact ⟨hw.1.2, hw.2⟩
  · cases h
theorem timF_rg {z : Int} {v : List UInt8} (h : timF v = some z) : 0 ≤ z ∧ z ≤ 7258118399 := by
  unfold timF at h
  split at h
  · cases h; exact timeN_bd (by assumption)
  · cases h
theorem rds_all {α : Type} {rd : List UInt8 → Option α} {p : α → Prop} (hp : ∀ v z, rd v = some z → p z) : ∀ {ps : List (List UInt8)} {zs : List α}, rds rd ps = some zs → ∀ z ∈ zs, p z
  | [], zs, h, z, hz => by cases h; simp at hz
  | l :: r, zs, h, z, hz => by
    rw [rds] at h
    cases h1 : rd l with
    | none => rw [h1] at h; cases h
    | some a =>
      rw [h1] at h
      cases h2 : rds rd r with
      | none => simp only [h2] at h; cases h
      | some b =>
        simp only [h2, Option.map_some, Option.some.injEq] at h
        subst h
        rcases List.mem_cons.1 hz with rfl | hz
        · exact hp l z h1
        · exact rds_all hp h2 z hz
theorem lsF_all {α : Type} {rd : List UInt8 → Option α} {p : α → Prop} (hp : ∀ v z, rd v = some z → p z) {f : Option (List UInt8)} {zs : List α} (h : lsF rd f = some zs) : ∀ z ∈ zs, p z := by
  unfold lsF at h
  split at h
  · cases h; intro z hz; simp at hz
  · split at h
    · exact rds_all hp h
    · cases h
theorem sgn_lim (v : List UInt8) (m : Int) (hm : 0 ≤ m) : -m ≤ sgn v m ∧ sgn v m ≤ m := by
  unfold sgn within
  split
  · split
    · rename_i h1 h2; simp only [Bool.and_eq_true, decide_eq_true_eq] at h2; omega
    · omega
  · split
    · rename_i h1 h2; simp only [Bool.and_eq_true, decide_eq_true_eq] at h2; omega
    · omega
theorem wkF_bd {v : List UInt8} {p : Int × Int} (h : wkF v = some p) : -53 ≤ p.1 ∧ p.1 ≤ 53 := by
  unfold wkF at h
  split at h
  · cases h
  · split at h
    · cases h; simp
    · split at h
      · cases h
      · cases h; exact sgn_lim _ 53 (by decide)
theorem parts_ok {F : Nat → Option (List UInt8)} {r : RuleD} (h : Parts F r) : RuleOk r := by
  have h1 := h.fq
  have h2 := wiF_bd h.iv
  have h3 := h.ct
  have h4 := h.un
  have h9 := h.ws
  unfold freqF at h1
  unfold dayF at h9
  obtain ⟨k, hk, e1⟩ := Option.map_eq_some_iff.1 h1
  obtain ⟨k9, hk9, e9⟩ := Option.map_eq_some_iff.1 h9
  have l1 := idx_lt hk
  have l9 := idx_lt hk9
  have n1 : freqNames.length = 4 := rfl
  have n9 : wdays.length = 7 := rfl
  have c3 : 0 ≤ r.ct ∧ r.ct ≤ 1000 := by
    unfold cntF at h3
    split at h3
    · injection h3 with h3; omega
    · have := wiF_bd h3; omega
  have c4 : 0 ≤ r.un ∧ r.un ≤ 9223372036854775807 := by
    unfold untF at h4
    split at h4
    · injection h4 with h4; omega
    · have := timF_rg h4; omega
  exact ⟨by omega, by omega, h2.1, h2.2, c3.1, c3.2, c4.1, c4.2, by have := lsF_len h.ms; omega, by have := lsF_len h.mds; omega, by have := lsF_len h.wks; omega, by have := lsF_len h.pls; omega, lsF_all (fun v z hz => wkF_bd hz) h.wks, by omega, by omega⟩

theorem tsF_all {f : Option (List UInt8)} {zs : List Int} (h : tsF f = some zs) : ∀ z ∈ zs, 0 ≤ z ∧ z ≤ 7258118400 := by
  unfold tsF at h
  obtain ⟨ys, hy, rfl⟩ := Option.map_eq_some_iff.1 h
  intro z hz
  have h1 := lsF_all (p := fun z => 0 ≤ z ∧ z ≤ 7258118399) (fun v z hz => timF_rg hz) hy
  have h2 : z ∈ ys := ((sortC ys).2 z).1 hz
  have := h1 z h2
  omega
/-- the event that the program has read, and its rule -/
def EvOk2 (d : EvD) (E : Ending) (w' : World) : Prop :=
  ((0 ≤ d.st ∧ d.st ≤ 7258118399) ∧ (1 ≤ d.ln ∧ d.ln ≤ 2678400) ∧ (∀ t ∈ d.ex, 0 ≤ t ∧ t ≤ 7258118400) ∧ (∀ t ∈ d.xt, 0 ≤ t ∧ t ≤ 7258118400) ∧ d.ex.length ≤ 20 ∧ d.xt.length ≤ 20) ∧ ∃ exv xtv, IntsW w' exv d.ex ∧ IntsW w' xtv d.xt ∧ ((d.rl = none ∧ E = .returned (evV (ofL (val d.f 0)) d.st d.ln false zeroRule exv xtv (openOf d.f) (kindOf d.f - 1))) ∨
    ∃ (F : Nat → Option (List UInt8)) (r : RuleD) (m md wk pl : Value), d.rl = some F ∧ Parts F r ∧ IntsV w' m r.ms ∧ IntsV w' md r.mds ∧ WksV w' wk r.wks ∧ IntsV w' pl r.pls ∧ E = .returned (evV (ofL (val d.f 0)) d.st d.ln true (ruleC r.fq r.iv r.ct r.un m md wk pl r.ws (txF F)) exv xtv (openOf d.f) (kindOf d.f - 1)))
theorem read_prog2 {s : List UInt8} {w w' : World} {E : Ending} (h : EvPost s w E w') : ((∃ x, readF s = .error x ∧ E = .panicked (rsn x)) ∨ ∃ d, readF s = .ok d ∧ EvOk2 d E w') ∧ Below w.heap.size w w' := by
  have h' := read_prog h
  refine ⟨?_, h'.2⟩
  rcases h'.1 with hx | ⟨d, hd, _⟩
  · exact .inl hx
  obtain ⟨h, hb⟩ := h
  rcases h with ⟨F, tr, k, st, ln, ex, xt, hH, hT, hE⟩ | ⟨hn, rfl⟩ | ⟨⟨F, tr, k, hH, hn⟩, rfl⟩ | ⟨⟨F, tr, k, st, ln, ex, xt, v, hH, hT, hv, hn⟩, rfl⟩
  · obtain ⟨f, hf, rfl, rfl, rfl⟩ := (head_iff s F tr k).1 hH
    obtain ⟨h1, h2, h3, h4⟩ := times_iff.1 hT
    have hr := read_of hf h1 h2 h3 h4
    have hbd : (0 ≤ st ∧ st ≤ 7258118399) ∧ (1 ≤ ln ∧ ln ≤ 2678400) ∧ (∀ t ∈ ex, 0 ≤ t ∧ t ≤ 7258118400) ∧ (∀ t ∈ xt, 0 ≤ t ∧ t ≤ 7258118400) ∧ ex.length ≤ 20 ∧ xt.length ≤ 20 := ⟨timF_rg h1, lnF_bd h2, tsF_all hT.hex, tsF_all hT.hxt, tmO_len h3, tmO_len h4⟩
    obtain ⟨exv, xtv, i1, i2, hE⟩ := hE
    right
    rcases hE with ⟨h0, rfl⟩ | ⟨v, F', r, m, md, wk, pl, hv, hR, q1, q2, q3, q4, rfl⟩
    · have e4 : f 4 = none := h0
      rw [e4] at hr
      exact ⟨⟨f, st, ln, ex, xt, none⟩, hr, hbd, exv, xtv, i1, i2, .inl ⟨rfl, rfl⟩⟩
    · have e4 : f 4 = some v := hv
      have e5 : rlO (f 4) = some (some F') := by rw [e4]; show (ruleF v).map some = _; rw [(rule_iff v F').2 ⟨r, hR⟩]; rfl
      rw [e5] at hr
      exact ⟨⟨f, st, ln, ex, xt, some F'⟩, hr, hbd, exv, xtv, i1, i2, .inr ⟨F', r, m, md, wk, pl, rfl, hR.2.2.1, q1, q2, q3, q4, rfl⟩⟩
  · left
    obtain ⟨x, hx1, hx2⟩ | ⟨d', h1, exv, xtv, _, _, h2⟩ := h'.1
    · exact ⟨x, hx1, hx2⟩
    · rcases h2 with ⟨_, e⟩ | ⟨_, _, _, _, _, _, _, _, _, _, _, e⟩ <;> cases e
  · left
    obtain ⟨x, hx1, hx2⟩ | ⟨d', h1, exv, xtv, _, _, h2⟩ := h'.1
    · exact ⟨x, hx1, hx2⟩
    · rcases h2 with ⟨_, e⟩ | ⟨_, _, _, _, _, _, _, _, _, _, _, e⟩ <;> cases e
  · left
    obtain ⟨x, hx1, hx2⟩ | ⟨d', h1, exv, xtv, _, _, h2⟩ := h'.1
    · exact ⟨x, hx1, hx2⟩
    · rcases h2 with ⟨_, e⟩ | ⟨_, _, _, _, _, _, _, _, _, _, _, e⟩ <;> cases e

def hrOf (d : EvD) : Bool := d.rl.isSome
def rlOf (d : EvD) : RuleD := match d.rl with | none => noRule | some F => ruleOf F

end Go.Proofs.YthpndgcaoeokeaaGreatDoor
namespace Go.Proofs.YthpndgcaoeokeaaGreatDoor
open Go.RowKit Go.Sort
attribute [local go_sem] Oper.semAt_some
attribute [local go_sem] wide_fn wide_depth
attribute [local simp] wide_fn wide_depth

set_option maxHeartbeats 2000000 in
theorem isTimeP_n (n : Int) (w : World) (ht : Tab w) :
    Calls Tryz.prog 97 #[.int .i64 n] w fun e w' => e = .returned (.bool (isTimeB n)) ∧ Below w.heap.size w w' := by
  have hP := hide (print_any n w ht)
  unfold printV at hP
  clear ht
  cases hB : isTimeB n
  · rw [hB] at hP
    simp only [Bool.false_eq_true, if_false] at hP
    go_enter Tryz.func97, Tryz.ntmps97
    go_wp2_with (go_at_call 18; refine (hP.out).mono ?_; rintro e w1 ⟨rfl, hb⟩)
    go_ret
    exact ⟨rfl, hb⟩
  · rw [hB] at hP
    simp only [if_true] at hP
    go_enter Tryz.func97, Tryz.ntmps97
    go_wp2_with (go_at_call 18; refine (hP.out).mono ?_; rintro e w1 ⟨rfl, hb⟩)
    go_ret
    exact ⟨rfl, hb⟩

def winB (f t : Int) : Bool := isTimeB f && isTimeB t && decide (f < t)
set_option maxRecDepth 100000 in
set_option maxHeartbeats 2000000 in
theorem needWindow_n (f t : Int) (w : World) (ht : Tab w) :
    Calls Tryz.prog 89 #[.int .i64 f, .int .i64 t] w fun e w' => e = (if winB f t then .returned (.tuple #[]) else .panicked (rsn 7)) ∧ Below w.heap.size w w' := by
  have h1 := hide (isTimeP_n f w ht)
  have h2 : Hid (∀ W, Below w.heap.size w W → Calls Tryz.prog 97 #[.int .i64 t] W fun e w' => e = .returned (.bool (isTimeB t)) ∧ Below W.heap.size W w') := hide fun W hb => isTimeP_n t W (ht.on hb)
  have hu1 := hide (unless_yes 7)
  have hu0 := hide (unless_no 7)
  have hW : winB f t = (isTimeB f && isTimeB t && decide (f < t)) := rfl
  generalize winB f t = B at *
  generalize isTimeB f = B1 at *
  generalize isTimeB t = B2 at *
  clear ht
  cases B1
  · simp only [Bool.false_and] at hW
    subst hW
    go_enter Tryz.func89, Tryz.ntmps89
    go_wp2_with fail
    refine (h1.out).mono ?_
    rintro e w1 ⟨rfl, hb1⟩
    go_wp2_with fail
    refine (hu0.out _).mono ?_
    rintro e w2 ⟨rfl, rfl⟩
    exact ⟨rfl, rfl, hb1⟩
  · cases B2
    · simp only [Bool.and_false, Bool.false_and] at hW
      subst hW
      go_enter Tryz.func89, Tryz.ntmps89
      go_wp2_with fail
      refine (h1.out).mono ?_
      rintro e w1 ⟨rfl, hb1⟩
      go_wp2_with fail
      refine (h2.out _ hb1).mono ?_
      rintro e w2 ⟨rfl, hb2⟩
      go_wp2_with fail
      refine (hu0.out _).mono ?_
      rintro e w3 ⟨rfl, rfl⟩
      exact ⟨rfl, rfl, hb1.trans (hb2.mono hb1.size)⟩
    · by_cases hft : f < t
      · simp only [Bool.true_and, hft, decide_true] at hW
        subst hW
        go_enter Tryz.func89, Tryz.ntmps89
        go_wp2_with fail
        refine (h1.out).mono ?_
        rintro e w1 ⟨rfl, hb1⟩
        go_wp2_with fail
        refine (h2.out _ hb1).mono ?_
        rintro e w2 ⟨rfl, hb2⟩
        go_wp2_with fail
        refine (hu1.out _).mono ?_
        rintro e w3 ⟨rfl, rfl⟩
        go_wp2_with fail
        go_end0
        exact ⟨rfl, hb1.trans (hb2.mono hb1.size)⟩
      · simp only [Bool.true_and, hft, decide_false] at hW
        subst hW
        have hft' : t ≤ f := by omega
        go_enter Tryz.func89, Tryz.ntmps89
        go_wp2_with fail
        refine (h1.out).mono ?_
        rintro e w1 ⟨rfl, hb1⟩
        go_wp2_with fail
        refine (h2.out _ hb1).mono ?_
        rintro e w2 ⟨rfl, hb2⟩
        go_wp2_with fail
        rw [decide_eq_false (show ¬ f < t by omega)]
        refine (hu0.out _).mono ?_
        rintro e w3 ⟨rfl, rfl⟩
        exact ⟨rfl, rfl, hb1.trans (hb2.mono hb1.size)⟩

/-- the instances of an event that begin ahead of to -/
def evTimes (d : EvD) (to : Int) : List Int := evT' (hrOf d) (rlOf d) d.st 0 to d.ex d.xt
def insL (d : EvD) (from_ : Int) (l : List Int) : List (Int × Int) := (l.map fun b => (b, b + d.ln)).filter fun p => decide (from_ < p.2)
def insE (s : List UInt8) (from_ to : Int) : Except Int (List (Int × Int)) := match readF s with
  | .error x => .error x
  | .ok d => if winB from_ to then (if (evTimes d to).length ≤ 3000 then .ok (insL d from_ (evTimes d to)) else .error 5) else .error 7
def flatS (l : List (Int × Int)) : List Value := (l.map fun p => [Value.int .i64 p.1, .int .i64 p.2]).flatten

theorem mrgF_mem : ∀ (ts ls : List Int) (x : Int), x ∈ mrgF ts ls → x ∈ ts ∨ x ∈ ls
  | [], ls, x, h => .inr (by rw [mrgF] at h; exact h)
  | t :: ts, ls, x, h => by
    rw [mrgF] at h
    rcases List.mem_append.1 h with h | h
    · exact .inr ((List.takeWhile_sublist _).subset h)
    · rcases List.mem_cons.1 h with rfl | h
      · exact .inl (by simp)
      · rcases mrgF_mem ts _ x h with h | h
        · exact .inl (List.mem_cons_of_mem _ h)
        · right
          have hd : ∀ l : List Int, ∀ y ∈ dropEq t l, y ∈ l := fun l y hy => by
            cases l with
            | nil => simp [dropEq] at hy
            | cons a r =>
              rw [dropEq] at hy
              split at hy
              · exact List.mem_cons_of_mem _ hy
              · exact hy
          exact (List.dropWhile_sublist _).subset (hd _ _ h)
theorem evT_bd (hr : Bool) (r : RuleD) (ho : hr = true → RuleOk r) (st f to : Int) (ex xt : List Int) (s0 : 0 ≤ st) (s1 : st ≤ 7258118400) (f1 : f ≤ 7258118400) (t1 : to ≤ 7258118400) (hx : ∀ t ∈ xt, 0 ≤ t ∧ t ≤ 7258118400) : ∀ t ∈ evT' hr r st f to ex xt, -100000000000 ≤ t ∧ t ≤ 100000000000 := by
  intro t ht
  unfold evT' at ht
  rcases mrgF_mem _ _ _ ht with h | h
  · unfold rbL rbF at h
    obtain ⟨h, _⟩ := List.mem_filter.1 h
    obtain ⟨d, hd, rfl⟩ := List.mem_map.1 h
    have := rdL_bd hr r ho st f to s0 s1 f1 t1 d hd
    omega
  · unfold xbF at h
    obtain ⟨h, _⟩ := List.mem_filter.1 h
    have := hx t h
    omega
/-- an event that was read, as the program's contracts want it -/
theorem ev_data {d : EvD} {E : Ending} {w : World} (h : EvOk2 d E w) : ∃ (u : ByteArray) (m md wk pl : Value) (tx : ByteArray) (exv xtv : Value), E = .returned (.agg (evL u d.st d.ln (hrOf d) (rlOf d) m md wk pl tx exv xtv (openOf d.f) (kindOf d.f - 1)).toArray) ∧ EvLs w (hrOf d) (rlOf d) m md wk pl exv xtv d.ex d.xt ∧ 0 ≤ d.st ∧ d.st ≤ 7258118400 ∧ 0 ≤ d.ln ∧ d.ln ≤ 10000000 := by
  obtain ⟨⟨hs, hl, hex, hxt, l1, l2⟩, exv, xtv, i1, i2, h⟩ := h
  rcases h with ⟨hrl, rfl⟩ | ⟨F, r, m, md, wk, pl, hrl, hP, j1, j2, j3, j4, rfl⟩
  · have e1 : hrOf d = false := by unfold hrOf; rw [hrl]; rfl
    have e2 : rlOf d = noRule := by unfold rlOf; rw [hrl]
    rw [e1, e2]
    refine ⟨_, .slice none 0 0, .slice none 0 0, .slice none 0 0, .slice none 0 0, ⟨#[]⟩, exv, xtv, rfl, ⟨⟨.inl ⟨rfl, rfl⟩, .inl ⟨rfl, rfl⟩, .inl ⟨rfl, rfl⟩, .inl ⟨rfl, rfl⟩⟩, fun h => (by cases h), i1, i2, by omega, by omega, hex, hxt⟩, by omega, by omega, by omega, by omega⟩
  · have e1 : hrOf d = true := by unfold hrOf; rw [hrl]; rfl
    have e2 : rlOf d = r := by unfold rlOf; rw [hrl]; exact ruleOf_is hP
    rw [e1, e2]
    exact ⟨_, m, md, wk, pl, txF F, exv, xtv, rfl, ⟨⟨j1, j2, j3, j4⟩, fun _ => parts_ok hP, i1, i2, by omega, by omega, hex, hxt⟩, by omega, by omega, by omega, by omega⟩
end Go.Proofs.YthpndgcaoeokeaaGreatDoor
namespace Go.Proofs.YthpndgcaoeokeaaGreatDoor
open Go.RowKit Go.Sort
attribute [local go_sem] Oper.semAt_some
attribute [local go_sem] wide_fn wide_depth
attribute [local simp] wide_fn wide_depth

theorem allocE2_run {o : Oper} (ho : o.op = .alloc 79) (a : Act) (w : World) : (execOp a.eval o).run Tryz.prog w = .ok (.value (.pointer (some ⟨w.heap.size, 0, none⟩))) (w.alloc (.cells zeroEv.toArray 79)) := by
  obtain ⟨_, _, _, _, _, _⟩ := o
  simp only [] at ho
  subst ho
  kernel_rfl
theorem evL_one (u : ByteArray) (st ln : Int) (hr : Bool) (r : RuleD) (m md wk pl : Value) (tx : ByteArray) (exv xtv : Value) (tr : Bool) (k : Int) (h1 : m.oneCell' = true) (h2 : md.oneCell' = true) (h3 : wk.oneCell' = true) (h4 : pl.oneCell' = true) (h5 : exv.oneCell' = true) (h6 : xtv.oneCell' = true) :
    ∀ v ∈ evL u st ln hr r m md wk pl tx exv xtv tr k, v.oneCell' = true := by
  intro v hv
  unfold evL at hv
  simp only [List.mem_cons, List.not_mem_nil, or_false] at hv
  rcases hv with rfl | rfl | rfl | rfl | rfl | rfl | rfl | rfl | rfl | rfl | rfl | rfl | rfl | rfl | rfl | rfl | rfl | rfl <;> first | rfl | assumption
theorem infoSpan : (Tryz.prog.info? 39).map (fun i => (i.zero, i.size, i.bytes)) = some (some (.agg #[.int .i64 0, .int .i64 0]), 2, 16) := by kernel_rfl
theorem insL_step (d : EvD) (from_ : Int) (l : List Int) (b : Int) : insL d from_ (l ++ [b]) = insL d from_ l ++ if from_ < b + d.ln then [(b, b + d.ln)] else [] := by
  unfold insL
  rw [List.map_append, List.filter_append]
  by_cases h : from_ < b + d.ln <;> simp [h]
theorem flatS_snoc (l : List (Int × Int)) (p : Int × Int) : flatS (l ++ [p]) = flatS l ++ [.int .i64 p.1, .int .i64 p.2] := by unfold flatS; simp
theorem insL_len (d : EvD) (from_ : Int) (l : List Int) : (insL d from_ l).length ≤ l.length := by
  unfold insL
  exact Nat.le_trans (List.length_filter_le _ _) (by simp)

/-- the loop: the list and the count -/
def IJ (b8 b9 N : Nat) (d : EvD) (from_ : Int) (T : List Int) (i : Nat) : Says := fun D W =>
  SlJ b8 35 39 2 N (insL d from_ (T.take i)).length (flatS (insL d from_ (T.take i))) D W ∧ D b9 ∧ RowAt W b9 [.int .i64 i] 3 ∧ i ≤ 3000
theorem IJ.onD {b8 b9 N : Nat} {d : EvD} {from_ : Int} {T : List Int} {i : Nat} {D : Blocks} {W : World} (h1 : On D (SlJ b8 35 39 2 N (insL d from_ (T.take i)).length (flatS (insL d from_ (T.take i)))) W) (h2 : D b9) (h3 : RowAt W b9 [.int .i64 i] 3) (h4 : i ≤ 3000) : On D (IJ b8 b9 N d from_ T i) W :=
  ⟨h1.1, fun W2 hk => ⟨h1.2 W2 hk, h2, h3.keep (hk _ h2), h4⟩⟩

theorem IJ.post {b8 b9 N M : Nat} {d : EvD} {from_ : Int} {T : List Int} {i : Nat} {D : Blocks} {W W' : World} (h1 : PostL D M (SlJ b8 35 39 2 N (insL d from_ (T.take i)).length (flatS (insL d from_ (T.take i)))) W W') (h2 : D b9) (h3 : RowAt W' b9 [.int .i64 i] 3) (h4 : i ≤ 3000) : PostL D M (IJ b8 b9 N d from_ T i) W W' := by
  obtain ⟨x, D', d1, d2, d3⟩ := h1
  exact ⟨x, D', d1, d2, IJ.onD d3 (d2 _ h2) h3 h4⟩

/-- how it ends -/
def InsP (s : List UInt8) (from_ to : Int) (w : World) : Ending → World → Prop := fun e w' =>
  (match insE s from_ to with
    | .error x => e = .panicked (rsn x)
    | .ok l => ∃ v, e = .returned v ∧ w'.ownsRow w.heap.size 39 2 v l.length (flatS l)) ∧ Below w.heap.size w w'

set_option maxRecDepth 100000 in
set_option maxHeartbeats 8000000 in
theorem instances_n (s : List UInt8) (from_ to : Int) (w : World) (hm : ML w) (ht : Tab w) (hs : s.length ≤ 1048576) :
    Calls Tryz.prog 47 #[.string ⟨s.toArray⟩, .int .i64 from_, .int .i64 to] w (InsP s from_ to w) := by
  have r4 := RowAt.new w [.int .i64 from_] 3
  have hb0 : Below w.heap.size w (w.alloc (.cells #[.int .i64 from_] 3)) := (Below.refl _ _).alloc (Nat.le_refl _) _
  have hz0 : (w.alloc (.cells #[.int .i64 from_] 3)).heap.size = w.heap.size + 1 := by simp
  refine (callsIn_wide (n := 0)).1 ?_
  refine callsIn_of_wpF Tryz.func47 rfl ?_
  simp only [Tryz.ntmps47, List.size_toArray, List.length_cons, List.length_nil, Nat.reduceAdd, Nat.reduceSub, Array.replicate_succ, Array.replicate_zero, List.push_toArray, List.append_toArray, List.nil_append, List.cons_append]
  refine wpF_seq fun K hK => wpF_of ?_
  gi_wp2_with fail
  have eW : w.alloc (.cells [.int .i64 from_].toArray 3) = w.alloc (.cells #[.int .i64 from_] 3) := rfl
  rw [eW] at r4
  clear eW
  replace hz0 := hide hz0
  generalize w.alloc (.cells #[.int .i64 from_] 3) = W0 at *
  cases hr : readF s with
  | error x =>
    have hI : InsP s from_ to w = fun e w' => e = .panicked (rsn x) ∧ Below w.heap.size w w' := by
      unfold InsP insE; rw [hr]
    rw [hI]
    have C : Hid (Calls Tryz.prog 43 #[.string ⟨s.toArray⟩] W0 fun E w' => E = .panicked (rsn x) ∧ Below W0.heap.size W0 w') := hide ((eventsRead_any s W0 (hm.on hb0) hs).mono fun E w' h => by
      obtain ⟨h1, h2⟩ := read_prog h
      refine ⟨?_, h2⟩
      rcases h1 with ⟨y, h3, h4⟩ | ⟨d, h3, _⟩
      · rw [hr] at h3; cases h3; exact h4
      · rw [hr] at h3; cases h3)
    clear hr hI hm ht
    refine wpF_seq fun K hK => wpF_of ?_
    gi_wp2_with fail
    refine (callsIn_wide.2 C.out).mono ?_
    rintro e w1 ⟨rfl, hb1⟩
    exact ⟨rfl, hb0.trans (hb1.mono hb0.size)⟩
  | ok d =>
    have C : Hid (Calls Tryz.prog 43 #[.string ⟨s.toArray⟩] W0 fun E w' => (∃ (u : ByteArray) (m md wk pl : Value) (tx : ByteArray) (exv xtv : Value), E = .returned (.agg (evL u d.st d.ln (hrOf d) (rlOf d) m md wk pl tx exv xtv (openOf d.f) (kindOf d.f - 1)).toArray) ∧ EvLs w' (hrOf d) (rlOf d) m md wk pl exv xtv d.ex d.xt ∧ 0 ≤ d.st ∧ d.st ≤ 7258118400 ∧ 0 ≤ d.ln ∧ d.ln ≤ 10000000) ∧ Below W0.heap.size W0 w') := hide ((eventsRead_any s W0 (hm.on hb0) hs).mono fun E w' h => by
      obtain ⟨h1, h2⟩ := read_prog2 h
      refine ⟨?_, h2⟩
      rcases h1 with ⟨y, h3, h4⟩ | ⟨d', h3, h4⟩
      · rw [hr] at h3; cases h3
      · rw [hr] at h3; cases h3; exact ev_data h4)
    have HT := hide ht
    clear hm ht
    refine wpF_seq fun K hK => wpF_of (wpIn_wide.2 ?_)
    go_wp2_with fail
    refine (C.out).mono ?_
    rintro e w1 ⟨⟨u, m, md, wk, pl, tx, exv, xtv, rfl, hl, s0, s1, l0, l1⟩, hb1⟩
    have hone : ∀ v ∈ evL u d.st d.ln (hrOf d) (rlOf d) m md wk pl tx exv xtv (openOf d.f) (kindOf d.f - 1), v.oneCell' = true := by
      obtain ⟨a1, e1⟩ := hl.rule.ms.form
      obtain ⟨a2, e2⟩ := hl.rule.mds.form
      obtain ⟨a3, e3⟩ := hl.rule.wks.form
      obtain ⟨a4, e4⟩ := hl.rule.pls.form
      obtain ⟨a5, c5, e5⟩ := hl.hex.sl
      obtain ⟨a6, c6, e6⟩ := hl.hxt.sl
      exact evL_one _ _ _ _ _ _ _ _ _ _ _ _ _ _ (by rw [e1]; rfl) (by rw [e2]; rfl) (by rw [e3]; rfl) (by rw [e4]; rfl) (by rw [e5]; rfl) (by rw [e6]; rfl)
    have hlen : (evL u d.st d.ln (hrOf d) (rlOf d) m md wk pl tx exv xtv (openOf d.f) (kindOf d.f - 1)).length = 18 := rfl
    replace hl := hide hl
    replace r4 := r4.on hb1
    replace hb0 := hb0.trans (hb1.mono hb0.size)
    have hz1 := hb1.size
    clear C hb1
    go_wp2_with (first
      | (refine wpl_alloc_row rfl (allocE2_run rfl _ _) ?_; intro w2 he2 hz2 hb2)
      | (refine wpl_store_row rfl rfl rfl rfl he2 rfl infoEv hone ?_; intro w3 he3 hx3; have hb3 := hb2.trans (hx3.below (by omega) (fun k hk => by omega)); have hz3 := hx3.size))
    replace r4 := r4.on hb3
    replace hl := hide (hl.out.on hb3)
    have hEb : ∀ k, EBk m md wk pl exv xtv k → k < w3.heap.size := fun k hk => hl.out.blk hk
    have hbw := hb0.trans (hb3.mono hb0.size)
    have hw3 : w.heap.size + 2 ≤ w3.heap.size := by have := hz0.out; omega
    have hbe : w1.heap.size < w3.heap.size := by omega
    have hw1 : w.heap.size < w1.heap.size := by have := hz0.out; omega
    generalize hE : evL u d.st d.ln (hrOf d) (rlOf d) m md wk pl tx exv xtv (openOf d.f) (kindOf d.f - 1) = EV at *
    clear he2 hz2 hb2 hx3 hz3 hb3 hone hb0 hz1
    generalize w1.heap.size = be at *
    have hNW := hide (needWindow_n from_ to w3 (HT.out.on hbw))
    refine wpF_seq fun K hK => wpF_of ?_
    have c4 := r4.cell (k := 0) rfl
    gi_wp2_with fail
    refine (callsIn_wide.2 hNW.out).mono ?_
    rintro e w5 ⟨he, hb5⟩
    clear c4 hNW HT
    cases hwin : winB from_ to
    case false =>
      rw [hwin] at he
      simp only [Bool.false_eq_true, if_false] at he
      subst he
      have hI : InsP s from_ to w = fun e w' => e = .panicked (rsn 7) ∧ Below w.heap.size w w' := by
        unfold InsP insE; rw [hr]; simp only [hwin, Bool.false_eq_true, if_false]
      rw [hI]
      exact ⟨rfl, hbw.trans (hb5.mono hbw.size)⟩
    case true =>
      rw [hwin] at he
      simp only [if_true] at he
      subst he
      have hto : 0 ≤ to ∧ to < 7258118400 := by
        unfold winB isTimeB at hwin
        simp only [Bool.and_eq_true, decide_eq_true_eq] at hwin
        omega
      have hG1 : Hid ((evTimes d to).length ≤ 3000 → ∀ v w', w'.ownsRow w.heap.size 39 2 v (insL d from_ (evTimes d to)).length (flatS (insL d from_ (evTimes d to))) → Below w.heap.size w w' → InsP s from_ to w (.returned v) w') := hide (by
        intro h3 v w' h4 h5
        unfold InsP insE; rw [hr]; simp only [hwin, if_true, h3]
        exact ⟨⟨v, rfl, h4⟩, h5⟩)
      have hG2 : Hid (¬ (evTimes d to).length ≤ 3000 → ∀ w', Below w.heap.size w w' → InsP s from_ to w (.panicked (rsn 5)) w') := hide (by
        intro h3 w' h5
        unfold InsP insE; rw [hr]; simp only [hwin, if_true, h3, if_false]
        exact ⟨trivial, h5⟩)
      replace r4 := r4.on hb5
      replace he3 := he3.on hb5
      replace hl := hide (hl.out.on hb5)
      replace hbw := hbw.trans (hb5.mono hbw.size)
      have hz5 := hb5.size
      clear hb5
      have hTb := hide (evT_bd (hrOf d) (rlOf d) hl.out.ok d.st 0 to d.ex d.xt s0 s1 (by omega) (by omega) hl.out.xtb)
      gi_wp2_with fail
      refine wpF_seq fun K hK => wpF_of ?_
      gi_wp2_with fail
      refine wpF_seq fun K hK => wpF_of ?_
      gi_wp2_with fail
      have r8 := row_fst w5 [.slice none 0 0] 35 (.cells #[.int .i64 0] 3)
      have r9 := row_snd w5 [.int .i64 0] 3 (.cells #[.slice none 0 0] 35)
      have hbx := bl_two w5 (.cells #[.slice none 0 0] 35) (.cells #[.int .i64 0] 3)
      have hz6 : ((w5.alloc (.cells #[.slice none 0 0] 35)).alloc (.cells #[.int .i64 0] 3)).heap.size = w5.heap.size + 2 := by simp
      replace hz6 := hide hz6
      generalize (w5.alloc (.cells #[.slice none 0 0] 35)).alloc (.cells #[.int .i64 0] 3) = w6 at *
      replace r4 := r4.on hbx
      replace he3 := he3.on hbx
      have hl6 := hl.out.on hbx
      replace hbw := hbw.trans (hbx.mono hbw.size)
      rw [← hE] at he3
      have hIN := hide (evInstances_n u d.st d.ln (hrOf d) (rlOf d) m md wk pl tx exv xtv d.ex d.xt (openOf d.f) (kindOf d.f - 1) 0 to w6 hl6 s0 s1 l0 l1 (by omega) (by omega) (by omega) (by omega) hTb.out)
      rw [hE] at hIN
      clear hl hl6 hbx
      refine wpF_seq fun K1 hK1 => ?_
      refine wpF_seq fun K hK => wpF_of ?_
      gi_wp2_with (refine evIn rfl rfl rfl he3 (fun _ => trivial) ?_)
      refine (callsIn_wide.2 hIN.out).mono ?_
      rintro e w7 ⟨g, lb, R, rfl, hit, hRR, eg, hb7⟩
      replace r4 := r4.on hb7
      replace r8 := r8.on hb7
      replace r9 := r9.on hb7
      replace hbw := hbw.trans (hb7.mono hbw.size)
      have hz7 := hb7.size
      clear hb7 hIN he3 hE
      have hT9 : Hid (evTimes d to = evT' (hrOf d) (rlOf d) d.st 0 to d.ex d.xt) := hide rfl
      rw [← hT9.out] at hit hTb
      clear hT9
      generalize evTimes d to = T at *
      have hw6 := hz6.out
      gi_wp2_with fail
      refine wpF_block ?_
      generalize hb8 : w5.heap.size = b8 at *
      refine range_go (gf := g) (lb := lb) Tryz.func47 ?g eg hit (Nat.le_refl _) (fun _ _ => rfl) (fun k hk => (hRR k hk).1)
        (fun k => k = b8 ∨ k = b8 + 1) (fun k hk hk' => by
          rcases (hRR k hk').2 with h | h
          · have := hEb k h; omega
          · omega) (IJ b8 (b8 + 1) w7.heap.size d from_ T) (fun _ _ _ => False) (fun c D W => c = rsn 5 ∧ 3000 < T.length) ?ps ?start ?round ?done ?stop ?pan
      case g => rfl
      case ps => intro x hx; obtain ⟨b, _, rfl⟩ := List.mem_map.1 hx; rfl
      case start => exact IJ.onD (SlJ.onD (fun k hk => by omega) ⟨.inl rfl, .slice none 0 0, r8, fun k hk => by simp [Value.ownBlock] at hk, World.ownsRow_nil _ _ _ _⟩) (.inr rfl) r9 (by omega)
      case stop =>
        rintro c W ⟨_, D, _, _, hon⟩
        exact hon.out.elim
      case pan =>
        rintro c W4 ⟨hx, D, hd1, _, hon⟩ hs hdef
        obtain ⟨rfl, h3⟩ := hon.out
        have hbz := hbw.trans (hx.below (B := w.heap.size) (by omega) (fun k hk => by omega))
        refine ⟨by simp, .inl ⟨_, _, rfl, run_takeDeferred hdef, ?_⟩⟩
        refine hG2.out (by omega) _ ⟨hbz.os, hbz.tape, hbz.output, by simp; omega, fun k hk => (World.putObj_heap_other (by omega)).trans (hbz.block k hk)⟩
      case done =>
        rw [spanL_len]
        rintro W4 ⟨hx, D, hd1, _, hon⟩ hs hdef
        obtain ⟨⟨hD8, v, row8, hvD, hown⟩, _, _, h3⟩ := hon.out
        rw [List.take_length] at hown
        have hbz := hbw.trans (hx.below (B := w.heap.size) (by omega) (fun k hk => by omega))
        have c8 := row8.cell (k := 0) rfl
        have hvb := fun k hk => (hown.lt k hk).1
        simp only [Exit.inBlock, Exit.then]
        refine hK1 _ _ (wpF_of ?_)
        clear hK1 hon hit
        gi_wp2_with fail
        have hnd : ∀ k, v.ownBlock = some k → k ≠ w7.heap.size := fun k hk e => by
          rcases hd1 k (hvD k hk).1 with h | h <;> omega
        refine ⟨by simp, .inl ⟨_, _, rfl, run_takeDeferred hdef, ?_⟩⟩
        refine ⟨_, results_tmp rfl _ _ _, hG1.out h3 _ _ ?_ ?_⟩
        · exact own_low (own_keep hown fun g hg => World.putObj_heap_other (hnd g hg)) (by omega)
        · exact ⟨hbz.os, hbz.tape, hbz.output, by simp; omega, fun k hk => (World.putObj_heap_other (by omega)).trans (hbz.block k hk)⟩
      case round =>
        intro l1' i x hx W4 D hxc hs hOD hon K hK
        obtain ⟨b, hd⟩ : ∃ b, T[i]? = some b := ⟨_, List.getElem?_eq_getElem (by have := (List.getElem?_eq_some_iff.1 hx).1; rwa [spanL_len] at this)⟩
        rw [spanL_get hd] at hx
        cases hx
        have htb := hTb.out b (List.mem_of_getElem? hd)
        have hiT := (List.getElem?_eq_some_iff.1 hd).1
        have htk := hide (show T.take (i + 1) = T.take i ++ [b] from by rw [List.take_add_one, hd]; rfl)
        clear hd hTb
        gi_wp2_with fail
        have hbA : Below W4.heap.size W4 (W4.alloc (.cells #[.int .i64 b, .int .i64 (b + d.ln)] 39)) := (Below.refl _ _).alloc (Nat.le_refl _) _
        refine hK _ _ (fun k => D k ∨ k = W4.heap.size) hbA (fun k hk => hk.imp id fun h => by omega) (fun k hk => .inl hk) (fun k hk => hk.elim (fun h => by have := hon.1 k h; simp; omega) (fun h => by simp; omega)) ?_
        intro l' W2 hk2 hx2 hs2
        have q4 := r4.exc hx2 (show ¬ (w.heap.size = b8 ∨ w.heap.size = b8 + 1) by omega)
        have q10 := (RowAt.new W4 [.int .i64 b, .int .i64 (b + d.ln)] 39).keep (hk2 _ (.inr rfl))
        have hon2 := hon.on (W' := W2) fun k hk => (hk2 k (.inl hk)).trans (hbA.block k (hon.1 k hk))
        have hne : ¬ D W4.heap.size := fun h => by have := hon.1 _ h; omega
        clear hK hk2 hit hK1 hbA
        obtain ⟨⟨hD8, v, q8, hvD, hown⟩, hD9, q9, h3⟩ := hon2.out
        have hD1 : ∀ k, D k ∨ k = W4.heap.size → k < W2.heap.size := fun k hk => hk.elim (hon2.1 k) (fun h => by have := q10.lt; omega)
        have hvb : ∀ k, v.ownBlock = some k → k ≠ b8 + 1 := fun k hk => by have := (hown.lt k hk).1; omega
        have c9 := q9.cell (k := 0) rfl
        have f9 := q9.free (k := 0)
        gi_wp2_with fail
        have e9 : (Value.int .i64 ((i : Int) + 1)) = .int .i64 ((i + 1 : Nat) : Int) := by simp
        have hx3 : Exc (fun k => D k ∨ k = W4.heap.size) W2 (W2.setCell ⟨b8 + 1, 0, none⟩ (.int .i64 ((i : Int) + 1))) := (Exc.refl _ _).setCell (.inl (.inl hD9)) _
        have y9 := q9.set (k := 0) (.int .i64 ((i : Int) + 1))
        have hsc : ∀ k, k ≠ b8 + 1 → (W2.setCell ⟨b8 + 1, 0, none⟩ (.int .i64 ((i : Int) + 1))).heap[k]? = W2.heap[k]? := fun k hk => Below.heap_setCell _ _ _ _ hk
        have y4 : RowAt (W2.setCell ⟨b8 + 1, 0, none⟩ (.int .i64 ((i : Int) + 1))) _ _ _ := (hsc _ (by omega)).trans q4
        have y8 : RowAt (W2.setCell ⟨b8 + 1, 0, none⟩ (.int .i64 ((i : Int) + 1))) _ _ _ := (hsc _ (by omega)).trans q8
        have y10 : RowAt (W2.setCell ⟨b8 + 1, 0, none⟩ (.int .i64 ((i : Int) + 1))) _ _ _ := (hsc _ (by omega)).trans q10
        have hown3 := own_keep hown (w' := W2.setCell ⟨b8 + 1, 0, none⟩ (.int .i64 ((i : Int) + 1))) fun g hg => hsc g (hvb g hg)
        clear c9 f9 q4 q8 q9 q10 hsc hown
        generalize W2.setCell ⟨b8 + 1, 0, none⟩ (.int .i64 ((i : Int) + 1)) = W3 at *
        have y9' : RowAt W3 (b8 + 1) [.int .i64 ((i + 1 : Nat) : Int)] 3 := by rw [← e9]; exact y9
        clear y9 e9
        by_cases hle : i + 1 ≤ 3000
        case neg =>
          rw [decide_eq_false (by omega)]
          refine (CallsIn.inRound l' (callsIn_wide.2 (unless_no 5 _))).mono ?_
          rintro e W5 ⟨rfl, rfl⟩
          exact ⟨rfl, hx3, _, fun k hk => .inl hk, fun k hk => hk, ⟨fun k hk => Nat.lt_of_lt_of_le (hD1 k hk) hx3.size, fun W5 _ => ⟨rfl, (by omega)⟩⟩⟩
        rw [decide_eq_true (by omega)]
        refine (CallsIn.inRound l' (callsIn_wide.2 (unless_yes 5 _))).mono ?_
        rintro e W5 ⟨rfl, rfl⟩
        have hstep := hide (insL_step d from_ (T.take i) b)
        rw [← htk.out] at hstep
        have x0 := y10.cell (k := 0) rfl
        have x1 := y10.cell (k := 1) rfl
        have c4 := y4.cell (k := 0) rfl
        have c8 := y8.cell (k := 0) rfl
        have f8 := y8.free (k := 0)
        by_cases hfr : from_ < b + d.ln
        case neg =>
          rw [if_neg hfr, List.append_nil] at hstep
          gi_wp2_with fail
          show PostL _ _ _ _ _
          refine IJ.post ⟨hx3, fun k => D k ∨ k = W4.heap.size, fun k hk => .inl hk, fun k hk => hk, ?_⟩ (.inl hD9) y9' hle
          rw [hstep.out]
          exact SlJ.onD (fun k hk => Nat.lt_of_lt_of_le (hD1 k hk) hx3.size) ⟨.inl hD8, v, y8, fun k hk => ⟨.inl (hvD k hk).1, (hvD k hk).2⟩, hown3⟩
        rw [if_pos hfr] at hstep
        gi_wp2_with (gi_at_builtin; refine Hid.out ?_)
        refine hide ?_
        have hil : (insL d from_ (T.take i)).length ≤ i := Nat.le_trans (insL_len _ _ _) (by simp; omega)
        have hzA : w7.heap.size ≤ W3.heap.size := by have := hx3.size; omega
        refine app_in rfl (.tmp 29) (.tmp 31) 35 39 _ 2 16 rfl Tryz.underlying35 infoSpan rfl (by decide) w7.heap.size _ _ _ rfl (hown3.alloc _) (by simp; omega) W3.heap.size [.int .i64 b, .int .i64 (b + d.ln)] rfl rfl (fun j u hj => (RowAt.new W3 [.int .i64 b, .int .i64 (b + d.ln)] 39).cell hj) (by simp [Value.oneCell']) (by omega) (by decide) ?_
        intro v' W6 hown6 hg6 hat6
        obtain ⟨g6, cap6, rfl⟩ := own_sl hown6
        replace hat6 := hide hat6
        have hba := (Below.refl W3.heap.size W3).alloc (Nat.le_refl _) (.cells [.int .i64 b, .int .i64 (b + d.ln)].toArray 39)
        have z8 := y8.on hba
        have z9 := y9'.on hba
        have z8' : RowAt W6 b8 [v] 35 := (hg6.block _ z8.lt (fun e => (hvD _ e.symm).2 rfl)).trans z8
        have z9' : RowAt W6 (b8 + 1) [.int .i64 ((i + 1 : Nat) : Int)] 3 := (hg6.block _ z9.lt (fun e => hvb _ e.symm rfl)).trans z9
        clear c8 f8 x0 x1 c4
        have c8 := z8'.cell (k := 0) rfl
        have f8 := z8'.free (k := 0)
        gi_wp2_with fail
        have hfin := post_app (D1 := fun k => D k ∨ k = W4.heap.size) (W2 := W2) (p := b8) (T := 35) hD1 (.inl hD8) (hx3.alloc _) z8 (fun k hk => ⟨.inl (hvD k hk).1, (hvD k hk).2⟩) hg6 hat6.out hown6
        show PostL _ _ _ _ _
        refine IJ.post ?_ (.inl hD9) ((Below.heap_setCell _ _ _ _ (show b8 + 1 ≠ b8 by omega)).trans z9') hle
        rw [hstep.out, flatS_snoc, List.length_append]
        exact hfin
end Go.Proofs.YthpndgcaoeokeaaGreatDoor
namespace Go.Proofs.YthpndgcaoeokeaaGreatDoor
open Go.RowKit Go.Sort

theorem catchSpan_idle (p : Addr) (w : World) :
    CallsD Tryz.prog 88 #[.pointer (some p)] .returning w fun e u' w' => e = .returned (.tuple #[]) ∧ u' = .returning ∧ w' = w := by
  have hf := frame_put p .nilIface
  refine callsD_of_wpS Tryz.func88 rfl fun c₀ cs hu => ?_
  refine wpS_seqK fun K hK => ?_
  refine wpS_region ?_
  simp [wpOpsS, go_sem, recoverD, hu, Tryz.ntmps88, Exit.thenS]
  rw [hf]
  refine hK _ _ _ ?_
  clear hK K hf
  refine wpS_of_wp ?_
  go_wp2
  cases c₀
  simp_all [bodyPostS, results, Tryz.results88]

set_option maxRecDepth 100000 in
set_option maxHeartbeats 1000000 in
theorem catchSpan_panicking (p : Addr) (e : Int) (x : Value) (older : List PanicEntry) (w : World) (hc : w.cell? p = some x) (hz : w.frozen? p = false) (hp : p.block < w.heap.size) :
    CallsD Tryz.prog 88 #[.pointer (some p)] (.panicking ({ v := .iface 103 (.agg #[.int .i64 e]), recovered := false } :: older)) w fun E u' w' =>
      E = .returned (.tuple #[]) ∧ u' = .panicking ({ v := .iface 103 (.agg #[.int .i64 e]), recovered := true } :: older) ∧ w' = (w.alloc (.cells #[.int .i64 e] 103)).setCell p (.int .i64 e) := by
  have hta := run_assert
  have hz2 : ∀ o, (w.alloc o).frozen? p = false := fun o => by rw [World.frozen?_alloc_old w o p (by omega)]; exact hz
  have hf := frame_put p (.iface 103 (.agg #[.int .i64 e]))
  refine callsD_of_wpS Tryz.func88 rfl fun c₀ cs hu => ?_
  refine wpS_seqK fun K hK => ?_
  refine wpS_region ?_
  simp [wpOpsS, go_sem, recoverD, hu, Tryz.ntmps88, Exit.thenS]
  rw [hf]
  refine hK _ _ _ ?_
  clear hK K hf
  refine wpS_of_wp ?_
  go_wp2
  exact ⟨rfl, _, rfl, .tuple #[], by simp [results, Tryz.results88], rfl, rfl, rfl⟩

set_option maxRecDepth 100000 in
set_option maxHeartbeats 1000000 in
theorem answerSpan_yes (p q r : Addr) (l : List (Int × Int)) (w : World)
    (hf : ∀ W, Below w.heap.size w W → Calls Tryz.prog 46 #[.pointer (some p), .pointer (some q), .pointer (some r)] W fun E w' => (∃ v, E = .returned v ∧ w'.ownsRow W.heap.size 39 2 v l.length (flatS l)) ∧ Below W.heap.size W w') :
    Calls Tryz.prog 45 #[.func (.func 46) #[] #[.pointer (some p), .pointer (some q), .pointer (some r)]] w fun E w' => (∃ v, E = .returned (.tuple #[v, .int .i64 0]) ∧ w'.ownsRow w.heap.size 39 2 v l.length (flatS l)) ∧ Below w.heap.size w w' := by
  have hmf : ∀ (fn : Fn) (first cap : Array Value) (w : World), (Instr.makeFunc fn first cap).run Tryz.prog w = .ok (.func fn first cap) w := fun _ _ _ _ => rfl
  have HF := hide hf
  clear hf
  go_enter_defers Tryz.func45, Tryz.ntmps45
  go_wp2_with fail
  refine (HF.out _ ((Below.refl _ _).alloc (Nat.le_refl _) _)).mono ?_
  rintro e w1 ⟨⟨v, rfl, hown⟩, hb1⟩
  obtain ⟨hc, hfz⟩ := bcell hb1
  have hz := hb1.size
  have h0 : w1.cell? ⟨w.heap.size, 0, none⟩ = some (.int .i64 0) := by rw [hc _ _ (by simp)]; simp [go_sem]
  have h1 : w1.frozen? ⟨w.heap.size, 0, none⟩ = false := by rw [hfz _ _ (by simp)]; simp [go_sem]
  have hlt : w.heap.size < w1.heap.size := by simp at hz; omega
  have hb : Below w.heap.size w w1 := ((Below.refl _ _).alloc (Nat.le_refl _) _).trans (hb1.mono (by simp))
  clear hc hfz hb1 hz
  have hne : ∀ k, v.ownBlock = some k → k ≠ w.heap.size := fun k hk => by have := (hown.lt k hk).1; simp at this; omega
  have hown' := own_keep hown (w' := w1.setCell ⟨w.heap.size, 0, none⟩ (.int .i64 0)) fun g hg => Below.heap_setCell _ _ _ _ (hne g hg)
  replace hown' := own_low hown' (show w.heap.size ≤ _ by simp)
  obtain ⟨a5, c5, rfl⟩ := own_sl hown
  clear hown hne
  go_wp2
  refine leaves_cons (f := 88) (args := #[.pointer (some ⟨w.heap.size, 0, none⟩)]) (by simp) (by simp [go_sem]) ?_
  refine (catchSpan_idle _ _).mono ?_
  rintro e u' w'' ⟨rfl, rfl, rfl⟩
  refine ⟨.tuple #[.slice a5 l.length c5, .int .i64 0], ?_, ⟨_, rfl, hown'⟩, hb.setCell (Nat.le_refl _) _⟩
  simp [results, Tryz.results45, go_sem, h0]

set_option maxRecDepth 100000 in
set_option maxHeartbeats 1000000 in
theorem answerSpan_no (p q r : Addr) (x : Int) (w : World)
    (hf : ∀ W, Below w.heap.size w W → Calls Tryz.prog 46 #[.pointer (some p), .pointer (some q), .pointer (some r)] W fun E w' => E = .panicked (rsn x) ∧ Below W.heap.size W w') :
    Calls Tryz.prog 45 #[.func (.func 46) #[] #[.pointer (some p), .pointer (some q), .pointer (some r)]] w fun E w' => E = .returned (.tuple #[.slice none 0 0, .int .i64 x]) ∧ Below w.heap.size w w' := by
  have hmf : ∀ (fn : Fn) (first cap : Array Value) (w : World), (Instr.makeFunc fn first cap).run Tryz.prog w = .ok (.func fn first cap) w := fun _ _ _ _ => rfl
  have HF := hide hf
  clear hf
  go_enter_defers Tryz.func45, Tryz.ntmps45
  go_wp2_with fail
  refine (HF.out _ ((Below.refl _ _).alloc (Nat.le_refl _) _)).mono ?_
  rintro e w1 ⟨rfl, hb1⟩
  obtain ⟨hc, hfz⟩ := bcell hb1
  have hz := hb1.size
  have h0 : w1.cell? ⟨w.heap.size, 0, none⟩ = some (.int .i64 0) := by rw [hc _ _ (by simp)]; simp [go_sem]
  have h1 : w1.frozen? ⟨w.heap.size, 0, none⟩ = false := by rw [hfz _ _ (by simp)]; simp [go_sem]
  have hlt : w.heap.size < w1.heap.size := by simp at hz; omega
  have hb : Below w.heap.size w w1 := ((Below.refl _ _).alloc (Nat.le_refl _) _).trans (hb1.mono (by simp))
  clear hc hfz hb1 hz
  refine leaves_cons (f := 88) (args := #[.pointer (some ⟨w.heap.size, 0, none⟩)]) (by simp) (by simp [go_sem]) ?_
  refine (catchSpan_panicking ⟨w.heap.size, 0, none⟩ x (.int .i64 0) [] _ h0 h1 hlt).mono ?_
  rintro e u' w'' ⟨rfl, rfl, rfl⟩
  refine ⟨.tuple #[.slice none 0 0, .int .i64 x], ?_, rfl, (hb.alloc (Nat.le_of_lt hlt) _).setCell (Nat.le_refl _) _⟩
  have h2 : ((w1.alloc (.cells #[.int .i64 x] 103)).cell? ⟨w.heap.size, 0, none⟩).isSome = true := by
    rw [World.cell?_alloc_past _ _ _ hlt, h0]; rfl
  simp [results, Tryz.results45, go_sem, h2]

set_option maxHeartbeats 1000000 in
theorem inst1_no (s : List UInt8) (f t : Int) (p q r : Addr) (w : World) (hm : ML w) (ht : Tab w) (hs : s.length ≤ 1048576) (c0 : w.cell? p = some (.string ⟨s.toArray⟩)) (c1 : w.cell? q = some (.int .i64 f)) (c2 : w.cell? r = some (.int .i64 t)) (x : Int) (h : insE s f t = .error x) :
    Calls Tryz.prog 46 #[.pointer (some p), .pointer (some q), .pointer (some r)] w fun E w' => E = .panicked (rsn x) ∧ Below w.heap.size w w' := by
  have C : Hid (Calls Tryz.prog 47 #[.string ⟨s.toArray⟩, .int .i64 f, .int .i64 t] w fun E w' => E = .panicked (rsn x) ∧ Below w.heap.size w w') := hide ((instances_n s f t w hm ht hs).mono fun E w' hp => by
    unfold InsP at hp; rw [h] at hp; exact hp)
  clear hm ht h
  go_enter Tryz.func46, Tryz.ntmps46
  go_wp2_with fail
  refine (C.out).mono ?_
  rintro e w1 ⟨rfl, hb⟩
  exact ⟨rfl, rfl, hb⟩
set_option maxHeartbeats 1000000 in
theorem inst1_yes (s : List UInt8) (f t : Int) (p q r : Addr) (w : World) (hm : ML w) (ht : Tab w) (hs : s.length ≤ 1048576) (c0 : w.cell? p = some (.string ⟨s.toArray⟩)) (c1 : w.cell? q = some (.int .i64 f)) (c2 : w.cell? r = some (.int .i64 t)) (l : List (Int × Int)) (h : insE s f t = .ok l) :
    Calls Tryz.prog 46 #[.pointer (some p), .pointer (some q), .pointer (some r)] w fun E w' => (∃ v, E = .returned v ∧ w'.ownsRow w.heap.size 39 2 v l.length (flatS l)) ∧ Below w.heap.size w w' := by
  have C : Hid (Calls Tryz.prog 47 #[.string ⟨s.toArray⟩, .int .i64 f, .int .i64 t] w fun E w' => (∃ v, E = .returned v ∧ w'.ownsRow w.heap.size 39 2 v l.length (flatS l)) ∧ Below w.heap.size w w') := hide ((instances_n s f t w hm ht hs).mono fun E w' hp => by
    unfold InsP at hp; rw [h] at hp; exact hp)
  clear hm ht h
  go_enter Tryz.func46, Tryz.ntmps46
  go_wp2_with fail
  refine (C.out).mono ?_
  rintro e w1 ⟨⟨v, rfl, hown⟩, hb⟩
  go_wp2_with fail
  go_ret
  exact ⟨⟨v, rfl, hown⟩, hb⟩

/-- what Instances answers -/
def InstP (s : List UInt8) (f t : Int) (w : World) : Ending → World → Prop := fun e w' =>
  (match insE s f t with
    | .error x => e = .returned (.tuple #[.slice none 0 0, .int .i64 x])
    | .ok l => ∃ v, e = .returned (.tuple #[v, .int .i64 0]) ∧ w'.ownsRow w.heap.size 39 2 v l.length (flatS l)) ∧ Below w.heap.size w w'
set_option maxRecDepth 100000 in
set_option maxHeartbeats 2000000 in
theorem instAll_n (s : List UInt8) (f t : Int) (w : World) (hm : ML w) (ht : Tab w) (hs : s.length ≤ 1048576) :
    Calls Tryz.prog 23 #[.string ⟨s.toArray⟩, .int .i64 f, .int .i64 t] w (InstP s f t w) := by
  have hmf : ∀ (fn : Fn) (first cap : Array Value) (w : World), (Instr.makeFunc fn first cap).run Tryz.prog w = .ok (.func fn first cap) w := fun _ _ _ _ => rfl
  obtain ⟨W0, hW0⟩ : ∃ W0, W0 = ((w.alloc (.cells #[.string ⟨s.toArray⟩] 9)).alloc (.cells #[.int .i64 f] 3)).alloc (.cells #[.int .i64 t] 3) := ⟨_, rfl⟩
  have hb00 : Below w.heap.size w W0 := by
    subst hW0
    exact (((Below.refl _ _).alloc (Nat.le_refl _) _).alloc (by simp) _).alloc (by simp; omega) _
  have hb0 : ∀ W, Below W0.heap.size W0 W → Below w.heap.size w W := fun W hb => hb00.trans (hb.mono hb00.size)
  have k0 : W0.cell? ⟨w.heap.size, 0, none⟩ = some (.string ⟨s.toArray⟩) ∧ W0.cell? ⟨w.heap.size + 1, 0, none⟩ = some (.int .i64 f) ∧ W0.cell? ⟨w.heap.size + 1 + 1, 0, none⟩ = some (.int .i64 t) ∧ W0.heap.size = w.heap.size + 3 := by
    subst hW0
    refine ⟨?_, ?_, ?_, by simp⟩ <;> simp [go_sem]
  obtain ⟨k0, k1, k2, k3⟩ := k0
  have hcl : ∀ W, Below W0.heap.size W0 W → W.cell? ⟨w.heap.size, 0, none⟩ = some (.string ⟨s.toArray⟩) ∧ W.cell? ⟨w.heap.size + 1, 0, none⟩ = some (.int .i64 f) ∧ W.cell? ⟨w.heap.size + 1 + 1, 0, none⟩ = some (.int .i64 t) := fun W hb =>
    ⟨(hb.cell (by simp; omega)).trans k0, (hb.cell (by simp; omega)).trans k1, (hb.cell (by simp; omega)).trans k2⟩
  cases h : insE s f t with
  | error x =>
    have hv : InstP s f t w = fun e w' => e = .returned (.tuple #[.slice none 0 0, .int .i64 x]) ∧ Below w.heap.size w w' := by unfold InstP; rw [h]
    rw [hv]
    have C := hide (answerSpan_no ⟨w.heap.size, 0, none⟩ ⟨w.heap.size + 1, 0, none⟩ ⟨w.heap.size + 1 + 1, 0, none⟩ x W0 (fun W hb => inst1_no s f t _ _ _ W (hm.on (hb0 W hb)) (ht.on (hb0 W hb)) hs (hcl W hb).1 (hcl W hb).2.1 (hcl W hb).2.2 x h))
    replace hW0 := hide hW0
    clear hcl hb0 hm ht hv h k0 k1 k2 k3
    go_enter Tryz.func23, Tryz.ntmps23
    go_wp2_with fail
    rw [← hW0.out]
    refine (C.out).mono ?_
    rintro e w1 ⟨rfl, hb⟩
    go_wp2_with fail
    go_ret2
    exact ⟨rfl, hb00.trans (hb.mono hb00.size)⟩
  | ok l =>
    have hv : InstP s f t w = fun e w' => (∃ v, e = .returned (.tuple #[v, .int .i64 0]) ∧ w'.ownsRow w.heap.size 39 2 v l.length (flatS l)) ∧ Below w.heap.size w w' := by unfold InstP; rw [h]
    rw [hv]
    have C := hide (answerSpan_yes ⟨w.heap.size, 0, none⟩ ⟨w.heap.size + 1, 0, none⟩ ⟨w.heap.size + 1 + 1, 0, none⟩ l W0 (fun W hb => inst1_yes s f t _ _ _ W (hm.on (hb0 W hb)) (ht.on (hb0 W hb)) hs (hcl W hb).1 (hcl W hb).2.1 (hcl W hb).2.2 l h))
    replace hW0 := hide hW0
    replace k3 := hide k3
    clear hcl hb0 hm ht hv h k0 k1 k2
    go_enter Tryz.func23, Tryz.ntmps23
    go_wp2_with fail
    rw [← hW0.out]
    refine (C.out).mono ?_
    rintro e w1 ⟨⟨v, rfl, hown⟩, hb⟩
    obtain ⟨a5, c5, rfl⟩ := own_sl hown
    go_wp2_with fail
    go_ret2
    exact ⟨⟨_, rfl, own_low hown (by have := k3.out; omega)⟩, hb00.trans (hb.mono hb00.size)⟩
end Go.Proofs.YthpndgcaoeokeaaGreatDoor
namespace Go.Proofs.YthpndgcaoeokeaaGreatDoor
open Go.RowKit Go.Sort

def pickI (c n : Int) : Int := if c < 0 then (-(c + 1)) % n else c % n
theorem pick_bd (c n : Int) (h : 0 < n) : 0 ≤ pickI c n ∧ pickI c n < n := by
  unfold pickI
  split
  · exact ⟨Int.emod_nonneg _ (by omega), Int.emod_lt_of_pos _ h⟩
  · exact ⟨Int.emod_nonneg _ (by omega), Int.emod_lt_of_pos _ h⟩
set_option maxHeartbeats 1000000 in
theorem pick_n (c n : Int) (w : World) (h0 : -9223372036854775808 ≤ c) (h1 : c ≤ 9223372036854775807) (n0 : 0 < n) (n1 : n ≤ 9223372036854775807) :
    Calls Tryz.prog 17 #[.int .i64 c, .int .i64 n] w fun e w' => e = .returned (.int .i64 (pickI c n)) ∧ w = w' := by
  unfold pickI
  by_cases hc : c < 0
  · rw [if_pos hc]
    go_enter Tryz.func17, Tryz.ntmps17
    go_wp2
    go_ret
    refine ⟨ret_int ?_, rfl⟩
    rw [← Int.neg_tmod, Int.tmod_eq_emod_of_nonneg (by omega)]
  · rw [if_neg hc]
    go_enter Tryz.func17, Tryz.ntmps17
    go_wp2
    go_ret
    exact ⟨rfl, rfl⟩

/-- a number as it is written -/
def dgsF : Nat → Int → List UInt8
  | 0, _ => []
  | g + 1, n => (if n < 10 then [] else dgsF g (n / 10)) ++ [UInt8.ofNat (48 + n % 10).toNat]
def dgs (n : Int) : List UInt8 := dgsF 20 n
set_option maxRecDepth 100000 in
set_option maxHeartbeats 1000000 in
theorem digits_n (n : Int) (w : World) (h0 : 0 ≤ n) (h1 : n < 100000000000000000000) (h2 : n ≤ 9223372036854775807) :
    Calls Tryz.prog 21 #[.int .i64 n] w fun e w' => e = .returned (.string ⟨(dgs n).toArray⟩) ∧ Below w.heap.size w w' := by
  have hcv := conv_one
  have hm : 0 ≤ n % 10 ∧ n % 10 < 10 := by omega
  have hst : Hid ((if n < 10 then [] else dgsF 19 (n / 10)) ++ [UInt8.ofNat (48 + n % 10).toNat] = dgs n) := hide rfl
  go_enter Tryz.func21, Tryz.ntmps21
  go_wp2
  go_loopw [0, 3] (fun t s wr => ∃ (g : Nat) (q : Int) (l : List UInt8), g ≤ 19 ∧ 0 ≤ q ∧ q ≤ 9223372036854775807 ∧ Hid (q < 10 ^ (g + 1)) ∧ t = .int .i64 q ∧ s = .string ⟨l.toArray⟩ ∧ l.length ≤ 20 - g ∧ Hid ((if q < 10 then [] else dgsF g (q / 10)) ++ l = dgs n) ∧ Below w.heap.size w wr) (fun t _ _ => (intOf t).toNat)
  case atStart => exact ⟨19, n, _, by omega, h0, h2, hide (by omega), rfl, rfl, by simp, hst, (Below.refl _ _).alloc (Nat.le_refl _) _⟩
  case round =>
    obtain ⟨g, q, l, g0, q0, q1, hq, rfl, rfl, hl, HP, hb⟩ := hrel
    clear hst
    by_cases hlt : 10 ≤ q
    · have hg : ∃ k, g = k + 1 := by
        cases g with
        | zero => have := hq.out; simp at this; omega
        | succ k => exact ⟨k, rfl⟩
      obtain ⟨k, rfl⟩ := hg
      have hq' : Hid (q / 10 < 10 ^ (k + 1)) := hide (by have := hq.out; rw [Int.pow_succ] at this; omega)
      have HP' : Hid ((if q / 10 < 10 then [] else dgsF k (q / 10 / 10)) ++ (UInt8.ofNat (48 + q / 10 % 10).toNat :: l) = dgs n) := hide (by
        have := HP.out
        rw [if_neg (by omega), dgsF, List.append_assoc] at this
        exact this)
      clear HP hq
      have hm' : 0 ≤ q / 10 % 10 ∧ q / 10 % 10 < 10 := by omega
      go_wp2
      refine ⟨⟨k, q / 10, UInt8.ofNat (48 + q / 10 % 10).toNat :: l, by omega, by omega, by omega, hq', rfl, str_eq (ba_app [_] l), by simp; omega, HP', ?_⟩, by simp [intOf]; omega⟩
      exact hb.alloc hb.size _
    · have HQ : Hid (l = dgs n) := hide (by
        have := HP.out
        rw [if_pos (by omega)] at this
        exact this)
      clear HP
      go_wp2
      go_ret
      exact ⟨ret_str (by rw [HQ.out]), hb⟩

theorem dgsF_len : ∀ (g : Nat) (n : Int) (k : Nat), n < 10 ^ (k + 1) → (dgsF g n).length ≤ k + 1
  | 0, n, k, h => by simp [dgsF]
  | g + 1, n, k, h => by
    rw [dgsF, List.length_append]
    by_cases h1 : n < 10
    · rw [if_pos h1]; simp
    · rw [if_neg h1]
      cases k with
      | zero => simp at h; omega
      | succ k =>
        have := dgsF_len g (n / 10) k (by rw [Int.pow_succ] at h; omega)
        simp; omega
end Go.Proofs.YthpndgcaoeokeaaGreatDoor
