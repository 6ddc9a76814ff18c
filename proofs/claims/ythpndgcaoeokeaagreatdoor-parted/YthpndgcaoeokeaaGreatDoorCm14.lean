/- The program's own: an event is read (events.Read). The document's rule (fallowref.rule): what is made, what goes back, one part more. The document's rule (fallowref.rule): its last region, which draws its order and has guards. Structs and arrays made, stored and loaded whole, with the world behind named at once. Of no program. -/
import Derived.Test.YthpndgcaoeokeaaGreatDoorCm13
namespace Go.Proofs.YthpndgcaoeokeaaGreatDoor
open Go.RowKit Go.Sort


theorem ruleC_one (fq iv ct un ws : Int) (a1 a2 a3 a4 : Option Addr) (n1 n2 n3 n4 c1 c2 c3 c4 : Nat) (tx : ByteArray) : ∀ v ∈ ruleC fq iv ct un (.slice a1 n1 c1) (.slice a2 n2 c2) (.slice a3 n3 c3) (.slice a4 n4 c4) ws tx, v.oneCell' = true := by
  intro v hv
  unfold ruleC at hv
  simp only [List.mem_cons, List.not_mem_nil, or_false] at hv
  rcases hv with rfl | rfl | rfl | rfl | rfl | rfl | rfl | rfl | rfl | rfl <;> rfl
theorem evC_one (u : ByteArray) (st ln : Int) (hr : Bool) (rc : List Value) (a1 a2 : Option Addr) (n1 n2 c1 c2 : Nat) (tr : Bool) (k : Int) (hrc : ∀ v ∈ rc, v.oneCell' = true) : ∀ v ∈ evC u st ln hr rc (.slice a1 n1 c1) (.slice a2 n2 c2) tr k, v.oneCell' = true := by
  intro v hv
  unfold evC at hv
  simp only [List.mem_append, List.mem_cons, List.not_mem_nil, or_false] at hv
  rcases hv with ((rfl | rfl | rfl | rfl) | h) | (rfl | rfl | rfl | rfl)
  · rfl
  · rfl
  · rfl
  · rfl
  · exact hrc v h
  · rfl
  · rfl
  · rfl
  · rfl
theorem ruleC_len (fq iv ct un ws : Int) (m md wk pl : Value) (tx : ByteArray) : (ruleC fq iv ct un m md wk pl ws tx).length = 10 := rfl
theorem evC_len (u : ByteArray) (st ln : Int) (hr : Bool) (rc : List Value) (ex xt : Value) (tr : Bool) (k : Int) (h : rc.length = 10) : (evC u st ln hr rc ex xt tr k).length = 18 := by
  unfold evC; simp [h]
theorem zeroEv_len : zeroEv.length = 18 := rfl
theorem setL_split : ∀ (vs : List Value) (o : Nat) (pre mid post : List Value), pre.length = o → mid.length = vs.length → setL o vs (pre ++ mid ++ post) = pre ++ vs ++ post
  | [], o, pre, mid, post, _, hm => by
    have : mid = [] := List.eq_nil_of_length_eq_zero hm
    subst this; rfl
  | v :: r, o, pre, mid, post, hp, hm => by
    cases mid with
    | nil => simp at hm
    | cons x m =>
      have e : (pre ++ x :: m ++ post).set o v = (pre ++ [v]) ++ m ++ post := by
        subst hp
        simp
      rw [setL, e, setL_split r (o + 1) (pre ++ [v]) m post (by simp [hp]) (by simpa using hm)]
      simp
theorem setL_all (vs cs : List Value) (h : cs.length = vs.length) : setL 0 vs cs = vs := by
  have := setL_split vs 0 [] cs [] rfl h
  simpa using this
theorem setL_rule (u : ByteArray) (st ln : Int) (hr : Bool) (rc rc' : List Value) (ex xt : Value) (tr : Bool) (k : Int) (h : rc'.length = rc.length) : setL 4 rc' (evC u st ln hr rc ex xt tr k) = evC u st ln hr rc' ex xt tr k := by
  unfold evC
  exact setL_split rc' 4 _ rc _ rfl h.symm

theorem RowAt.setsOther {w : World} {g b : Nat} {cs : List Value} {t : TypeId} (h : RowAt w g cs t) (hne : g ≠ b) : ∀ {vs : List Value} {o : Nat}, RowAt (w.setCells b o vs) g cs t := by
  intro vs
  induction vs generalizing w with
  | nil => intro o; exact h
  | cons v l ih => intro o; exact ih (h.other hne v)
theorem row_mid {w : World} {b o : Nat} {cs : List Value} {t : TypeId} {n : Nat} (h : RowAt w b cs t) (hn : o + n ≤ cs.length) : w.there b o n := fun j hj => by
  exact ⟨by rw [h.cell (List.getElem?_eq_getElem (show o + j < cs.length by omega))]; rfl, h.free⟩

theorem infoRule : (Tryz.prog.info? 76).map (·.size) = some 10 := by kernel_rfl
theorem infoEvent : (Tryz.prog.info? 79).map (·.size) = some 18 := by kernel_rfl

set_option maxRecDepth 100000 in
set_option maxHeartbeats 16000000 in
theorem eventsRead_any (s : List UInt8) (w : World) (hm : ML w) (hs : s.length ≤ 1048576) :
    Calls Tryz.prog 43 #[.string ⟨s.toArray⟩] w (EvPost s w) := by
  have hb1 : Below w.heap.size w (w.alloc (.cells zeroEv.toArray 79)) := (Below.refl _ _).alloc (Nat.le_refl _) _
  have z1 : (w.alloc (.cells zeroEv.toArray 79)).heap.size = w.heap.size + 1 := by simp
  have hr1 := RowAt.new w zeroEv 79
  have CP := readProperties_any s (w.alloc (.cells zeroEv.toArray 79)) (hm.on hb1) hs
  have hmz : 0 < w.heap.size := hm.1
  by_cases hE : ∃ F, IsProps s F
  case neg =>
    have HN : Hid (¬ ∃ F tr k, IsHead s F tr k) := hide (fun ⟨F, _, _, h⟩ => hE ⟨F, h.1⟩)
    have C : Hid (Calls Tryz.prog 74 #[.string ⟨s.toArray⟩] (w.alloc (.cells zeroEv.toArray 79)) fun E w' => E = .panicked (rsn 2) ∧ Below w.heap.size w w') := hide (CP.mono fun E w' ⟨h1, h2⟩ => by
      rcases h1 with ⟨F, g, h, _⟩ | ⟨_, h⟩
      · exact absurd ⟨F, h⟩ hE
      · exact ⟨h, hb1.trans (h2.mono (by omega))⟩)
    clear CP hE hr1 z1 hb1 hm hs
    go_enter Tryz.func43, Tryz.ntmps43
    go_wp2_with (go_at_call 74; refine (C.out).mono ?_; rintro e w3 ⟨rfl, hbw⟩)
    exact ⟨rfl, .inr (.inl ⟨HN.out, rfl⟩), hbw⟩
  case pos =>
    obtain ⟨F, hFp⟩ := hE
    have C : Hid (Calls Tryz.prog 74 #[.string ⟨s.toArray⟩] (w.alloc (.cells zeroEv.toArray 79)) fun E w' => ∃ g, E = .returned (.slice (some ⟨g, 0, none⟩) 9 9) ∧ w.heap.size + 1 ≤ g ∧ FieldsAt w' g F ∧ Below w.heap.size w w' ∧ RowAt w' w.heap.size zeroEv 79 ∧ ML w' ∧ w.heap.size ≤ w'.heap.size) := hide (CP.mono fun E w' ⟨h1, h2⟩ => by
      rcases h1 with ⟨F', g, h, h3, h4, h5⟩ | ⟨h, _⟩
      · rw [hFp.uniq h] at h5
        have := h2.size
        exact ⟨g, h3, by omega, h5, hb1.trans (h2.mono (by omega)), hr1.on h2, (hm.on hb1).on h2, by omega⟩
      · exact absurd ⟨F, hFp⟩ h)
    have hsm' := hFp.small
    have HSMALL := hide hsm'
    have hsm : ∀ k, ((F k).getD []).length ≤ 1048576 := fun k => Nat.le_trans (hsm' k) (by decide)
    have no : (∀ tr k, Begun F tr k → False) → ¬ ∃ F tr k, IsHead s F tr k := fun h ⟨F', tr, k, h1, h2⟩ => by rw [hFp.uniq h1] at h2; exact h tr k h2
    have HU := hide hFp
    clear CP hr1 z1 hb1 hm hs hsm' hFp
    have HSM := hide hsm
    have HNO := hide no
    clear hsm no
    go_enter Tryz.func43, Tryz.ntmps43
    go_wp2_with (go_at_call 74; refine (C.out).mono ?_; rintro e w3 ⟨g, rfl, hg, hF, hbw, hres, hm3, hwz⟩)
    have no := HNO.out
    have hsm := HSM.out
    refine wp_region_plain (GE g F w3.heap.size) (JE w3 w.heap.size g) (by kernel_rfl) (by kernel_rfl) (by kernel_rfl) ?_ ?_ ?_
    rotate_left 2
    · exact ⟨rfl, rfl, rfl, rfl, (Below.refl _ _).drew⟩
    · intro i o ho a w' hI hG
      have hi : i < 16 := (Array.getElem?_eq_some_iff.1 ho).1
      have hor : i = 0 ∨ i = 1 ∨ i = 2 ∨ i = 3 ∨ i = 4 ∨ i = 5 ∨ i = 6 ∨ i = 7 ∨ i = 8 ∨ i = 9 ∨ i = 10 ∨ i = 11 ∨ i = 12 ∨ i = 13 ∨ i = 14 ∨ i = 15 := by omega
      rcases hor with rfl | rfl | rfl | rfl | rfl | rfl | rfl | rfl | rfl | rfl | rfl | rfl | rfl | rfl | rfl | rfl <;> obtain rfl := Option.some.inj ho
      · -- 0
        exact op_value (v := a.eval (.tmp 3)) (by kernel_rfl) (stepE rfl (by decide) hI (Below.refl _ _) (show NE g F w3.heap.size 0 _ _ from hI.s3) (by kernel_rfl) rfl)
      · -- 1
        have e : a.eval (.tmp 7) = .slice (some ⟨g, 0, none⟩) 9 9 := GE_val (hG ⟨0, .data⟩ (by simp) rfl) (by decide)
        exact op_value (v := .pointer (some ⟨g, 0 * 2, none⟩)) (run_value (by show (Instr.indexAt 118 (a.eval (.tmp 7)) (.int .i64 0)).run _ _ = _; rw [e]; exact fieldAt_run g 0 (by decide) w')) (stepE rfl (by decide) hI (Below.refl _ _) (show NE g F w3.heap.size 1 _ _ from rfl) (by kernel_rfl) rfl)
      · -- 2
        have e : a.eval (.tmp 8) = .pointer (some ⟨g, 0 * 2, none⟩) := GE_val (hG ⟨1, .data⟩ (by simp) rfl) (by decide)
        exact op_value (v := .pointer (some ⟨g, 0 * 2, none⟩)) (run_value (by show (Instr.fieldAt 122 (a.eval (.tmp 8)) 0).run _ _ = _; rw [e]; exact fieldAddr_run _ w' rfl)) (stepE rfl (by decide) hI (Below.refl _ _) (show NE g F w3.heap.size 2 _ _ from rfl) (by kernel_rfl) rfl)
      · -- 3
        have e : a.eval (.tmp 9) = .pointer (some ⟨g, 0 * 2, none⟩) := GE_val (hG ⟨2, .data⟩ (by simp) rfl) (by decide)
        exact op_value (v := .string (ofL ((F 0).getD []))) (run_value (by show (Instr.loadAt 9 (a.eval (.tmp 9))).run _ _ = _; rw [e]; exact valLoad_run (hF.on hI.below) (by decide))) (stepE rfl (by decide) hI (Below.refl _ _) (show NE g F w3.heap.size 3 _ _ from rfl) (by kernel_rfl) rfl)
      · -- 4
        have e : a.eval (.tmp 10) = .string (ofL ((F 0).getD [])) := GE_val (hG ⟨3, .data⟩ (by simp) rfl) (by decide)
        refine op_call (R := fun E w'' => E = nmE (ofL ((F 0).getD [])) 2 ∧ Below w'.heap.size w' w'') (f := 75) (args := #[a.eval (.tmp 10), .int .i64 2]) (by kernel_rfl) (by rw [e]; exact wordsName_any (ofL ((F 0).getD [])) 2 w' (show (ofL ((F 0).getD [])).size ≤ maxLen from maxLen_le (hsm 0))) ?_ ?_ ?_
        · rintro v w'' ⟨he, hb⟩
          obtain ⟨hn, rfl⟩ := nmE_ret he
          exact (stepE rfl (by decide) hI hb (show NE g F w3.heap.size 4 _ _ from ⟨hn, rfl⟩) (by kernel_rfl) rfl)
        · rintro c w'' ⟨he, hb⟩
          obtain ⟨hn, rfl⟩ := nmE_pan he
          exact ⟨hI.defers, .inr (.inl ⟨no fun tr k hB => (by have := hB.uid; rw [hn] at this; cases this), rfl⟩), hbw.trans ((hI.below.trans (hb.mono hI.below.size)).mono hwz)⟩
        · rintro w'' ⟨he, _⟩
          exact nmE_out he
      · -- 5
        exact op_value (v := a.eval (.tmp 3)) (by kernel_rfl) (stepE rfl (by decide) hI (Below.refl _ _) (show NE g F w3.heap.size 5 _ _ from hI.s3) (by kernel_rfl) rfl)
      · -- 6
        have e : a.eval (.tmp 12) = .slice (some ⟨g, 0, none⟩) 9 9 := GE_val (hG ⟨5, .data⟩ (by simp) rfl) (by decide)
        exact op_value (v := .pointer (some ⟨g, 7 * 2, none⟩)) (run_value (by show (Instr.indexAt 118 (a.eval (.tmp 12)) (.int .i64 7)).run _ _ = _; rw [e]; exact fieldAt_run g 7 (by decide) w')) (stepE rfl (by decide) hI (Below.refl _ _) (show NE g F w3.heap.size 6 _ _ from rfl) (by kernel_rfl) rfl)
      · -- 7
        have e : a.eval (.tmp 13) = .pointer (some ⟨g, 7 * 2, none⟩) := GE_val (hG ⟨6, .data⟩ (by simp) rfl) (by decide)
        exact op_value (v := fldV (F 7)) (run_value (by show (Instr.loadAt 122 (a.eval (.tmp 13))).run _ _ = _; rw [e]; exact fieldLoad_run (hF.on hI.below) (by decide))) (stepE rfl (by decide) hI (Below.refl _ _) (show NE g F w3.heap.size 7 _ _ from rfl) (by kernel_rfl) rfl)
      · -- 8
        have e : a.eval (.tmp 14) = fldV (F 7) := GE_val (hG ⟨7, .data⟩ (by simp) rfl) (by decide)
        refine op_call (R := fun E w'' => E = boolE 2 (trF (F 7)) ∧ Below w'.heap.size w' w'') (f := 76) (args := #[a.eval (.tmp 14)]) (by kernel_rfl) (by rw [e]; exact readTransparent_any (F 7) w') ?_ ?_ ?_
        · rintro v w'' ⟨he, hb⟩
          obtain ⟨z, hz, rfl⟩ := boolE_ret he
          exact (stepE rfl (by decide) hI hb (show NE g F w3.heap.size 8 _ _ from ⟨z, hz, rfl⟩) (by kernel_rfl) rfl)
        · rintro c w'' ⟨he, hb⟩
          obtain ⟨hz, rfl⟩ := boolE_pan he
          exact ⟨hI.defers, .inr (.inl ⟨no fun tr k hB => (by have := hB.tr; rw [hz] at this; cases this), rfl⟩), hbw.trans ((hI.below.trans (hb.mono hI.below.size)).mono hwz)⟩
        · rintro w'' ⟨he, _⟩
          exact boolE_out he
      · -- 9
        exact op_value (v := a.eval (.tmp 3)) (by kernel_rfl) (stepE rfl (by decide) hI (Below.refl _ _) (show NE g F w3.heap.size 9 _ _ from hI.s3) (by kernel_rfl) rfl)
      · -- 10
        have e : a.eval (.tmp 16) = .slice (some ⟨g, 0, none⟩) 9 9 := GE_val (hG ⟨9, .data⟩ (by simp) rfl) (by decide)
        exact op_value (v := .pointer (some ⟨g, 8 * 2, none⟩)) (run_value (by show (Instr.indexAt 118 (a.eval (.tmp 16)) (.int .i64 8)).run _ _ = _; rw [e]; exact fieldAt_run g 8 (by decide) w')) (stepE rfl (by decide) hI (Below.refl _ _) (show NE g F w3.heap.size 10 _ _ from rfl) (by kernel_rfl) rfl)
      · -- 11
        have e : a.eval (.tmp 17) = .pointer (some ⟨g, 8 * 2, none⟩) := GE_val (hG ⟨10, .data⟩ (by simp) rfl) (by decide)
        exact op_value (v := fldV (F 8)) (run_value (by show (Instr.loadAt 122 (a.eval (.tmp 17))).run _ _ = _; rw [e]; exact fieldLoad_run (hF.on hI.below) (by decide))) (stepE rfl (by decide) hI (Below.refl _ _) (show NE g F w3.heap.size 11 _ _ from rfl) (by kernel_rfl) rfl)
      · -- 12
        have e : a.eval (.tmp 18) = fldV (F 8) := GE_val (hG ⟨11, .data⟩ (by simp) rfl) (by decide)
        refine op_call (R := fun E w'' => E = optE 2 (stF (F 8)) ∧ Below w'.heap.size w' w'') (f := 77) (args := #[a.eval (.tmp 18)]) (by kernel_rfl) (by rw [e]; exact readStatus_any (F 8) w') ?_ ?_ ?_
        · rintro v w'' ⟨he, hb⟩
          obtain ⟨z, hz, rfl⟩ := optE_ret he
          exact (stepE rfl (by decide) hI hb (show NE g F w3.heap.size 12 _ _ from ⟨z, hz, rfl⟩) (by kernel_rfl) rfl)
        · rintro c w'' ⟨he, hb⟩
          obtain ⟨hz, rfl⟩ := optE_pan he
          exact ⟨hI.defers, .inr (.inl ⟨no fun tr k hB => (by have := hB.st; rw [hz] at this; cases this), rfl⟩), hbw.trans ((hI.below.trans (hb.mono hI.below.size)).mono hwz)⟩
        · rintro w'' ⟨he, _⟩
          exact optE_out he
      · -- 13
        obtain ⟨hu, t0⟩ := GE_val (hG ⟨4, .data⟩ (by simp) rfl) (by decide)
        obtain ⟨tr, q1, t1⟩ := GE_val (hG ⟨8, .data⟩ (by simp) rfl) (by decide)
        obtain ⟨k, q2, t2⟩ := GE_val (hG ⟨12, .data⟩ (by simp) rfl) (by decide)
        exact op_value (v := evV (ofL ((F 0).getD [])) 0 0 false zeroRule (.slice none 0 0) (.slice none 0 0) tr k) (run_value (by simp only [List.map_toArray, List.map_cons, List.map_nil]; rw [show a.eval (.tmp 11) = _ from t0, show a.eval (.tmp 15) = _ from t1, show a.eval (.tmp 19) = _ from t2]; exact buildEv_run ..)) (stepE rfl (by decide) hI (Below.refl _ _) (show NE g F w3.heap.size 13 _ _ from ⟨tr, k, ⟨hu, q1, q2⟩, rfl⟩) (by kernel_rfl) rfl)
      · -- 14
        exact op_value (v := .pointer (some ⟨w'.heap.size, 0, none⟩)) (w' := w'.alloc (.cells zeroEv.toArray 79)) (by kernel_rfl) (stepE rfl (by decide) hI ((Below.refl _ _).alloc (Nat.le_refl _) _) (show NE g F w3.heap.size 14 _ _ from ⟨_, rfl, hI.below.size, zeroEv, rfl, RowAt.new _ _ _⟩) (by kernel_rfl) rfl)
      · -- 15
        obtain ⟨b, eb, hBb, cs, hcs, hrow'⟩ := GE_val (hG ⟨14, .data⟩ (by simp) rfl) (by decide)
        have hv : EV F (a.eval (.tmp 20)) := GE_val (hG ⟨13, .data⟩ (by simp) rfl) (by decide)
        obtain ⟨w'', hrun, hbl, hgr, hrb⟩ := storeE_ok hrow' hcs hBb hI.below hv
        refine op_skip (w' := w'') (run_unit (by show (Instr.storeAt 79 (a.eval (.tmp 4)) (a.eval (.tmp 20))).run _ _ = _; rw [show a.eval (.tmp 4) = _ from eb]; exact hrun)) ⟨⟨hI.size, hI.defers, hI.s2, hI.s3, hbl⟩, ?_, fun j oj hoj hj _ hg => ?_⟩
        · unfold GE; rw [if_pos rfl]; exact ⟨b, eb, hBb, hrb⟩
        · unfold GE at hg ⊢
          rw [if_neg hj] at hg ⊢
          exact NE.gr hg hgr
    · intro a w4 hI hG
      have g15 := hG 15 (by decide)
      unfold GE at g15
      rw [if_pos rfl] at g15
      obtain ⟨b, eb, hBb, tr, k, hB, hrow4⟩ := g15
      obtain ⟨f, rfl, hfe⟩ := act_lit61 a hI.size hI.defers
      have e2 := (hfe 2).symm.trans hI.s2
      have e3 := (hfe 3).symm.trans hI.s3
      have e4 := (hfe 4).symm.trans eb
      have hb4 := hI.below
      have hF4 := hF.on hb4
      have hm4 := hm3.on hb4
      have hres4 := hres.on hb4
      have hbw4 : Below w.heap.size w w4 := hbw.trans (hb4.mono hwz)
      have hlt := hF.lt
      have hgb : g ≠ b := by omega
      have hrb : w.heap.size ≠ b := by omega
      have hbB : w.heap.size ≤ b := by omega
      have hmb : 0 ≠ b := by omega
      have HD : Hid (IsHead s F tr k) := hide ⟨HU.out, hB⟩
      clear hI hG hfe hF hm3 hres hb4 hbw HNO no HU hlt hg hBb hwz hsm hB C
      rw [e2, e3, e4]
      have v1 : w4.cell? ⟨g, 2, none⟩ = some (.string ⟨((F 1).getD []).toArray⟩) := hF4.val 1 (by decide)
      have CT := fun W => eventsTime_any (ofL ((F 1).getD [])) W
      rw [timeE_opt] at CT
      cases ht : timF ((F 1).getD []) with
      | none =>
        rw [ht] at CT
        unfold optE at CT
        have HX : Hid (∃ F tr k, IsHead s F tr k ∧ ¬ ∃ st ln ex xt, TimesAre F st ln ex xt) := hide ⟨F, tr, k, HD.out, fun ⟨_, _, _, _, h⟩ => by have := h.hst; rw [ht] at this; cases this⟩
        have C1 := hide CT
        clear CT ht
        go_wp2_with (go_at_call 78; refine (C1.out _).mono ?_; rintro e w5 ⟨rfl, hb5⟩)
        exact ⟨rfl, .inr (.inr (.inl ⟨HX.out, rfl⟩)), hbw4.trans (hb5.mono hbw4.size)⟩
      | some st =>
        rw [ht] at CT
        unfold optE at CT
        have hstb := timF_bd ht
        have HT := hide ht
        have C1 := hide CT
        clear CT ht
        go_wp2_with (go_at_call 78; refine (C1.out _).mono ?_; rintro e w5 ⟨rfl, hb5⟩; have hr5 := hrow4.on hb5; have y1 := hr5.cell (k := 1) rfl; have z1 := hr5.free (k := 1))
        have hrow6 : RowAt (w5.setCell ⟨b, 1, none⟩ (.int .i64 st)) b (evC (ofL ((F 0).getD [])) st 0 false zeroRule (.slice none 0 0) (.slice none 0 0) tr k) 79 := hr5.set _
        have hF6 := (hF4.on hb5).other hgb (i := 1) (.int .i64 st)
        have hm6 := (hm4.on hb5).other hmb (i := 1) (.int .i64 st)
        have hres6 := (hres4.on hb5).other hrb (k := 1) (.int .i64 st)
        have hbw6 : Below w.heap.size w (w5.setCell ⟨b, 1, none⟩ (.int .i64 st)) := (hbw4.trans (hb5.mono hbw4.size)).setCell hbB _
        clear hr5 y1 z1 hb5 hF4 hm4 hres4 hbw4 hrow4 v1
        generalize w5.setCell ⟨b, 1, none⟩ (.int .i64 st) = w6 at *
        have hsm := HSM.out
        refine wp_region_plain (GL g b F st tr k) (JL w w.heap.size g b F st tr k) (by kernel_rfl) (by kernel_rfl) (by kernel_rfl) ?_ ?_ ?_
        rotate_left 2
        · exact ⟨rfl, rfl, rfl, rfl, rfl, hF6.drewn, hm6, ⟨0, hrow6⟩, hres6, hbw6.drew⟩
        · intro i o ho a w' hI hG
          have hi : i < 11 := (Array.getElem?_eq_some_iff.1 ho).1
          have hor : i = 0 ∨ i = 1 ∨ i = 2 ∨ i = 3 ∨ i = 4 ∨ i = 5 ∨ i = 6 ∨ i = 7 ∨ i = 8 ∨ i = 9 ∨ i = 10 := by omega
          rcases hor with rfl | rfl | rfl | rfl | rfl | rfl | rfl | rfl | rfl | rfl | rfl <;> obtain rfl := Option.some.inj ho
          · -- 0
            exact op_value (v := .pointer (some ⟨b, 1, none⟩)) (run_value (by show (Instr.fieldAt 79 (a.eval (.tmp 4)) 1).run _ _ = _; rw [hI.s4]; exact evAddr1_run b w')) (stepL rfl (by decide) hI (Below.refl _ _) (show NL g b F st 0 _ from rfl) (by kernel_rfl) rfl)
          · -- 1
            have e : a.eval (.tmp 27) = .pointer (some ⟨b, 1, none⟩) := GL_val (hG ⟨0, .data⟩ (by simp) rfl) (by decide)
            obtain ⟨z, hz⟩ := hI.row
            exact op_value (v := .int .i64 st) (run_value (by show (Instr.loadAt 3 (a.eval (.tmp 27))).run _ _ = _; rw [e]; exact intLoad_run (hz.cell (k := 1) rfl))) (stepL rfl (by decide) hI (Below.refl _ _) (show NL g b F st 1 _ from rfl) (by kernel_rfl) rfl)
          · -- 2
            exact op_value (v := a.eval (.tmp 3)) (by kernel_rfl) (stepL rfl (by decide) hI (Below.refl _ _) (show NL g b F st 2 _ from hI.s3) (by kernel_rfl) rfl)
          · -- 3
            have e : a.eval (.tmp 29) = .slice (some ⟨g, 0, none⟩) 9 9 := GL_val (hG ⟨2, .data⟩ (by simp) rfl) (by decide)
            exact op_value (v := .pointer (some ⟨g, 2 * 2, none⟩)) (run_value (by show (Instr.indexAt 118 (a.eval (.tmp 29)) (.int .i64 2)).run _ _ = _; rw [e]; exact fieldAt_run g 2 (by decide) w')) (stepL rfl (by decide) hI (Below.refl _ _) (show NL g b F st 3 _ from rfl) (by kernel_rfl) rfl)
          · -- 4
            have e : a.eval (.tmp 30) = .pointer (some ⟨g, 2 * 2, none⟩) := GL_val (hG ⟨3, .data⟩ (by simp) rfl) (by decide)
            exact op_value (v := fldV (F 2)) (run_value (by show (Instr.loadAt 122 (a.eval (.tmp 30))).run _ _ = _; rw [e]; exact fieldLoad_run hI.fields (by decide))) (stepL rfl (by decide) hI (Below.refl _ _) (show NL g b F st 4 _ from rfl) (by kernel_rfl) rfl)
          · -- 5
            exact op_value (v := a.eval (.tmp 3)) (by kernel_rfl) (stepL rfl (by decide) hI (Below.refl _ _) (show NL g b F st 5 _ from hI.s3) (by kernel_rfl) rfl)
          · -- 6
            have e : a.eval (.tmp 32) = .slice (some ⟨g, 0, none⟩) 9 9 := GL_val (hG ⟨5, .data⟩ (by simp) rfl) (by decide)
            exact op_value (v := .pointer (some ⟨g, 3 * 2, none⟩)) (run_value (by show (Instr.indexAt 118 (a.eval (.tmp 32)) (.int .i64 3)).run _ _ = _; rw [e]; exact fieldAt_run g 3 (by decide) w')) (stepL rfl (by decide) hI (Below.refl _ _) (show NL g b F st 6 _ from rfl) (by kernel_rfl) rfl)
          · -- 7
            have e : a.eval (.tmp 33) = .pointer (some ⟨g, 3 * 2, none⟩) := GL_val (hG ⟨6, .data⟩ (by simp) rfl) (by decide)
            exact op_value (v := fldV (F 3)) (run_value (by show (Instr.loadAt 122 (a.eval (.tmp 33))).run _ _ = _; rw [e]; exact fieldLoad_run hI.fields (by decide))) (stepL rfl (by decide) hI (Below.refl _ _) (show NL g b F st 7 _ from rfl) (by kernel_rfl) rfl)
          · -- 8
            have e1 : a.eval (.tmp 28) = .int .i64 st := GL_val (hG ⟨1, .data⟩ (by simp) rfl) (by decide)
            have e4 : a.eval (.tmp 31) = fldV (F 2) := GL_val (hG ⟨4, .data⟩ (by simp) rfl) (by decide)
            have e7 : a.eval (.tmp 34) = fldV (F 3) := GL_val (hG ⟨7, .data⟩ (by simp) rfl) (by decide)
            refine op_call (R := fun E w'' => E = optE 1 (lnF st (F 2) (F 3)) ∧ Below w'.heap.size w' w'') (f := 79) (args := #[a.eval (.tmp 28), a.eval (.tmp 31), a.eval (.tmp 34)]) (by kernel_rfl) (by rw [e1, e4, e7]; exact eventLength_any st (F 2) (F 3) w' hstb.1 hstb.2 (maxLen_le (hsm 3))) ?_ ?_ ?_
            · rintro v w'' ⟨he, hb⟩
              obtain ⟨z, hz, rfl⟩ := optE_ret he
              exact (stepL rfl (by decide) hI hb (show NL g b F st 8 _ from ⟨z, hz, rfl⟩) (by kernel_rfl) rfl)
            · rintro c w'' ⟨he, hb⟩
              obtain ⟨hz, rfl⟩ := optE_pan he
              exact ⟨hI.defers, .inr (.inr (.inl ⟨⟨F, tr, k, HD.out, fun ⟨st', _, _, _, h⟩ => by have h1 := h.hst; rw [HT.out] at h1; cases h1; have := h.hln; rw [hz] at this; cases this⟩, rfl⟩)), hI.below.trans (hb.mono hI.below.size)⟩
            · rintro w'' ⟨he, _⟩
              exact optE_out he
          · -- 9
            exact op_value (v := .pointer (some ⟨b, 2, none⟩)) (run_value (by show (Instr.fieldAt 79 (a.eval (.tmp 4)) 2).run _ _ = _; rw [hI.s4]; exact evAddr2_run b w')) (stepL rfl (by decide) hI (Below.refl _ _) (show NL g b F st 9 _ from rfl) (by kernel_rfl) rfl)
          · -- 10
            obtain ⟨z, hz, t8⟩ := GL_val (hG ⟨8, .data⟩ (by simp) rfl) (by decide)
            have t9 : a.eval (.tmp 36) = .pointer (some ⟨b, 2, none⟩) := GL_val (hG ⟨9, .data⟩ (by simp) rfl) (by decide)
            obtain ⟨y, hy⟩ := hI.row
            refine op_skip (w' := w'.setCell ⟨b, 2, none⟩ (.int .i64 z)) (run_unit (by show (Instr.storeAt 3 (a.eval (.tmp 36)) (a.eval (.tmp 35))).run _ _ = _; rw [t9, show a.eval (.tmp 35) = _ from t8]; exact intStore_run (hy.cell (k := 2) rfl) hy.free)) ⟨⟨hI.size, hI.defers, hI.s2, hI.s3, hI.s4, hI.fields.other hgb _, hI.ml.other hmb _, ⟨z, hy.set _⟩, hI.res.other hrb _, hI.below.setCell hbB _⟩, ?_, fun j oj hoj hj _ hg => ?_⟩
            · unfold GL; rw [if_pos rfl]; exact ⟨z, hz, hy.set _⟩
            · unfold GL at hg ⊢
              rw [if_neg hj] at hg ⊢
              exact hg
        · intro a w7 hI hG
          have g10 := hG 10 (by decide)
          unfold GL at g10
          rw [if_pos rfl] at g10
          obtain ⟨ln, hln, hrow7⟩ := g10
          obtain ⟨f', rfl, hfe⟩ := act_lit61 a hI.size hI.defers
          have q2 := (hfe 2).symm.trans hI.s2
          have q3 := (hfe 3).symm.trans hI.s3
          have q4 := (hfe 4).symm.trans hI.s4
          have hF7 := hI.fields
          have hm7 := hI.ml
          have hres7 := hI.res
          have hbw7 := hI.below
          clear hI hG hfe hF6 hm6 hrow6 hres6 hbw6 e2 e3 e4 hsm hstb C1
          rw [q2, q3, q4]
          have v5 : w7.cell? ⟨g, 10, none⟩ = some (.string ⟨((F 5).getD []).toArray⟩) := hF7.val 5 (by decide)
          have t5 : w7.cell? ⟨g, 11, none⟩ = some (.bool (F 5).isSome) := hF7.there 5 (by decide)
          have CX := readTimes_any (F 5) w7 hm7 (HSM.out 5)
          have HLN := hide hln
          clear hln
          cases hx : tsF (F 5) with
          | none =>
            have C2 : Hid (Calls Tryz.prog 80 #[.agg #[.string ⟨((F 5).getD []).toArray⟩, .bool (F 5).isSome]] w7 fun E w' => E = .panicked (rsn 1) ∧ Below w7.heap.size w7 w') := hide (CX.mono fun E w' ⟨h1, h2⟩ => by
              rcases h1 with ⟨zs, v, h, _⟩ | ⟨_, h⟩
              · rw [hx] at h; cases h
              · exact ⟨h, h2⟩)
            have HX : Hid (∃ F tr k, IsHead s F tr k ∧ ¬ ∃ st ln ex xt, TimesAre F st ln ex xt) := hide ⟨F, tr, k, HD.out, fun ⟨_, _, _, _, h⟩ => by have := h.hex; rw [hx] at this; cases this⟩
            clear CX hx
            go_wp2_with (go_at_call 80; refine (C2.out).mono ?_; rintro e w8 ⟨rfl, hb8⟩)
            exact ⟨rfl, .inr (.inr (.inl ⟨HX.out, rfl⟩)), hbw7.trans (hb8.mono hbw7.size)⟩
          | some ex =>
            have C2 : Hid (Calls Tryz.prog 80 #[.agg #[.string ⟨((F 5).getD []).toArray⟩, .bool (F 5).isSome]] w7 fun E w' => ∃ v, E = .returned v ∧ IntsW w' v ex ∧ Below w7.heap.size w7 w') := hide (CX.mono fun E w' ⟨h1, h2⟩ => by
              rcases h1 with ⟨zs, v, h, he, hi⟩ | ⟨h, _⟩
              · rw [hx] at h; cases h; exact ⟨v, he, hi, h2⟩
              · rw [hx] at h; cases h)
            have HEX := hide hx
            clear CX hx
            go_wp2_with (go_at_call_of 80 (Value.agg #[Value.string ⟨((F 5).getD []).toArray⟩, Value.bool (F 5).isSome]); refine (C2.out).mono ?_; rintro e w8 ⟨exv, rfl, hi8, hb8⟩; obtain ⟨a8, c8, rfl⟩ := hi8.form; have hr8 := hrow7.on hb8; have y14 := hr8.cell (k := 14) rfl; have z14 := hr8.free (k := 14); have F8 := (hF7.on hb8).other hgb (i := 14) (.slice a8 ex.length c8); have v6 : (w8.setCell ⟨b, 14, none⟩ (.slice a8 ex.length c8)).cell? ⟨g, 12, none⟩ = some (.string ⟨((F 6).getD []).toArray⟩) := F8.val 6 (by decide); have t6 : (w8.setCell ⟨b, 14, none⟩ (.slice a8 ex.length c8)).cell? ⟨g, 13, none⟩ = some (.bool (F 6).isSome) := F8.there 6 (by decide))
            have hrow9 : RowAt (w8.setCell ⟨b, 14, none⟩ (.slice a8 ex.length c8)) b (evC (ofL ((F 0).getD [])) st ln false zeroRule (.slice a8 ex.length c8) (.slice none 0 0) tr k) 79 := hr8.set _
            have hm9 := (hm7.on hb8).other hmb (i := 14) (.slice a8 ex.length c8)
            have hres9 := (hres7.on hb8).other hrb (k := 14) (.slice a8 ex.length c8)
            have hbw9 : Below w.heap.size w (w8.setCell ⟨b, 14, none⟩ (.slice a8 ex.length c8)) := (hbw7.trans (hb8.mono hbw7.size)).setCell hbB _
            have hi9 := hi8.gr tyIntE (Gr.set (i := 14) hr8 (.slice a8 ex.length c8))
            clear hr8 y14 z14 hb8 hF7 hm7 hres7 hbw7 hrow7 v5 t5 hi8 C2
            generalize w8.setCell ⟨b, 14, none⟩ (.slice a8 ex.length c8) = w9 at *
            have CY := readTimes_any (F 6) w9 hm9 (HSM.out 6)
            cases hy : tsF (F 6) with
            | none =>
              have C3 : Hid (Calls Tryz.prog 80 #[.agg #[.string ⟨((F 6).getD []).toArray⟩, .bool (F 6).isSome]] w9 fun E w' => E = .panicked (rsn 1) ∧ Below w9.heap.size w9 w') := hide (CY.mono fun E w' ⟨h1, h2⟩ => by
                rcases h1 with ⟨zs, v, h, _⟩ | ⟨_, h⟩
                · rw [hy] at h; cases h
                · exact ⟨h, h2⟩)
              have HX : Hid (∃ F tr k, IsHead s F tr k ∧ ¬ ∃ st ln ex xt, TimesAre F st ln ex xt) := hide ⟨F, tr, k, HD.out, fun ⟨_, _, _, _, h⟩ => by have := h.hxt; rw [hy] at this; cases this⟩
              clear CY hy
              go_wp2_with (go_at_call 80; refine (C3.out).mono ?_; rintro e w10 ⟨rfl, hb10⟩)
              exact ⟨rfl, .inr (.inr (.inl ⟨HX.out, rfl⟩)), hbw9.trans (hb10.mono hbw9.size)⟩
            | some xt =>
              have C3 : Hid (Calls Tryz.prog 80 #[.agg #[.string ⟨((F 6).getD []).toArray⟩, .bool (F 6).isSome]] w9 fun E w' => ∃ v, E = .returned v ∧ IntsW w' v xt ∧ Below w9.heap.size w9 w') := hide (CY.mono fun E w' ⟨h1, h2⟩ => by
                rcases h1 with ⟨zs, v, h, he, hi⟩ | ⟨h, _⟩
                · rw [hy] at h; cases h; exact ⟨v, he, hi, h2⟩
                · rw [hy] at h; cases h)
              have HTA : Hid (TimesAre F st ln ex xt) := hide ⟨HT.out, HLN.out, HEX.out, hy⟩
              clear CY hy
              cases h4 : F 4 with
              | none =>
                have H4 := hide h4
                clear h4
                go_wp2_with (first
                  | (go_at_call 80; refine (C3.out).mono ?_; rintro e w10 ⟨xtv, rfl, hi10, hb10⟩; obtain ⟨a9, c9, rfl⟩ := hi10.form; have hr10 := hrow9.on hb10; have y15 := hr10.cell (k := 15) rfl; have z15 := hr10.free (k := 15); have F11 := (F8.on hb10).other hgb (i := 15) (.slice a9 xt.length c9); have t4 : (w10.setCell ⟨b, 15, none⟩ (.slice a9 xt.length c9)).cell? ⟨g, 9, none⟩ = some (.bool false) := (by have := F11.there 4 (by decide); rw [H4.out] at this; exact this); have row11 := hr10.set (k := 15) (.slice a9 xt.length c9); have y3 := row11.cell (k := 3) rfl; have z3 := row11.free (k := 3); have rowE : RowAt ((w10.setCell ⟨b, 15, none⟩ (.slice a9 xt.length c9)).setCell ⟨b, 3, none⟩ (.bool false)) b (evC (ofL ((F 0).getD [])) st ln false zeroRule (.slice a8 ex.length c8) (.slice a9 xt.length c9) tr k) 79 := row11.set (k := 3) (.bool false); have x3 := rowE.cell (k := 3) rfl; have resF := ((hres9.on hb10).other hrb (k := 15) (.slice a9 xt.length c9)).other hrb (k := 3) (.bool false))
                  | (refine wpList_load_mid rfl 79 (.tmp 4) rfl b 0 rfl (evC (ofL ((F 0).getD [])) st ln false zeroRule (.slice a8 ex.length c8) (.slice a9 xt.length c9) tr k) _ (row_range rowE) Tryz.underlying79 rfl (by kernel_rfl) ?_)
                  | (refine wpList_store_mid rfl 79 (.tmp 2) (.tmp 60) rfl w.heap.size 0 (evC (ofL ((F 0).getD [])) st ln false zeroRule (.slice a8 ex.length c8) (.slice a9 xt.length c9) tr k).toArray rfl rfl (row_there resF rfl) (by kernel_rfl) (all_oneCell_toArray (evC_one _ _ _ _ _ _ _ _ _ _ _ _ _ (ruleC_one _ _ _ _ _ _ _ _ _ _ _ _ _ _ _ _ _ _))) ?_))
                have hbF : Below w.heap.size w ((w10.setCell ⟨b, 15, none⟩ (.slice a9 xt.length c9)).setCell ⟨b, 3, none⟩ (.bool false)) := ((hbw9.trans (hb10.mono hbw9.size)).setCell hbB _).setCell hbB _
                have gF : Gr 79 w10 ((w10.setCell ⟨b, 15, none⟩ (.slice a9 xt.length c9)).setCell ⟨b, 3, none⟩ (.bool false)) := (Gr.set (i := 15) hr10 (.slice a9 xt.length c9)).trans (Gr.set (i := 3) row11 (.bool false))
                obtain ⟨hgr, hblf, rowF⟩ := sets2 (vs := (evC (ofL ((F 0).getD [])) st ln false zeroRule (.slice a8 ex.length c8) (.slice a9 xt.length c9) tr k)) (o := 0) resF hbF (Nat.le_refl _)
                rw [setL_all _ zeroEv (by rw [zeroEv_len, evC_len _ _ _ _ _ _ _ _ _ rfl])] at rowF
                exact bodyPost_ret (v := evV (ofL ((F 0).getD [])) st ln false zeroRule (.slice a8 ex.length c8) (.slice a9 xt.length c9) tr k) (results_cell Tryz.results43 rfl (run_loadVar_mid _ w.heap.size 0 79 (evC (ofL ((F 0).getD [])) st ln false zeroRule (.slice a8 ex.length c8) (.slice a9 xt.length c9) tr k) _ (row_range rowF) Tryz.underlying79 rfl (by kernel_rfl))) rfl
                  ⟨.inl ⟨F, tr, k, st, ln, ex, xt, HD.out, HTA.out, _, _, ((hi9.on hb10).gr tyIntE gF).gr tyIntE hgr, (hi10.gr tyIntE gF).gr tyIntE hgr, .inl ⟨H4.out, rfl⟩⟩, hblf⟩
              | some v =>
                have H4 := hide h4
                have HV : v.length ≤ 2000 := (by have := HSMALL.out 4; rw [h4] at this; exact this)
                clear h4
                go_wp2_with (go_at_call 80; refine (C3.out).mono ?_; rintro e w10 ⟨xtv, rfl, hi10, hb10⟩; obtain ⟨a9, c9, rfl⟩ := hi10.form; have hr10 := hrow9.on hb10; have y15 := hr10.cell (k := 15) rfl; have z15 := hr10.free (k := 15); have F11 := (F8.on hb10).other hgb (i := 15) (.slice a9 xt.length c9); have t4 : (w10.setCell ⟨b, 15, none⟩ (.slice a9 xt.length c9)).cell? ⟨g, 9, none⟩ = some (.bool true) := (by have := F11.there 4 (by decide); rw [H4.out] at this; exact this); have row11 := hr10.set (k := 15) (.slice a9 xt.length c9); have y3 := row11.cell (k := 3) rfl; have z3 := row11.free (k := 3); have row12 := row11.set (k := 3) (.bool true); have x3 := row12.cell (k := 3) rfl; have F12 := F11.other hgb (i := 3) (.bool true); have v4 : ((w10.setCell ⟨b, 15, none⟩ (.slice a9 xt.length c9)).setCell ⟨b, 3, none⟩ (.bool true)).cell? ⟨g, 8, none⟩ = some (.string ⟨v.toArray⟩) := (by have := F12.val 4 (by decide); rw [H4.out] at this; exact this))
                rename_i K1 hK1 K2 hK2
                have hm12 := ((hm9.on hb10).other hmb (i := 15) (.slice a9 xt.length c9)).other hmb (i := 3) (.bool true)
                have hbF : Below w.heap.size w ((w10.setCell ⟨b, 15, none⟩ (.slice a9 xt.length c9)).setCell ⟨b, 3, none⟩ (.bool true)) := ((hbw9.trans (hb10.mono hbw9.size)).setCell hbB _).setCell hbB _
                have gF : Gr 79 w10 ((w10.setCell ⟨b, 15, none⟩ (.slice a9 xt.length c9)).setCell ⟨b, 3, none⟩ (.bool true)) := (Gr.set (i := 15) hr10 (.slice a9 xt.length c9)).trans (Gr.set (i := 3) row11 (.bool true))
                have resF := ((hres9.on hb10).other hrb (k := 15) (.slice a9 xt.length c9)).other hrb (k := 3) (.bool true)
                have row12' : RowAt ((w10.setCell ⟨b, 15, none⟩ (.slice a9 xt.length c9)).setCell ⟨b, 3, none⟩ (.bool true)) b (evC (ofL ((F 0).getD [])) st ln true zeroRule (.slice a8 ex.length c8) (.slice a9 xt.length c9) tr k) 79 := row12
                have i1 := (hi9.on hb10).gr tyIntE gF
                have i2 := hi10.gr tyIntE gF
                clear row12 x3 F12 v4 row11 y3 z3 t4 F11 y15 z15 hr10 hi10 hb10 gF hi9 hrow9 hres9 hbw9 F8 C3 v6 t6
                generalize ((w10.setCell ⟨b, 15, none⟩ (.slice a9 xt.length c9)).setCell ⟨b, 3, none⟩ (.bool true)) = w12 at *
                refine (rulesRead_any v w12 hm12 (by omega)).mono ?_
                rintro e w13 ⟨hR, hb13⟩
                rcases hR with ⟨F', r, m, md, wk, pl, hIR, hE, j1, j2, j3, j4⟩ | ⟨hno, rfl⟩
                case inr =>
                  go_wp2
                  exact ⟨rfl, .inr (.inr (.inr ⟨⟨F, tr, k, st, ln, ex, xt, v, HD.out, HTA.out, H4.out, hno⟩, rfl⟩)), hbF.trans (hb13.mono hbF.size)⟩
                case inl =>
                  obtain ⟨p1, rfl⟩ := j1.form
                  obtain ⟨p2, rfl⟩ := j2.form
                  obtain ⟨p3, rfl⟩ := j3.form
                  obtain ⟨p4, rfl⟩ := j4.form
                  have hE2 : e = .returned (.agg (ruleC r.fq r.iv r.ct r.un (.slice p1 r.ms.length r.ms.length) (.slice p2 r.mds.length r.mds.length) (.slice p3 r.wks.length r.wks.length) (.slice p4 r.pls.length r.pls.length) r.ws (txF F')).toArray) := hE
                  subst hE2
                  clear hE
                  have row13 := row12'.on hb13
                  have res13 := resF.on hb13
                  obtain ⟨g14, b14, row14⟩ := sets2 (vs := (ruleC r.fq r.iv r.ct r.un (.slice p1 r.ms.length r.ms.length) (.slice p2 r.mds.length r.mds.length) (.slice p3 r.wks.length r.wks.length) (.slice p4 r.pls.length r.pls.length) r.ws (txF F'))) (o := 4) row13 (hbF.trans (hb13.mono hbF.size)) hbB
                  rw [setL_rule _ _ _ _ zeroRule (ruleC r.fq r.iv r.ct r.un (.slice p1 r.ms.length r.ms.length) (.slice p2 r.mds.length r.mds.length) (.slice p3 r.wks.length r.wks.length) (.slice p4 r.pls.length r.pls.length) r.ws (txF F')) _ _ _ _ rfl] at row14
                  have res14 : RowAt (w13.setCells b 4 (ruleC r.fq r.iv r.ct r.un (.slice p1 r.ms.length r.ms.length) (.slice p2 r.mds.length r.mds.length) (.slice p3 r.wks.length r.wks.length) (.slice p4 r.pls.length r.pls.length) r.ws (txF F'))) w.heap.size zeroEv 79 := res13.setsOther hrb
                  obtain ⟨w14, hw14⟩ : ∃ w14, w14 = w13.setCells b 4 (ruleC r.fq r.iv r.ct r.un (.slice p1 r.ms.length r.ms.length) (.slice p2 r.mds.length r.mds.length) (.slice p3 r.wks.length r.wks.length) (.slice p4 r.pls.length r.pls.length) r.ws (txF F')) := ⟨_, rfl⟩
                  rw [← hw14] at g14 b14 row14 res14
                  have HW14 := hide hw14
                  clear hw14
                  have ht13 : w13.there b 4 (ruleC r.fq r.iv r.ct r.un (.slice p1 r.ms.length r.ms.length) (.slice p2 r.mds.length r.mds.length) (.slice p3 r.wks.length r.wks.length) (.slice p4 r.pls.length r.pls.length) r.ws (txF F')).toArray.size := row_mid row13 (by rw [evC_len _ _ _ _ _ _ _ _ _ rfl]; show 4 + (ruleC r.fq r.iv r.ct r.un (.slice p1 r.ms.length r.ms.length) (.slice p2 r.mds.length r.mds.length) (.slice p3 r.wks.length r.wks.length) (.slice p4 r.pls.length r.pls.length) r.ws (txF F')).length ≤ 18; rw [ruleC_len]; decide)
                  have hr14 := row_range row14
                  have ht14 : w14.there w.heap.size 0 (evC (ofL ((F 0).getD [])) st ln true (ruleC r.fq r.iv r.ct r.un (.slice p1 r.ms.length r.ms.length) (.slice p2 r.mds.length r.mds.length) (.slice p3 r.wks.length r.wks.length) (.slice p4 r.pls.length r.pls.length) r.ws (txF F')) (.slice a8 ex.length c8) (.slice a9 xt.length c9) tr k).toArray.size := row_there res14 (by show (evC (ofL ((F 0).getD [])) st ln true (ruleC r.fq r.iv r.ct r.un (.slice p1 r.ms.length r.ms.length) (.slice p2 r.mds.length r.mds.length) (.slice p3 r.wks.length r.wks.length) (.slice p4 r.pls.length r.pls.length) r.ws (txF F')) (.slice a8 ex.length c8) (.slice a9 xt.length c9) tr k).length = _; rw [zeroEv_len, evC_len _ _ _ _ _ _ _ _ _ rfl])
                  have o13 : (ruleC r.fq r.iv r.ct r.un (.slice p1 r.ms.length r.ms.length) (.slice p2 r.mds.length r.mds.length) (.slice p3 r.wks.length r.wks.length) (.slice p4 r.pls.length r.pls.length) r.ws (txF F')).toArray.all (·.oneCell') = true := all_oneCell_toArray (ruleC_one _ _ _ _ _ _ _ _ _ _ _ _ _ _ _ _ _ _)
                  have o14 : (evC (ofL ((F 0).getD [])) st ln true (ruleC r.fq r.iv r.ct r.un (.slice p1 r.ms.length r.ms.length) (.slice p2 r.mds.length r.mds.length) (.slice p3 r.wks.length r.wks.length) (.slice p4 r.pls.length r.pls.length) r.ws (txF F')) (.slice a8 ex.length c8) (.slice a9 xt.length c9) tr k).toArray.all (·.oneCell') = true := all_oneCell_toArray (evC_one _ _ _ _ _ _ _ _ _ _ _ _ _ (ruleC_one _ _ _ _ _ _ _ _ _ _ _ _ _ _ _ _ _ _))
                  have i13 : (Tryz.prog.info? 76).map (·.size) = some (ruleC r.fq r.iv r.ct r.un (.slice p1 r.ms.length r.ms.length) (.slice p2 r.mds.length r.mds.length) (.slice p3 r.wks.length r.wks.length) (.slice p4 r.pls.length r.pls.length) r.ws (txF F')).toArray.size := infoRule
                  have i14 : (Tryz.prog.info? 79).map (·.size) = some (evC (ofL ((F 0).getD [])) st ln true (ruleC r.fq r.iv r.ct r.un (.slice p1 r.ms.length r.ms.length) (.slice p2 r.mds.length r.mds.length) (.slice p3 r.wks.length r.wks.length) (.slice p4 r.pls.length r.pls.length) r.ws (txF F')) (.slice a8 ex.length c8) (.slice a9 xt.length c9) tr k).length := by rw [evC_len _ _ _ _ _ _ _ _ _ rfl]; exact infoEvent
                  have H13 := hide ht13
                  have H14 := hide ht14
                  have HR := hide hr14
                  have HO13 := hide o13
                  have HO14 := hide o14
                  have HI13 := hide i13
                  have HI14 := hide i14
                  clear ht13 ht14 hr14 o13 o14 i13 i14
                  refine hK2 _ _ ?_
                  clear hK2 K2
                  have HFIN := hide (And.intro g14 (And.intro b14 (And.intro res14 (And.intro i1 (And.intro i2 (And.intro hb13 (And.intro j1 (And.intro j2 (And.intro j3 (And.intro j4 hIR))))))))))
                  clear hIR j1 j2 j3 j4 row13 res13 g14 b14 row14 res14 i1 i2 row12' resF hbF hm12 hb13 eb q2 q3 q4 hm9
                  go_wp2_with (first
                    | (refine wpList_store_mid rfl 76 (.tmp 59) (.tmp 58) rfl b 4 (ruleC r.fq r.iv r.ct r.un (.slice p1 r.ms.length r.ms.length) (.slice p2 r.mds.length r.mds.length) (.slice p3 r.wks.length r.wks.length) (.slice p4 r.pls.length r.pls.length) r.ws (txF F')).toArray rfl rfl H13.out HI13.out HO13.out ?_; rw [show (ruleC r.fq r.iv r.ct r.un (.slice p1 r.ms.length r.ms.length) (.slice p2 r.mds.length r.mds.length) (.slice p3 r.wks.length r.wks.length) (.slice p4 r.pls.length r.pls.length) r.ws (txF F')).toArray.toList = (ruleC r.fq r.iv r.ct r.un (.slice p1 r.ms.length r.ms.length) (.slice p2 r.mds.length r.mds.length) (.slice p3 r.wks.length r.wks.length) (.slice p4 r.pls.length r.pls.length) r.ws (txF F')) from rfl, ← HW14.out])
                    | (refine wpList_load_mid rfl 79 (.tmp 4) rfl b 0 rfl (evC (ofL ((F 0).getD [])) st ln true (ruleC r.fq r.iv r.ct r.un (.slice p1 r.ms.length r.ms.length) (.slice p2 r.mds.length r.mds.length) (.slice p3 r.wks.length r.wks.length) (.slice p4 r.pls.length r.pls.length) r.ws (txF F')) (.slice a8 ex.length c8) (.slice a9 xt.length c9) tr k) _ HR.out Tryz.underlying79 rfl HI14.out ?_)
                    | (refine wpList_store_mid rfl 79 (.tmp 2) (.tmp 60) rfl w.heap.size 0 (evC (ofL ((F 0).getD [])) st ln true (ruleC r.fq r.iv r.ct r.un (.slice p1 r.ms.length r.ms.length) (.slice p2 r.mds.length r.mds.length) (.slice p3 r.wks.length r.wks.length) (.slice p4 r.pls.length r.pls.length) r.ws (txF F')) (.slice a8 ex.length c8) (.slice a9 xt.length c9) tr k).toArray rfl rfl H14.out HI14.out HO14.out ?_))
                  obtain ⟨g14, b14, res14, i1, i2, hb13, j1, j2, j3, j4, hIR⟩ := HFIN.out
                  obtain ⟨hgr, hblf, rowF⟩ := sets2 (vs := (evC (ofL ((F 0).getD [])) st ln true (ruleC r.fq r.iv r.ct r.un (.slice p1 r.ms.length r.ms.length) (.slice p2 r.mds.length r.mds.length) (.slice p3 r.wks.length r.wks.length) (.slice p4 r.pls.length r.pls.length) r.ws (txF F')) (.slice a8 ex.length c8) (.slice a9 xt.length c9) tr k)) (o := 0) res14 b14 (Nat.le_refl _)
                  rw [setL_all _ zeroEv (by rw [zeroEv_len, evC_len _ _ _ _ _ _ _ _ _ rfl])] at rowF
                  exact bodyPost_ret (v := evV (ofL ((F 0).getD [])) st ln true (ruleC r.fq r.iv r.ct r.un (.slice p1 r.ms.length r.ms.length) (.slice p2 r.mds.length r.mds.length) (.slice p3 r.wks.length r.wks.length) (.slice p4 r.pls.length r.pls.length) r.ws (txF F')) (.slice a8 ex.length c8) (.slice a9 xt.length c9) tr k) (results_cell Tryz.results43 rfl (run_loadVar_mid _ w.heap.size 0 79 (evC (ofL ((F 0).getD [])) st ln true (ruleC r.fq r.iv r.ct r.un (.slice p1 r.ms.length r.ms.length) (.slice p2 r.mds.length r.mds.length) (.slice p3 r.wks.length r.wks.length) (.slice p4 r.pls.length r.pls.length) r.ws (txF F')) (.slice a8 ex.length c8) (.slice a9 xt.length c9) tr k) _ (row_range rowF) Tryz.underlying79 rfl (by kernel_rfl))) rfl
                    ⟨.inl ⟨F, tr, k, st, ln, ex, xt, HD.out, HTA.out, _, _, ((i1.on hb13).gr tyIntE g14).gr tyIntE hgr, ((i2.on hb13).gr tyIntE g14).gr tyIntE hgr, .inr ⟨v, F', r, _, _, _, _, H4.out, hIR, (j1.gr tyIntE g14).gr tyIntE hgr, (j2.gr tyIntE g14).gr tyIntE hgr, (j3.gr tyWkE g14).gr tyWkE hgr, (j4.gr tyIntE g14).gr tyIntE hgr, rfl⟩⟩, hblf⟩
end Go.Proofs.YthpndgcaoeokeaaGreatDoor
namespace Go.Proofs.YthpndgcaoeokeaaGreatDoor
open Go.RowKit

theorem setCells_size (b : Nat) : ∀ (vs : List Value) (o : Nat) (w : World), (w.setCells b o vs).heap.size = w.heap.size
  | [], _, _ => rfl
  | v :: r, o, w => by rw [World.setCells, setCells_size b r]; exact setCell_size _ _ _
end Go.Proofs.YthpndgcaoeokeaaGreatDoor
namespace Go.Proofs.YthpndgcaoeokeaaGreatDoor
open Go.RowKit

theorem setCells_other (b : Nat) : ∀ (vs : List Value) (o : Nat) (w : World) (k : Nat), k ≠ b → (w.setCells b o vs).heap[k]? = w.heap[k]?
  | [], _, _, _, _ => rfl
  | v :: r, o, w, k, h => by rw [World.setCells, setCells_other b r (o + 1) _ k h]; exact Below.heap_setCell _ _ _ _ h
theorem setsRow {T : TypeId} {b : Nat} : ∀ {vs : List Value} {o : Nat} {w : World} {cs : List Value}, RowAt w b cs T → RowAt (w.setCells b o vs) b (setL o vs cs) T
  | [], _, _, _, h => h
  | v :: _, o, _, _, h => setsRow (o := o + 1) (h.set (k := o) v)
theorem setsSys (b : Nat) : ∀ (vs : List Value) (o : Nat) (w : World), (w.setCells b o vs).os = w.os ∧ (w.setCells b o vs).tape = w.tape ∧ (w.setCells b o vs).output = w.output
  | [], _, _ => ⟨rfl, rfl, rfl⟩
  | v :: r, o, w => by
    obtain ⟨h1, h2, h3⟩ := setsSys b r (o + 1) (w.setCell ⟨b, o, none⟩ v)
    rw [World.setCells]
    exact ⟨h1.trans (by simp [World.setCell]), h2.trans (by simp [World.setCell]), h3.trans (by simp [World.setCell])⟩
end Go.Proofs.YthpndgcaoeokeaaGreatDoor
namespace Go.Proofs.YthpndgcaoeokeaaGreatDoor
open Go.RowKit

section
variable {P : Program} {ops : Array Oper} {Q : Exit → Act → World → Prop} {o : Oper} {rest : List Oper} {a : Act} {w : World}

/-- one block more -/
theorem wpl_alloc_row {zs : List Value} {T : TypeId} (hgd : o.guard = none) (hr : (execOp a.eval o).run P w = .ok (.value (.pointer (some ⟨w.heap.size, 0, none⟩))) (w.alloc (.cells zs.toArray T)))
    (hK : ∀ w', RowAt w' w.heap.size zs T → w'.heap.size = w.heap.size + 1 → Below w.heap.size w w' → wpList P ops Q rest (a.put o.dst (.pointer (some ⟨w.heap.size, 0, none⟩))) w') : wpList P ops Q (o :: rest) a w :=
  wpl_value hgd hr (hK _ (RowAt.new w zs T) (by simp) ((Below.refl _ _).alloc (Nat.le_refl _) _))
/-- what a store of some cells of a row leaves -/
theorem sets_exc (b o : Nat) (vs : List Value) (w : World) : Exc (fun k => k = b) w (w.setCells b o vs) := by
  obtain ⟨y1, y2, y3⟩ := setsSys b vs o w
  exact ⟨y1, y2, y3, by rw [setCells_size]; exact Nat.le_refl _, fun k _ hk => setCells_other b vs o w k hk⟩
/-- a row is stored over -/
theorem wpl_store_row {T : TypeId} {x y : Operand} {b : Nat} {vs cs : List Value} (hgd : o.guard = none) (ho : o.op = .store T x y) (hx : a.eval x = .pointer (some ⟨b, 0, none⟩)) (hy : a.eval y = .agg vs.toArray) (hrow : RowAt w b cs T) (hl : cs.length = vs.length)
    (hi : (P.info? T).map (·.size) = some vs.length) (h1 : ∀ v ∈ vs, v.oneCell' = true) (hK : ∀ w', RowAt w' b vs T → Exc (fun k => k = b) w w' → wpList P ops Q rest (a.put o.dst undef) w') : wpList P ops Q (o :: rest) a w := by
  have hrw := setsRow (vs := vs) (o := 0) hrow
  rw [setL_all vs cs hl] at hrw
  refine wpList_store_mid hgd T x y ho b 0 vs.toArray hx hy (row_there hrow (by rw [List.size_toArray]; exact hl.symm)) (by rw [List.size_toArray]; exact hi) (all_oneCell_toArray h1) ?_
  exact hK _ hrw (sets_exc b 0 vs w)
end
theorem RowAt.exc {w w' : World} {O : Nat → Prop} {b : Nat} {cs : List Value} {T : TypeId} (h : RowAt w b cs T) (hx : Exc O w w') (hb : ¬ O b) : RowAt w' b cs T := by
  unfold RowAt at h ⊢
  rw [hx.block b (Array.getElem?_eq_some_iff.1 h).1 hb]
  exact h
end Go.Proofs.YthpndgcaoeokeaaGreatDoor
