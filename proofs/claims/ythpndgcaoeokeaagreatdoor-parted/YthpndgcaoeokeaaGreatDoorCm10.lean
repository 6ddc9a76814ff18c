/- The program's own: a rule is read (rules.Read). The program's own: the small readers of an event's properties (package events). -/
import Derived.Test.YthpndgcaoeokeaaGreatDoorCm9
namespace Go.Proofs.YthpndgcaoeokeaaGreatDoor
open Go.RowKit Go.Sort

def zeroRule : List Value := ruleC 0 0 0 0 (.slice none 0 0) (.slice none 0 0) (.slice none 0 0) (.slice none 0 0) 0 ⟨#[]⟩
/-- the rule's parts as they stand -/
def partsOf (s : List UInt8) : Option (Nat → Option (List UInt8)) := flds partNames 61 (spl 59 s) (fun _ => none)
/-- do a rule's parts agree? -/
def agreeR (r : RuleD) : Bool := agreeP r.fq r.ms.length r.mds.length r.wks.length r.pls.length (hasOrd r.wks)
/-- the text is this rule -/
def IsRule (s : List UInt8) (F : Nat → Option (List UInt8)) (r : RuleD) : Prop := partsOf s = some F ∧ ¬ ((F 2).isSome = true ∧ (F 3).isSome = true) ∧ Parts F r ∧ agreeR r = true
/-- how the reading of a rule ends -/
def RulePost (s : List UInt8) (w : World) (E : Ending) (w' : World) : Prop :=
  ((∃ F r m md wk pl, IsRule s F r ∧ E = .returned (ruleV r.fq r.iv r.ct r.un m md wk pl r.ws (txF F)) ∧ IntsV w' m r.ms ∧ IntsV w' md r.mds ∧ WksV w' wk r.wks ∧ IntsV w' pl r.pls) ∨ ((¬ ∃ F r, IsRule s F r) ∧ E = .panicked (rsn 3))) ∧ Below w.heap.size w w'

theorem optE_ret {x : Int} {o : Option Int} {v : Value} (h : Ending.returned v = optE x o) : ∃ z, o = some z ∧ v = .int .i64 z := by
  unfold optE at h
  cases o with
  | none => cases h
  | some z => exact ⟨z, rfl, Ending.returned.inj h⟩
theorem optE_pan {x : Int} {o : Option Int} {c : List PanicEntry} (h : Ending.panicked c = optE x o) : o = none ∧ c = rsn x := by
  unfold optE at h
  cases o with
  | none => exact ⟨rfl, Ending.panicked.inj h⟩
  | some z => cases h
theorem optE_out {x : Int} {o : Option Int} (h : Ending.outgrown = optE x o) : False := by
  unfold optE at h
  cases o <;> cases h
theorem GG_val {g : Nat} {F : Nat → Option (List UInt8)} {B i : Nat} {a : Act} {w : World} (h : GG g F B i a w) (hi : i ≠ 42) : NN g F B i (a.eval (.tmp (slotD i))) w := by
  unfold GG at h; rw [if_neg hi] at h; exact h
theorem sp_small {c : UInt8} {l a b : List UInt8} (h : sp c l = some (a, b)) : b.length ≤ l.length := by
  have e := (sp_some h).1
  rw [e]; simp; omega
theorem flds_small {ns : List (List UInt8)} {c : UInt8} {B : Nat} : ∀ {ps : List (List UInt8)} {f F : Nat → Option (List UInt8)}, (∀ p ∈ ps, p.length ≤ B) → (∀ k, ((f k).getD []).length ≤ B) → flds ns c ps f = some F → ∀ k, ((F k).getD []).length ≤ B
  | [], f, F, _, hf, h, k => by rw [flds] at h; cases h; exact hf k
  | l :: r, f, F, hp, hf, h, k => by
    rw [flds] at h
    cases hq : plc ns c l with
    | none => rw [hq] at h; cases h
    | some q =>
      obtain ⟨j, v⟩ := q
      rw [hq] at h
      simp only [] at h
      cases hj : (f j).isSome
      · rw [hj, if_neg Bool.false_ne_true] at h
        refine flds_small (fun p hp' => hp p (List.mem_cons_of_mem _ hp')) (fun i => ?_) h k
        by_cases hij : i = j
        · rw [if_pos hij]
          unfold plc at hq
          cases hsp : sp c l with
          | none => rw [hsp] at hq; cases hq
          | some y =>
            obtain ⟨a, b⟩ := y
            rw [hsp] at hq
            obtain ⟨k', hk', e⟩ := Option.map_eq_some_iff.1 hq
            have : b = v := congrArg Prod.snd e
            subst this
            have h1 := sp_small hsp
            have h2 := hp l (by simp)
            simp only [Option.getD_some]; omega
        · rw [if_neg hij]; exact hf i
      · rw [hj, if_pos rfl] at h; cases h
theorem build_run (z0 z1 z2 z3 z8 : Int) (a4 a5 a6 a7 : Option Addr) (n4 n5 n6 n7 c4 c5 c6 c7 : Nat) (t : ByteArray) (w : World) :
    (Instr.build 76 #[(0, .int .i64 z0), (1, .int .i64 z1), (2, .int .i64 z2), (3, .int .i64 z3), (4, .slice a4 n4 c4), (5, .slice a5 n5 c5), (6, .slice a6 n6 c6), (7, .slice a7 n7 c7), (8, .int .i64 z8), (9, .string t)]).run Tryz.prog w = .ok (ruleV z0 z1 z2 z3 (.slice a4 n4 c4) (.slice a5 n5 c5) (.slice a6 n6 c6) (.slice a7 n7 c7) z8 t) w := by
  kernel_rfl
/-- a rule is stored -/
theorem store_ok {W w : World} {b : Nat} {cs : List Value} {F : Nat → Option (List UInt8)} {v : Value} (hrow : RowAt w b cs 76) (hcs : cs.length = 10) (hB : W.heap.size ≤ b) (hbl : Below W.heap.size W w) (hv : RV F w v) :
    ∃ w', (Instr.storeAt 76 (.pointer (some ⟨b, 0, none⟩)) v).run Tryz.prog w = .ok () w' ∧ Below W.heap.size W w' ∧ Gr 76 w w' ∧ RB F w' b := by
  obtain ⟨r, m, md, wk, pl, hP, rfl, i1, i2, i3, i4⟩ := hv
  obtain ⟨a1, e1⟩ := i1.form
  obtain ⟨a2, e2⟩ := i2.form
  obtain ⟨a3, e3⟩ := i3.form
  obtain ⟨a4, e4⟩ := i4.form
  match cs, hcs with
  | [x0, x1, x2, x3, x4, x5, x6, x7, x8, x9], _ =>
    have c0 := hrow.cell (k := 0) rfl
    have c1 := hrow.cell (k := 1) rfl
    have c2 := hrow.cell (k := 2) rfl
    have c3 := hrow.cell (k := 3) rfl
    have c4 := hrow.cell (k := 4) rfl
    have c5 := hrow.cell (k := 5) rfl
    have c6 := hrow.cell (k := 6) rfl
    have c7 := hrow.cell (k := 7) rfl
    have c8 := hrow.cell (k := 8) rfl
    have c9 := hrow.cell (k := 9) rfl
    have f0 := hrow.free (k := 0)
    have f1 := hrow.free (k := 1)
    have f2 := hrow.free (k := 2)
    have f3 := hrow.free (k := 3)
    have f4 := hrow.free (k := 4)
    have f5 := hrow.free (k := 5)
    have f6 := hrow.free (k := 6)
    have f7 := hrow.free (k := 7)
    have f8 := hrow.free (k := 8)
    have f9 := hrow.free (k := 9)
    have r0 := hrow.set (k := 0) (.int .i64 r.fq)
    have r1 := r0.set (k := 1) (.int .i64 r.iv)
    have r2 := r1.set (k := 2) (.int .i64 r.ct)
    have r3 := r2.set (k := 3) (.int .i64 r.un)
    have r4 := r3.set (k := 4) m
    have r5 := r4.set (k := 5) md
    have r6 := r5.set (k := 6) wk
    have r7 := r6.set (k := 7) pl
    have r8 := r7.set (k := 8) (.int .i64 r.ws)
    have r9 := r8.set (k := 9) (.string (txF F))
    have g : Gr 76 w _ := (((((((((Gr.set (i := 0) hrow (.int .i64 r.fq)).trans (Gr.set (i := 1) r0 (.int .i64 r.iv))).trans (Gr.set (i := 2) r1 (.int .i64 r.ct))).trans (Gr.set (i := 3) r2 (.int .i64 r.un))).trans (Gr.set (i := 4) r3 m)).trans (Gr.set (i := 5) r4 md)).trans (Gr.set (i := 6) r5 wk)).trans (Gr.set (i := 7) r6 pl)).trans (Gr.set (i := 8) r7 (.int .i64 r.ws))).trans (Gr.set (i := 9) r8 (.string (txF F)))
    refine ⟨_, ?_, (((((((((hbl.setCell (p := ⟨b, 0, none⟩) hB (.int .i64 r.fq)).setCell (p := ⟨b, 1, none⟩) hB (.int .i64 r.iv)).setCell (p := ⟨b, 2, none⟩) hB (.int .i64 r.ct)).setCell (p := ⟨b, 3, none⟩) hB (.int .i64 r.un)).setCell (p := ⟨b, 4, none⟩) hB m).setCell (p := ⟨b, 5, none⟩) hB md).setCell (p := ⟨b, 6, none⟩) hB wk).setCell (p := ⟨b, 7, none⟩) hB pl).setCell (p := ⟨b, 8, none⟩) hB (.int .i64 r.ws)).setCell (p := ⟨b, 9, none⟩) hB (.string (txF F)), g, r, m, md, wk, pl, hP, r9, i1.gr tyInt g, i2.gr tyInt g, i3.gr tyWk g, i4.gr tyInt g⟩
    clear r0 r1 r2 r3 r4 r5 r6 r7 r8 r9 g hbl i1 i2 i3 i4 hP hrow
    subst e1 e2 e3 e4
    unfold ruleV
    go_simp

theorem freq_bd {f : Option (List UInt8)} {z : Int} (h : freqF f = some z) : 0 ≤ z ∧ z ≤ 3 := by
  unfold freqF at h
  obtain ⟨k, hk, rfl⟩ := Option.map_eq_some_iff.1 h
  have := idx_lt hk
  rw [show freqNames.length = 4 from rfl] at this
  omega
theorem lsF_len {α : Type} {rd : List UInt8 → Option α} {f : Option (List UInt8)} {zs : List α} (h : lsF rd f = some zs) : zs.length ≤ 20 := by
  unfold lsF at h
  cases f with
  | none => simp only [Option.some.injEq] at h; subst h; simp
  | some v =>
    simp only [] at h
    split at h
    · rename_i h20; rw [rds_len h]; exact h20
    · cases h
theorem Parts.uniq {F : Nat → Option (List UInt8)} {r r' : RuleD} (h : Parts F r) (h' : Parts F r') : r = r' := by
  obtain ⟨a1, a2, a3, a4, a5, a6, a7, a8, a9⟩ := h
  obtain ⟨b1, b2, b3, b4, b5, b6, b7, b8, b9⟩ := h'
  cases r; cases r'
  simp only [] at *
  rw [a1] at b1; rw [a2] at b2; rw [a3] at b3; rw [a4] at b4; rw [a5] at b5; rw [a6] at b6; rw [a7] at b7; rw [a8] at b8; rw [a9] at b9
  cases b1; cases b2; cases b3; cases b4; cases b5; cases b6; cases b7; cases b8; cases b9
  rfl
set_option maxRecDepth 10000 in
theorem act_lit (a : Act) (h : a.tmps.size = 66) (hd : a.defers = []) : ∃ f : Nat → Value, a = ⟨#[f 0, f 1, f 2, f 3, f 4, f 5, f 6, f 7, f 8, f 9, f 10, f 11, f 12, f 13, f 14, f 15, f 16, f 17, f 18, f 19, f 20, f 21, f 22, f 23, f 24, f 25, f 26, f 27, f 28, f 29, f 30, f 31, f 32, f 33, f 34, f 35, f 36, f 37, f 38, f 39, f 40, f 41, f 42, f 43, f 44, f 45, f 46, f 47, f 48, f 49, f 50, f 51, f 52, f 53, f 54, f 55, f 56, f 57, f 58, f 59, f 60, f 61, f 62, f 63, f 64, f 65], []⟩ ∧ ∀ k, a.eval (.tmp k) = f k := by
  obtain ⟨t, d⟩ := a
  simp only [] at h hd
  subst hd
  refine ⟨fun k => t.getD k undef, ?_, fun k => rfl⟩
  congr 1
  apply Array.ext'
  apply List.ext_getElem?
  intro i
  by_cases hi : i < 66
  · rw [show t.toList[i]? = some (t.getD i undef) from by simp [Array.getD, h, hi]]
    match i, hi with
    | 0, _ => rfl
    | 1, _ => rfl
    | 2, _ => rfl
    | 3, _ => rfl
    | 4, _ => rfl
    | 5, _ => rfl
    | 6, _ => rfl
    | 7, _ => rfl
    | 8, _ => rfl
    | 9, _ => rfl
    | 10, _ => rfl
    | 11, _ => rfl
    | 12, _ => rfl
    | 13, _ => rfl
    | 14, _ => rfl
    | 15, _ => rfl
    | 16, _ => rfl
    | 17, _ => rfl
    | 18, _ => rfl
    | 19, _ => rfl
    | 20, _ => rfl
    | 21, _ => rfl
    | 22, _ => rfl
    | 23, _ => rfl
    | 24, _ => rfl
    | 25, _ => rfl
    | 26, _ => rfl
    | 27, _ => rfl
    | 28, _ => rfl
    | 29, _ => rfl
    | 30, _ => rfl
    | 31, _ => rfl
    | 32, _ => rfl
    | 33, _ => rfl
    | 34, _ => rfl
    | 35, _ => rfl
    | 36, _ => rfl
    | 37, _ => rfl
    | 38, _ => rfl
    | 39, _ => rfl
    | 40, _ => rfl
    | 41, _ => rfl
    | 42, _ => rfl
    | 43, _ => rfl
    | 44, _ => rfl
    | 45, _ => rfl
    | 46, _ => rfl
    | 47, _ => rfl
    | 48, _ => rfl
    | 49, _ => rfl
    | 50, _ => rfl
    | 51, _ => rfl
    | 52, _ => rfl
    | 53, _ => rfl
    | 54, _ => rfl
    | 55, _ => rfl
    | 56, _ => rfl
    | 57, _ => rfl
    | 58, _ => rfl
    | 59, _ => rfl
    | 60, _ => rfl
    | 61, _ => rfl
    | 62, _ => rfl
    | 63, _ => rfl
    | 64, _ => rfl
    | 65, _ => rfl
    | n + 66, hn => omega
  · rw [List.getElem?_eq_none (by rw [Array.length_toList]; omega), List.getElem?_eq_none (by show 66 ≤ i; omega)]
/-- ten cells are set: the row holds them, other rows stay -/
theorem setTen {W w : World} {b : Nat} {cs : List Value} (hrow : RowAt w b cs 76) (_hcs : cs.length = 10) (hB : W.heap.size ≤ b) (hbl : Below W.heap.size W w) (v0 v1 v2 v3 v4 v5 v6 v7 v8 v9 : Value) :
    Gr 76 w ((((((((((w.setCell ⟨b, 0, none⟩ v0).setCell ⟨b, 1, none⟩ v1).setCell ⟨b, 2, none⟩ v2).setCell ⟨b, 3, none⟩ v3).setCell ⟨b, 4, none⟩ v4).setCell ⟨b, 5, none⟩ v5).setCell ⟨b, 6, none⟩ v6).setCell ⟨b, 7, none⟩ v7).setCell ⟨b, 8, none⟩ v8).setCell ⟨b, 9, none⟩ v9) ∧
    Below W.heap.size W ((((((((((w.setCell ⟨b, 0, none⟩ v0).setCell ⟨b, 1, none⟩ v1).setCell ⟨b, 2, none⟩ v2).setCell ⟨b, 3, none⟩ v3).setCell ⟨b, 4, none⟩ v4).setCell ⟨b, 5, none⟩ v5).setCell ⟨b, 6, none⟩ v6).setCell ⟨b, 7, none⟩ v7).setCell ⟨b, 8, none⟩ v8).setCell ⟨b, 9, none⟩ v9) := by
  have r0 := hrow.set (k := 0) v0
  have r1 := r0.set (k := 1) v1
  have r2 := r1.set (k := 2) v2
  have r3 := r2.set (k := 3) v3
  have r4 := r3.set (k := 4) v4
  have r5 := r4.set (k := 5) v5
  have r6 := r5.set (k := 6) v6
  have r7 := r6.set (k := 7) v7
  have r8 := r7.set (k := 8) v8
  exact ⟨(((((((((Gr.set (i := 0) hrow v0).trans (Gr.set (i := 1) r0 v1)).trans (Gr.set (i := 2) r1 v2)).trans (Gr.set (i := 3) r2 v3)).trans (Gr.set (i := 4) r3 v4)).trans (Gr.set (i := 5) r4 v5)).trans (Gr.set (i := 6) r5 v6)).trans (Gr.set (i := 7) r6 v7)).trans (Gr.set (i := 8) r7 v8)).trans (Gr.set (i := 9) r8 v9),
    (((((((((hbl.setCell (p := ⟨b, 0, none⟩) hB v0).setCell (p := ⟨b, 1, none⟩) hB v1).setCell (p := ⟨b, 2, none⟩) hB v2).setCell (p := ⟨b, 3, none⟩) hB v3).setCell (p := ⟨b, 4, none⟩) hB v4).setCell (p := ⟨b, 5, none⟩) hB v5).setCell (p := ⟨b, 6, none⟩) hB v6).setCell (p := ⟨b, 7, none⟩) hB v7).setCell (p := ⟨b, 8, none⟩) hB v8).setCell (p := ⟨b, 9, none⟩) hB v9⟩

set_option maxRecDepth 100000 in
set_option maxHeartbeats 8000000 in
theorem rulesRead_any (s : List UInt8) (w : World) (hm : ML w) (hs : s.length ≤ 1048000) :
    Calls Tryz.prog 81 #[.string ⟨s.toArray⟩] w (RulePost s w) := by
  have hb1 : Below w.heap.size w (w.alloc (.cells zeroRule.toArray 76)) := (Below.refl _ _).alloc (Nat.le_refl _) _
  have z1 : (w.alloc (.cells zeroRule.toArray 76)).heap.size = w.heap.size + 1 := by simp
  have hr1 := RowAt.new w zeroRule 76
  have hm1 : ML (w.alloc (.cells zeroRule.toArray 76)) := hm.on hb1
  have CS := hide (strSplit_any s 59 (w.alloc (.cells zeroRule.toArray 76)) hm1 (by omega))
  have n1 := names_new (w.alloc (.cells zeroRule.toArray 76)) (spl 59 s) 9
  have hb2 := hb1.alloc (by omega) (.cells (strs (spl 59 s)).toArray 9)
  have hb12 : Below (w.alloc (.cells zeroRule.toArray 76)).heap.size (w.alloc (.cells zeroRule.toArray 76)) _ := (Below.refl _ _).alloc (Nat.le_refl _) (.cells (strs (spl 59 s)).toArray 9)
  have z2 : ((w.alloc (.cells zeroRule.toArray 76)).alloc (.cells (strs (spl 59 s)).toArray 9)).heap.size = w.heap.size + 1 + 1 := by simp
  have n2 := names_new ((w.alloc (.cells zeroRule.toArray 76)).alloc (.cells (strs (spl 59 s)).toArray 9)) partNames 9
  have hb3 := hb2.alloc (by omega) (.cells (strs partNames).toArray 9)
  have hb23 : Below ((w.alloc (.cells zeroRule.toArray 76)).alloc (.cells (strs (spl 59 s)).toArray 9)).heap.size ((w.alloc (.cells zeroRule.toArray 76)).alloc (.cells (strs (spl 59 s)).toArray 9)) _ := (Below.refl _ _).alloc (Nat.le_refl _) (.cells (strs partNames).toArray 9)
  have z3 : (((w.alloc (.cells zeroRule.toArray 76)).alloc (.cells (strs (spl 59 s)).toArray 9)).alloc (.cells (strs partNames).toArray 9)).heap.size = w.heap.size + 1 + 1 + 1 := by simp
  have n3 := names_on n1 (by omega) hb23
  rw [z1] at n3
  rw [z2] at n2
  have hr3 := (hr1.on hb12).on hb23
  have hm3' := (hm1.on hb12).on hb23
  have CF := hide (fields_any (w.heap.size + 1) 0 (spl 59 s).length (w.heap.size + 1 + 1) 0 9 partNames (spl 59 s) 61 3 (((w.alloc (.cells zeroRule.toArray 76)).alloc (.cells (strs (spl 59 s)).toArray 9)).alloc (.cells (strs partNames).toArray 9)) rfl
    (by have := split_len s 59; omega) (fun l hl => by have := spl_small 59 s l hl; omega) (by omega) (by omega) n3 n2)
  clear n1 n2 n3 hb12 hb23 hm1 hr1 z1 z2 hb1 hb2
  cases hp : partsOf s with
  | none =>
    have hno : ¬ ∃ F r, IsRule s F r := fun ⟨F, r, h, _⟩ => by rw [hp] at h; cases h
    have HN := hide hno
    have CG : Hid (Calls Tryz.prog 129 #[.slice (some ⟨w.heap.size + 1, 0, none⟩) (spl 59 s).length (spl 59 s).length, .string ⟨#[61]⟩, .slice (some ⟨w.heap.size + 1 + 1, 0, none⟩) 9 9, .int .i64 3] (((w.alloc (.cells zeroRule.toArray 76)).alloc (.cells (strs (spl 59 s)).toArray 9)).alloc (.cells (strs partNames).toArray 9)) fun E w' => E = .panicked (rsn 3) ∧ Below w.heap.size w w') :=
      hide (CF.out.mono fun E w' h => by
        unfold FdPost at h
        rw [show flds partNames 61 (spl 59 s) (fun _ => none) = none from hp] at h
        exact ⟨h.1, hb3.trans (h.2.mono (by omega))⟩)
    clear CF hno hp hr3 hm3' hm hb3 z3
    go_enter Tryz.func81, Tryz.ntmps81
    go_wp2_with (first
      | (go_at_call 139; refine (CS.out).mono ?_; rintro e w1 ⟨rfl, rfl⟩)
      | (go_at_call 140; refine (partNames_any _).mono ?_; rintro e w1 ⟨rfl, rfl⟩)
      | (go_at_call 129; refine (CG.out).mono ?_; rintro e w3 ⟨rfl, hbw⟩))
    exact ⟨rfl, .inr ⟨HN.out, rfl⟩, hbw⟩
  | some F =>
    have hsm : ∀ k, ((F k).getD []).length ≤ 1048576 := flds_small (fun p hp' => by have := spl_small 59 s p hp'; omega) (fun k => by simp) hp
    have hsm1 : ∀ k (d : List UInt8), d.length ≤ 1048576 → ((F k).getD d).length ≤ 1048576 := fun k d hd => by
      have := hsm k
      cases hk : F k with
      | none => simpa [hk] using hd
      | some v => rw [hk] at this; simpa using this
    have uniq : ∀ F', partsOf s = some F' → F' = F := fun F' h => by rw [hp] at h; exact (Option.some.inj h).symm
    have no : (¬ ∃ r, Parts F r) → ¬ ∃ F r, IsRule s F r := fun h ⟨F', r, h1, _, h3, _⟩ => by rw [uniq F' h1] at h3; exact h ⟨r, h3⟩
    have CG : Hid (Calls Tryz.prog 129 #[.slice (some ⟨w.heap.size + 1, 0, none⟩) (spl 59 s).length (spl 59 s).length, .string ⟨#[61]⟩, .slice (some ⟨w.heap.size + 1 + 1, 0, none⟩) 9 9, .int .i64 3] (((w.alloc (.cells zeroRule.toArray 76)).alloc (.cells (strs (spl 59 s)).toArray 9)).alloc (.cells (strs partNames).toArray 9)) fun E w' => ∃ g, E = .returned (.slice (some ⟨g, 0, none⟩) 9 9) ∧ FieldsAt w' g F ∧ Below w.heap.size w w' ∧ RowAt w' w.heap.size zeroRule 76 ∧ ML w' ∧ w.heap.size ≤ w'.heap.size) :=
      hide (CF.out.mono fun E w' h => by
        unfold FdPost at h
        rw [show flds partNames 61 (spl 59 s) (fun _ => none) = some F from hp] at h
        obtain ⟨⟨g, h1, h2, h3⟩, h4⟩ := h
        have := h4.size
        exact ⟨g, h1, h3, hb3.trans (h4.mono (by omega)), hr3.on h4, hm3'.on h4, by omega⟩)
    clear CF hr3 hm3' hb3 z3 hm
    by_cases h23 : (F 2).isSome = true ∧ (F 3).isSome = true
    case pos =>
      have HN : Hid (¬ ∃ F r, IsRule s F r) := hide (fun ⟨F', r, h1, h2, _⟩ => by rw [uniq F' h1] at h2; exact h2 h23)
      obtain ⟨b2, b3⟩ := h23
      clear no uniq hsm hsm1 hp
      go_enter Tryz.func81, Tryz.ntmps81
      go_wp2_with (first
        | (go_at_call 139; refine (CS.out).mono ?_; rintro e w1 ⟨rfl, rfl⟩)
        | (go_at_call 140; refine (partNames_any _).mono ?_; rintro e w1 ⟨rfl, rfl⟩)
        | (go_at_call 129; refine (CG.out).mono ?_; rintro e w3 ⟨g, rfl, hF, hbw, hrow, hm3, hwz⟩; have c2 := hF.there 2 (by decide); have c3 := hF.there 3 (by decide); rw [b2] at c2; rw [b3] at c3)
        | (go_at_call_of 65 (Value.bool false); refine (unless_no _ _).mono ?_; rintro e w' ⟨rfl, rfl⟩))
      exact ⟨rfl, .inr ⟨HN.out, rfl⟩, hbw⟩
    case neg =>
      have H23 := hide h23
      have b23 : ((F 2).isSome = false) ∨ ((F 2).isSome = true ∧ (F 3).isSome = false) := by
        cases h2 : (F 2).isSome
        · exact .inl rfl
        · refine .inr ⟨rfl, ?_⟩
          cases h3 : (F 3).isSome
          · rfl
          · exact absurd ⟨h2, h3⟩ h23
      have HU := hide uniq
      have HNo := hide no
      have HP := hide hp
      have HS := hide hsm
      have HS1 := hide hsm1
      clear no uniq hsm hsm1 hp h23
      rcases b23 with b2 | ⟨b2, b3⟩
      all_goals
        go_enter Tryz.func81, Tryz.ntmps81
        go_wp2_with (first
          | (go_at_call 139; refine (CS.out).mono ?_; rintro e w1 ⟨rfl, rfl⟩)
          | (go_at_call 140; refine (partNames_any _).mono ?_; rintro e w1 ⟨rfl, rfl⟩)
          | (go_at_call 129; refine (CG.out).mono ?_; rintro e w3 ⟨g, rfl, hF, hbw, hrow, hm3, hwz⟩; have c2 := hF.there 2 (by decide); have c3 := hF.there 3 (by decide); rw [b2] at c2; (try rw [b3] at c3))
          | (go_at_call_of 65 (Value.bool true); refine (unless_yes _ _).mono ?_; rintro e w' ⟨rfl, rfl⟩))
        have no := HNo.out
        have hsm := HS.out
        have hsm1 := HS1.out
        refine wp_region_plain (GG g F w3.heap.size) (II w3 w.heap.size g) (by kernel_rfl) (by kernel_rfl) (by kernel_rfl) ?_ ?_ ?_
        rotate_left 2
        · exact ⟨rfl, rfl, rfl, rfl, (Below.refl _ _).drew⟩
        · intro i o ho a w' hI hG
          have hi : i < 43 := (Array.getElem?_eq_some_iff.1 ho).1
          have hor : i = 0 ∨ i = 1 ∨ i = 2 ∨ i = 3 ∨ i = 4 ∨ i = 5 ∨ i = 6 ∨ i = 7 ∨ i = 8 ∨ i = 9 ∨ i = 10 ∨ i = 11 ∨ i = 12 ∨ i = 13 ∨ i = 14 ∨ i = 15 ∨ i = 16 ∨ i = 17 ∨ i = 18 ∨ i = 19 ∨ i = 20 ∨ i = 21 ∨ i = 22 ∨ i = 23 ∨ i = 24 ∨ i = 25 ∨ i = 26 ∨ i = 27 ∨ i = 28 ∨ i = 29 ∨ i = 30 ∨ i = 31 ∨ i = 32 ∨ i = 33 ∨ i = 34 ∨ i = 35 ∨ i = 36 ∨ i = 37 ∨ i = 38 ∨ i = 39 ∨ i = 40 ∨ i = 41 ∨ i = 42 := by omega
          rcases hor with rfl | rfl | rfl | rfl | rfl | rfl | rfl | rfl | rfl | rfl | rfl | rfl | rfl | rfl | rfl | rfl | rfl | rfl | rfl | rfl | rfl | rfl | rfl | rfl | rfl | rfl | rfl | rfl | rfl | rfl | rfl | rfl | rfl | rfl | rfl | rfl | rfl | rfl | rfl | rfl | rfl | rfl | rfl <;> obtain rfl := Option.some.inj ho
          · -- 0
            exact op_value (v := a.eval (.tmp 3)) (by kernel_rfl) (step_ok rfl (by decide) hI (Below.refl _ _) (show NN g F w3.heap.size 0 _ _ from hI.s3) (by kernel_rfl) rfl)
          · -- 1
            have e : a.eval (.tmp 21) = .slice (some ⟨g, 0, none⟩) 9 9 := GG_val (hG ⟨0, .data⟩ (by simp) rfl) (by decide)
            exact op_value (v := .pointer (some ⟨g, 0 * 2, none⟩)) (run_value (by show (Instr.indexAt 118 (a.eval (.tmp 21)) (.int .i64 0)).run _ _ = _; rw [e]; exact fieldAt_run g 0 (by decide) w')) (step_ok rfl (by decide) hI (Below.refl _ _) (show NN g F w3.heap.size 1 _ _ from rfl) (by kernel_rfl) rfl)
          · -- 2
            have e : a.eval (.tmp 22) = .pointer (some ⟨g, 0 * 2, none⟩) := GG_val (hG ⟨1, .data⟩ (by simp) rfl) (by decide)
            exact op_value (v := fldV (F 0)) (run_value (by show (Instr.loadAt 122 (a.eval (.tmp 22))).run _ _ = _; rw [e]; exact fieldLoad_run (hF.on hI.below) (by decide))) (step_ok rfl (by decide) hI (Below.refl _ _) (show NN g F w3.heap.size 2 _ _ from rfl) (by kernel_rfl) rfl)
          · -- 3
            have e : a.eval (.tmp 23) = fldV (F 0) := GG_val (hG ⟨2, .data⟩ (by simp) rfl) (by decide)
            refine op_call (R := fun E w'' => E = optE 3 (freqF (F 0)) ∧ Below w'.heap.size w' w'') (f := 141) (args := #[a.eval (.tmp 23)]) (by kernel_rfl) (by rw [e]; exact (readFrequency_any _ _ w').mono fun E w'' ⟨h1, h2⟩ => ⟨by rw [h1, chE_opt]; rfl, h2⟩) ?_ ?_ ?_
            · rintro v w'' ⟨he, hb⟩
              obtain ⟨z, hz, rfl⟩ := optE_ret he
              exact (step_ok rfl (by decide) hI hb (show NN g F w3.heap.size 3 _ _ from ⟨z, hz, rfl⟩) (by kernel_rfl) rfl)
            · rintro c w'' ⟨he, hb⟩
              obtain ⟨hz, rfl⟩ := optE_pan he
              exact ⟨hI.defers, .inr ⟨no fun ⟨r, hr⟩ => (by have := hr.fq; rw [hz] at this; cases this), rfl⟩, hbw.trans ((hI.below.trans (hb.mono hI.below.size)).mono hwz)⟩
            · rintro w'' ⟨he, _⟩
              exact optE_out he
          · -- 4
            exact op_value (v := a.eval (.tmp 3)) (by kernel_rfl) (step_ok rfl (by decide) hI (Below.refl _ _) (show NN g F w3.heap.size 4 _ _ from hI.s3) (by kernel_rfl) rfl)
          · -- 5
            have e : a.eval (.tmp 25) = .slice (some ⟨g, 0, none⟩) 9 9 := GG_val (hG ⟨4, .data⟩ (by simp) rfl) (by decide)
            exact op_value (v := .pointer (some ⟨g, 1 * 2, none⟩)) (run_value (by show (Instr.indexAt 118 (a.eval (.tmp 25)) (.int .i64 1)).run _ _ = _; rw [e]; exact fieldAt_run g 1 (by decide) w')) (step_ok rfl (by decide) hI (Below.refl _ _) (show NN g F w3.heap.size 5 _ _ from rfl) (by kernel_rfl) rfl)
          · -- 6
            have e : a.eval (.tmp 26) = .pointer (some ⟨g, 1 * 2, none⟩) := GG_val (hG ⟨5, .data⟩ (by simp) rfl) (by decide)
            exact op_value (v := fldV (F 1)) (run_value (by show (Instr.loadAt 122 (a.eval (.tmp 26))).run _ _ = _; rw [e]; exact fieldLoad_run (hF.on hI.below) (by decide))) (step_ok rfl (by decide) hI (Below.refl _ _) (show NN g F w3.heap.size 6 _ _ from rfl) (by kernel_rfl) rfl)
          · -- 7
            have e : a.eval (.tmp 27) = fldV (F 1) := GG_val (hG ⟨6, .data⟩ (by simp) rfl) (by decide)
            refine op_call (R := fun E w'' => E = .returned (.string ⟨((F 1).getD [49]).toArray⟩) ∧ Below w'.heap.size w' w'') (f := 134) (args := #[a.eval (.tmp 27), .string ⟨#[49]⟩]) (by kernel_rfl) (by rw [e]; exact or_any (F 1) [49] w') ?_ ?_ ?_
            · rintro v w'' ⟨he, hb⟩
              obtain rfl : v = _ := Ending.returned.inj he
              exact (step_ok rfl (by decide) hI hb (show NN g F w3.heap.size 7 _ _ from rfl) (by kernel_rfl) rfl)
            · rintro c w'' ⟨he, hb⟩
              cases he
            · rintro w'' ⟨he, _⟩
              cases he
          · -- 8
            have e : a.eval (.tmp 28) = .string ⟨((F 1).getD [49]).toArray⟩ := GG_val (hG ⟨7, .data⟩ (by simp) rfl) (by decide)
            refine op_call (R := fun E w'' => E = optE 3 (wiF 1 100 ((F 1).getD [49])) ∧ Below w'.heap.size w' w'') (f := 142) (args := #[a.eval (.tmp 28), .int .i64 1, .int .i64 100, .int .i64 3]) (by kernel_rfl) (by rw [e]; exact (numberWithin_any _ 1 100 3 w' (maxLen_le (hsm1 1 _ (by decide)))).mono fun E w'' ⟨h1, h2⟩ => ⟨by rw [h1, wiE_opt], by rw [← h2]; exact Below.refl _ _⟩) ?_ ?_ ?_
            · rintro v w'' ⟨he, hb⟩
              obtain ⟨z, hz, rfl⟩ := optE_ret he
              exact (step_ok rfl (by decide) hI hb (show NN g F w3.heap.size 8 _ _ from ⟨z, hz, rfl⟩) (by kernel_rfl) rfl)
            · rintro c w'' ⟨he, hb⟩
              obtain ⟨hz, rfl⟩ := optE_pan he
              exact ⟨hI.defers, .inr ⟨no fun ⟨r, hr⟩ => (by have := hr.iv; rw [hz] at this; cases this), rfl⟩, hbw.trans ((hI.below.trans (hb.mono hI.below.size)).mono hwz)⟩
            · rintro w'' ⟨he, _⟩
              exact optE_out he
          · -- 9
            exact op_value (v := a.eval (.tmp 3)) (by kernel_rfl) (step_ok rfl (by decide) hI (Below.refl _ _) (show NN g F w3.heap.size 9 _ _ from hI.s3) (by kernel_rfl) rfl)
          · -- 10
            have e : a.eval (.tmp 30) = .slice (some ⟨g, 0, none⟩) 9 9 := GG_val (hG ⟨9, .data⟩ (by simp) rfl) (by decide)
            exact op_value (v := .pointer (some ⟨g, 2 * 2, none⟩)) (run_value (by show (Instr.indexAt 118 (a.eval (.tmp 30)) (.int .i64 2)).run _ _ = _; rw [e]; exact fieldAt_run g 2 (by decide) w')) (step_ok rfl (by decide) hI (Below.refl _ _) (show NN g F w3.heap.size 10 _ _ from rfl) (by kernel_rfl) rfl)
          · -- 11
            have e : a.eval (.tmp 31) = .pointer (some ⟨g, 2 * 2, none⟩) := GG_val (hG ⟨10, .data⟩ (by simp) rfl) (by decide)
            exact op_value (v := fldV (F 2)) (run_value (by show (Instr.loadAt 122 (a.eval (.tmp 31))).run _ _ = _; rw [e]; exact fieldLoad_run (hF.on hI.below) (by decide))) (step_ok rfl (by decide) hI (Below.refl _ _) (show NN g F w3.heap.size 11 _ _ from rfl) (by kernel_rfl) rfl)
          · -- 12
            have e : a.eval (.tmp 32) = fldV (F 2) := GG_val (hG ⟨11, .data⟩ (by simp) rfl) (by decide)
            refine op_call (R := fun E w'' => E = optE 3 (cntF (F 2)) ∧ Below w'.heap.size w' w'') (f := 143) (args := #[a.eval (.tmp 32)]) (by kernel_rfl) (by rw [e]; exact (readCount_any (F 2) w' (maxLen_le (hsm 2))).mono fun E w'' ⟨h1, h2⟩ => ⟨by rw [h1, cntE_opt], h2⟩) ?_ ?_ ?_
            · rintro v w'' ⟨he, hb⟩
              obtain ⟨z, hz, rfl⟩ := optE_ret he
              exact (step_ok rfl (by decide) hI hb (show NN g F w3.heap.size 12 _ _ from ⟨z, hz, rfl⟩) (by kernel_rfl) rfl)
            · rintro c w'' ⟨he, hb⟩
              obtain ⟨hz, rfl⟩ := optE_pan he
              exact ⟨hI.defers, .inr ⟨no fun ⟨r, hr⟩ => (by have := hr.ct; rw [hz] at this; cases this), rfl⟩, hbw.trans ((hI.below.trans (hb.mono hI.below.size)).mono hwz)⟩
            · rintro w'' ⟨he, _⟩
              exact optE_out he
          · -- 13
            exact op_value (v := a.eval (.tmp 3)) (by kernel_rfl) (step_ok rfl (by decide) hI (Below.refl _ _) (show NN g F w3.heap.size 13 _ _ from hI.s3) (by kernel_rfl) rfl)
          · -- 14
            have e : a.eval (.tmp 34) = .slice (some ⟨g, 0, none⟩) 9 9 := GG_val (hG ⟨13, .data⟩ (by simp) rfl) (by decide)
            exact op_value (v := .pointer (some ⟨g, 3 * 2, none⟩)) (run_value (by show (Instr.indexAt 118 (a.eval (.tmp 34)) (.int .i64 3)).run _ _ = _; rw [e]; exact fieldAt_run g 3 (by decide) w')) (step_ok rfl (by decide) hI (Below.refl _ _) (show NN g F w3.heap.size 14 _ _ from rfl) (by kernel_rfl) rfl)
          · -- 15
            have e : a.eval (.tmp 35) = .pointer (some ⟨g, 3 * 2, none⟩) := GG_val (hG ⟨14, .data⟩ (by simp) rfl) (by decide)
            exact op_value (v := fldV (F 3)) (run_value (by show (Instr.loadAt 122 (a.eval (.tmp 35))).run _ _ = _; rw [e]; exact fieldLoad_run (hF.on hI.below) (by decide))) (step_ok rfl (by decide) hI (Below.refl _ _) (show NN g F w3.heap.size 15 _ _ from rfl) (by kernel_rfl) rfl)
          · -- 16
            have e : a.eval (.tmp 36) = fldV (F 3) := GG_val (hG ⟨15, .data⟩ (by simp) rfl) (by decide)
            refine op_call (R := fun E w'' => E = optE 3 (untF (F 3)) ∧ Below w'.heap.size w' w'') (f := 144) (args := #[a.eval (.tmp 36)]) (by kernel_rfl) (by rw [e]; exact (readUntil_any (F 3) w').mono fun E w'' ⟨h1, h2⟩ => ⟨by rw [h1, untE_opt], h2⟩) ?_ ?_ ?_
            · rintro v w'' ⟨he, hb⟩
              obtain ⟨z, hz, rfl⟩ := optE_ret he
              exact (step_ok rfl (by decide) hI hb (show NN g F w3.heap.size 16 _ _ from ⟨z, hz, rfl⟩) (by kernel_rfl) rfl)
            · rintro c w'' ⟨he, hb⟩
              obtain ⟨hz, rfl⟩ := optE_pan he
              exact ⟨hI.defers, .inr ⟨no fun ⟨r, hr⟩ => (by have := hr.un; rw [hz] at this; cases this), rfl⟩, hbw.trans ((hI.below.trans (hb.mono hI.below.size)).mono hwz)⟩
            · rintro w'' ⟨he, _⟩
              exact optE_out he
          · -- 17
            exact op_value (v := a.eval (.tmp 3)) (by kernel_rfl) (step_ok rfl (by decide) hI (Below.refl _ _) (show NN g F w3.heap.size 17 _ _ from hI.s3) (by kernel_rfl) rfl)
          · -- 18
            have e : a.eval (.tmp 38) = .slice (some ⟨g, 0, none⟩) 9 9 := GG_val (hG ⟨17, .data⟩ (by simp) rfl) (by decide)
            exact op_value (v := .pointer (some ⟨g, 4 * 2, none⟩)) (run_value (by show (Instr.indexAt 118 (a.eval (.tmp 38)) (.int .i64 4)).run _ _ = _; rw [e]; exact fieldAt_run g 4 (by decide) w')) (step_ok rfl (by decide) hI (Below.refl _ _) (show NN g F w3.heap.size 18 _ _ from rfl) (by kernel_rfl) rfl)
          · -- 19
            have e : a.eval (.tmp 39) = .pointer (some ⟨g, 4 * 2, none⟩) := GG_val (hG ⟨18, .data⟩ (by simp) rfl) (by decide)
            exact op_value (v := fldV (F 4)) (run_value (by show (Instr.loadAt 122 (a.eval (.tmp 39))).run _ _ = _; rw [e]; exact fieldLoad_run (hF.on hI.below) (by decide))) (step_ok rfl (by decide) hI (Below.refl _ _) (show NN g F w3.heap.size 19 _ _ from rfl) (by kernel_rfl) rfl)
          · -- 20
            have e : a.eval (.tmp 40) = fldV (F 4) := GG_val (hG ⟨19, .data⟩ (by simp) rfl) (by decide)
            refine op_call (R := LiPost (wiF 1 12) (F 4) 3 w') (f := 136) (args := #[a.eval (.tmp 40), .int .i64 3, .func (.func 145) #[] #[]]) (by kernel_rfl) (by rw [e]; exact months_any (F 4) w' (hm3.on hI.below) (hsm 4)) ?_ ?_ ?_
            · rintro v w'' ⟨⟨zs, v', hz, he, hv⟩ | ⟨_, he⟩, hb⟩
              · obtain rfl : v = v' := Ending.returned.inj he
                exact (step_ok rfl (by decide) hI hb (show NN g F w3.heap.size 20 _ _ from ⟨zs, hz, hv⟩) (by kernel_rfl) rfl)
              · cases he
            · rintro c w'' ⟨⟨zs, v', hz, he, hv⟩ | ⟨hz, he⟩, hb⟩
              · cases he
              · obtain rfl : c = _ := Ending.panicked.inj he
                exact ⟨hI.defers, .inr ⟨no fun ⟨r, hr⟩ => (by have := hr.ms; rw [hz] at this; cases this), rfl⟩, hbw.trans ((hI.below.trans (hb.mono hI.below.size)).mono hwz)⟩
            · rintro w'' ⟨⟨zs, v', hz, he, hv⟩ | ⟨hz, he⟩, _⟩ <;> cases he
          · -- 21
            exact op_value (v := a.eval (.tmp 3)) (by kernel_rfl) (step_ok rfl (by decide) hI (Below.refl _ _) (show NN g F w3.heap.size 21 _ _ from hI.s3) (by kernel_rfl) rfl)
          · -- 22
            have e : a.eval (.tmp 42) = .slice (some ⟨g, 0, none⟩) 9 9 := GG_val (hG ⟨21, .data⟩ (by simp) rfl) (by decide)
            exact op_value (v := .pointer (some ⟨g, 5 * 2, none⟩)) (run_value (by show (Instr.indexAt 118 (a.eval (.tmp 42)) (.int .i64 5)).run _ _ = _; rw [e]; exact fieldAt_run g 5 (by decide) w')) (step_ok rfl (by decide) hI (Below.refl _ _) (show NN g F w3.heap.size 22 _ _ from rfl) (by kernel_rfl) rfl)
          · -- 23
            have e : a.eval (.tmp 43) = .pointer (some ⟨g, 5 * 2, none⟩) := GG_val (hG ⟨22, .data⟩ (by simp) rfl) (by decide)
            exact op_value (v := fldV (F 5)) (run_value (by show (Instr.loadAt 122 (a.eval (.tmp 43))).run _ _ = _; rw [e]; exact fieldLoad_run (hF.on hI.below) (by decide))) (step_ok rfl (by decide) hI (Below.refl _ _) (show NN g F w3.heap.size 23 _ _ from rfl) (by kernel_rfl) rfl)
          · -- 24
            have e : a.eval (.tmp 44) = fldV (F 5) := GG_val (hG ⟨23, .data⟩ (by simp) rfl) (by decide)
            refine op_call (R := LiPost (sgF 31) (F 5) 3 w') (f := 136) (args := #[a.eval (.tmp 44), .int .i64 3, .func (.func 146) #[] #[]]) (by kernel_rfl) (by rw [e]; exact monthDaysList_any (F 5) w' (hm3.on hI.below) (hsm 5)) ?_ ?_ ?_
            · rintro v w'' ⟨⟨zs, v', hz, he, hv⟩ | ⟨_, he⟩, hb⟩
              · obtain rfl : v = v' := Ending.returned.inj he
                exact (step_ok rfl (by decide) hI hb (show NN g F w3.heap.size 24 _ _ from ⟨zs, hz, hv⟩) (by kernel_rfl) rfl)
              · cases he
            · rintro c w'' ⟨⟨zs, v', hz, he, hv⟩ | ⟨hz, he⟩, hb⟩
              · cases he
              · obtain rfl : c = _ := Ending.panicked.inj he
                exact ⟨hI.defers, .inr ⟨no fun ⟨r, hr⟩ => (by have := hr.mds; rw [hz] at this; cases this), rfl⟩, hbw.trans ((hI.below.trans (hb.mono hI.below.size)).mono hwz)⟩
            · rintro w'' ⟨⟨zs, v', hz, he, hv⟩ | ⟨hz, he⟩, _⟩ <;> cases he
          · -- 25
            exact op_value (v := a.eval (.tmp 3)) (by kernel_rfl) (step_ok rfl (by decide) hI (Below.refl _ _) (show NN g F w3.heap.size 25 _ _ from hI.s3) (by kernel_rfl) rfl)
          · -- 26
            have e : a.eval (.tmp 46) = .slice (some ⟨g, 0, none⟩) 9 9 := GG_val (hG ⟨25, .data⟩ (by simp) rfl) (by decide)
            exact op_value (v := .pointer (some ⟨g, 6 * 2, none⟩)) (run_value (by show (Instr.indexAt 118 (a.eval (.tmp 46)) (.int .i64 6)).run _ _ = _; rw [e]; exact fieldAt_run g 6 (by decide) w')) (step_ok rfl (by decide) hI (Below.refl _ _) (show NN g F w3.heap.size 26 _ _ from rfl) (by kernel_rfl) rfl)
          · -- 27
            have e : a.eval (.tmp 47) = .pointer (some ⟨g, 6 * 2, none⟩) := GG_val (hG ⟨26, .data⟩ (by simp) rfl) (by decide)
            exact op_value (v := fldV (F 6)) (run_value (by show (Instr.loadAt 122 (a.eval (.tmp 47))).run _ _ = _; rw [e]; exact fieldLoad_run (hF.on hI.below) (by decide))) (step_ok rfl (by decide) hI (Below.refl _ _) (show NN g F w3.heap.size 27 _ _ from rfl) (by kernel_rfl) rfl)
          · -- 28
            have e : a.eval (.tmp 48) = fldV (F 6) := GG_val (hG ⟨27, .data⟩ (by simp) rfl) (by decide)
            refine op_call (R := LkPost (F 6) w') (f := 147) (args := #[a.eval (.tmp 48), .int .i64 3, .func (.func 148) #[] #[]]) (by kernel_rfl) (by rw [e]; exact listWk_any (F 6) w' (hm3.on hI.below) (hsm 6)) ?_ ?_ ?_
            · rintro v w'' ⟨⟨zs, v', hz, he, hv⟩ | ⟨_, he⟩, hb⟩
              · obtain rfl : v = v' := Ending.returned.inj he
                exact (step_ok rfl (by decide) hI hb (show NN g F w3.heap.size 28 _ _ from ⟨zs, hz, hv⟩) (by kernel_rfl) rfl)
              · cases he
            · rintro c w'' ⟨⟨zs, v', hz, he, hv⟩ | ⟨hz, he⟩, hb⟩
              · cases he
              · obtain rfl : c = _ := Ending.panicked.inj he
                exact ⟨hI.defers, .inr ⟨no fun ⟨r, hr⟩ => (by have := hr.wks; rw [hz] at this; cases this), rfl⟩, hbw.trans ((hI.below.trans (hb.mono hI.below.size)).mono hwz)⟩
            · rintro w'' ⟨⟨zs, v', hz, he, hv⟩ | ⟨hz, he⟩, _⟩ <;> cases he
          · -- 29
            exact op_value (v := a.eval (.tmp 3)) (by kernel_rfl) (step_ok rfl (by decide) hI (Below.refl _ _) (show NN g F w3.heap.size 29 _ _ from hI.s3) (by kernel_rfl) rfl)
          · -- 30
            have e : a.eval (.tmp 50) = .slice (some ⟨g, 0, none⟩) 9 9 := GG_val (hG ⟨29, .data⟩ (by simp) rfl) (by decide)
            exact op_value (v := .pointer (some ⟨g, 7 * 2, none⟩)) (run_value (by show (Instr.indexAt 118 (a.eval (.tmp 50)) (.int .i64 7)).run _ _ = _; rw [e]; exact fieldAt_run g 7 (by decide) w')) (step_ok rfl (by decide) hI (Below.refl _ _) (show NN g F w3.heap.size 30 _ _ from rfl) (by kernel_rfl) rfl)
          · -- 31
            have e : a.eval (.tmp 51) = .pointer (some ⟨g, 7 * 2, none⟩) := GG_val (hG ⟨30, .data⟩ (by simp) rfl) (by decide)
            exact op_value (v := fldV (F 7)) (run_value (by show (Instr.loadAt 122 (a.eval (.tmp 51))).run _ _ = _; rw [e]; exact fieldLoad_run (hF.on hI.below) (by decide))) (step_ok rfl (by decide) hI (Below.refl _ _) (show NN g F w3.heap.size 31 _ _ from rfl) (by kernel_rfl) rfl)
          · -- 32
            have e : a.eval (.tmp 52) = fldV (F 7) := GG_val (hG ⟨31, .data⟩ (by simp) rfl) (by decide)
            refine op_call (R := LiPost (sgF 366) (F 7) 3 w') (f := 136) (args := #[a.eval (.tmp 52), .int .i64 3, .func (.func 149) #[] #[]]) (by kernel_rfl) (by rw [e]; exact places_any (F 7) w' (hm3.on hI.below) (hsm 7)) ?_ ?_ ?_
            · rintro v w'' ⟨⟨zs, v', hz, he, hv⟩ | ⟨_, he⟩, hb⟩
              · obtain rfl : v = v' := Ending.returned.inj he
                exact (step_ok rfl (by decide) hI hb (show NN g F w3.heap.size 32 _ _ from ⟨zs, hz, hv⟩) (by kernel_rfl) rfl)
              · cases he
            · rintro c w'' ⟨⟨zs, v', hz, he, hv⟩ | ⟨hz, he⟩, hb⟩
              · cases he
              · obtain rfl : c = _ := Ending.panicked.inj he
                exact ⟨hI.defers, .inr ⟨no fun ⟨r, hr⟩ => (by have := hr.pls; rw [hz] at this; cases this), rfl⟩, hbw.trans ((hI.below.trans (hb.mono hI.below.size)).mono hwz)⟩
            · rintro w'' ⟨⟨zs, v', hz, he, hv⟩ | ⟨hz, he⟩, _⟩ <;> cases he
          · -- 33
            exact op_value (v := a.eval (.tmp 3)) (by kernel_rfl) (step_ok rfl (by decide) hI (Below.refl _ _) (show NN g F w3.heap.size 33 _ _ from hI.s3) (by kernel_rfl) rfl)
          · -- 34
            have e : a.eval (.tmp 54) = .slice (some ⟨g, 0, none⟩) 9 9 := GG_val (hG ⟨33, .data⟩ (by simp) rfl) (by decide)
            exact op_value (v := .pointer (some ⟨g, 8 * 2, none⟩)) (run_value (by show (Instr.indexAt 118 (a.eval (.tmp 54)) (.int .i64 8)).run _ _ = _; rw [e]; exact fieldAt_run g 8 (by decide) w')) (step_ok rfl (by decide) hI (Below.refl _ _) (show NN g F w3.heap.size 34 _ _ from rfl) (by kernel_rfl) rfl)
          · -- 35
            have e : a.eval (.tmp 55) = .pointer (some ⟨g, 8 * 2, none⟩) := GG_val (hG ⟨34, .data⟩ (by simp) rfl) (by decide)
            exact op_value (v := fldV (F 8)) (run_value (by show (Instr.loadAt 122 (a.eval (.tmp 55))).run _ _ = _; rw [e]; exact fieldLoad_run (hF.on hI.below) (by decide))) (step_ok rfl (by decide) hI (Below.refl _ _) (show NN g F w3.heap.size 35 _ _ from rfl) (by kernel_rfl) rfl)
          · -- 36
            have e : a.eval (.tmp 56) = fldV (F 8) := GG_val (hG ⟨35, .data⟩ (by simp) rfl) (by decide)
            refine op_call (R := fun E w'' => E = .returned (.string ⟨((F 8).getD [77, 79]).toArray⟩) ∧ Below w'.heap.size w' w'') (f := 134) (args := #[a.eval (.tmp 56), .string ⟨#[77, 79]⟩]) (by kernel_rfl) (by rw [e]; exact or_any (F 8) [77, 79] w') ?_ ?_ ?_
            · rintro v w'' ⟨he, hb⟩
              obtain rfl : v = _ := Ending.returned.inj he
              exact (step_ok rfl (by decide) hI hb (show NN g F w3.heap.size 36 _ _ from rfl) (by kernel_rfl) rfl)
            · rintro c w'' ⟨he, hb⟩
              cases he
            · rintro w'' ⟨he, _⟩
              cases he
          · -- 37
            have e : a.eval (.tmp 57) = .string ⟨((F 8).getD [77, 79]).toArray⟩ := GG_val (hG ⟨36, .data⟩ (by simp) rfl) (by decide)
            refine op_call (R := fun E w'' => E = optE 3 (dayF ((F 8).getD [77, 79])) ∧ Below w'.heap.size w' w'') (f := 150) (args := #[a.eval (.tmp 57)]) (by kernel_rfl) (by rw [e]; exact (readDayName_any _ w').mono fun E w'' ⟨h1, h2⟩ => ⟨by rw [h1, chE_opt]; rfl, h2⟩) ?_ ?_ ?_
            · rintro v w'' ⟨he, hb⟩
              obtain ⟨z, hz, rfl⟩ := optE_ret he
              exact (step_ok rfl (by decide) hI hb (show NN g F w3.heap.size 37 _ _ from ⟨z, hz, rfl⟩) (by kernel_rfl) rfl)
            · rintro c w'' ⟨he, hb⟩
              obtain ⟨hz, rfl⟩ := optE_pan he
              exact ⟨hI.defers, .inr ⟨no fun ⟨r, hr⟩ => (by have := hr.ws; rw [hz] at this; cases this), rfl⟩, hbw.trans ((hI.below.trans (hb.mono hI.below.size)).mono hwz)⟩
            · rintro w'' ⟨he, _⟩
              exact optE_out he
          · -- 38
            exact op_value (v := a.eval (.tmp 3)) (by kernel_rfl) (step_ok rfl (by decide) hI (Below.refl _ _) (show NN g F w3.heap.size 38 _ _ from hI.s3) (by kernel_rfl) rfl)
          · -- 39
            have e : a.eval (.tmp 59) = .slice (some ⟨g, 0, none⟩) 9 9 := GG_val (hG ⟨38, .data⟩ (by simp) rfl) (by decide)
            refine op_call (R := fun E w'' => E = .returned (.string (txF F)) ∧ Below w'.heap.size w' w'') (f := 151) (args := #[a.eval (.tmp 59)]) (by kernel_rfl) (by rw [e]; exact rulesPrinted_any g F w' (hF.on hI.below) hsm) ?_ ?_ ?_
            · rintro v w'' ⟨he, hb⟩
              obtain rfl : v = _ := Ending.returned.inj he
              exact (step_ok rfl (by decide) hI hb (show NN g F w3.heap.size 39 _ _ from rfl) (by kernel_rfl) rfl)
            · rintro c w'' ⟨he, hb⟩
              cases he
            · rintro w'' ⟨he, _⟩
              cases he
          · -- 40
            obtain ⟨z0, q0, t0⟩ := GG_val (hG ⟨3, .data⟩ (by simp) rfl) (by decide)
            obtain ⟨z1, q1, t1⟩ := GG_val (hG ⟨8, .data⟩ (by simp) rfl) (by decide)
            obtain ⟨z2, q2, t2⟩ := GG_val (hG ⟨12, .data⟩ (by simp) rfl) (by decide)
            obtain ⟨z3, q3, t3⟩ := GG_val (hG ⟨16, .data⟩ (by simp) rfl) (by decide)
            obtain ⟨l4, q4, t4⟩ := GG_val (hG ⟨20, .data⟩ (by simp) rfl) (by decide)
            obtain ⟨l5, q5, t5⟩ := GG_val (hG ⟨24, .data⟩ (by simp) rfl) (by decide)
            obtain ⟨l6, q6, t6⟩ := GG_val (hG ⟨28, .data⟩ (by simp) rfl) (by decide)
            obtain ⟨l7, q7, t7⟩ := GG_val (hG ⟨32, .data⟩ (by simp) rfl) (by decide)
            obtain ⟨z8, q8, t8⟩ := GG_val (hG ⟨37, .data⟩ (by simp) rfl) (by decide)
            have t9 := GG_val (hG ⟨39, .data⟩ (by simp) rfl) (by decide)
            obtain ⟨a4, e4⟩ := t4.form
            obtain ⟨a5, e5⟩ := t5.form
            obtain ⟨a6, e6⟩ := t6.form
            obtain ⟨a7, e7⟩ := t7.form
            exact op_value (v := ruleV z0 z1 z2 z3 (a.eval (.tmp 41)) (a.eval (.tmp 45)) (a.eval (.tmp 49)) (a.eval (.tmp 53)) z8 (txF F)) (run_value (by simp only [List.map_toArray, List.map_cons, List.map_nil]; rw [show a.eval (.tmp 24) = _ from t0, show a.eval (.tmp 29) = _ from t1, show a.eval (.tmp 33) = _ from t2, show a.eval (.tmp 37) = _ from t3, show a.eval (.tmp 58) = _ from t8, show a.eval (.tmp 60) = _ from t9, show a.eval (.tmp 41) = _ from e4, show a.eval (.tmp 45) = _ from e5, show a.eval (.tmp 49) = _ from e6, show a.eval (.tmp 53) = _ from e7]; exact build_run ..)) (step_ok rfl (by decide) hI (Below.refl _ _) (show NN g F w3.heap.size 40 _ _ from ⟨⟨z0, z1, z2, z3, l4, l5, l6, l7, z8⟩, _, _, _, _, ⟨q0, q1, q2, q3, q4, q5, q6, q7, q8⟩, rfl, t4, t5, t6, t7⟩) (by kernel_rfl) rfl)
          · -- 41
            exact op_value (v := .pointer (some ⟨w'.heap.size, 0, none⟩)) (w' := w'.alloc (.cells zeroRule.toArray 76)) (by kernel_rfl) (step_ok rfl (by decide) hI ((Below.refl _ _).alloc (Nat.le_refl _) _) (show NN g F w3.heap.size 41 _ _ from ⟨_, rfl, hI.below.size, zeroRule, rfl, RowAt.new _ _ _⟩) (by kernel_rfl) rfl)
          · -- 42
            obtain ⟨b, eb, hBb, cs, hcs, hrow⟩ := GG_val (hG ⟨41, .data⟩ (by simp) rfl) (by decide)
            have hv : RV F w' (a.eval (.tmp 61)) := GG_val (hG ⟨40, .data⟩ (by simp) rfl) (by decide)
            obtain ⟨w'', hrun, hbl, hgr, hrb⟩ := store_ok hrow hcs hBb hI.below hv
            refine op_skip (w' := w'') (run_unit (by show (Instr.storeAt 76 (a.eval (.tmp 4)) (a.eval (.tmp 61))).run _ _ = _; rw [show a.eval (.tmp 4) = _ from eb]; exact hrun)) ⟨⟨hI.size, hI.defers, hI.s2, hI.s3, hbl⟩, ?_, fun j oj hoj hj _ hg => ?_⟩
            · unfold GG; rw [if_pos rfl]; exact ⟨b, eb, hBb, hrb⟩
            · have hj2 : j < 43 := (Array.getElem?_eq_some_iff.1 hoj).1
              unfold GG at hg ⊢
              rw [if_neg hj] at hg ⊢
              exact NN.gr hg hgr
        · intro a w4 hI hG
          have g42 := hG 42 (by decide)
          unfold GG at g42
          rw [if_pos rfl] at g42
          obtain ⟨b, eb, hBb, r, m, md, wk, pl, hP, hrb, i1, i2, i3, i4⟩ := g42
          obtain ⟨f, rfl, hfe⟩ := act_lit a hI.size hI.defers
          have e2 := (hfe 2).symm.trans hI.s2
          have e4 := (hfe 4).symm.trans eb
          have hb4 := hI.below
          have hrz := hrow.on hb4
          have hB4 := hb4.size
          have hP' := hP
          obtain ⟨q0, q1, q2, q3, q4, q5, q6, q7, q8⟩ := hP'
          have hfb := freq_bd q0
          obtain ⟨a1, s1⟩ := i1.form
          obtain ⟨a2, s2⟩ := i2.form
          obtain ⟨a3, s3⟩ := i3.form
          obtain ⟨a4, s4⟩ := i4.form
          subst s1 s2 s3 s4
          have CA := partsAgree_any r.fq r.iv r.ct r.un r.ws a1 a2 a4 r.ms.length r.mds.length r.pls.length r.ms.length r.mds.length r.pls.length (.slice a3 r.wks.length r.wks.length) (txF F) r.wks w4 hfb.1 hfb.2 (lsF_len q6) i3
          unfold ruleC at hrb
          have d0 := hrb.cell (k := 0) rfl
          have d1 := hrb.cell (k := 1) rfl
          have d2 := hrb.cell (k := 2) rfl
          have d3 := hrb.cell (k := 3) rfl
          have d4 := hrb.cell (k := 4) rfl
          have d5 := hrb.cell (k := 5) rfl
          have d6 := hrb.cell (k := 6) rfl
          have d7 := hrb.cell (k := 7) rfl
          have d8 := hrb.cell (k := 8) rfl
          have d9 := hrb.cell (k := 9) rfl
          clear hI hG hfe q0 q1 q2 q3 q4 q5 q6 q7 q8 hfb c2 c3 CG CS HS HS1 hm3 hF hsm hsm1 no HNo
          rw [e2, e4]
          cases hag : agreeR r with
          | false =>
            rw [show agreeP r.fq r.ms.length r.mds.length r.wks.length r.pls.length (hasOrd r.wks) = false from hag] at CA
            have HN : Hid (¬ ∃ F r, IsRule s F r) := hide (fun ⟨F', r', h1, _, h3, h4⟩ => by rw [HU.out F' h1] at h3; rw [← hP.uniq h3, hag] at h4; cases h4)
            unfold ruleV at CA
            have C := hide CA
            clear CA hag hP
            go_wp2_with (first
              | (go_at_call 152; refine (C.out).mono ?_; rintro e w5 ⟨rfl, hb5⟩)
              | (go_at_call_of 65 (Value.bool false); refine (unless_no _ _).mono ?_; rintro e w' ⟨rfl, rfl⟩))
            exact ⟨rfl, .inr ⟨HN.out, rfl⟩, hbw.trans ((hb4.trans (hb5.mono hB4)).mono hwz)⟩
          | true =>
            rw [show agreeP r.fq r.ms.length r.mds.length r.wks.length r.pls.length (hasOrd r.wks) = true from hag] at CA
            have HR : Hid (IsRule s F r) := hide ⟨HP.out, H23.out, hP, hag⟩
            unfold ruleV at CA
            unfold zeroRule ruleC at hrz
            have C := hide CA
            clear CA hag hP
            go_wp2_with (first
              | (go_at_call 152; refine (C.out).mono ?_; rintro e w5 ⟨rfl, hb5⟩; have hrb5 := hrb.on hb5; have hrz5 := hrz.on hb5; have x0 := hrb5.cell (k := 0) rfl; have x1 := hrb5.cell (k := 1) rfl; have x2 := hrb5.cell (k := 2) rfl; have x3 := hrb5.cell (k := 3) rfl; have x4 := hrb5.cell (k := 4) rfl; have x5 := hrb5.cell (k := 5) rfl; have x6 := hrb5.cell (k := 6) rfl; have x7 := hrb5.cell (k := 7) rfl; have x8 := hrb5.cell (k := 8) rfl; have x9 := hrb5.cell (k := 9) rfl; have y0 := hrz5.cell (k := 0) rfl; have f0 := hrz5.free (k := 0); have y1 := hrz5.cell (k := 1) rfl; have f1 := hrz5.free (k := 1); have y2 := hrz5.cell (k := 2) rfl; have f2 := hrz5.free (k := 2); have y3 := hrz5.cell (k := 3) rfl; have f3 := hrz5.free (k := 3); have y4 := hrz5.cell (k := 4) rfl; have f4 := hrz5.free (k := 4); have y5 := hrz5.cell (k := 5) rfl; have f5 := hrz5.free (k := 5); have y6 := hrz5.cell (k := 6) rfl; have f6 := hrz5.free (k := 6); have y7 := hrz5.cell (k := 7) rfl; have f7 := hrz5.free (k := 7); have y8 := hrz5.cell (k := 8) rfl; have f8 := hrz5.free (k := 8); have y9 := hrz5.cell (k := 9) rfl; have f9 := hrz5.free (k := 9))
              | (go_at_call_of 65 (Value.bool true); refine (unless_yes _ _).mono ?_; rintro e w' ⟨rfl, rfl⟩))
            have hbf : Below w.heap.size w w5 := hbw.trans ((hb4.trans (hb5.mono hB4)).mono hwz)
            obtain ⟨hg, hbl⟩ := setTen hrz5 rfl (Nat.le_refl _) hbf (.int .i64 r.fq) (.int .i64 r.iv) (.int .i64 r.ct) (.int .i64 r.un) (.slice a1 r.ms.length r.ms.length) (.slice a2 r.mds.length r.mds.length) (.slice a3 r.wks.length r.wks.length) (.slice a4 r.pls.length r.pls.length) (.int .i64 r.ws) (.string (txF F))
            exact bodyPost_ret (v := ruleV r.fq r.iv r.ct r.un (.slice a1 r.ms.length r.ms.length) (.slice a2 r.mds.length r.mds.length) (.slice a3 r.wks.length r.wks.length) (.slice a4 r.pls.length r.pls.length) r.ws (txF F)) (by simp [results, Tryz.results81, go_sem, ruleV, y0, y1, y2, y3, y4, y5, y6, y7, y8, y9]) rfl
              ⟨.inl ⟨F, r, _, _, _, _, HR.out, rfl, (i1.on hb5).gr tyInt hg, (i2.on hb5).gr tyInt hg, (i3.on hb5).gr tyWk hg, (i4.on hb5).gr tyInt hg⟩, hbl⟩
end Go.Proofs.YthpndgcaoeokeaaGreatDoor
namespace Go.Proofs.YthpndgcaoeokeaaGreatDoor
open Go.RowKit Go.Sort

def transpNames : List (List UInt8) := [[79, 80, 65, 81, 85, 69], [84, 82, 65, 78, 83, 80, 65, 82, 69, 78, 84]]
def statNames : List (List UInt8) := [[67, 79, 78, 70, 73, 82, 77, 69, 68], [84, 69, 78, 84, 65, 84, 73, 86, 69], [67, 65, 78, 67, 69, 76, 76, 69, 68]]
def trF (f : Option (List UInt8)) : Option Bool := (idx transpNames (f.getD [79, 80, 65, 81, 85, 69])).map fun k : Nat => (k : Int) == 1
def stF (f : Option (List UInt8)) : Option Int := (idx statNames (f.getD [67, 79, 78, 70, 73, 82, 77, 69, 68])).map fun k : Nat => (k : Int)
def boolE (x : Int) (o : Option Bool) : Ending := match o with | none => .panicked (rsn x) | some z => .returned (.bool z)

set_option maxRecDepth 100000 in
theorem readTransparent_any (f : Option (List UInt8)) (w : World) :
    Calls Tryz.prog 76 #[fldV f] w fun E w' => E = boolE 2 (trF f) ∧ Below w.heap.size w w' := by
  have CO := hide fun W => or_any f [79, 80, 65, 81, 85, 69] W
  have CC := hide fun W => choice_any W.heap.size 0 2 transpNames (f.getD [79, 80, 65, 81, 85, 69]) 2 (W.alloc (.cells (strs transpNames).toArray 9)) (by decide) (names_new W transpNames 9)
  unfold fldV at CO ⊢
  cases hi : idx transpNames (f.getD [79, 80, 65, 81, 85, 69]) with
  | none =>
    rw [show trF f = none from by unfold trF; rw [hi]; rfl]
    have HX := hide (chE_no (x := 2) hi)
    clear hi
    go_enter Tryz.func76, Tryz.ntmps76
    go_wp2_with (first
      | (go_at_call 134; refine (CO.out _).mono ?_; rintro e w1 ⟨rfl, hb1⟩)
      | (go_at_call 133; refine (CC.out _).mono ?_; rw [HX.out]; rintro e w' ⟨rfl, rfl⟩))
    exact ⟨rfl, rfl, (((Below.refl _ _).alloc (Nat.le_refl _) _).trans (hb1.mono (by simp))).alloc (by have := hb1.size; simp at this; omega) _⟩
  | some k =>
    rw [show trF f = some ((k : Int) == 1) from by unfold trF; rw [hi]; rfl]
    have HX := hide (chE_yes (x := 2) hi)
    clear hi
    go_enter Tryz.func76, Tryz.ntmps76
    go_wp2_with (first
      | (go_at_call 134; refine (CO.out _).mono ?_; rintro e w1 ⟨rfl, hb1⟩)
      | (go_at_call 133; refine (CC.out _).mono ?_; rw [HX.out]; rintro e w' ⟨rfl, rfl⟩))
    go_ret
    exact ⟨rfl, (((Below.refl _ _).alloc (Nat.le_refl _) _).trans (hb1.mono (by simp))).alloc (by have := hb1.size; simp at this; omega) _⟩
theorem statusNames_any (w : World) : Calls Tryz.prog 86 #[] w fun E w' => E = .returned (.slice (some ⟨w.heap.size, 0, none⟩) 3 3) ∧ w' = w.alloc (.cells (strs statNames).toArray 9) := by
  go_enter Tryz.func86, Tryz.ntmps86
  go_wp2
  go_ret
  exact ⟨rfl, rfl⟩
set_option maxRecDepth 100000 in
theorem readStatus_any (f : Option (List UInt8)) (w : World) :
    Calls Tryz.prog 77 #[fldV f] w fun E w' => E = optE 2 (stF f) ∧ Below w.heap.size w w' := by
  have CO := hide fun W => or_any f [67, 79, 78, 70, 73, 82, 77, 69, 68] W
  have CC := hide fun W => choice_any W.heap.size 0 3 statNames (f.getD [67, 79, 78, 70, 73, 82, 77, 69, 68]) 2 (W.alloc (.cells (strs statNames).toArray 9)) (by decide) (names_new W statNames 9)
  unfold fldV at CO ⊢
  cases hi : idx statNames (f.getD [67, 79, 78, 70, 73, 82, 77, 69, 68]) with
  | none =>
    rw [show stF f = none from by unfold stF; rw [hi]; rfl]
    have HX := hide (chE_no (x := 2) hi)
    clear hi
    go_enter Tryz.func77, Tryz.ntmps77
    go_wp2_with (first
      | (go_at_call 134; refine (CO.out _).mono ?_; rintro e w1 ⟨rfl, hb1⟩)
      | (go_at_call 86; refine (statusNames_any _).mono ?_; rintro e w2 ⟨rfl, rfl⟩)
      | (go_at_call 133; refine (CC.out _).mono ?_; rw [HX.out]; rintro e w' ⟨rfl, rfl⟩))
    exact ⟨rfl, rfl, (((Below.refl _ _).alloc (Nat.le_refl _) _).trans (hb1.mono (by simp))).alloc (by have := hb1.size; simp at this; omega) _⟩
  | some k =>
    rw [show stF f = some (k : Int) from by unfold stF; rw [hi]; rfl]
    have HX := hide (chE_yes (x := 2) hi)
    clear hi
    go_enter Tryz.func77, Tryz.ntmps77
    go_wp2_with (first
      | (go_at_call 134; refine (CO.out _).mono ?_; rintro e w1 ⟨rfl, hb1⟩)
      | (go_at_call 86; refine (statusNames_any _).mono ?_; rintro e w2 ⟨rfl, rfl⟩)
      | (go_at_call 133; refine (CC.out _).mono ?_; rw [HX.out]; rintro e w' ⟨rfl, rfl⟩))
    go_ret
    exact ⟨rfl, (((Below.refl _ _).alloc (Nat.le_refl _) _).trans (hb1.mono (by simp))).alloc (by have := hb1.size; simp at this; omega) _⟩
theorem readDuration_any (v : List UInt8) (w : World) (hl : v.length ≤ maxLen) :
    Calls Tryz.prog 135 #[.string ⟨v.toArray⟩] w fun E w' => E = optE 1 (lenL v) ∧ Below w.heap.size w w' := by
  have k := fun W => length_any ⟨v.toArray⟩ W hl
  rw [show (⟨v.toArray⟩ : ByteArray).data.toList = v from rfl] at k
  cases hv : lenL v with
  | none =>
    rw [hv] at k
    unfold lenV at k
    have C := hide k
    clear k hv hl
    go_enter Tryz.func135, Tryz.ntmps135
    go_wp2_with (first
      | (go_at_call 20; refine (C.out _).mono ?_; rintro e w1 ⟨rfl, hb1⟩)
      | (go_at_call_of 65 (Value.bool false); refine (unless_no _ _).mono ?_; rintro e w' ⟨rfl, rfl⟩))
    exact ⟨rfl, rfl, hb1⟩
  | some n =>
    rw [hv] at k
    unfold lenV at k
    have C := hide k
    clear k hv hl
    go_enter Tryz.func135, Tryz.ntmps135
    go_wp2_with (first
      | (go_at_call 20; refine (C.out _).mono ?_; rintro e w1 ⟨rfl, hb1⟩)
      | (go_at_call_of 65 (Value.bool true); refine (unless_yes _ _).mono ?_; rintro e w' ⟨rfl, rfl⟩))
    go_ret
    exact ⟨rfl, hb1⟩
/-- an event's length, of a start that is a time -/
def lnF (start : Int) (e l : Option (List UInt8)) : Option Int :=
  match (match e with | some v => (timF v).map fun z => z - start | none => lenL (l.getD [])) with
  | none => none
  | some z => if 1 ≤ z ∧ z ≤ 2678400 then some z else none
end Go.Proofs.YthpndgcaoeokeaaGreatDoor
