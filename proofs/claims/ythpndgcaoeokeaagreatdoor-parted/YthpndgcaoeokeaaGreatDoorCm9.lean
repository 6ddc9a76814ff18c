/- The program's own: what the readers of a rule's parts answer, in one form (packages rules, words). The program's own: what a rule's parts are, once they are read; steps of the region that reads them (rules.Read). The program's own: the region that reads a rule's parts (rules.Read): what each of its operations leaves behind. -/
import Derived.Test.YthpndgcaoeokeaaGreatDoorCm8
import Derived.Shelf.Abstract
namespace Go.Proofs.YthpndgcaoeokeaaGreatDoor
open Go.RowKit Go.Sort

/-- a number, or given up -/
def optE (x : Int) (o : Option Int) : Ending := match o with | none => .panicked (rsn x) | some z => .returned (.int .i64 z)
def freqF (f : Option (List UInt8)) : Option Int := (idx freqNames (f.getD [])).map fun k : Nat => (k : Int)
def dayF (v : List UInt8) : Option Int := (idx wdays v).map fun k : Nat => (k : Int)
def wiF (lo hi : Int) (v : List UInt8) : Option Int := if wiB v lo hi = true then some (numN v) else none
def sgF (most : Int) (v : List UInt8) : Option Int := if sgn v most = 0 then none else some (sgn v most)
def cntF (f : Option (List UInt8)) : Option Int := match f with | none => some 0 | some v => wiF 1 1000 v
def untF (f : Option (List UInt8)) : Option Int := match f with | none => some 9223372036854775807 | some v => if timeB (ofL v) = true then some (timeN (ofL v)) else none
def timF (v : List UInt8) : Option Int := if timeB (ofL v) = true then some (timeN (ofL v)) else none
theorem chE_opt (ns : List (List UInt8)) (v : List UInt8) (x : Int) : chE ns v x = optE x ((idx ns v).map fun k : Nat => (k : Int)) := by
  unfold chE optE; cases idx ns v <;> rfl
theorem wiE_opt (v : List UInt8) (lo hi x : Int) : wiE v lo hi x = optE x (wiF lo hi v) := by
  unfold wiE optE wiF; cases wiB v lo hi <;> rfl
theorem sgE_opt (v : List UInt8) (most x : Int) : sgE v most x = optE x (sgF most v) := by
  unfold sgE optE sgF; by_cases h : sgn v most = 0
  · rw [if_pos h, if_pos h]
  · rw [if_neg h, if_neg h]
theorem cntE_opt (f : Option (List UInt8)) : cntE f = optE 3 (cntF f) := by
  unfold cntE cntF; cases f with
  | none => rfl
  | some v => exact wiE_opt v 1 1000 3
theorem untE_opt (f : Option (List UInt8)) : untE f = optE 3 (untF f) := by
  unfold untE untF optE; cases f with
  | none => rfl
  | some v => simp only []; split <;> rfl
theorem timeE_opt (v : List UInt8) : timeE (ofL v) = optE 1 (timF v) := by
  unfold timeE timF optE; split <;> rfl

/-- how the reading of a list ends -/
def LiPost (rd : List UInt8 → Option Int) (f : Option (List UInt8)) (x : Int) (w : World) (E : Ending) (w' : World) : Prop :=
  ((∃ zs v, lsF rd f = some zs ∧ E = .returned v ∧ IntsV w' v zs) ∨ (lsF rd f = none ∧ E = .panicked (rsn x))) ∧ Below w.heap.size w w'
def LkPost (f : Option (List UInt8)) (w : World) (E : Ending) (w' : World) : Prop :=
  ((∃ zs v, lsF wkF f = some zs ∧ E = .returned v ∧ WksV w' v zs) ∨ (lsF wkF f = none ∧ E = .panicked (rsn 3))) ∧ Below w.heap.size w w'

theorem listInt_none (fn : FuncId) (x : Int) (w : World) :
    Calls Tryz.prog 136 #[fldV none, .int .i64 x, .func (.func fn) #[] #[]] w fun E w' => E = .returned (.slice none 0 0) ∧ Below w.heap.size w w' := by
  unfold fldV
  go_enter Tryz.func136, Tryz.ntmps136
  go_wp2
  go_ret
  exact ⟨rfl, (Below.refl _ _).alloc (Nat.le_refl _) _⟩
theorem listWk_none (fn : FuncId) (x : Int) (w : World) :
    Calls Tryz.prog 147 #[fldV none, .int .i64 x, .func (.func fn) #[] #[]] w fun E w' => E = .returned (.slice none 0 0) ∧ Below w.heap.size w w' := by
  unfold fldV
  go_enter Tryz.func147, Tryz.ntmps147
  go_wp2
  go_ret
  exact ⟨rfl, (Below.refl _ _).alloc (Nat.le_refl _) _⟩

theorem listInt_any (rd : List UInt8 → Option Int) (fn : FuncId) (f : Option (List UInt8)) (x : Int) (w : World) (hm : ML w) (hl : (f.getD []).length ≤ 1048576) (hen : Enters Tryz.prog fn)
    (hr : ∀ (t : List UInt8) (W : World), t.length ≤ 1048576 → Calls Tryz.prog fn #[.string ⟨t.toArray⟩] W fun E w' => E = optE x (rd t) ∧ Below W.heap.size W w') :
    Calls Tryz.prog 136 #[fldV f, .int .i64 x, .func (.func fn) #[] #[]] w (LiPost rd f x w) := by
  cases f with
  | none => exact (listInt_none fn x w).mono fun E w' ⟨h1, h2⟩ => ⟨.inl ⟨[], _, rfl, h1, .inl ⟨rfl, rfl⟩⟩, h2⟩
  | some v =>
    refine (listInt_some rd fn v x w hm hl hen (fun t W ht => (hr t W ht).mono fun E w' ⟨h1, h2⟩ => ⟨by rw [h1]; unfold optE; cases rd t <;> rfl, h2⟩)).mono fun E w' ⟨h1, h2⟩ => ⟨?_, h2⟩
    unfold LsPost at h1
    cases hq : lsF rd (some v) with
    | none => rw [hq] at h1; exact .inr ⟨rfl, h1⟩
    | some zs =>
      rw [hq] at h1
      obtain ⟨g, e, _, hrow⟩ := h1
      exact .inl ⟨zs, _, rfl, e, .inr ⟨g, rfl, hrow⟩⟩
theorem listWk_any (f : Option (List UInt8)) (w : World) (hm : ML w) (hl : (f.getD []).length ≤ 1048576) :
    Calls Tryz.prog 147 #[fldV f, .int .i64 3, .func (.func 148) #[] #[]] w (LkPost f w) := by
  cases f with
  | none => exact (listWk_none _ 3 w).mono fun E w' ⟨h1, h2⟩ => ⟨.inl ⟨[], _, rfl, h1, .inl ⟨rfl, rfl⟩⟩, h2⟩
  | some v =>
    refine (listWk_some wkF 148 v 3 w hm hl (enters_of Tryz.func148 (by kernel_rfl) rfl) (fun t W ht => (readWeekday_any t W ht).mono fun E w' ⟨h1, h2⟩ => ⟨by rw [h1]; unfold wkE; cases wkF t <;> rfl, h2⟩)).mono fun E w' ⟨h1, h2⟩ => ⟨?_, h2⟩
    unfold LwPost at h1
    cases hq : lsF wkF (some v) with
    | none => rw [hq] at h1; exact .inr ⟨rfl, h1⟩
    | some zs =>
      rw [hq] at h1
      obtain ⟨g, e, _, hrow⟩ := h1
      exact .inl ⟨zs, _, rfl, e, .inr ⟨g, rfl, hrow⟩⟩
theorem maxLen_le {n : Nat} (h : n ≤ 1048576) : n ≤ maxLen := by unfold maxLen; omega
theorem months_any (f : Option (List UInt8)) (w : World) (hm : ML w) (hl : (f.getD []).length ≤ 1048576) :
    Calls Tryz.prog 136 #[fldV f, .int .i64 3, .func (.func 145) #[] #[]] w (LiPost (wiF 1 12) f 3 w) :=
  listInt_any _ _ f 3 w hm hl (enters_of Tryz.func145 (by kernel_rfl) rfl) (fun t W ht => (readMonth_any t W (maxLen_le ht)).mono fun E w' ⟨h1, h2⟩ => ⟨by rw [h1, wiE_opt], h2⟩)
theorem monthDaysList_any (f : Option (List UInt8)) (w : World) (hm : ML w) (hl : (f.getD []).length ≤ 1048576) :
    Calls Tryz.prog 136 #[fldV f, .int .i64 3, .func (.func 146) #[] #[]] w (LiPost (sgF 31) f 3 w) :=
  listInt_any _ _ f 3 w hm hl (enters_of Tryz.func146 (by kernel_rfl) rfl) (fun t W ht => (readMonthDay_any t W (maxLen_le ht)).mono fun E w' ⟨h1, h2⟩ => ⟨by rw [h1, sgE_opt], h2⟩)
theorem places_any (f : Option (List UInt8)) (w : World) (hm : ML w) (hl : (f.getD []).length ≤ 1048576) :
    Calls Tryz.prog 136 #[fldV f, .int .i64 3, .func (.func 149) #[] #[]] w (LiPost (sgF 366) f 3 w) :=
  listInt_any _ _ f 3 w hm hl (enters_of Tryz.func149 (by kernel_rfl) rfl) (fun t W ht => (readPlace_any t W (maxLen_le ht)).mono fun E w' ⟨h1, h2⟩ => ⟨by rw [h1, sgE_opt], h2⟩)
theorem eventTimes_any (f : Option (List UInt8)) (w : World) (hm : ML w) (hl : (f.getD []).length ≤ 1048576) :
    Calls Tryz.prog 136 #[fldV f, .int .i64 1, .func (.func 78) #[] #[]] w (LiPost timF f 1 w) :=
  listInt_any _ _ f 1 w hm hl (enters_of Tryz.func78 (by kernel_rfl) rfl) (fun t W _ => (eventsTime_any (ofL t) W).mono fun E w' ⟨h1, h2⟩ => ⟨by rw [h1, timeE_opt], h2⟩)
theorem or_any (f : Option (List UInt8)) (o : List UInt8) (w : World) : Calls Tryz.prog 134 #[fldV f, .string ⟨o.toArray⟩] w fun E w' => E = .returned (.string ⟨(f.getD o).toArray⟩) ∧ Below w.heap.size w w' := by
  cases f with
  | none => exact or_no _ _ w
  | some v => exact or_yes _ _ w
end Go.Proofs.YthpndgcaoeokeaaGreatDoor
namespace Go.Proofs.YthpndgcaoeokeaaGreatDoor
open Go.RowKit Go.Sort

/-- a rule that was read -/
structure RuleD where
  fq : Int
  iv : Int
  ct : Int
  un : Int
  ms : List Int
  mds : List Int
  wks : List (Int × Int)
  pls : List Int
  ws : Int
/-- the parts give this rule -/
structure Parts (F : Nat → Option (List UInt8)) (r : RuleD) : Prop where
  fq : freqF (F 0) = some r.fq
  iv : wiF 1 100 ((F 1).getD [49]) = some r.iv
  ct : cntF (F 2) = some r.ct
  un : untF (F 3) = some r.un
  ms : lsF (wiF 1 12) (F 4) = some r.ms
  mds : lsF (sgF 31) (F 5) = some r.mds
  wks : lsF wkF (F 6) = some r.wks
  pls : lsF (sgF 366) (F 7) = some r.pls
  ws : dayF ((F 8).getD [77, 79]) = some r.ws

theorem run_value {P : Program} {w w' : World} {v : Value} {s : Sem Value} (h : s.run P w = .ok v w') : (do pure (Next.value (← s)) : Sem Next).run P w = .ok (.value v) w' := by
  simp [h]
theorem run_unit {P : Program} {w w' : World} {s : Sem Unit} (h : s.run P w = .ok () w') : (do s; pure Next.skip : Sem Next).run P w = .ok .skip w' := by
  simp [h]
theorem fieldAt_run (g : Nat) (k : Nat) (hk : k < 9) (w : World) : (Instr.indexAt 118 (.slice (some ⟨g, 0, none⟩) 9 9) (.int .i64 (k : Int))).run Tryz.prog w = .ok (.pointer (some ⟨g, k * 2, none⟩)) w := by
  have hk' : (k : Int) < 9 := by omega
  go_simp
theorem fieldLoad_run {g k : Nat} {F : Nat → Option (List UInt8)} {w : World} (hF : FieldsAt w g F) (hk : k < 9) : (Instr.loadAt 122 (.pointer (some ⟨g, k * 2, none⟩))).run Tryz.prog w = .ok (fldV (F k)) w := by
  have c0 := hF.val k hk
  have c1 := hF.there k hk
  unfold fldV
  go_simp
end Go.Proofs.YthpndgcaoeokeaaGreatDoor
namespace Go.Proofs.YthpndgcaoeokeaaGreatDoor
open Go.RowKit Go.Sort

/-- a rule's cells -/
def ruleC (fq iv ct un : Int) (m md wk pl : Value) (ws : Int) (tx : ByteArray) : List Value := [.int .i64 fq, .int .i64 iv, .int .i64 ct, .int .i64 un, m, md, wk, pl, .int .i64 ws, .string tx]
def txF (F : Nat → Option (List UInt8)) : ByteArray := ⟨(Lib.join (txts F 9) [59]).toArray⟩
/-- the rule that the parts give, as a value -/
def RV (F : Nat → Option (List UInt8)) (w : World) (v : Value) : Prop :=
  ∃ (r : RuleD) (m md wk pl : Value), Parts F r ∧ v = ruleV r.fq r.iv r.ct r.un m md wk pl r.ws (txF F) ∧ IntsV w m r.ms ∧ IntsV w md r.mds ∧ WksV w wk r.wks ∧ IntsV w pl r.pls
/-- and in a block -/
def RB (F : Nat → Option (List UInt8)) (w : World) (b : Nat) : Prop :=
  ∃ (r : RuleD) (m md wk pl : Value), Parts F r ∧ RowAt w b (ruleC r.fq r.iv r.ct r.un m md wk pl r.ws (txF F)) 76 ∧ IntsV w m r.ms ∧ IntsV w md r.mds ∧ WksV w wk r.wks ∧ IntsV w pl r.pls
/-- rows of other types stay, rows of this type stay rows -/
def Gr (T : TypeId) (w w' : World) : Prop := (∀ k cs t, t ≠ T → RowAt w k cs t → RowAt w' k cs t) ∧ ∀ k cs, RowAt w k cs T → ∃ cs', cs'.length = cs.length ∧ RowAt w' k cs' T
theorem Gr.of {T : TypeId} {w w' : World} (hb : Below w.heap.size w w') : Gr T w w' := ⟨fun _ _ _ _ h => h.on hb, fun _ cs h => ⟨cs, rfl, h.on hb⟩⟩
theorem Gr.refl (T : TypeId) (w : World) : Gr T w w := ⟨fun _ _ _ _ h => h, fun _ cs h => ⟨cs, rfl, h⟩⟩
theorem Gr.trans {T : TypeId} {w w' w'' : World} (h : Gr T w w') (h' : Gr T w' w'') : Gr T w w'' := ⟨fun k cs t ht hr => h'.1 k cs t ht (h.1 k cs t ht hr), fun k cs hr => by
  obtain ⟨c1, e1, r1⟩ := h.2 k cs hr
  obtain ⟨c2, e2, r2⟩ := h'.2 k c1 r1
  exact ⟨c2, e2.trans e1, r2⟩⟩
theorem RowAt.ne {w : World} {b k : Nat} {cs cs' : List Value} {t t' : TypeId} (h : RowAt w b cs t) (h' : RowAt w k cs' t') (ht : t ≠ t') : k ≠ b := fun e => by
  subst e
  unfold RowAt at h h'
  rw [h] at h'
  cases h'
  exact ht rfl
theorem Gr.set {T : TypeId} {w : World} {b i : Nat} {cs : List Value} (h : RowAt w b cs T) (v : Value) : Gr T w (w.setCell ⟨b, i, none⟩ v) := by
  refine ⟨fun k c t ht hr => hr.other (h.ne hr (Ne.symm ht)) v, fun k c hr => ?_⟩
  by_cases e : k = b
  · subst e; exact ⟨c.set i v, by simp, hr.set v⟩
  · exact ⟨c, rfl, hr.other e v⟩
theorem IntsV.gr {T : TypeId} {w w' : World} {v : Value} {zs : List Int} (hT : 3 ≠ T) (h : IntsV w v zs) (g : Gr T w w') : IntsV w' v zs := h.imp id fun ⟨k, h1, h2⟩ => ⟨k, h1, g.1 _ _ _ hT h2⟩
theorem WksV.gr {T : TypeId} {w w' : World} {v : Value} {zs : List (Int × Int)} (hT : 183 ≠ T) (h : WksV w v zs) (g : Gr T w w') : WksV w' v zs := h.imp id fun ⟨k, h1, h2⟩ => ⟨k, h1, g.1 _ _ _ hT h2⟩

def slotD (i : Nat) : Nat := if i = 41 then 4 else 21 + i
/-- what operation i's value says -/
def NN (g : Nat) (F : Nat → Option (List UInt8)) (B : Nat) (i : Nat) (v : Value) (w : World) : Prop := match i with
  | 0 | 4 | 9 | 13 | 17 | 21 | 25 | 29 | 33 | 38 => v = .slice (some ⟨g, 0, none⟩) 9 9
  | 1 => v = .pointer (some ⟨g, 0 * 2, none⟩)
  | 5 => v = .pointer (some ⟨g, 1 * 2, none⟩)
  | 10 => v = .pointer (some ⟨g, 2 * 2, none⟩)
  | 14 => v = .pointer (some ⟨g, 3 * 2, none⟩)
  | 18 => v = .pointer (some ⟨g, 4 * 2, none⟩)
  | 22 => v = .pointer (some ⟨g, 5 * 2, none⟩)
  | 26 => v = .pointer (some ⟨g, 6 * 2, none⟩)
  | 30 => v = .pointer (some ⟨g, 7 * 2, none⟩)
  | 34 => v = .pointer (some ⟨g, 8 * 2, none⟩)
  | 2 => v = fldV (F 0)
  | 6 => v = fldV (F 1)
  | 11 => v = fldV (F 2)
  | 15 => v = fldV (F 3)
  | 19 => v = fldV (F 4)
  | 23 => v = fldV (F 5)
  | 27 => v = fldV (F 6)
  | 31 => v = fldV (F 7)
  | 35 => v = fldV (F 8)
  | 3 => ∃ z, freqF (F 0) = some z ∧ v = .int .i64 z
  | 7 => v = .string ⟨((F 1).getD [49]).toArray⟩
  | 8 => ∃ z, wiF 1 100 ((F 1).getD [49]) = some z ∧ v = .int .i64 z
  | 12 => ∃ z, cntF (F 2) = some z ∧ v = .int .i64 z
  | 16 => ∃ z, untF (F 3) = some z ∧ v = .int .i64 z
  | 20 => ∃ zs, lsF (wiF 1 12) (F 4) = some zs ∧ IntsV w v zs
  | 24 => ∃ zs, lsF (sgF 31) (F 5) = some zs ∧ IntsV w v zs
  | 28 => ∃ zs, lsF wkF (F 6) = some zs ∧ WksV w v zs
  | 32 => ∃ zs, lsF (sgF 366) (F 7) = some zs ∧ IntsV w v zs
  | 36 => v = .string ⟨((F 8).getD [77, 79]).toArray⟩
  | 37 => ∃ z, dayF ((F 8).getD [77, 79]) = some z ∧ v = .int .i64 z
  | 39 => v = .string (txF F)
  | 40 => RV F w v
  | 41 => ∃ b, v = .pointer (some ⟨b, 0, none⟩) ∧ B ≤ b ∧ ∃ cs, cs.length = 10 ∧ RowAt w b cs 76
  | _ => True
def GG (g : Nat) (F : Nat → Option (List UInt8)) (B : Nat) (i : Nat) (a : Act) (w : World) : Prop :=
  if i = 42 then ∃ b, a.eval (.tmp 4) = .pointer (some ⟨b, 0, none⟩) ∧ B ≤ b ∧ RB F w b else NN g F B i (a.eval (.tmp (slotD i))) w
theorem tyInt : (3 : TypeId) ≠ 76 := by decide
theorem tyWk : (183 : TypeId) ≠ 76 := by decide
theorem RV.gr {F : Nat → Option (List UInt8)} {w w' : World} {v : Value} (h : RV F w v) (g : Gr 76 w w') : RV F w' v := by
  obtain ⟨r, m, md, wk, pl, h1, h2, h3, h4, h5, h6⟩ := h
  exact ⟨r, m, md, wk, pl, h1, h2, h3.gr tyInt g, h4.gr tyInt g, h5.gr tyWk g, h6.gr tyInt g⟩
theorem NN.gr {g : Nat} {F : Nat → Option (List UInt8)} {B i : Nat} {v : Value} {w w' : World} (h : NN g F B i v w) (gr : Gr 76 w w') : NN g F B i v w' := by
  unfold NN at h ⊢
  split <;> first
    | exact h
    | exact trivial
    | (obtain ⟨zs, h1, h2⟩ := h; exact ⟨zs, h1, h2.gr tyInt gr⟩)
    | (obtain ⟨zs, h1, h2⟩ := h; exact ⟨zs, h1, h2.gr tyWk gr⟩)
    | exact RV.gr h gr
    | (obtain ⟨b, h1, h2, cs, h3, h4⟩ := h
       obtain ⟨cs', h5, h6⟩ := gr.2 b cs h4
       exact ⟨b, h1, h2, cs', h5.trans h3, h6⟩)
theorem slotD_ne {i j : Nat} (hi : i < 42) (hj : j < 42) (h : j ≠ i) : slotD j ≠ slotD i := by
  unfold slotD; split <;> split <;> omega
/-- what holds at every moment -/
structure II (W : World) (r g : Nat) (a : Act) (w : World) : Prop where
  size : a.tmps.size = 66
  defers : a.defers = []
  s2 : a.eval (.tmp 2) = .pointer (some ⟨r, 0, none⟩)
  s3 : a.eval (.tmp 3) = .slice (some ⟨g, 0, none⟩) 9 9
  below : Below W.heap.size W w
theorem II.put {W : World} {r g : Nat} {a : Act} {w w' : World} {i : Nat} {v : Value} (h : II W r g a w) (hb : Below W.heap.size W w') : II W r g (a.put (some (slotD i)) v) w' :=
  ⟨by rw [put_size]; exact h.size, by rw [put_defers]; exact h.defers, by rw [ev_ne (by unfold slotD; split <;> omega)]; exact h.s2, by rw [ev_ne (by unfold slotD; split <;> omega)]; exact h.s3, hb⟩
/-- the last operation waits for all -/
def lastCovers (ops : Array Oper) : Bool := ((ops[42]?).map fun o => (List.range 42).all fun i => o.after.any fun e => Region.binds .any e && e.on == i).getD true
theorem lastCovers_spec {ops : Array Oper} {o : Oper} {i : Nat} (h : lastCovers ops = true) (ho : ops[42]? = some o) (hi : i < 42) : ∃ e ∈ o.after, Region.binds .any e = true ∧ e.on = i := by
  unfold lastCovers at h
  rw [ho, Option.map_some, Option.getD_some, List.all_eq_true] at h
  have := h i (List.mem_range.2 hi)
  rw [Array.any_eq_true'] at this
  obtain ⟨e, he, hb⟩ := this
  simp only [Bool.and_eq_true, beq_iff_eq] at hb
  exact ⟨e, he, hb.1, hb.2⟩
/-- one operation more -/
theorem step_ok {W : World} {r g : Nat} {F : Nat → Option (List UInt8)} {a : Act} {w w' : World} {i n : Nat} {v : Value} {dst : Option Nat} {ops : Array Oper} (hd : dst = some (slotD i)) (hi : i < 42) (h : II W r g a w) (hb : Below w.heap.size w w') (hn : NN g F n i v w')
    (hcov : lastCovers ops = true) (hsz : ops.size = 43) :
    II W r g (a.put dst v) w' ∧ GG g F n i (a.put dst v) w' ∧ ∀ j oj, ops[j]? = some oj → j ≠ i → (∀ e ∈ oj.after, Region.binds .any e = true → e.on ≠ i) → GG g F n j a w → GG g F n j (a.put dst v) w' := by
  subst hd
  have hs : slotD i < a.tmps.size := by rw [h.size]; unfold slotD; split <;> omega
  refine ⟨h.put (h.below.trans (hb.mono h.below.size)), ?_, fun j oj hoj hji hdep hg => ?_⟩
  · unfold GG; rw [if_neg (by omega), ev_same hs]; exact hn
  · by_cases hj : j = 42
    · subst hj
      obtain ⟨e, he, hbd, heq⟩ := lastCovers_spec hcov hoj hi
      exact absurd heq (hdep e he hbd)
    · have hj2 : j < 43 := by rw [← hsz]; exact (Array.getElem?_eq_some_iff.1 hoj).1
      unfold GG at hg ⊢
      rw [if_neg hj] at hg ⊢
      rw [ev_ne (slotD_ne hi (by omega) hji)]
      exact hg.gr (Gr.of hb)
end Go.Proofs.YthpndgcaoeokeaaGreatDoor
