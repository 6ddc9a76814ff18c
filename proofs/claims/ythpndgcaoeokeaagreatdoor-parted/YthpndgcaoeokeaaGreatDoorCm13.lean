/- The program's own: the region that begins an event (events.Read): what each of its operations leaves behind. The program's own: the region that reads an event's length (events.Read). The program's own: what an event that is read is (events.Read); small lemmas on what its pieces answer. -/
import Derived.Test.YthpndgcaoeokeaaGreatDoorCm12
import Derived.Sort.WalkA6
namespace Go.Proofs.YthpndgcaoeokeaaGreatDoor
open Go.RowKit Go.Sort

/-- an event's cells: a rule's cells in their midst -/
def evC (u : ByteArray) (st ln : Int) (hr : Bool) (rc : List Value) (ex xt : Value) (tr : Bool) (k : Int) : List Value := [.string u, .int .i64 st, .int .i64 ln, .bool hr] ++ rc ++ [ex, xt, .bool tr, .int .i64 k]
def evV (u : ByteArray) (st ln : Int) (hr : Bool) (rc : List Value) (ex xt : Value) (tr : Bool) (k : Int) : Value := .agg (evC u st ln hr rc ex xt tr k).toArray
def zeroEv : List Value := evC ⟨#[]⟩ 0 0 false zeroRule (.slice none 0 0) (.slice none 0 0) false 0
/-- what the event begins with -/
structure Begun (F : Nat → Option (List UInt8)) (tr : Bool) (k : Int) : Prop where
  uid : nameB (ofL ((F 0).getD [])) = true
  tr : trF (F 7) = some tr
  st : stF (F 8) = some k
def EV (F : Nat → Option (List UInt8)) (v : Value) : Prop := ∃ tr k, Begun F tr k ∧ v = evV (ofL ((F 0).getD [])) 0 0 false zeroRule (.slice none 0 0) (.slice none 0 0) tr k
def EB (F : Nat → Option (List UInt8)) (w : World) (b : Nat) : Prop := ∃ tr k, Begun F tr k ∧ RowAt w b (evC (ofL ((F 0).getD [])) 0 0 false zeroRule (.slice none 0 0) (.slice none 0 0) tr k) 79

def slotE (i : Nat) : Nat := if i = 14 then 4 else 7 + i
def NE (g : Nat) (F : Nat → Option (List UInt8)) (B : Nat) (i : Nat) (v : Value) (w : World) : Prop := match i with
  | 0 | 5 | 9 => v = .slice (some ⟨g, 0, none⟩) 9 9
  | 1 | 2 => v = .pointer (some ⟨g, 0 * 2, none⟩)
  | 3 => v = .string (ofL ((F 0).getD []))
  | 4 => nameB (ofL ((F 0).getD [])) = true ∧ v = .string (ofL ((F 0).getD []))
  | 6 => v = .pointer (some ⟨g, 7 * 2, none⟩)
  | 7 => v = fldV (F 7)
  | 8 => ∃ z, trF (F 7) = some z ∧ v = .bool z
  | 10 => v = .pointer (some ⟨g, 8 * 2, none⟩)
  | 11 => v = fldV (F 8)
  | 12 => ∃ z, stF (F 8) = some z ∧ v = .int .i64 z
  | 13 => EV F v
  | 14 => ∃ b, v = .pointer (some ⟨b, 0, none⟩) ∧ B ≤ b ∧ ∃ cs, cs.length = 18 ∧ RowAt w b cs 79
  | _ => True
def GE (g : Nat) (F : Nat → Option (List UInt8)) (B : Nat) (i : Nat) (a : Act) (w : World) : Prop :=
  if i = 15 then ∃ b, a.eval (.tmp 4) = .pointer (some ⟨b, 0, none⟩) ∧ B ≤ b ∧ EB F w b else NE g F B i (a.eval (.tmp (slotE i))) w
theorem NE.gr {g : Nat} {F : Nat → Option (List UInt8)} {B i : Nat} {v : Value} {w w' : World} (h : NE g F B i v w) (gr : Gr 79 w w') : NE g F B i v w' := by
  unfold NE at h ⊢
  split <;> first
    | exact h
    | exact trivial
    | (obtain ⟨b, h1, h2, cs, h3, h4⟩ := h
       obtain ⟨cs', h5, h6⟩ := gr.2 b cs h4
       exact ⟨b, h1, h2, cs', h5.trans h3, h6⟩)
theorem slotE_ne {i j : Nat} (hi : i < 15) (hj : j < 15) (h : j ≠ i) : slotE j ≠ slotE i := by
  unfold slotE; split <;> split <;> omega
structure JE (W : World) (r g : Nat) (a : Act) (w : World) : Prop where
  size : a.tmps.size = 61
  defers : a.defers = []
  s2 : a.eval (.tmp 2) = .pointer (some ⟨r, 0, none⟩)
  s3 : a.eval (.tmp 3) = .slice (some ⟨g, 0, none⟩) 9 9
  below : Below W.heap.size W w
theorem JE.put {W : World} {r g : Nat} {a : Act} {w w' : World} {i : Nat} {v : Value} (h : JE W r g a w) (hb : Below W.heap.size W w') : JE W r g (a.put (some (slotE i)) v) w' :=
  ⟨by rw [put_size]; exact h.size, by rw [put_defers]; exact h.defers, by rw [ev_ne (by unfold slotE; split <;> omega)]; exact h.s2, by rw [ev_ne (by unfold slotE; split <;> omega)]; exact h.s3, hb⟩
def lastCoversE (ops : Array Oper) : Bool := ((ops[15]?).map fun o => (List.range 15).all fun i => o.after.any fun e => Region.binds .any e && e.on == i).getD true
theorem lastCoversE_spec {ops : Array Oper} {o : Oper} {i : Nat} (h : lastCoversE ops = true) (ho : ops[15]? = some o) (hi : i < 15) : ∃ e ∈ o.after, Region.binds .any e = true ∧ e.on = i := by
  unfold lastCoversE at h
  rw [ho, Option.map_some, Option.getD_some, List.all_eq_true] at h
  have := h i (List.mem_range.2 hi)
  rw [Array.any_eq_true'] at this
  obtain ⟨e, he, hb⟩ := this
  simp only [Bool.and_eq_true, beq_iff_eq] at hb
  exact ⟨e, he, hb.1, hb.2⟩
theorem stepE {W : World} {r g : Nat} {F : Nat → Option (List UInt8)} {a : Act} {w w' : World} {i n : Nat} {v : Value} {dst : Option Nat} {ops : Array Oper} (hd : dst = some (slotE i)) (hi : i < 15) (h : JE W r g a w) (hb : Below w.heap.size w w') (hn : NE g F n i v w')
    (hcov : lastCoversE ops = true) (hsz : ops.size = 16) :
    JE W r g (a.put dst v) w' ∧ GE g F n i (a.put dst v) w' ∧ ∀ j oj, ops[j]? = some oj → j ≠ i → (∀ e ∈ oj.after, Region.binds .any e = true → e.on ≠ i) → GE g F n j a w → GE g F n j (a.put dst v) w' := by
  subst hd
  have hs : slotE i < a.tmps.size := by rw [h.size]; unfold slotE; split <;> omega
  refine ⟨h.put (h.below.trans (hb.mono h.below.size)), ?_, fun j oj hoj hji hdep hg => ?_⟩
  · unfold GE; rw [if_neg (by omega), ev_same hs]; exact hn
  · by_cases hj : j = 15
    · subst hj
      obtain ⟨e, he, hbd, heq⟩ := lastCoversE_spec hcov hoj hi
      exact absurd heq (hdep e he hbd)
    · have hj2 : j < 16 := by rw [← hsz]; exact (Array.getElem?_eq_some_iff.1 hoj).1
      unfold GE at hg ⊢
      rw [if_neg hj] at hg ⊢
      rw [ev_ne (slotE_ne hi (by omega) hji)]
      exact hg.gr (Gr.of hb)
theorem GE_val {g : Nat} {F : Nat → Option (List UInt8)} {B i : Nat} {a : Act} {w : World} (h : GE g F B i a w) (hi : i ≠ 15) : NE g F B i (a.eval (.tmp (slotE i))) w := by
  unfold GE at h; rw [if_neg hi] at h; exact h
theorem buildEv_run (u : ByteArray) (tr : Bool) (k : Int) (w : World) : (Instr.build 79 #[(0, .string u), (7, .bool tr), (8, .int .i64 k)]).run Tryz.prog w = .ok (evV u 0 0 false zeroRule (.slice none 0 0) (.slice none 0 0) tr k) w := by
  kernel_rfl
theorem valLoad_run {g k : Nat} {F : Nat → Option (List UInt8)} {w : World} (hF : FieldsAt w g F) (hk : k < 9) : (Instr.loadAt 9 (.pointer (some ⟨g, k * 2, none⟩))).run Tryz.prog w = .ok (.string ⟨((F k).getD []).toArray⟩) w := by
  have c0 := hF.val k hk
  go_simp
theorem fieldAddr_run (p : Addr) (w : World) (hp : p.spot = none) : (Instr.fieldAt 122 (.pointer (some p)) 0).run Tryz.prog w = .ok (.pointer (some p)) w := by
  obtain ⟨b, o, sp⟩ := p
  simp only [] at hp
  subst hp
  go_simp
set_option maxHeartbeats 4000000 in
/-- an event is stored -/
theorem storeE_ok {W w : World} {b : Nat} {cs : List Value} {F : Nat → Option (List UInt8)} {v : Value} (hrow : RowAt w b cs 79) (hcs : cs.length = 18) (hB : W.heap.size ≤ b) (hbl : Below W.heap.size W w) (hv : EV F v) :
    ∃ w', (Instr.storeAt 79 (.pointer (some ⟨b, 0, none⟩)) v).run Tryz.prog w = .ok () w' ∧ Below W.heap.size W w' ∧ Gr 79 w w' ∧ EB F w' b := by
  obtain ⟨tr, k, hP, rfl⟩ := hv
  match cs, hcs with
  | [x0, x1, x2, x3, x4, x5, x6, x7, x8, x9, x10, x11, x12, x13, x14, x15, x16, x17], _ =>
    have c0 := hrow.cell (k := 0) rfl
    have c1 := hrow.cell (k := 1) rfl
    have c2 := hrow.cell (k := 2) rfl
    have c3 := hrow.cell (k := 3) rfl
    have c4 := hrow.cell (k := 4) rfl
    have c5 := hrow.cell (k := 5) rfl
    have c6 := hrow.cell (k := 6) rfl
    have c7 := hrow.cell (k := 7) rfl
    have c8 := hrow.cell (k := 8) rfl
    have c9 := hrow.cell (k := 9) rfl
    have c10 := hrow.cell (k := 10) rfl
    have c11 := hrow.cell (k := 11) rfl
    have c12 := hrow.cell (k := 12) rfl
    have c13 := hrow.cell (k := 13) rfl
    have c14 := hrow.cell (k := 14) rfl
    have c15 := hrow.cell (k := 15) rfl
    have c16 := hrow.cell (k := 16) rfl
    have c17 := hrow.cell (k := 17) rfl
    have f0 := hrow.free (k := 0)
    have f1 := hrow.free (k := 1)
    have f2 := hrow.free (k := 2)
    have f3 := hrow.free (k := 3)
    have f4 := hrow.free (k := 4)
    have f5 := hrow.free (k := 5)
    have f6 := hrow.free (k := 6)
    have f7 := hrow.free (k := 7)
    have f8 := hrow.free (k := 8)
    have f9 := hrow.free (k := 9)
    have f10 := hrow.free (k := 10)
    have f11 := hrow.free (k := 11)
    have f12 := hrow.free (k := 12)
    have f13 := hrow.free (k := 13)
    have f14 := hrow.free (k := 14)
    have f15 := hrow.free (k := 15)
    have f16 := hrow.free (k := 16)
    have f17 := hrow.free (k := 17)
    have r0 := hrow.set (k := 0) (.string (ofL ((F 0).getD [])))
    have r1 := r0.set (k := 1) (.int .i64 0)
    have r2 := r1.set (k := 2) (.int .i64 0)
    have r3 := r2.set (k := 3) (.bool false)
    have r4 := r3.set (k := 4) (.int .i64 0)
    have r5 := r4.set (k := 5) (.int .i64 0)
    have r6 := r5.set (k := 6) (.int .i64 0)
    have r7 := r6.set (k := 7) (.int .i64 0)
    have r8 := r7.set (k := 8) (.slice none 0 0)
    have r9 := r8.set (k := 9) (.slice none 0 0)
    have r10 := r9.set (k := 10) (.slice none 0 0)
    have r11 := r10.set (k := 11) (.slice none 0 0)
    have r12 := r11.set (k := 12) (.int .i64 0)
    have r13 := r12.set (k := 13) (.string ⟨#[]⟩)
    have r14 := r13.set (k := 14) (.slice none 0 0)
    have r15 := r14.set (k := 15) (.slice none 0 0)
    have r16 := r15.set (k := 16) (.bool tr)
    have r17 := r16.set (k := 17) (.int .i64 k)
    have g : Gr 79 w _ := ((((((((((((((((((Gr.set (i := 0) hrow (.string (ofL ((F 0).getD [])))).trans (Gr.set (i := 1) r0 (.int .i64 0))).trans (Gr.set (i := 2) r1 (.int .i64 0))).trans (Gr.set (i := 3) r2 (.bool false))).trans (Gr.set (i := 4) r3 (.int .i64 0))).trans (Gr.set (i := 5) r4 (.int .i64 0))).trans (Gr.set (i := 6) r5 (.int .i64 0))).trans (Gr.set (i := 7) r6 (.int .i64 0))).trans (Gr.set (i := 8) r7 (.slice none 0 0))).trans (Gr.set (i := 9) r8 (.slice none 0 0))).trans (Gr.set (i := 10) r9 (.slice none 0 0))).trans (Gr.set (i := 11) r10 (.slice none 0 0))).trans (Gr.set (i := 12) r11 (.int .i64 0))).trans (Gr.set (i := 13) r12 (.string ⟨#[]⟩))).trans (Gr.set (i := 14) r13 (.slice none 0 0))).trans (Gr.set (i := 15) r14 (.slice none 0 0))).trans (Gr.set (i := 16) r15 (.bool tr))).trans (Gr.set (i := 17) r16 (.int .i64 k)))
    refine ⟨_, ?_, ((((((((((((((((((hbl.setCell (p := ⟨b, 0, none⟩) hB (.string (ofL ((F 0).getD [])))).setCell (p := ⟨b, 1, none⟩) hB (.int .i64 0)).setCell (p := ⟨b, 2, none⟩) hB (.int .i64 0)).setCell (p := ⟨b, 3, none⟩) hB (.bool false)).setCell (p := ⟨b, 4, none⟩) hB (.int .i64 0)).setCell (p := ⟨b, 5, none⟩) hB (.int .i64 0)).setCell (p := ⟨b, 6, none⟩) hB (.int .i64 0)).setCell (p := ⟨b, 7, none⟩) hB (.int .i64 0)).setCell (p := ⟨b, 8, none⟩) hB (.slice none 0 0)).setCell (p := ⟨b, 9, none⟩) hB (.slice none 0 0)).setCell (p := ⟨b, 10, none⟩) hB (.slice none 0 0)).setCell (p := ⟨b, 11, none⟩) hB (.slice none 0 0)).setCell (p := ⟨b, 12, none⟩) hB (.int .i64 0)).setCell (p := ⟨b, 13, none⟩) hB (.string ⟨#[]⟩)).setCell (p := ⟨b, 14, none⟩) hB (.slice none 0 0)).setCell (p := ⟨b, 15, none⟩) hB (.slice none 0 0)).setCell (p := ⟨b, 16, none⟩) hB (.bool tr)).setCell (p := ⟨b, 17, none⟩) hB (.int .i64 k)), g, tr, k, hP, r17⟩
    clear r0 r1 r2 r3 r4 r5 r6 r7 r8 r9 r10 r11 r12 r13 r14 r15 r16 r17 g hbl hP hrow
    unfold evV evC zeroRule ruleC
    go_simp
end Go.Proofs.YthpndgcaoeokeaaGreatDoor
namespace Go.Proofs.YthpndgcaoeokeaaGreatDoor
open Go.RowKit Go.Sort

/-- what holds at every moment -/
structure JL (w0 : World) (r g b : Nat) (F : Nat → Option (List UInt8)) (st : Int) (tr : Bool) (k : Int) (a : Act) (w : World) : Prop where
  size : a.tmps.size = 61
  defers : a.defers = []
  s2 : a.eval (.tmp 2) = .pointer (some ⟨r, 0, none⟩)
  s3 : a.eval (.tmp 3) = .slice (some ⟨g, 0, none⟩) 9 9
  s4 : a.eval (.tmp 4) = .pointer (some ⟨b, 0, none⟩)
  fields : FieldsAt w g F
  ml : ML w
  row : ∃ z, RowAt w b (evC (ofL ((F 0).getD [])) st z false zeroRule (.slice none 0 0) (.slice none 0 0) tr k) 79
  res : RowAt w r zeroEv 79
  below : Below w0.heap.size w0 w
def slotL (i : Nat) : Nat := 27 + i
def NL (g b : Nat) (F : Nat → Option (List UInt8)) (st : Int) (i : Nat) (v : Value) : Prop := match i with
  | 0 => v = .pointer (some ⟨b, 1, none⟩)
  | 1 => v = .int .i64 st
  | 2 | 5 => v = .slice (some ⟨g, 0, none⟩) 9 9
  | 3 => v = .pointer (some ⟨g, 2 * 2, none⟩)
  | 4 => v = fldV (F 2)
  | 6 => v = .pointer (some ⟨g, 3 * 2, none⟩)
  | 7 => v = fldV (F 3)
  | 8 => ∃ z, lnF st (F 2) (F 3) = some z ∧ v = .int .i64 z
  | 9 => v = .pointer (some ⟨b, 2, none⟩)
  | _ => True
def GL (g b : Nat) (F : Nat → Option (List UInt8)) (st : Int) (tr : Bool) (k : Int) (i : Nat) (a : Act) (w : World) : Prop :=
  if i = 10 then ∃ z, lnF st (F 2) (F 3) = some z ∧ RowAt w b (evC (ofL ((F 0).getD [])) st z false zeroRule (.slice none 0 0) (.slice none 0 0) tr k) 79 else NL g b F st i (a.eval (.tmp (slotL i)))
theorem JL.put {w0 : World} {r g b : Nat} {F : Nat → Option (List UInt8)} {st : Int} {tr : Bool} {k : Int} {a : Act} {w w' : World} {i : Nat} {v : Value} (h : JL w0 r g b F st tr k a w) (hb : Below w.heap.size w w') : JL w0 r g b F st tr k (a.put (some (slotL i)) v) w' := by
  obtain ⟨z, hz⟩ := h.row
  exact ⟨by rw [put_size]; exact h.size, by rw [put_defers]; exact h.defers, by rw [ev_ne (by unfold slotL; omega)]; exact h.s2, by rw [ev_ne (by unfold slotL; omega)]; exact h.s3, by rw [ev_ne (by unfold slotL; omega)]; exact h.s4,
    h.fields.on hb, h.ml.on hb, ⟨z, hz.on hb⟩, h.res.on hb, h.below.trans (hb.mono h.below.size)⟩
def lastCoversL (ops : Array Oper) : Bool := ((ops[10]?).map fun o => (List.range 10).all fun i => o.after.any fun e => Region.binds .any e && e.on == i).getD true
theorem lastCoversL_spec {ops : Array Oper} {o : Oper} {i : Nat} (h : lastCoversL ops = true) (ho : ops[10]? = some o) (hi : i < 10) : ∃ e ∈ o.after, Region.binds .any e = true ∧ e.on = i := by
  unfold lastCoversL at h
  rw [ho, Option.map_some, Option.getD_some, List.all_eq_true] at h
  have := h i (List.mem_range.2 hi)
  rw [Array.any_eq_true'] at this
  obtain ⟨e, he, hb⟩ := this
  simp only [Bool.and_eq_true, beq_iff_eq] at hb
  exact ⟨e, he, hb.1, hb.2⟩
theorem stepL {w0 : World} {r g b : Nat} {F : Nat → Option (List UInt8)} {st : Int} {tr : Bool} {k : Int} {a : Act} {w w' : World} {i : Nat} {v : Value} {dst : Option Nat} {ops : Array Oper} (hd : dst = some (slotL i)) (hi : i < 10) (h : JL w0 r g b F st tr k a w) (hb : Below w.heap.size w w') (hn : NL g b F st i v)
    (hcov : lastCoversL ops = true) (hsz : ops.size = 11) :
    JL w0 r g b F st tr k (a.put dst v) w' ∧ GL g b F st tr k i (a.put dst v) w' ∧ ∀ j oj, ops[j]? = some oj → j ≠ i → (∀ e ∈ oj.after, Region.binds .any e = true → e.on ≠ i) → GL g b F st tr k j a w → GL g b F st tr k j (a.put dst v) w' := by
  subst hd
  have hs : slotL i < a.tmps.size := by rw [h.size]; unfold slotL; omega
  refine ⟨h.put hb, ?_, fun j oj hoj hji hdep hg => ?_⟩
  · unfold GL; rw [if_neg (by omega), ev_same hs]; exact hn
  · by_cases hj : j = 10
    · subst hj
      obtain ⟨e, he, hbd, heq⟩ := lastCoversL_spec hcov hoj hi
      exact absurd heq (hdep e he hbd)
    · have hj2 : j < 11 := by rw [← hsz]; exact (Array.getElem?_eq_some_iff.1 hoj).1
      unfold GL at hg ⊢
      rw [if_neg hj] at hg ⊢
      rw [ev_ne (by unfold slotL; omega)]
      exact hg
theorem GL_val {g b : Nat} {F : Nat → Option (List UInt8)} {st : Int} {tr : Bool} {k : Int} {i : Nat} {a : Act} {w : World} (h : GL g b F st tr k i a w) (hi : i ≠ 10) : NL g b F st i (a.eval (.tmp (slotL i))) := by
  unfold GL at h; rw [if_neg hi] at h; exact h
theorem evAddr1_run (b : Nat) (w : World) : (Instr.fieldAt 79 (.pointer (some ⟨b, 0, none⟩)) 1).run Tryz.prog w = .ok (.pointer (some ⟨b, 1, none⟩)) w := by
  go_simp
theorem evAddr2_run (b : Nat) (w : World) : (Instr.fieldAt 79 (.pointer (some ⟨b, 0, none⟩)) 2).run Tryz.prog w = .ok (.pointer (some ⟨b, 2, none⟩)) w := by
  go_simp
theorem intLoad_run {b k : Nat} {z : Int} {w : World} (h : w.cell? ⟨b, k, none⟩ = some (.int .i64 z)) : (Instr.loadAt 3 (.pointer (some ⟨b, k, none⟩))).run Tryz.prog w = .ok (.int .i64 z) w := by
  go_simp
theorem intStore_run {b k : Nat} {y : Value} {z : Int} {w : World} (h : w.cell? ⟨b, k, none⟩ = some y) (hf : w.frozen? ⟨b, k, none⟩ = false) : (Instr.storeAt 3 (.pointer (some ⟨b, k, none⟩)) (.int .i64 z)).run Tryz.prog w = .ok () (w.setCell ⟨b, k, none⟩ (.int .i64 z)) := by
  go_simp
theorem FieldsAt.other {w : World} {g b i : Nat} {f : Nat → Option (List UInt8)} (h : FieldsAt w g f) (hne : g ≠ b) (v : Value) : FieldsAt (w.setCell ⟨b, i, none⟩ v) g f := by
  have e : (w.setCell ⟨b, i, none⟩ v).heap[g]? = w.heap[g]? := Below.heap_setCell _ _ _ _ hne
  exact ⟨by rw [setCell_size]; exact h.lt, fun k hk => by rw [World.cell?_of_block (a := ⟨g, k * 2, none⟩) e]; exact h.val k hk, fun k hk => by rw [World.cell?_of_block (a := ⟨g, k * 2 + 1, none⟩) e]; exact h.there k hk,
    fun k hk => by rw [World.frozen?_of_block (a := ⟨g, k * 2, none⟩) e]; exact h.fv k hk, fun k hk => by rw [World.frozen?_of_block (a := ⟨g, k * 2 + 1, none⟩) e]; exact h.ft k hk⟩
theorem ML.other {w : World} {b i : Nat} (h : ML w) (hne : 0 ≠ b) (v : Value) : ML (w.setCell ⟨b, i, none⟩ v) := by
  obtain ⟨h1, m, h2⟩ := h
  exact ⟨by rw [setCell_size]; exact h1, m, by rw [World.cell?_of_block (a := ⟨0, 0, none⟩) (Below.heap_setCell _ _ _ _ hne)]; exact h2⟩
end Go.Proofs.YthpndgcaoeokeaaGreatDoor
namespace Go.Proofs.YthpndgcaoeokeaaGreatDoor
open Go.RowKit Go.Sort

/-- the times and lengths of an event -/
structure TimesAre (F : Nat → Option (List UInt8)) (st ln : Int) (ex xt : List Int) : Prop where
  hst : timF ((F 1).getD []) = some st
  hln : lnF st (F 2) (F 3) = some ln
  hex : tsF (F 5) = some ex
  hxt : tsF (F 6) = some xt
def IsHead (s : List UInt8) (F : Nat → Option (List UInt8)) (tr : Bool) (k : Int) : Prop := IsProps s F ∧ Begun F tr k
/-- the event's value -/
def EvIs (F : Nat → Option (List UInt8)) (tr : Bool) (k st ln : Int) (ex xt : List Int) (E : Ending) (w' : World) : Prop :=
  ∃ exv xtv, IntsW w' exv ex ∧ IntsW w' xtv xt ∧ ((F 4 = none ∧ E = .returned (evV (ofL ((F 0).getD [])) st ln false zeroRule exv xtv tr k)) ∨
    ∃ v F' r m md wk pl, F 4 = some v ∧ IsRule v F' r ∧ IntsV w' m r.ms ∧ IntsV w' md r.mds ∧ WksV w' wk r.wks ∧ IntsV w' pl r.pls ∧ E = .returned (evV (ofL ((F 0).getD [])) st ln true (ruleC r.fq r.iv r.ct r.un m md wk pl r.ws (txF F')) exv xtv tr k))
/-- how the reading of an event ends -/
def EvPost (s : List UInt8) (w : World) (E : Ending) (w' : World) : Prop :=
  ((∃ F tr k st ln ex xt, IsHead s F tr k ∧ TimesAre F st ln ex xt ∧ EvIs F tr k st ln ex xt E w') ∨
   ((¬ ∃ F tr k, IsHead s F tr k) ∧ E = .panicked (rsn 2)) ∨
   ((∃ F tr k, IsHead s F tr k ∧ ¬ ∃ st ln ex xt, TimesAre F st ln ex xt) ∧ E = .panicked (rsn 1)) ∨
   ((∃ F tr k st ln ex xt v, IsHead s F tr k ∧ TimesAre F st ln ex xt ∧ F 4 = some v ∧ ¬ ∃ F' r, IsRule v F' r) ∧ E = .panicked (rsn 3))) ∧ Below w.heap.size w w'

theorem nmE_ret {s : ByteArray} {x : Int} {v : Value} (h : Ending.returned v = nmE s x) : nameB s = true ∧ v = .string s := by
  unfold nmE at h
  split at h
  · rename_i hn; exact ⟨hn, Ending.returned.inj h⟩
  · cases h
theorem nmE_pan {s : ByteArray} {x : Int} {c : List PanicEntry} (h : Ending.panicked c = nmE s x) : nameB s = false ∧ c = rsn x := by
  unfold nmE at h
  split at h
  · cases h
  · rename_i hn; exact ⟨by simpa using hn, Ending.panicked.inj h⟩
theorem nmE_out {s : ByteArray} {x : Int} (h : Ending.outgrown = nmE s x) : False := by
  unfold nmE at h
  split at h <;> cases h
theorem boolE_ret {x : Int} {o : Option Bool} {v : Value} (h : Ending.returned v = boolE x o) : ∃ z, o = some z ∧ v = .bool z := by
  unfold boolE at h
  cases o with
  | none => cases h
  | some z => exact ⟨z, rfl, Ending.returned.inj h⟩
theorem boolE_pan {x : Int} {o : Option Bool} {c : List PanicEntry} (h : Ending.panicked c = boolE x o) : o = none ∧ c = rsn x := by
  unfold boolE at h
  cases o with
  | none => exact ⟨rfl, Ending.panicked.inj h⟩
  | some z => cases h
theorem boolE_out {x : Int} {o : Option Bool} (h : Ending.outgrown = boolE x o) : False := by
  unfold boolE at h
  cases o <;> cases h
theorem IsProps.uniq {s : List UInt8} {F F' : Nat → Option (List UInt8)} (h : IsProps s F) (h' : IsProps s F') : F' = F := by
  obtain ⟨ls, h1, _, _, _, h5⟩ := h.lines
  obtain ⟨ls', h1', _, _, _, h5'⟩ := h'.lines
  rw [h1] at h1'
  cases h1'
  rw [h5] at h5'
  exact (Option.some.inj h5').symm
theorem IsProps.small {s : List UInt8} {F : Nat → Option (List UInt8)} (h : IsProps s F) : ∀ k, ((F k).getD []).length ≤ 2000 := by
  obtain ⟨ls, h1, _, _, _, h5⟩ := h.lines
  refine flds_small (fun p hp => ?_) (fun k => by simp) h5
  have : p ∈ ls := List.mem_of_mem_drop (List.mem_of_mem_take hp)
  have := linesP_small h1 p this
  have := h.len
  omega
theorem tyIntE : (3 : TypeId) ≠ 79 := by decide
theorem tyWkE : (183 : TypeId) ≠ 79 := by decide
theorem IntsW.form {w : World} {v : Value} {zs : List Int} (h : IntsW w v zs) : ∃ a c, v = .slice a zs.length c := by
  rcases h with ⟨rfl, rfl⟩ | ⟨g, cap, rest, rfl, _⟩ <;> exact ⟨_, _, rfl⟩
theorem IntsW.on {w w' : World} {v : Value} {zs : List Int} (h : IntsW w v zs) (hb : Below w.heap.size w w') : IntsW w' v zs :=
  h.imp id fun ⟨g, cap, rest, h1, h2⟩ => ⟨g, cap, rest, h1, h2.on hb⟩
theorem IntsW.gr {T : TypeId} {w w' : World} {v : Value} {zs : List Int} (hT : 3 ≠ T) (h : IntsW w v zs) (g : Gr T w w') : IntsW w' v zs :=
  h.imp id fun ⟨k, cap, rest, h1, h2⟩ => ⟨k, cap, rest, h1, g.1 _ _ _ hT h2⟩
theorem row_range {w : World} {b : Nat} {cs : List Value} {t : TypeId} (h : RowAt w b cs t) : w.rangeAt b 0 cs := fun j v hv => by rw [Nat.zero_add]; exact h.cell hv
theorem row_there {w : World} {b : Nat} {cs : List Value} {t : TypeId} {n : Nat} (h : RowAt w b cs t) (hn : n = cs.length) : w.there b 0 n := fun j hj => by
  subst hn
  rw [Nat.zero_add]
  exact ⟨by rw [h.cell (List.getElem?_eq_getElem hj)]; rfl, h.free⟩
/-- cells are set, one behind the other -/
def setL : Nat → List Value → List Value → List Value
  | _, [], cs => cs
  | o, v :: r, cs => setL (o + 1) r (cs.set o v)
theorem sets2 {T : TypeId} {W : World} {b : Nat} : ∀ {vs : List Value} {o : Nat} {w : World} {cs : List Value}, RowAt w b cs T → Below W.heap.size W w → W.heap.size ≤ b →
    Gr T w (w.setCells b o vs) ∧ Below W.heap.size W (w.setCells b o vs) ∧ RowAt (w.setCells b o vs) b (setL o vs cs) T
  | [], o, w, cs, h, hb, _ => ⟨Gr.refl _ _, hb, h⟩
  | v :: l, o, w, cs, h, hb, hB => by
    obtain ⟨h1, h2, h3⟩ := sets2 (vs := l) (o := o + 1) (h.set (k := o) v) (hb.setCell (p := ⟨b, o, none⟩) hB v) hB
    exact ⟨(Gr.set (i := o) h v).trans h1, h2, h3⟩
set_option maxRecDepth 10000 in
theorem act_lit61 (a : Act) (h : a.tmps.size = 61) (hd : a.defers = []) : ∃ f : Nat → Value, a = ⟨#[f 0, f 1, f 2, f 3, f 4, f 5, f 6, f 7, f 8, f 9, f 10, f 11, f 12, f 13, f 14, f 15, f 16, f 17, f 18, f 19, f 20, f 21, f 22, f 23, f 24, f 25, f 26, f 27, f 28, f 29, f 30, f 31, f 32, f 33, f 34, f 35, f 36, f 37, f 38, f 39, f 40, f 41, f 42, f 43, f 44, f 45, f 46, f 47, f 48, f 49, f 50, f 51, f 52, f 53, f 54, f 55, f 56, f 57, f 58, f 59, f 60], []⟩ ∧ ∀ k, a.eval (.tmp k) = f k := by
  obtain ⟨t, d⟩ := a
  simp only [] at h hd
  subst hd
  refine ⟨fun k => t.getD k undef, ?_, fun k => rfl⟩
  congr 1
  apply Array.ext'
  apply List.ext_getElem?
  intro i
  by_cases hi : i < 61
  · rw [show t.toList[i]? = some (t.getD i undef) from by simp [Array.getD, h, hi]]
    match i, hi with
    | 0, _ => rfl
    | 1, _ => rfl
    | 2, _ => rfl
    | 3, _ => rfl
    | 4, _ => rfl
    | 5, _ => rfl
    | 6, _ => rfl
    | 7, _ => rfl
    | 8, _ => rfl
    | 9, _ => rfl
    | 10, _ => rfl
    | 11, _ => rfl
    | 12, _ => rfl
    | 13, _ => rfl
    | 14, _ => rfl
    | 15, _ => rfl
    | 16, _ => rfl
    | 17, _ => rfl
    | 18, _ => rfl
    | 19, _ => rfl
    | 20, _ => rfl
    | 21, _ => rfl
    | 22, _ => rfl
    | 23, _ => rfl
    | 24, _ => rfl
    | 25, _ => rfl
    | 26, _ => rfl
    | 27, _ => rfl
    | 28, _ => rfl
    | 29, _ => rfl
    | 30, _ => rfl
    | 31, _ => rfl
    | 32, _ => rfl
    | 33, _ => rfl
    | 34, _ => rfl
    | 35, _ => rfl
    | 36, _ => rfl
    | 37, _ => rfl
    | 38, _ => rfl
    | 39, _ => rfl
    | 40, _ => rfl
    | 41, _ => rfl
    | 42, _ => rfl
    | 43, _ => rfl
    | 44, _ => rfl
    | 45, _ => rfl
    | 46, _ => rfl
    | 47, _ => rfl
    | 48, _ => rfl
    | 49, _ => rfl
    | 50, _ => rfl
    | 51, _ => rfl
    | 52, _ => rfl
    | 53, _ => rfl
    | 54, _ => rfl
    | 55, _ => rfl
    | 56, _ => rfl
    | 57, _ => rfl
    | 58, _ => rfl
    | 59, _ => rfl
    | 60, _ => rfl
    | n + 61, hn => omega
  · rw [List.getElem?_eq_none (by rw [Array.length_toList]; omega), List.getElem?_eq_none (by show 61 ≤ i; omega)]

end Go.Proofs.YthpndgcaoeokeaaGreatDoor
