/- The program's own: the region that begins an event (events.Read): what each of its operations leaves behind. The program's own: the region that reads an event's length (events.Read). The program's own: what an event that is read is (events.Read); small lemmas on what its pieces answer. The program's own: an event is read (events.Read). -/
import Derived.Test.YthpndgcaoeokeaaGreatDoorE7
import Derived.Deep.MidRow
import Derived.Sort.WalkA6
import Derived.Test.YthpndgcaoeokeaaGreatDoorE4
namespace Go.Proofs.YthpndgcaoeokeaaGreatDoor
open Go.RowKit Go.Sort

/-- an event's cells: a rule's cells in their midst -/
def evC (u : ByteArray) (st ln : Int) (hr : Bool) (rc : List Value) (ex xt : Value) (tr : Bool) (k : Int) : List Value := [.string u, .int .i64 st, .int .i64 ln, .bool hr] ++ rc ++ [ex, xt, .bool tr, .int .i64 k]
def evV (u : ByteArray) (st ln : Int) (hr : Bool) (rc : List Value) (ex xt : Value) (tr : Bool) (k : Int) : Value := .agg (evC u st ln hr rc ex xt tr k).toArray
def zeroEv : List Value := evC ⟨#[]⟩ 0 0 false zeroRule (.slice none 0 0) (.slice none 0 0) false 0
/-- what the event begins with -/
structure Begun (F : Nat → Option (List UInt8)) (tr : Bool) (k : Int) : Prop where
  uid : nameB (ofL ((F 0).getD [])) = true
  tr : trF (F 7) = some tr
  st : stF (F 8) = some k
def EV (F : Nat → Option (List UInt8)) (v : Value) : Prop := ∃ tr k, Begun F tr k ∧ v = evV (ofL ((F 0).getD [])) 0 0 false zeroRule (.slice none 0 0) (.slice none 0 0) tr k
def EB (F : Nat → Option (List UInt8)) (w : World) (b : Nat) : Prop := ∃ tr k, Begun F tr k ∧ RowAt w b (evC (ofL ((F 0).getD [])) 0 0 false zeroRule (.slice none 0 0) (.slice none 0 0) tr k) 79

def slotE (i : Nat) : Nat := if i = 14 then 4 else 7 + i
def NE (g : Nat) (F : Nat → Option (List UInt8)) (B : Nat) (i : Nat) (v : Value) (w : World) : Prop := match i with
  | 0 | 5 | 9 => v = .slice (some ⟨g, 0, none⟩) 9 9
  | 1 | 2 => v = .pointer (some ⟨g, 0 * 2, none⟩)
  | 3 => v = .string (ofL ((F 0).getD []))
  | 4 => nameB (ofL ((F 0).getD [])) = true ∧ v = .string (ofL ((F 0).getD []))
  | 6 => v = .pointer (some ⟨g, 7 * 2, none⟩)
  | 7 => v = fldV (F 7)
  | 8 => ∃ z, trF (F 7) = some z ∧ v = .bool z
  | 10 => v = .pointer (some ⟨g, 8 * 2, none⟩)
  | 11 => v = fldV (F 8)
  | 12 => ∃ z, stF (F 8) = some z ∧ v = .int .i64 z
  | 13 => EV F v
  | 14 => ∃ b, v = .pointer (some ⟨b, 0, none⟩) ∧ B ≤ b ∧ ∃ cs, cs.length = 18 ∧ RowAt w b cs 79
  | _ => True
def GE (g : Nat) (F : Nat → Option (List UInt8)) (B : Nat) (i : Nat) (a : Act) (w : World) : Prop :=
  if i = 15 then ∃ b, a.eval (.tmp 4) = .pointer (some ⟨b, 0, none⟩) ∧ B ≤ b ∧ EB F w b else NE g F B i (a.eval (.tmp (slotE i))) w
theorem NE.gr {g : Nat} {F : Nat → Option (List UInt8)} {B i : Nat} {v : Value} {w w' : World} (h : NE g F B i v w) (gr : Gr 79 w w') : NE g F B i v w' := by
  unfold NE at h ⊢
  split <;> first
    | exact h
    | exact trivial
    | (obtain ⟨b, h1, h2, cs, h3, h4⟩ := h
       obtain ⟨cs', h5, h6⟩ := gr.2 b cs h4
       exact ⟨b, h1, h2, cs', h5.trans h3, h6⟩)
theorem slotE_ne {i j : Nat} (hi : i < 15) (hj : j < 15) (h : j ≠ i) : slotE j ≠ slotE i := by
  unfold slotE; split <;> split <;> omega
structure JE (W : World) (r g : Nat) (a : Act) (w : World) : Prop where
  size : a.tmps.size = 61
  defers : a.defers = []
  s2 : a.eval (.tmp 2) = .pointer (some ⟨r, 0, none⟩)
  s3 : a.eval (.tmp 3) = .slice (some ⟨g, 0, none⟩) 9 9
  below : Below W.heap.size W w
theorem JE.put {W : World} {r g : Nat} {a : Act} {w w' : World} {i : Nat} {v : Value} (h : JE W r g a w) (hb : Below W.heap.size W w') : JE W r g (a.put (some (slotE i)) v) w' :=
  ⟨by rw [put_size]; exact h.size, by rw [put_defers]; exact h.defers, by rw [ev_ne (by unfold slotE; split <;> omega)]; exact h.s2, by rw [ev_ne (by unfold slotE; split <;> omega)]; exact h.s3, hb⟩
def lastCoversE (ops : Array Oper) : Bool := ((ops[15]?).map fun o => (List.range 15).all fun i => o.after.any fun e => Region.binds .any e && e.on == i).getD true
theorem lastCoversE_spec {ops : Array Oper} {o : Oper} {i : Nat} (h : lastCoversE ops = true) (ho : ops[15]? = some o) (hi : i < 15) : ∃ e ∈ o.after, Region.binds .any e = true ∧ e.on = i := by
  unfold lastCoversE at h
  rw [ho, Option.map_some, Option.getD_some, List.all_eq_true] at h
  have := h i (List.mem_range.2 hi)
  rw [Array.any_eq_true'] at this
  obtain ⟨e, he, hb⟩ := this
  simp only [Bool.and_eq_true, beq_iff_eq] at hb
  exact ⟨e, he, hb.1, hb.2⟩
theorem stepE {W : World} {r g : Nat} {F : Nat → Option (List UInt8)} {a : Act} {w w' : World} {i n : Nat} {v : Value} {dst : Option Nat} {ops : Array Oper} (hd : dst = some (slotE i)) (hi : i < 15) (h : JE W r g a w) (hb : Below w.heap.size w w') (hn : NE g F n i v w')
    (hcov : lastCoversE ops = true) (hsz : ops.size = 16) :
    JE W r g (a.put dst v) w' ∧ GE g F n i (a.put dst v) w' ∧ ∀ j oj, ops[j]? = some oj → j ≠ i → (∀ e ∈ oj.after, Region.binds .any e = true → e.on ≠ i) → GE g F n j a w → GE g F n j (a.put dst v) w' := by
  subst hd
  have hs : slotE i < a.tmps.size := by rw [h.size]; unfold slotE; split <;> omega
  refine ⟨h.put (h.below.trans (hb.mono h.below.size)), ?_, fun j oj hoj hji hdep hg => ?_⟩
  · unfold GE; rw [if_neg (by omega), ev_same hs]; exact hn
  · by_cases hj : j = 15
    · subst hj
      obtain ⟨e, he, hbd, heq⟩ := lastCoversE_spec hcov hoj hi
      exact absurd heq (hdep e he hbd)
    · have hj2 : j < 16 := by rw [← hsz]; exact (Array.getElem?_eq_some_iff.1 hoj).1
      unfold GE at hg ⊢
      rw [if_neg hj] at hg ⊢
      rw [ev_ne (slotE_ne hi (by omega) hji)]
      exact hg.gr (Gr.of hb)
theorem GE_val {g : Nat} {F : Nat → Option (List UInt8)} {B i : Nat} {a : Act} {w : World} (h : GE g F B i a w) (hi : i ≠ 15) : NE g F B i (a.eval (.tmp (slotE i))) w := by
  unfold GE at h; rw [if_neg hi] at h; exact h
theorem buildEv_run (u : ByteArray) (tr : Bool) (k : Int) (w : World) : (Instr.build 79 #[(0, .string u), (7, .bool tr), (8, .int .i64 k)]).run Tryz.prog w = .ok (evV u 0 0 false zeroRule (.slice none 0 0) (.slice none 0 0) tr k) w := by
  kernel_rfl
theorem allocEv_run (w : World) : (Instr.alloc 79 true (.tuple #[])).run Tryz.prog w = .ok (.pointer (some ⟨w.heap.size, 0, none⟩)) (w.alloc (.cells zeroEv.toArray 79)) := by
  kernel_rfl
theorem valLoad_run {g k : Nat} {F : Nat → Option (List UInt8)} {w : World} (hF : FieldsAt w g F) (hk : k < 9) : (Instr.loadAt 9 (.pointer (some ⟨g, k * 2, none⟩))).run Tryz.prog w = .ok (.string ⟨((F k).getD []).toArray⟩) w := by
  have c0 := hF.val k hk
  go_simp
theorem fieldAddr_run (p : Addr) (w : World) (hp : p.spot = none) : (Instr.fieldAt 122 (.pointer (some p)) 0).run Tryz.prog w = .ok (.pointer (some p)) w := by
  obtain ⟨b, o, sp⟩ := p
  simp only [] at hp
  subst hp
  go_simp
set_option maxHeartbeats 4000000 in
/-- an event is stored -/
theorem storeE_ok {W w : World} {b : Nat} {cs : List Value} {F : Nat → Option (List UInt8)} {v : Value} (hrow : RowAt w b cs 79) (hcs : cs.length = 18) (hB : W.heap.size ≤ b) (hbl : Below W.heap.size W w) (hv : EV F v) :
    ∃ w', (Instr.storeAt 79 (.pointer (some ⟨b, 0, none⟩)) v).run Tryz.prog w = .ok () w' ∧ Below W.heap.size W w' ∧ Gr 79 w w' ∧ EB F w' b := by
  obtain ⟨tr, k, hP, rfl⟩ := hv
  match cs, hcs with
  | [x0, x1, x2, x3, x4, x5, x6, x7, x8, x9, x10, x11, x12, x13, x14, x15, x16, x17], _ =>
    have c0 := hrow.cell (k := 0) rfl
    have c1 := hrow.cell (k := 1) rfl
    have c2 := hrow.cell (k := 2) rfl
    have c3 := hrow.cell (k := 3) rfl
    have c4 := hrow.cell (k := 4) rfl
    have c5 := hrow.cell (k := 5) rfl
    have c6 := hrow.cell (k := 6) rfl
    have c7 := hrow.cell (k := 7) rfl
    have c8 := hrow.cell (k := 8) rfl
    have c9 := hrow.cell (k := 9) rfl
    have c10 := hrow.cell (k := 10) rfl
    have c11 := hrow.cell (k := 11) rfl
    have c12 := hrow.cell (k := 12) rfl
    have c13 := hrow.cell (k := 13) rfl
    have c14 := hrow.cell (k := 14) rfl
    have c15 := hrow.cell (k := 15) rfl
    have c16 := hrow.cell (k := 16) rfl
    have c17 := hrow.cell (k := 17) rfl
    have f0 := hrow.free (k := 0)
    have f1 := hrow.free (k := 1)
    have f2 := hrow.free (k := 2)
    have f3 := hrow.free (k := 3)
    have f4 := hrow.free (k := 4)
    have f5 := hrow.free (k := 5)
    have f6 := hrow.free (k := 6)
    have f7 := hrow.free (k := 7)
    have f8 := hrow.free (k := 8)
    have f9 := hrow.free (k := 9)
    have f10 := hrow.free (k := 10)
    have f11 := hrow.free (k := 11)
    have f12 := hrow.free (k := 12)
    have f13 := hrow.free (k := 13)
    have f14 := hrow.free (k := 14)
    have f15 := hrow.free (k := 15)
    have f16 := hrow.free (k := 16)
    have f17 := hrow.free (k := 17)
    have r0 := hrow.set (k := 0) (.string (ofL ((F 0).getD [])))
    have r1 := r0.set (k := 1) (.int .i64 0)
    have r2 := r1.set (k := 2) (.int .i64 0)
    have r3 := r2.set (k := 3) (.bool false)
    have r4 := r3.set (k := 4) (.int .i64 0)
    have r5 := r4.set (k := 5) (.int .i64 0)
    have r6 := r5.set (k := 6) (.int .i64 0)
    have r7 := r6.set (k := 7) (.int .i64 0)
    have r8 := r7.set (k := 8) (.slice none 0 0)
    have r9 := r8.set (k := 9) (.slice none 0 0)
    have r10 := r9.set (k := 10) (.slice none 0 0)
    have r11 := r10.set (k := 11) (.slice none 0 0)
    have r12 := r11.set (k := 12) (.int .i64 0)
    have r13 := r12.set (k := 13) (.string ⟨#[]⟩)
    have r14 := r13.set (k := 14) (.slice none 0 0)
    have r15 := r14.set (k := 15) (.slice none 0 0)
    have r16 := r15.set (k := 16) (.bool tr)
    have r17 := r16.set (k := 17) (.int .i64 k)
    have g : Gr 79 w _ := ((((((((((((((((((Gr.set (i := 0) hrow (.string (ofL ((F 0).getD [])))).trans (Gr.set (i := 1) r0 (.int .i64 0))).trans (Gr.set (i := 2) r1 (.int .i64 0))).trans (Gr.set (i := 3) r2 (.bool false))).trans (Gr.set (i := 4) r3 (.int .i64 0))).trans (Gr.set (i := 5) r4 (.int .i64 0))).trans (Gr.set (i := 6) r5 (.int .i64 0))).trans (Gr.set (i := 7) r6 (.int .i64 0))).trans (Gr.set (i := 8) r7 (.slice none 0 0))).trans (Gr.set (i := 9) r8 (.slice none 0 0))).trans (Gr.set (i := 10) r9 (.slice none 0 0))).trans (Gr.set (i := 11) r10 (.slice none 0 0))).trans (Gr.set (i := 12) r11 (.int .i64 0))).trans (Gr.set (i := 13) r12 (.string ⟨#[]⟩))).trans (Gr.set (i := 14) r13 (.slice none 0 0))).trans (Gr.set (i := 15) r14 (.slice none 0 0))).trans (Gr.set (i := 16) r15 (.bool tr))).trans (Gr.set (i := 17) r16 (.int .i64 k)))
    refine ⟨_, ?_, ((((((((((((((((((hbl.setCell (p := ⟨b, 0, none⟩) hB (.string (ofL ((F 0).getD [])))).setCell (p := ⟨b, 1, none⟩) hB (.int .i64 0)).setCell (p := ⟨b, 2, none⟩) hB (.int .i64 0)).setCell (p := ⟨b, 3, none⟩) hB (.bool false)).setCell (p := ⟨b, 4, none⟩) hB (.int .i64 0)).setCell (p := ⟨b, 5, none⟩) hB (.int .i64 0)).setCell (p := ⟨b, 6, none⟩) hB (.int .i64 0)).setCell (p := ⟨b, 7, none⟩) hB (.int .i64 0)).setCell (p := ⟨b, 8, none⟩) hB (.slice none 0 0)).setCell (p := ⟨b, 9, none⟩) hB (.slice none 0 0)).setCell (p := ⟨b, 10, none⟩) hB (.slice none 0 0)).setCell (p := ⟨b, 11, none⟩) hB (.slice none 0 0)).setCell (p := ⟨b, 12, none⟩) hB (.int .i64 0)).setCell (p := ⟨b, 13, none⟩) hB (.string ⟨#[]⟩)).setCell (p := ⟨b, 14, none⟩) hB (.slice none 0 0)).setCell (p := ⟨b, 15, none⟩) hB (.slice none 0 0)).setCell (p := ⟨b, 16, none⟩) hB (.bool tr)).setCell (p := ⟨b, 17, none⟩) hB (.int .i64 k)), g, tr, k, hP, r17⟩
    clear r0 r1 r2 r3 r4 r5 r6 r7 r8 r9 r10 r11 r12 r13 r14 r15 r16 r17 g hbl hP hrow
    unfold evV evC zeroRule ruleC
    go_simp
end Go.Proofs.YthpndgcaoeokeaaGreatDoor
namespace Go.Proofs.YthpndgcaoeokeaaGreatDoor
open Go.RowKit Go.Sort

/-- what holds at every moment -/
structure JL (w0 : World) (r g b : Nat) (F : Nat → Option (List UInt8)) (st : Int) (tr : Bool) (k : Int) (a : Act) (w : World) : Prop where
  size : a.tmps.size = 61
  defers : a.defers = []
  s2 : a.eval (.tmp 2) = .pointer (some ⟨r, 0, none⟩)
  s3 : a.eval (.tmp 3) = .slice (some ⟨g, 0, none⟩) 9 9
  s4 : a.eval (.tmp 4) = .pointer (some ⟨b, 0, none⟩)
  fields : FieldsAt w g F
  ml : ML w
  row : ∃ z, RowAt w b (evC (ofL ((F 0).getD [])) st z false zeroRule (.slice none 0 0) (.slice none 0 0) tr k) 79
  res : RowAt w r zeroEv 79
  below : Below w0.heap.size w0 w
def slotL (i : Nat) : Nat := 27 + i
def NL (g b : Nat) (F : Nat → Option (List UInt8)) (st : Int) (i : Nat) (v : Value) : Prop := match i with
  | 0 => v = .pointer (some ⟨b, 1, none⟩)
  | 1 => v = .int .i64 st
  | 2 | 5 => v = .slice (some ⟨g, 0, none⟩) 9 9
  | 3 => v = .pointer (some ⟨g, 2 * 2, none⟩)
  | 4 => v = fldV (F 2)
  | 6 => v = .pointer (some ⟨g, 3 * 2, none⟩)
  | 7 => v = fldV (F 3)
  | 8 => ∃ z, lnF st (F 2) (F 3) = some z ∧ v = .int .i64 z
  | 9 => v = .pointer (some ⟨b, 2, none⟩)
  | _ => True
def GL (g b : Nat) (F : Nat → Option (List UInt8)) (st : Int) (tr : Bool) (k : Int) (i : Nat) (a : Act) (w : World) : Prop :=
  if i = 10 then ∃ z, lnF st (F 2) (F 3) = some z ∧ RowAt w b (evC (ofL ((F 0).getD [])) st z false zeroRule (.slice none 0 0) (.slice none 0 0) tr k) 79 else NL g b F st i (a.eval (.tmp (slotL i)))
theorem JL.put {w0 : World} {r g b : Nat} {F : Nat → Option (List UInt8)} {st : Int} {tr : Bool} {k : Int} {a : Act} {w w' : World} {i : Nat} {v : Value} (h : JL w0 r g b F st tr k a w) (hb : Below w.heap.size w w') : JL w0 r g b F st tr k (a.put (some (slotL i)) v) w' := by
  obtain ⟨z, hz⟩ := h.row
  exact ⟨by rw [put_size]; exact h.size, by rw [put_defers]; exact h.defers, by rw [ev_ne (by unfold slotL; omega)]; exact h.s2, by rw [ev_ne (by unfold slotL; omega)]; exact h.s3, by rw [ev_ne (by unfold slotL; omega)]; exact h.s4,
    h.fields.on hb, h.ml.on hb, ⟨z, hz.on hb⟩, h.res.on hb, h.below.trans (hb.mono h.below.size)⟩
def lastCoversL (ops : Array Oper) : Bool := ((ops[10]?).map fun o => (List.range 10).all fun i => o.after.any fun e => Region.binds .any e && e.on == i).getD true
theorem lastCoversL_spec {ops : Array Oper} {o : Oper} {i : Nat} (h : lastCoversL ops = true) (ho : ops[10]? = some o) (hi : i < 10) : ∃ e ∈ o.after, Region.binds .any e = true ∧ e.on = i := by
  unfold lastCoversL at h
  rw [ho, Option.map_some, Option.getD_some, List.all_eq_true] at h
  have := h i (List.mem_range.2 hi)
  rw [Array.any_eq_true'] at this
  obtain ⟨e, he, hb⟩ := this
  simp only [Bool.and_eq_true, beq_iff_eq] at hb
  exact ⟨e, he, hb.1, hb.2⟩
theorem stepL {w0 : World} {r g b : Nat} {F : Nat → Option (List UInt8)} {st : Int} {tr : Bool} {k : Int} {a : Act} {w w' : World} {i : Nat} {v : Value} {dst : Option Nat} {ops : Array Oper} (hd : dst = some (slotL i)) (hi : i < 10) (h : JL w0 r g b F st tr k a w) (hb : Below w.heap.size w w') (hn : NL g b F st i v)
    (hcov : lastCoversL ops = true) (hsz : ops.size = 11) :
    JL w0 r g b F st tr k (a.put dst v) w' ∧ GL g b F st tr k i (a.put dst v) w' ∧ ∀ j oj, ops[j]? = some oj → j ≠ i → (∀ e ∈ oj.after, Region.binds .any e = true → e.on ≠ i) → GL g b F st tr k j a w → GL g b F st tr k j (a.put dst v) w' := by
  subst hd
  have hs : slotL i < a.tmps.size := by rw [h.size]; unfold slotL; omega
  refine ⟨h.put hb, ?_, fun j oj hoj hji hdep hg => ?_⟩
  · unfold GL; rw [if_neg (by omega), ev_same hs]; exact hn
  · by_cases hj : j = 10
    · subst hj
      obtain ⟨e, he, hbd, heq⟩ := lastCoversL_spec hcov hoj hi
      exact absurd heq (hdep e he hbd)
    · have hj2 : j < 11 := by rw [← hsz]; exact (Array.getElem?_eq_some_iff.1 hoj).1
      unfold GL at hg ⊢
      rw [if_neg hj] at hg ⊢
      rw [ev_ne (by unfold slotL; omega)]
      exact hg
theorem GL_val {g b : Nat} {F : Nat → Option (List UInt8)} {st : Int} {tr : Bool} {k : Int} {i : Nat} {a : Act} {w : World} (h : GL g b F st tr k i a w) (hi : i ≠ 10) : NL g b F st i (a.eval (.tmp (slotL i))) := by
  unfold GL at h; rw [if_neg hi] at h; exact h
theorem evAddr1_run (b : Nat) (w : World) : (Instr.fieldAt 79 (.pointer (some ⟨b, 0, none⟩)) 1).run Tryz.prog w = .ok (.pointer (some ⟨b, 1, none⟩)) w := by
  go_simp
theorem evAddr2_run (b : Nat) (w : World) : (Instr.fieldAt 79 (.pointer (some ⟨b, 0, none⟩)) 2).run Tryz.prog w = .ok (.pointer (some ⟨b, 2, none⟩)) w := by
  go_simp
theorem intLoad_run {b k : Nat} {z : Int} {w : World} (h : w.cell? ⟨b, k, none⟩ = some (.int .i64 z)) : (Instr.loadAt 3 (.pointer (some ⟨b, k, none⟩))).run Tryz.prog w = .ok (.int .i64 z) w := by
  go_simp
theorem intStore_run {b k : Nat} {y : Value} {z : Int} {w : World} (h : w.cell? ⟨b, k, none⟩ = some y) (hf : w.frozen? ⟨b, k, none⟩ = false) : (Instr.storeAt 3 (.pointer (some ⟨b, k, none⟩)) (.int .i64 z)).run Tryz.prog w = .ok () (w.setCell ⟨b, k, none⟩ (.int .i64 z)) := by
  go_simp
theorem FieldsAt.other {w : World} {g b i : Nat} {f : Nat → Option (List UInt8)} (h : FieldsAt w g f) (hne : g ≠ b) (v : Value) : FieldsAt (w.setCell ⟨b, i, none⟩ v) g f := by
  have e : (w.setCell ⟨b, i, none⟩ v).heap[g]? = w.heap[g]? := Below.heap_setCell _ _ _ _ hne
  exact ⟨by rw [setCell_size]; exact h.lt, fun k hk => by rw [World.cell?_of_block (a := ⟨g, k * 2, none⟩) e]; exact h.val k hk, fun k hk => by rw [World.cell?_of_block (a := ⟨g, k * 2 + 1, none⟩) e]; exact h.there k hk,
    fun k hk => by rw [World.frozen?_of_block (a := ⟨g, k * 2, none⟩) e]; exact h.fv k hk, fun k hk => by rw [World.frozen?_of_block (a := ⟨g, k * 2 + 1, none⟩) e]; exact h.ft k hk⟩
theorem ML.other {w : World} {b i : Nat} (h : ML w) (hne : 0 ≠ b) (v : Value) : ML (w.setCell ⟨b, i, none⟩ v) := by
  obtain ⟨h1, m, h2⟩ := h
  exact ⟨by rw [setCell_size]; exact h1, m, by rw [World.cell?_of_block (a := ⟨0, 0, none⟩) (Below.heap_setCell _ _ _ _ hne)]; exact h2⟩
end Go.Proofs.YthpndgcaoeokeaaGreatDoor
namespace Go.Proofs.YthpndgcaoeokeaaGreatDoor
open Go.RowKit Go.Sort

/-- the times and lengths of an event -/
structure TimesAre (F : Nat → Option (List UInt8)) (st ln : Int) (ex xt : List Int) : Prop where
  hst : timF ((F 1).getD []) = some st
  hln : lnF st (F 2) (F 3) = some ln
  hex : tsF (F 5) = some ex
  hxt : tsF (F 6) = some xt
def IsHead (s : List UInt8) (F : Nat → Option (List UInt8)) (tr : Bool) (k : Int) : Prop := IsProps s F ∧ Begun F tr k
/-- the event's value -/
def EvIs (F : Nat → Option (List UInt8)) (tr : Bool) (k st ln : Int) (ex xt : List Int) (E : Ending) (w' : World) : Prop :=
  ∃ exv xtv, IntsW w' exv ex ∧ IntsW w' xtv xt ∧ ((F 4 = none ∧ E = .returned (evV (ofL ((F 0).getD [])) st ln false zeroRule exv xtv tr k)) ∨
    ∃ v F' r m md wk pl, F 4 = some v ∧ IsRule v F' r ∧ IntsV w' m r.ms ∧ IntsV w' md r.mds ∧ WksV w' wk r.wks ∧ IntsV w' pl r.pls ∧ E = .returned (evV (ofL ((F 0).getD [])) st ln true (ruleC r.fq r.iv r.ct r.un m md wk pl r.ws (txF F')) exv xtv tr k))
/-- how the reading of an event ends -/
def EvPost (s : List UInt8) (w : World) (E : Ending) (w' : World) : Prop :=
  ((∃ F tr k st ln ex xt, IsHead s F tr k ∧ TimesAre F st ln ex xt ∧ EvIs F tr k st ln ex xt E w') ∨
   ((¬ ∃ F tr k, IsHead s F tr k) ∧ E = .panicked (rsn 2)) ∨
   ((∃ F tr k, IsHead s F tr k ∧ ¬ ∃ st ln ex xt, TimesAre F st ln ex xt) ∧ E = .panicked (rsn 1)) ∨
   ((∃ F tr k st ln ex xt v, IsHead s F tr k ∧ TimesAre F st ln ex xt ∧ F 4 = some v ∧ ¬ ∃ F' r, IsRule v F' r) ∧ E = .panicked (rsn 3))) ∧ Below w.heap.size w w'

theorem nmE_ret {s : ByteArray} {x : Int} {v : Value} (h : Ending.returned v = nmE s x) : nameB s = true ∧ v = .string s := by
  unfold nmE at h
  split at h
  · rename_i hn; exact ⟨hn, Ending.returned.inj h⟩
  · cases h
theorem nmE_pan {s : ByteArray} {x : Int} {c : List PanicEntry} (h : Ending.panicked c = nmE s x) : nameB s = false ∧ c = rsn x := by
  unfold nmE at h
  split at h
  · cases h
  · rename_i hn; exact ⟨by simpa using hn, Ending.panicked.inj h⟩
theorem nmE_out {s : ByteArray} {x : Int} (h : Ending.outgrown = nmE s x) : False := by
  unfold nmE at h
  split at h <;> cases h
theorem boolE_ret {x : Int} {o : Option Bool} {v : Value} (h : Ending.returned v = boolE x o) : ∃ z, o = some z ∧ v = .bool z := by
  unfold boolE at h
  cases o with
  | none => cases h
  | some z => exact ⟨z, rfl, Ending.returned.inj h⟩
theorem boolE_pan {x : Int} {o : Option Bool} {c : List PanicEntry} (h : Ending.panicked c = boolE x o) : o = none ∧ c = rsn x := by
  unfold boolE at h
  cases o with
  | none => exact ⟨rfl, Ending.panicked.inj h⟩
  | some z => cases h
theorem boolE_out {x : Int} {o : Option Bool} (h : Ending.outgrown = boolE x o) : False := by
  unfold boolE at h
  cases o <;> cases h
theorem IsProps.uniq {s : List UInt8} {F F' : Nat → Option (List UInt8)} (h : IsProps s F) (h' : IsProps s F') : F' = F := by
  obtain ⟨ls, h1, _, _, _, h5⟩ := h.lines
  obtain ⟨ls', h1', _, _, _, h5'⟩ := h'.lines
  rw [h1] at h1'
  cases h1'
  rw [h5] at h5'
  exact (Option.some.inj h5').symm
theorem IsProps.small {s : List UInt8} {F : Nat → Option (List UInt8)} (h : IsProps s F) : ∀ k, ((F k).getD []).length ≤ 2000 := by
  obtain ⟨ls, h1, _, _, _, h5⟩ := h.lines
  refine flds_small (fun p hp => ?_) (fun k => by simp) h5
  have : p ∈ ls := List.mem_of_mem_drop (List.mem_of_mem_take hp)
  have := linesP_small h1 p this
  have := h.len
  omega
theorem tyIntE : (3 : TypeId) ≠ 79 := by decide
theorem tyWkE : (183 : TypeId) ≠ 79 := by decide
theorem IntsW.form {w : World} {v : Value} {zs : List Int} (h : IntsW w v zs) : ∃ a c, v = .slice a zs.length c := by
  rcases h with ⟨rfl, rfl⟩ | ⟨g, cap, rest, rfl, _⟩ <;> exact ⟨_, _, rfl⟩
theorem IntsW.on {w w' : World} {v : Value} {zs : List Int} (h : IntsW w v zs) (hb : Below w.heap.size w w') : IntsW w' v zs :=
  h.imp id fun ⟨g, cap, rest, h1, h2⟩ => ⟨g, cap, rest, h1, h2.on hb⟩
theorem IntsW.gr {T : TypeId} {w w' : World} {v : Value} {zs : List Int} (hT : 3 ≠ T) (h : IntsW w v zs) (g : Gr T w w') : IntsW w' v zs :=
  h.imp id fun ⟨k, cap, rest, h1, h2⟩ => ⟨k, cap, rest, h1, g.1 _ _ _ hT h2⟩
theorem row_range {w : World} {b : Nat} {cs : List Value} {t : TypeId} (h : RowAt w b cs t) : w.rangeAt b 0 cs := fun j v hv => by rw [Nat.zero_add]; exact h.cell hv
theorem row_there {w : World} {b : Nat} {cs : List Value} {t : TypeId} {n : Nat} (h : RowAt w b cs t) (hn : n = cs.length) : w.there b 0 n := fun j hj => by
  subst hn
  rw [Nat.zero_add]
  exact ⟨by rw [h.cell (List.getElem?_eq_getElem hj)]; rfl, h.free⟩
/-- cells are set, one behind the other -/
def setL : Nat → List Value → List Value → List Value
  | _, [], cs => cs
  | o, v :: r, cs => setL (o + 1) r (cs.set o v)
theorem sets2 {T : TypeId} {W : World} {b : Nat} : ∀ {vs : List Value} {o : Nat} {w : World} {cs : List Value}, RowAt w b cs T → Below W.heap.size W w → W.heap.size ≤ b →
    Gr T w (w.setCells b o vs) ∧ Below W.heap.size W (w.setCells b o vs) ∧ RowAt (w.setCells b o vs) b (setL o vs cs) T
  | [], o, w, cs, h, hb, _ => ⟨Gr.refl _ _, hb, h⟩
  | v :: l, o, w, cs, h, hb, hB => by
    obtain ⟨h1, h2, h3⟩ := sets2 (vs := l) (o := o + 1) (h.set (k := o) v) (hb.setCell (p := ⟨b, o, none⟩) hB v) hB
    exact ⟨(Gr.set (i := o) h v).trans h1, h2, h3⟩
set_option maxRecDepth 10000 in
theorem act_lit61 (a : Act) (h : a.tmps.size = 61) (hd : a.defers = []) : ∃ f : Nat → Value, a = ⟨#[f 0, f 1, f 2, f 3, f 4, f 5, f 6, f 7, f 8, f 9, f 10, f 11, f 12, f 13, f 14, f 15, f 16, f 17, f 18, f 19, f 20, f 21, f 22, f 23, f 24, f 25, f 26, f 27, f 28, f 29, f 30, f 31, f 32, f 33, f 34, f 35, f 36, f 37, f 38, f 39, f 40, f 41, f 42, f 43, f 44, f 45, f 46, f 47, f 48, f 49, f 50, f 51, f 52, f 53, f 54, f 55, f 56, f 57, f 58, f 59, f 60], []⟩ ∧ ∀ k, a.eval (.tmp k) = f k := by
  obtain ⟨t, d⟩ := a
  simp only [] at h hd
  subst hd
  refine ⟨fun k => t.getD k undef, ?_, fun k => rfl⟩
  congr 1
  apply Array.ext'
  apply List.ext_getElem?
  intro i
  by_cases hi : i < 61
  · rw [show t.toList[i]? = some (t.getD i undef) from by simp [Array.getD, h, hi]]
    match i, hi with
    | 0, _ => rfl
    | 1, _ => rfl
    | 2, _ => rfl
    | 3, _ => rfl
    | 4, _ => rfl
    | 5, _ => rfl
    | 6, _ => rfl
    | 7, _ => rfl
    | 8, _ => rfl
    | 9, _ => rfl
    | 10, _ => rfl
    | 11, _ => rfl
    | 12, _ => rfl
    | 13, _ => rfl
    | 14, _ => rfl
    | 15, _ => rfl
    | 16, _ => rfl
    | 17, _ => rfl
    | 18, _ => rfl
    | 19, _ => rfl
    | 20, _ => rfl
    | 21, _ => rfl
    | 22, _ => rfl
    | 23, _ => rfl
    | 24, _ => rfl
    | 25, _ => rfl
    | 26, _ => rfl
    | 27, _ => rfl
    | 28, _ => rfl
    | 29, _ => rfl
    | 30, _ => rfl
    | 31, _ => rfl
    | 32, _ => rfl
    | 33, _ => rfl
    | 34, _ => rfl
    | 35, _ => rfl
    | 36, _ => rfl
    | 37, _ => rfl
    | 38, _ => rfl
    | 39, _ => rfl
    | 40, _ => rfl
    | 41, _ => rfl
    | 42, _ => rfl
    | 43, _ => rfl
    | 44, _ => rfl
    | 45, _ => rfl
    | 46, _ => rfl
    | 47, _ => rfl
    | 48, _ => rfl
    | 49, _ => rfl
    | 50, _ => rfl
    | 51, _ => rfl
    | 52, _ => rfl
    | 53, _ => rfl
    | 54, _ => rfl
    | 55, _ => rfl
    | 56, _ => rfl
    | 57, _ => rfl
    | 58, _ => rfl
    | 59, _ => rfl
    | 60, _ => rfl
    | n + 61, hn => omega
  · rw [List.getElem?_eq_none (by rw [Array.length_toList]; omega), List.getElem?_eq_none (by show 61 ≤ i; omega)]

end Go.Proofs.YthpndgcaoeokeaaGreatDoor
namespace Go.Proofs.YthpndgcaoeokeaaGreatDoor
open Go.RowKit Go.Sort


theorem ruleC_one (fq iv ct un ws : Int) (a1 a2 a3 a4 : Option Addr) (n1 n2 n3 n4 c1 c2 c3 c4 : Nat) (tx : ByteArray) : ∀ v ∈ ruleC fq iv ct un (.slice a1 n1 c1) (.slice a2 n2 c2) (.slice a3 n3 c3) (.slice a4 n4 c4) ws tx, v.oneCell' = true := by
  intro v hv
  unfold ruleC at hv
  simp only [List.mem_cons, List.not_mem_nil, or_false] at hv
  rcases hv with rfl | rfl | rfl | rfl | rfl | rfl | rfl | rfl | rfl | rfl <;> rfl
theorem evC_one (u : ByteArray) (st ln : Int) (hr : Bool) (rc : List Value) (a1 a2 : Option Addr) (n1 n2 c1 c2 : Nat) (tr : Bool) (k : Int) (hrc : ∀ v ∈ rc, v.oneCell' = true) : ∀ v ∈ evC u st ln hr rc (.slice a1 n1 c1) (.slice a2 n2 c2) tr k, v.oneCell' = true := by
  intro v hv
  unfold evC at hv
  simp only [List.mem_append, List.mem_cons, List.not_mem_nil, or_false] at hv
  rcases hv with ((rfl | rfl | rfl | rfl) | h) | (rfl | rfl | rfl | rfl)
  · rfl
  · rfl
  · rfl
  · rfl
  · exact hrc v h
  · rfl
  · rfl
  · rfl
  · rfl
theorem ruleC_len (fq iv ct un ws : Int) (m md wk pl : Value) (tx : ByteArray) : (ruleC fq iv ct un m md wk pl ws tx).length = 10 := rfl
theorem evC_len (u : ByteArray) (st ln : Int) (hr : Bool) (rc : List Value) (ex xt : Value) (tr : Bool) (k : Int) (h : rc.length = 10) : (evC u st ln hr rc ex xt tr k).length = 18 := by
  unfold evC; simp [h]
theorem zeroEv_len : zeroEv.length = 18 := rfl
theorem setL_split : ∀ (vs : List Value) (o : Nat) (pre mid post : List Value), pre.length = o → mid.length = vs.length → setL o vs (pre ++ mid ++ post) = pre ++ vs ++ post
  | [], o, pre, mid, post, _, hm => by
    have : mid = [] := List.eq_nil_of_length_eq_zero hm
    subst this; rfl
  | v :: r, o, pre, mid, post, hp, hm => by
    cases mid with
    | nil => simp at hm
    | cons x m =>
      have e : (pre ++ x :: m ++ post).set o v = (pre ++ [v]) ++ m ++ post := by
        subst hp
        simp
      rw [setL, e, setL_split r (o + 1) (pre ++ [v]) m post (by simp [hp]) (by simpa using hm)]
      simp
theorem setL_all (vs cs : List Value) (h : cs.length = vs.length) : setL 0 vs cs = vs := by
  have := setL_split vs 0 [] cs [] rfl h
  simpa using this
theorem setL_rule (u : ByteArray) (st ln : Int) (hr : Bool) (rc rc' : List Value) (ex xt : Value) (tr : Bool) (k : Int) (h : rc'.length = rc.length) : setL 4 rc' (evC u st ln hr rc ex xt tr k) = evC u st ln hr rc' ex xt tr k := by
  unfold evC
  exact setL_split rc' 4 _ rc _ rfl h.symm

theorem RowAt.setsOther {w : World} {g b : Nat} {cs : List Value} {t : TypeId} (h : RowAt w g cs t) (hne : g ≠ b) : ∀ {vs : List Value} {o : Nat}, RowAt (w.setCells b o vs) g cs t := by
  intro vs
  induction vs generalizing w with
  | nil => intro o; exact h
  | cons v l ih => intro o; exact ih (h.other hne v)
theorem row_mid {w : World} {b o : Nat} {cs : List Value} {t : TypeId} {n : Nat} (h : RowAt w b cs t) (hn : o + n ≤ cs.length) : w.there b o n := fun j hj => by
  exact ⟨by rw [h.cell (List.getElem?_eq_getElem (show o + j < cs.length by omega))]; rfl, h.free⟩

theorem infoRule : (Tryz.prog.info? 76).map (·.size) = some 10 := by kernel_rfl
theorem infoEvent : (Tryz.prog.info? 79).map (·.size) = some 18 := by kernel_rfl

set_option maxRecDepth 100000 in
set_option maxHeartbeats 16000000 in
theorem eventsRead_any (s : List UInt8) (w : World) (hm : ML w) (hs : s.length ≤ 1048576) :
    Calls Tryz.prog 43 #[.string ⟨s.toArray⟩] w (EvPost s w) := by
  have hb1 : Below w.heap.size w (w.alloc (.cells zeroEv.toArray 79)) := (Below.refl _ _).alloc (Nat.le_refl _) _
  have z1 : (w.alloc (.cells zeroEv.toArray 79)).heap.size = w.heap.size + 1 := by simp
  have hr1 := RowAt.new w zeroEv 79
  have CP := readProperties_any s (w.alloc (.cells zeroEv.toArray 79)) (hm.on hb1) hs
  have hmz : 0 < w.heap.size := hm.1
  by_cases hE : ∃ F, IsProps s F
  case neg =>
    have HN : Hid (¬ ∃ F tr k, IsHead s F tr k) := hide (fun ⟨F, _, _, h⟩ => hE ⟨F, h.1⟩)
    have C : Hid (Calls Tryz.prog 74 #[.string ⟨s.toArray⟩] (w.alloc (.cells zeroEv.toArray 79)) fun E w' => E = .panicked (rsn 2) ∧ Below w.heap.size w w') := hide (CP.mono fun E w' ⟨h1, h2⟩ => by
      rcases h1 with ⟨F, g, h, _⟩ | ⟨_, h⟩
      · exact absurd ⟨F, h⟩ hE
      · exact ⟨h, hb1.trans (h2.mono (by omega))⟩)
    clear CP hE hr1 z1 hb1 hm hs
    go_enter Tryz.func43, Tryz.ntmps43
    go_wp2_with (go_at_call 74; refine (C.out).mono ?_; rintro e w3 ⟨rfl, hbw⟩)
    exact ⟨rfl, .inr (.inl ⟨HN.out, rfl⟩), hbw⟩
  case pos =>
    obtain ⟨F, hFp⟩ := hE
    have C : Hid (Calls Tryz.prog 74 #[.string ⟨s.toArray⟩] (w.alloc (.cells zeroEv.toArray 79)) fun E w' => ∃ g, E = .returned (.slice (some ⟨g, 0, none⟩) 9 9) ∧ w.heap.size + 1 ≤ g ∧ FieldsAt w' g F ∧ Below w.heap.size w w' ∧ RowAt w' w.heap.size zeroEv 79 ∧ ML w' ∧ w.heap.size ≤ w'.heap.size) := hide (CP.mono fun E w' ⟨h1, h2⟩ => by
      rcases h1 with ⟨F', g, h, h3, h4, h5⟩ | ⟨h, _⟩
      · rw [hFp.uniq h] at h5
        have := h2.size
        exact ⟨g, h3, by omega, h5, hb1.trans (h2.mono (by omega)), hr1.on h2, (hm.on hb1).on h2, by omega⟩
      · exact absurd ⟨F, hFp⟩ h)
    have hsm' := hFp.small
    have HSMALL := hide hsm'
    have hsm : ∀ k, ((F k).getD []).length ≤ 1048576 := fun k => Nat.le_trans (hsm' k) (by decide)
    have no : (∀ tr k, Begun F tr k → False) → ¬ ∃ F tr k, IsHead s F tr k := fun h ⟨F', tr, k, h1, h2⟩ => by rw [hFp.uniq h1] at h2; exact h tr k h2
    have HU := hide hFp
    clear CP hr1 z1 hb1 hm hs hsm' hFp
    have HSM := hide hsm
    have HNO := hide no
    clear hsm no
    go_enter Tryz.func43, Tryz.ntmps43
    go_wp2_with (go_at_call 74; refine (C.out).mono ?_; rintro e w3 ⟨g, rfl, hg, hF, hbw, hres, hm3, hwz⟩)
    have no := HNO.out
    have hsm := HSM.out
    refine wp_region_plain (GE g F w3.heap.size) (JE w3 w.heap.size g) (by kernel_rfl) (by kernel_rfl) (by kernel_rfl) ?_ ?_ ?_
    rotate_left 2
    · exact ⟨rfl, rfl, rfl, rfl, (Below.refl _ _).drew⟩
    · intro i o ho a w' hI hG
      have hi : i < 16 := (Array.getElem?_eq_some_iff.1 ho).1
      have hor : i = 0 ∨ i = 1 ∨ i = 2 ∨ i = 3 ∨ i = 4 ∨ i = 5 ∨ i = 6 ∨ i = 7 ∨ i = 8 ∨ i = 9 ∨ i = 10 ∨ i = 11 ∨ i = 12 ∨ i = 13 ∨ i = 14 ∨ i = 15 := by omega
      rcases hor with rfl | rfl | rfl | rfl | rfl | rfl | rfl | rfl | rfl | rfl | rfl | rfl | rfl | rfl | rfl | rfl <;> obtain rfl := Option.some.inj ho
      · -- 0
        exact op_value (v := a.eval (.tmp 3)) (by kernel_rfl) (stepE rfl (by decide) hI (Below.refl _ _) (show NE g F w3.heap.size 0 _ _ from hI.s3) (by kernel_rfl) rfl)
      · -- 1
        have e : a.eval (.tmp 7) = .slice (some ⟨g, 0, none⟩) 9 9 := GE_val (hG ⟨0, .data⟩ (by simp) rfl) (by decide)
        exact op_value (v := .pointer (some ⟨g, 0 * 2, none⟩)) (run_value (by show (Instr.indexAt 118 (a.eval (.tmp 7)) (.int .i64 0)).run _ _ = _; rw [e]; exact fieldAt_run g 0 (by decide) w')) (stepE rfl (by decide) hI (Below.refl _ _) (show NE g F w3.heap.size 1 _ _ from rfl) (by kernel_rfl) rfl)
      · -- 2
        have e : a.eval (.tmp 8) = .pointer (some ⟨g, 0 * 2, none⟩) := GE_val (hG ⟨1, .data⟩ (by simp) rfl) (by decide)
        exact op_value (v := .pointer (some ⟨g, 0 * 2, none⟩)) (run_value (by show (Instr.fieldAt 122 (a.eval (.tmp 8)) 0).run _ _ = _; rw [e]; exact fieldAddr_run _ w' rfl)) (stepE rfl (by decide) hI (Below.refl _ _) (show NE g F w3.heap.size 2 _ _ from rfl) (by kernel_rfl) rfl)
      · -- 3
        have e : a.eval (.tmp 9) = .pointer (some ⟨g, 0 * 2, none⟩) := GE_val (hG ⟨2, .data⟩ (by simp) rfl) (by decide)
        exact op_value (v := .string (ofL ((F 0).getD []))) (run_value (by show (Instr.loadAt 9 (a.eval (.tmp 9))).run _ _ = _; rw [e]; exact valLoad_run (hF.on hI.below) (by decide))) (stepE rfl (by decide) hI (Below.refl _ _) (show NE g F w3.heap.size 3 _ _ from rfl) (by kernel_rfl) rfl)
      · -- 4
        have e : a.eval (.tmp 10) = .string (ofL ((F 0).getD [])) := GE_val (hG ⟨3, .data⟩ (by simp) rfl) (by decide)
        refine op_call (R := fun E w'' => E = nmE (ofL ((F 0).getD [])) 2 ∧ Below w'.heap.size w' w'') (f := 75) (args := #[a.eval (.tmp 10), .int .i64 2]) (by kernel_rfl) (by rw [e]; exact wordsName_any (ofL ((F 0).getD [])) 2 w' (show (ofL ((F 0).getD [])).size ≤ maxLen from maxLen_le (hsm 0))) ?_ ?_ ?_
        · rintro v w'' ⟨he, hb⟩
          obtain ⟨hn, rfl⟩ := nmE_ret he
          exact (stepE rfl (by decide) hI hb (show NE g F w3.heap.size 4 _ _ from ⟨hn, rfl⟩) (by kernel_rfl) rfl)
        · rintro c w'' ⟨he, hb⟩
          obtain ⟨hn, rfl⟩ := nmE_pan he
          exact ⟨hI.defers, .inr (.inl ⟨no fun tr k hB => (by have := hB.uid; rw [hn] at this; cases this), rfl⟩), hbw.trans ((hI.below.trans (hb.mono hI.below.size)).mono hwz)⟩
        · rintro w'' ⟨he, _⟩
          exact nmE_out he
      · -- 5
        exact op_value (v := a.eval (.tmp 3)) (by kernel_rfl) (stepE rfl (by decide) hI (Below.refl _ _) (show NE g F w3.heap.size 5 _ _ from hI.s3) (by kernel_rfl) rfl)
      · -- 6
        have e : a.eval (.tmp 12) = .slice (some ⟨g, 0, none⟩) 9 9 := GE_val (hG ⟨5, .data⟩ (by simp) rfl) (by decide)
        exact op_value (v := .pointer (some ⟨g, 7 * 2, none⟩)) (run_value (by show (Instr.indexAt 118 (a.eval (.tmp 12)) (.int .i64 7)).run _ _ = _; rw [e]; exact fieldAt_run g 7 (by decide) w')) (stepE rfl (by decide) hI (Below.refl _ _) (show NE g F w3.heap.size 6 _ _ from rfl) (by kernel_rfl) rfl)
      · -- 7
        have e : a.eval (.tmp 13) = .pointer (some ⟨g, 7 * 2, none⟩) := GE_val (hG ⟨6, .data⟩ (by simp) rfl) (by decide)
        exact op_value (v := fldV (F 7)) (run_value (by show (Instr.loadAt 122 (a.eval (.tmp 13))).run _ _ = _; rw [e]; exact fieldLoad_run (hF.on hI.below) (by decide))) (stepE rfl (by decide) hI (Below.refl _ _) (show NE g F w3.heap.size 7 _ _ from rfl) (by kernel_rfl) rfl)
      · -- 8
        have e : a.eval (.tmp 14) = fldV (F 7) := GE_val (hG ⟨7, .data⟩ (by simp) rfl) (by decide)
        refine op_call (R := fun E w'' => E = boolE 2 (trF (F 7)) ∧ Below w'.heap.size w' w'') (f := 76) (args := #[a.eval (.tmp 14)]) (by kernel_rfl) (by rw [e]; exact readTransparent_any (F 7) w') ?_ ?_ ?_
        · rintro v w'' ⟨he, hb⟩
          obtain ⟨z, hz, rfl⟩ := boolE_ret he
          exact (stepE rfl (by decide) hI hb (show NE g F w3.heap.size 8 _ _ from ⟨z, hz, rfl⟩) (by kernel_rfl) rfl)
        · rintro c w'' ⟨he, hb⟩
          obtain ⟨hz, rfl⟩ := boolE_pan he
          exact ⟨hI.defers, .inr (.inl ⟨no fun tr k hB => (by have := hB.tr; rw [hz] at this; cases this), rfl⟩), hbw.trans ((hI.below.trans (hb.mono hI.below.size)).mono hwz)⟩
        · rintro w'' ⟨he, _⟩
          exact boolE_out he
      · -- 9
        exact op_value (v := a.eval (.tmp 3)) (by kernel_rfl) (stepE rfl (by decide) hI (Below.refl _ _) (show NE g F w3.heap.size 9 _ _ from hI.s3) (by kernel_rfl) rfl)
      · -- 10
        have e : a.eval (.tmp 16) = .slice (some ⟨g, 0, none⟩) 9 9 := GE_val (hG ⟨9, .data⟩ (by simp) rfl) (by decide)
        exact op_value (v := .pointer (some ⟨g, 8 * 2, none⟩)) (run_value (by show (Instr.indexAt 118 (a.eval (.tmp 16)) (.int .i64 8)).run _ _ = _; rw [e]; exact fieldAt_run g 8 (by decide) w')) (stepE rfl (by decide) hI (Below.refl _ _) (show NE g F w3.heap.size 10 _ _ from rfl) (by kernel_rfl) rfl)
      · -- 11
        have e : a.eval (.tmp 17) = .pointer (some ⟨g, 8 * 2, none⟩) := GE_val (hG ⟨10, .data⟩ (by simp) rfl) (by decide)
        exact op_value (v := fldV (F 8)) (run_value (by show (Instr.loadAt 122 (a.eval (.tmp 17))).run _ _ = _; rw [e]; exact fieldLoad_run (hF.on hI.below) (by decide))) (stepE rfl (by decide) hI (Below.refl _ _) (show NE g F w3.heap.size 11 _ _ from rfl) (by kernel_rfl) rfl)
      · -- 12
        have e : a.eval (.tmp 18) = fldV (F 8) := GE_val (hG ⟨11, .data⟩ (by simp) rfl) (by decide)
        refine op_call (R := fun E w'' => E = optE 2 (stF (F 8)) ∧ Below w'.heap.size w' w'') (f := 77) (args := #[a.eval (.tmp 18)]) (by kernel_rfl) (by rw [e]; exact readStatus_any (F 8) w') ?_ ?_ ?_
        · rintro v w'' ⟨he, hb⟩
          obtain ⟨z, hz, rfl⟩ := optE_ret he
          exact (stepE rfl (by decide) hI hb (show NE g F w3.heap.size 12 _ _ from ⟨z, hz, rfl⟩) (by kernel_rfl) rfl)
        · rintro c w'' ⟨he, hb⟩
          obtain ⟨hz, rfl⟩ := optE_pan he
          exact ⟨hI.defers, .inr (.inl ⟨no fun tr k hB => (by have := hB.st; rw [hz] at this; cases this), rfl⟩), hbw.trans ((hI.below.trans (hb.mono hI.below.size)).mono hwz)⟩
        · rintro w'' ⟨he, _⟩
          exact optE_out he
      · -- 13
        obtain ⟨hu, t0⟩ := GE_val (hG ⟨4, .data⟩ (by simp) rfl) (by decide)
        obtain ⟨tr, q1, t1⟩ := GE_val (hG ⟨8, .data⟩ (by simp) rfl) (by decide)
        obtain ⟨k, q2, t2⟩ := GE_val (hG ⟨12, .data⟩ (by simp) rfl) (by decide)
        exact op_value (v := evV (ofL ((F 0).getD [])) 0 0 false zeroRule (.slice none 0 0) (.slice none 0 0) tr k) (run_value (by simp only [List.map_toArray, List.map_cons, List.map_nil]; rw [show a.eval (.tmp 11) = _ from t0, show a.eval (.tmp 15) = _ from t1, show a.eval (.tmp 19) = _ from t2]; exact buildEv_run ..)) (stepE rfl (by decide) hI (Below.refl _ _) (show NE g F w3.heap.size 13 _ _ from ⟨tr, k, ⟨hu, q1, q2⟩, rfl⟩) (by kernel_rfl) rfl)
      · -- 14
        exact op_value (v := .pointer (some ⟨w'.heap.size, 0, none⟩)) (w' := w'.alloc (.cells zeroEv.toArray 79)) (by kernel_rfl) (stepE rfl (by decide) hI ((Below.refl _ _).alloc (Nat.le_refl _) _) (show NE g F w3.heap.size 14 _ _ from ⟨_, rfl, hI.below.size, zeroEv, rfl, RowAt.new _ _ _⟩) (by kernel_rfl) rfl)
      · -- 15
        obtain ⟨b, eb, hBb, cs, hcs, hrow'⟩ := GE_val (hG ⟨14, .data⟩ (by simp) rfl) (by decide)
        have hv : EV F (a.eval (.tmp 20)) := GE_val (hG ⟨13, .data⟩ (by simp) rfl) (by decide)
        obtain ⟨w'', hrun, hbl, hgr, hrb⟩ := storeE_ok hrow' hcs hBb hI.below hv
        refine op_skip (w' := w'') (run_unit (by show (Instr.storeAt 79 (a.eval (.tmp 4)) (a.eval (.tmp 20))).run _ _ = _; rw [show a.eval (.tmp 4) = _ from eb]; exact hrun)) ⟨⟨hI.size, hI.defers, hI.s2, hI.s3, hbl⟩, ?_, fun j oj hoj hj _ hg => ?_⟩
        · unfold GE; rw [if_pos rfl]; exact ⟨b, eb, hBb, hrb⟩
        · unfold GE at hg ⊢
          rw [if_neg hj] at hg ⊢
          exact NE.gr hg hgr
    · intro a w4 hI hG
      have g15 := hG 15 (by decide)
      unfold GE at g15
      rw [if_pos rfl] at g15
      obtain ⟨b, eb, hBb, tr, k, hB, hrow4⟩ := g15
      obtain ⟨f, rfl, hfe⟩ := act_lit61 a hI.size hI.defers
      have e2 := (hfe 2).symm.trans hI.s2
      have e3 := (hfe 3).symm.trans hI.s3
      have e4 := (hfe 4).symm.trans eb
      have hb4 := hI.below
      have hF4 := hF.on hb4
      have hm4 := hm3.on hb4
      have hres4 := hres.on hb4
      have hbw4 : Below w.heap.size w w4 := hbw.trans (hb4.mono hwz)
      have hlt := hF.lt
      have hgb : g ≠ b := by omega
      have hrb : w.heap.size ≠ b := by omega
      have hbB : w.heap.size ≤ b := by omega
      have hmb : 0 ≠ b := by omega
      have HD : Hid (IsHead s F tr k) := hide ⟨HU.out, hB⟩
      clear hI hG hfe hF hm3 hres hb4 hbw HNO no HU hlt hg hBb hwz hsm hB C
      rw [e2, e3, e4]
      have v1 : w4.cell? ⟨g, 2, none⟩ = some (.string ⟨((F 1).getD []).toArray⟩) := hF4.val 1 (by decide)
      have CT := fun W => eventsTime_any (ofL ((F 1).getD [])) W
      rw [timeE_opt] at CT
      cases ht : timF ((F 1).getD []) with
      | none =>
        rw [ht] at CT
        unfold optE at CT
        have HX : Hid (∃ F tr k, IsHead s F tr k ∧ ¬ ∃ st ln ex xt, TimesAre F st ln ex xt) := hide ⟨F, tr, k, HD.out, fun ⟨_, _, _, _, h⟩ => by have := h.hst; rw [ht] at this; cases this⟩
        have C1 := hide CT
        clear CT ht
        go_wp2_with (go_at_call 78; refine (C1.out _).mono ?_; rintro e w5 ⟨rfl, hb5⟩)
        exact ⟨rfl, .inr (.inr (.inl ⟨HX.out, rfl⟩)), hbw4.trans (hb5.mono hbw4.size)⟩
      | some st =>
        rw [ht] at CT
        unfold optE at CT
        have hstb := timF_bd ht
        have HT := hide ht
        have C1 := hide CT
        clear CT ht
        go_wp2_with (go_at_call 78; refine (C1.out _).mono ?_; rintro e w5 ⟨rfl, hb5⟩; have hr5 := hrow4.on hb5; have y1 := hr5.cell (k := 1) rfl; have z1 := hr5.free (k := 1))
        have hrow6 : RowAt (w5.setCell ⟨b, 1, none⟩ (.int .i64 st)) b (evC (ofL ((F 0).getD [])) st 0 false zeroRule (.slice none 0 0) (.slice none 0 0) tr k) 79 := hr5.set _
        have hF6 := (hF4.on hb5).other hgb (i := 1) (.int .i64 st)
        have hm6 := (hm4.on hb5).other hmb (i := 1) (.int .i64 st)
        have hres6 := (hres4.on hb5).other hrb (k := 1) (.int .i64 st)
        have hbw6 : Below w.heap.size w (w5.setCell ⟨b, 1, none⟩ (.int .i64 st)) := (hbw4.trans (hb5.mono hbw4.size)).setCell hbB _
        clear hr5 y1 z1 hb5 hF4 hm4 hres4 hbw4 hrow4 v1
        generalize w5.setCell ⟨b, 1, none⟩ (.int .i64 st) = w6 at *
        have hsm := HSM.out
        refine wp_region_plain (GL g b F st tr k) (JL w w.heap.size g b F st tr k) (by kernel_rfl) (by kernel_rfl) (by kernel_rfl) ?_ ?_ ?_
        rotate_left 2
        · exact ⟨rfl, rfl, rfl, rfl, rfl, hF6.drewn, hm6, ⟨0, hrow6⟩, hres6, hbw6.drew⟩
        · intro i o ho a w' hI hG
          have hi : i < 11 := (Array.getElem?_eq_some_iff.1 ho).1
          have hor : i = 0 ∨ i = 1 ∨ i = 2 ∨ i = 3 ∨ i = 4 ∨ i = 5 ∨ i = 6 ∨ i = 7 ∨ i = 8 ∨ i = 9 ∨ i = 10 := by omega
          rcases hor with rfl | rfl | rfl | rfl | rfl | rfl | rfl | rfl | rfl | rfl | rfl <;> obtain rfl := Option.some.inj ho
          · -- 0
            exact op_value (v := .pointer (some ⟨b, 1, none⟩)) (run_value (by show (Instr.fieldAt 79 (a.eval (.tmp 4)) 1).run _ _ = _; rw [hI.s4]; exact evAddr1_run b w')) (stepL rfl (by decide) hI (Below.refl _ _) (show NL g b F st 0 _ from rfl) (by kernel_rfl) rfl)
          · -- 1
            have e : a.eval (.tmp 27) = .pointer (some ⟨b, 1, none⟩) := GL_val (hG ⟨0, .data⟩ (by simp) rfl) (by decide)
            obtain ⟨z, hz⟩ := hI.row
            exact op_value (v := .int .i64 st) (run_value (by show (Instr.loadAt 3 (a.eval (.tmp 27))).run _ _ = _; rw [e]; exact intLoad_run (hz.cell (k := 1) rfl))) (stepL rfl (by decide) hI (Below.refl _ _) (show NL g b F st 1 _ from rfl) (by kernel_rfl) rfl)
          · -- 2
            exact op_value (v := a.eval (.tmp 3)) (by kernel_rfl) (stepL rfl (by decide) hI (Below.refl _ _) (show NL g b F st 2 _ from hI.s3) (by kernel_rfl) rfl)
          · -- 3
            have e : a.eval (.tmp 29) = .slice (some ⟨g, 0, none⟩) 9 9 := GL_val (hG ⟨2, .data⟩ (by simp) rfl) (by decide)
            exact op_value (v := .pointer (some ⟨g, 2 * 2, none⟩)) (run_value (by show (Instr.indexAt 118 (a.eval (.tmp 29)) (.int .i64 2)).run _ _ = _; rw [e]; exact fieldAt_run g 2 (by decide) w')) (stepL rfl (by decide) hI (Below.refl _ _) (show NL g b F st 3 _ from rfl) (by kernel_rfl) rfl)
          · -- 4
            have e : a.eval (.tmp 30) = .pointer (some ⟨g, 2 * 2, none⟩) := GL_val (hG ⟨3, .data⟩ (by simp) rfl) (by decide)
            exact op_value (v := fldV (F 2)) (run_value (by show (Instr.loadAt 122 (a.eval (.tmp 30))).run _ _ = _; rw [e]; exact fieldLoad_run hI.fields (by decide))) (stepL rfl (by decide) hI (Below.refl _ _) (show NL g b F st 4 _ from rfl) (by kernel_rfl) rfl)
          · -- 5
            exact op_value (v := a.eval (.tmp 3)) (by kernel_rfl) (stepL rfl (by decide) hI (Below.refl _ _) (show NL g b F st 5 _ from hI.s3) (by kernel_rfl) rfl)
          · -- 6
            have e : a.eval (.tmp 32) = .slice (some ⟨g, 0, none⟩) 9 9 := GL_val (hG ⟨5, .data⟩ (by simp) rfl) (by decide)
            exact op_value (v := .pointer (some ⟨g, 3 * 2, none⟩)) (run_value (by show (Instr.indexAt 118 (a.eval (.tmp 32)) (.int .i64 3)).run _ _ = _; rw [e]; exact fieldAt_run g 3 (by decide) w')) (stepL rfl (by decide) hI (Below.refl _ _) (show NL g b F st 6 _ from rfl) (by kernel_rfl) rfl)
          · -- 7
            have e : a.eval (.tmp 33) = .pointer (some ⟨g, 3 * 2, none⟩) := GL_val (hG ⟨6, .data⟩ (by simp) rfl) (by decide)
            exact op_value (v := fldV (F 3)) (run_value (by show (Instr.loadAt 122 (a.eval (.tmp 33))).run _ _ = _; rw [e]; exact fieldLoad_run hI.fields (by decide))) (stepL rfl (by decide) hI (Below.refl _ _) (show NL g b F st 7 _ from rfl) (by kernel_rfl) rfl)
          · -- 8
            have e1 : a.eval (.tmp 28) = .int .i64 st := GL_val (hG ⟨1, .data⟩ (by simp) rfl) (by decide)
            have e4 : a.eval (.tmp 31) = fldV (F 2) := GL_val (hG ⟨4, .data⟩ (by simp) rfl) (by decide)
            have e7 : a.eval (.tmp 34) = fldV (F 3) := GL_val (hG ⟨7, .data⟩ (by simp) rfl) (by decide)
            refine op_call (R := fun E w'' => E = optE 1 (lnF st (F 2) (F 3)) ∧ Below w'.heap.size w' w'') (f := 79) (args := #[a.eval (.tmp 28), a.eval (.tmp 31), a.eval (.tmp 34)]) (by kernel_rfl) (by rw [e1, e4, e7]; exact eventLength_any st (F 2) (F 3) w' hstb.1 hstb.2 (maxLen_le (hsm 3))) ?_ ?_ ?_
            · rintro v w'' ⟨he, hb⟩
              obtain ⟨z, hz, rfl⟩ := optE_ret he
              exact (stepL rfl (by decide) hI hb (show NL g b F st 8 _ from ⟨z, hz, rfl⟩) (by kernel_rfl) rfl)
            · rintro c w'' ⟨he, hb⟩
              obtain ⟨hz, rfl⟩ := optE_pan he
              exact ⟨hI.defers, .inr (.inr (.inl ⟨⟨F, tr, k, HD.out, fun ⟨st', _, _, _, h⟩ => by have h1 := h.hst; rw [HT.out] at h1; cases h1; have := h.hln; rw [hz] at this; cases this⟩, rfl⟩)), hI.below.trans (hb.mono hI.below.size)⟩
            · rintro w'' ⟨he, _⟩
              exact optE_out he
          · -- 9
            exact op_value (v := .pointer (some ⟨b, 2, none⟩)) (run_value (by show (Instr.fieldAt 79 (a.eval (.tmp 4)) 2).run _ _ = _; rw [hI.s4]; exact evAddr2_run b w')) (stepL rfl (by decide) hI (Below.refl _ _) (show NL g b F st 9 _ from rfl) (by kernel_rfl) rfl)
          · -- 10
            obtain ⟨z, hz, t8⟩ := GL_val (hG ⟨8, .data⟩ (by simp) rfl) (by decide)
            have t9 : a.eval (.tmp 36) = .pointer (some ⟨b, 2, none⟩) := GL_val (hG ⟨9, .data⟩ (by simp) rfl) (by decide)
            obtain ⟨y, hy⟩ := hI.row
            refine op_skip (w' := w'.setCell ⟨b, 2, none⟩ (.int .i64 z)) (run_unit (by show (Instr.storeAt 3 (a.eval (.tmp 36)) (a.eval (.tmp 35))).run _ _ = _; rw [t9, show a.eval (.tmp 35) = _ from t8]; exact intStore_run (hy.cell (k := 2) rfl) hy.free)) ⟨⟨hI.size, hI.defers, hI.s2, hI.s3, hI.s4, hI.fields.other hgb _, hI.ml.other hmb _, ⟨z, hy.set _⟩, hI.res.other hrb _, hI.below.setCell hbB _⟩, ?_, fun j oj hoj hj _ hg => ?_⟩
            · unfold GL; rw [if_pos rfl]; exact ⟨z, hz, hy.set _⟩
            · unfold GL at hg ⊢
              rw [if_neg hj] at hg ⊢
              exact hg
        · intro a w7 hI hG
          have g10 := hG 10 (by decide)
          unfold GL at g10
          rw [if_pos rfl] at g10
          obtain ⟨ln, hln, hrow7⟩ := g10
          obtain ⟨f', rfl, hfe⟩ := act_lit61 a hI.size hI.defers
          have q2 := (hfe 2).symm.trans hI.s2
          have q3 := (hfe 3).symm.trans hI.s3
          have q4 := (hfe 4).symm.trans hI.s4
          have hF7 := hI.fields
          have hm7 := hI.ml
          have hres7 := hI.res
          have hbw7 := hI.below
          clear hI hG hfe hF6 hm6 hrow6 hres6 hbw6 e2 e3 e4 hsm hstb C1
          rw [q2, q3, q4]
          have v5 : w7.cell? ⟨g, 10, none⟩ = some (.string ⟨((F 5).getD []).toArray⟩) := hF7.val 5 (by decide)
          have t5 : w7.cell? ⟨g, 11, none⟩ = some (.bool (F 5).isSome) := hF7.there 5 (by decide)
          have CX := readTimes_any (F 5) w7 hm7 (HSM.out 5)
          have HLN := hide hln
          clear hln
          cases hx : tsF (F 5) with
          | none =>
            have C2 : Hid (Calls Tryz.prog 80 #[.agg #[.string ⟨((F 5).getD []).toArray⟩, .bool (F 5).isSome]] w7 fun E w' => E = .panicked (rsn 1) ∧ Below w7.heap.size w7 w') := hide (CX.mono fun E w' ⟨h1, h2⟩ => by
              rcases h1 with ⟨zs, v, h, _⟩ | ⟨_, h⟩
              · rw [hx] at h; cases h
              · exact ⟨h, h2⟩)
            have HX : Hid (∃ F tr k, IsHead s F tr k ∧ ¬ ∃ st ln ex xt, TimesAre F st ln ex xt) := hide ⟨F, tr, k, HD.out, fun ⟨_, _, _, _, h⟩ => by have := h.hex; rw [hx] at this; cases this⟩
            clear CX hx
            go_wp2_with (go_at_call 80; refine (C2.out).mono ?_; rintro e w8 ⟨rfl, hb8⟩)
            exact ⟨rfl, .inr (.inr (.inl ⟨HX.out, rfl⟩)), hbw7.trans (hb8.mono hbw7.size)⟩
          | some ex =>
            have C2 : Hid (Calls Tryz.prog 80 #[.agg #[.string ⟨((F 5).getD []).toArray⟩, .bool (F 5).isSome]] w7 fun E w' => ∃ v, E = .returned v ∧ IntsW w' v ex ∧ Below w7.heap.size w7 w') := hide (CX.mono fun E w' ⟨h1, h2⟩ => by
              rcases h1 with ⟨zs, v, h, he, hi⟩ | ⟨h, _⟩
              · rw [hx] at h; cases h; exact ⟨v, he, hi, h2⟩
              · rw [hx] at h; cases h)
            have HEX := hide hx
            clear CX hx
            go_wp2_with (go_at_call_of 80 (Value.agg #[Value.string ⟨((F 5).getD []).toArray⟩, Value.bool (F 5).isSome]); refine (C2.out).mono ?_; rintro e w8 ⟨exv, rfl, hi8, hb8⟩; obtain ⟨a8, c8, rfl⟩ := hi8.form; have hr8 := hrow7.on hb8; have y14 := hr8.cell (k := 14) rfl; have z14 := hr8.free (k := 14); have F8 := (hF7.on hb8).other hgb (i := 14) (.slice a8 ex.length c8); have v6 : (w8.setCell ⟨b, 14, none⟩ (.slice a8 ex.length c8)).cell? ⟨g, 12, none⟩ = some (.string ⟨((F 6).getD []).toArray⟩) := F8.val 6 (by decide); have t6 : (w8.setCell ⟨b, 14, none⟩ (.slice a8 ex.length c8)).cell? ⟨g, 13, none⟩ = some (.bool (F 6).isSome) := F8.there 6 (by decide))
            have hrow9 : RowAt (w8.setCell ⟨b, 14, none⟩ (.slice a8 ex.length c8)) b (evC (ofL ((F 0).getD [])) st ln false zeroRule (.slice a8 ex.length c8) (.slice none 0 0) tr k) 79 := hr8.set _
            have hm9 := (hm7.on hb8).other hmb (i := 14) (.slice a8 ex.length c8)
            have hres9 := (hres7.on hb8).other hrb (k := 14) (.slice a8 ex.length c8)
            have hbw9 : Below w.heap.size w (w8.setCell ⟨b, 14, none⟩ (.slice a8 ex.length c8)) := (hbw7.trans (hb8.mono hbw7.size)).setCell hbB _
            have hi9 := hi8.gr tyIntE (Gr.set (i := 14) hr8 (.slice a8 ex.length c8))
            clear hr8 y14 z14 hb8 hF7 hm7 hres7 hbw7 hrow7 v5 t5 hi8 C2
            generalize w8.setCell ⟨b, 14, none⟩ (.slice a8 ex.length c8) = w9 at *
            have CY := readTimes_any (F 6) w9 hm9 (HSM.out 6)
            cases hy : tsF (F 6) with
            | none =>
              have C3 : Hid (Calls Tryz.prog 80 #[.agg #[.string ⟨((F 6).getD []).toArray⟩, .bool (F 6).isSome]] w9 fun E w' => E = .panicked (rsn 1) ∧ Below w9.heap.size w9 w') := hide (CY.mono fun E w' ⟨h1, h2⟩ => by
                rcases h1 with ⟨zs, v, h, _⟩ | ⟨_, h⟩
                · rw [hy] at h; cases h
                · exact ⟨h, h2⟩)
              have HX : Hid (∃ F tr k, IsHead s F tr k ∧ ¬ ∃ st ln ex xt, TimesAre F st ln ex xt) := hide ⟨F, tr, k, HD.out, fun ⟨_, _, _, _, h⟩ => by have := h.hxt; rw [hy] at this; cases this⟩
              clear CY hy
              go_wp2_with (go_at_call 80; refine (C3.out).mono ?_; rintro e w10 ⟨rfl, hb10⟩)
              exact ⟨rfl, .inr (.inr (.inl ⟨HX.out, rfl⟩)), hbw9.trans (hb10.mono hbw9.size)⟩
            | some xt =>
              have C3 : Hid (Calls Tryz.prog 80 #[.agg #[.string ⟨((F 6).getD []).toArray⟩, .bool (F 6).isSome]] w9 fun E w' => ∃ v, E = .returned v ∧ IntsW w' v xt ∧ Below w9.heap.size w9 w') := hide (CY.mono fun E w' ⟨h1, h2⟩ => by
                rcases h1 with ⟨zs, v, h, he, hi⟩ | ⟨h, _⟩
                · rw [hy] at h; cases h; exact ⟨v, he, hi, h2⟩
                · rw [hy] at h; cases h)
              have HTA : Hid (TimesAre F st ln ex xt) := hide ⟨HT.out, HLN.out, HEX.out, hy⟩
              clear CY hy
              cases h4 : F 4 with
              | none =>
                have H4 := hide h4
                clear h4
                go_wp2_with (first
                  | (go_at_call 80; refine (C3.out).mono ?_; rintro e w10 ⟨xtv, rfl, hi10, hb10⟩; obtain ⟨a9, c9, rfl⟩ := hi10.form; have hr10 := hrow9.on hb10; have y15 := hr10.cell (k := 15) rfl; have z15 := hr10.free (k := 15); have F11 := (F8.on hb10).other hgb (i := 15) (.slice a9 xt.length c9); have t4 : (w10.setCell ⟨b, 15, none⟩ (.slice a9 xt.length c9)).cell? ⟨g, 9, none⟩ = some (.bool false) := (by have := F11.there 4 (by decide); rw [H4.out] at this; exact this); have row11 := hr10.set (k := 15) (.slice a9 xt.length c9); have y3 := row11.cell (k := 3) rfl; have z3 := row11.free (k := 3); have rowE : RowAt ((w10.setCell ⟨b, 15, none⟩ (.slice a9 xt.length c9)).setCell ⟨b, 3, none⟩ (.bool false)) b (evC (ofL ((F 0).getD [])) st ln false zeroRule (.slice a8 ex.length c8) (.slice a9 xt.length c9) tr k) 79 := row11.set (k := 3) (.bool false); have x3 := rowE.cell (k := 3) rfl; have resF := ((hres9.on hb10).other hrb (k := 15) (.slice a9 xt.length c9)).other hrb (k := 3) (.bool false))
                  | (refine wpList_load_mid rfl 79 (.tmp 4) rfl b 0 rfl (evC (ofL ((F 0).getD [])) st ln false zeroRule (.slice a8 ex.length c8) (.slice a9 xt.length c9) tr k) _ (row_range rowE) Tryz.underlying79 rfl (by kernel_rfl) ?_)
                  | (refine wpList_store_mid rfl 79 (.tmp 2) (.tmp 60) rfl w.heap.size 0 (evC (ofL ((F 0).getD [])) st ln false zeroRule (.slice a8 ex.length c8) (.slice a9 xt.length c9) tr k).toArray rfl rfl (row_there resF rfl) (by kernel_rfl) (all_oneCell_toArray (evC_one _ _ _ _ _ _ _ _ _ _ _ _ _ (ruleC_one _ _ _ _ _ _ _ _ _ _ _ _ _ _ _ _ _ _))) ?_))
                have hbF : Below w.heap.size w ((w10.setCell ⟨b, 15, none⟩ (.slice a9 xt.length c9)).setCell ⟨b, 3, none⟩ (.bool false)) := ((hbw9.trans (hb10.mono hbw9.size)).setCell hbB _).setCell hbB _
                have gF : Gr 79 w10 ((w10.setCell ⟨b, 15, none⟩ (.slice a9 xt.length c9)).setCell ⟨b, 3, none⟩ (.bool false)) := (Gr.set (i := 15) hr10 (.slice a9 xt.length c9)).trans (Gr.set (i := 3) row11 (.bool false))
                obtain ⟨hgr, hblf, rowF⟩ := sets2 (vs := (evC (ofL ((F 0).getD [])) st ln false zeroRule (.slice a8 ex.length c8) (.slice a9 xt.length c9) tr k)) (o := 0) resF hbF (Nat.le_refl _)
                rw [setL_all _ zeroEv (by rw [zeroEv_len, evC_len _ _ _ _ _ _ _ _ _ rfl])] at rowF
                exact bodyPost_ret (v := evV (ofL ((F 0).getD [])) st ln false zeroRule (.slice a8 ex.length c8) (.slice a9 xt.length c9) tr k) (results_cell Tryz.results43 rfl (run_loadVar_mid _ w.heap.size 0 79 (evC (ofL ((F 0).getD [])) st ln false zeroRule (.slice a8 ex.length c8) (.slice a9 xt.length c9) tr k) _ (row_range rowF) Tryz.underlying79 rfl (by kernel_rfl))) rfl
                  ⟨.inl ⟨F, tr, k, st, ln, ex, xt, HD.out, HTA.out, _, _, ((hi9.on hb10).gr tyIntE gF).gr tyIntE hgr, (hi10.gr tyIntE gF).gr tyIntE hgr, .inl ⟨H4.out, rfl⟩⟩, hblf⟩
              | some v =>
                have H4 := hide h4
                have HV : v.length ≤ 2000 := (by have := HSMALL.out 4; rw [h4] at this; exact this)
                clear h4
                go_wp2_with (go_at_call 80; refine (C3.out).mono ?_; rintro e w10 ⟨xtv, rfl, hi10, hb10⟩; obtain ⟨a9, c9, rfl⟩ := hi10.form; have hr10 := hrow9.on hb10; have y15 := hr10.cell (k := 15) rfl; have z15 := hr10.free (k := 15); have F11 := (F8.on hb10).other hgb (i := 15) (.slice a9 xt.length c9); have t4 : (w10.setCell ⟨b, 15, none⟩ (.slice a9 xt.length c9)).cell? ⟨g, 9, none⟩ = some (.bool true) := (by have := F11.there 4 (by decide); rw [H4.out] at this; exact this); have row11 := hr10.set (k := 15) (.slice a9 xt.length c9); have y3 := row11.cell (k := 3) rfl; have z3 := row11.free (k := 3); have row12 := row11.set (k := 3) (.bool true); have x3 := row12.cell (k := 3) rfl; have F12 := F11.other hgb (i := 3) (.bool true); have v4 : ((w10.setCell ⟨b, 15, none⟩ (.slice a9 xt.length c9)).setCell ⟨b, 3, none⟩ (.bool true)).cell? ⟨g, 8, none⟩ = some (.string ⟨v.toArray⟩) := (by have := F12.val 4 (by decide); rw [H4.out] at this; exact this))
                rename_i K1 hK1 K2 hK2
                have hm12 := ((hm9.on hb10).other hmb (i := 15) (.slice a9 xt.length c9)).other hmb (i := 3) (.bool true)
                have hbF : Below w.heap.size w ((w10.setCell ⟨b, 15, none⟩ (.slice a9 xt.length c9)).setCell ⟨b, 3, none⟩ (.bool true)) := ((hbw9.trans (hb10.mono hbw9.size)).setCell hbB _).setCell hbB _
                have gF : Gr 79 w10 ((w10.setCell ⟨b, 15, none⟩ (.slice a9 xt.length c9)).setCell ⟨b, 3, none⟩ (.bool true)) := (Gr.set (i := 15) hr10 (.slice a9 xt.length c9)).trans (Gr.set (i := 3) row11 (.bool true))
                have resF := ((hres9.on hb10).other hrb (k := 15) (.slice a9 xt.length c9)).other hrb (k := 3) (.bool true)
                have row12' : RowAt ((w10.setCell ⟨b, 15, none⟩ (.slice a9 xt.length c9)).setCell ⟨b, 3, none⟩ (.bool true)) b (evC (ofL ((F 0).getD [])) st ln true zeroRule (.slice a8 ex.length c8) (.slice a9 xt.length c9) tr k) 79 := row12
                have i1 := (hi9.on hb10).gr tyIntE gF
                have i2 := hi10.gr tyIntE gF
                clear row12 x3 F12 v4 row11 y3 z3 t4 F11 y15 z15 hr10 hi10 hb10 gF hi9 hrow9 hres9 hbw9 F8 C3 v6 t6
                generalize ((w10.setCell ⟨b, 15, none⟩ (.slice a9 xt.length c9)).setCell ⟨b, 3, none⟩ (.bool true)) = w12 at *
                refine (rulesRead_any v w12 hm12 (by omega)).mono ?_
                rintro e w13 ⟨hR, hb13⟩
                rcases hR with ⟨F', r, m, md, wk, pl, hIR, hE, j1, j2, j3, j4⟩ | ⟨hno, rfl⟩
                case inr =>
                  go_wp2
                  exact ⟨rfl, .inr (.inr (.inr ⟨⟨F, tr, k, st, ln, ex, xt, v, HD.out, HTA.out, H4.out, hno⟩, rfl⟩)), hbF.trans (hb13.mono hbF.size)⟩
                case inl =>
                  obtain ⟨p1, rfl⟩ := j1.form
                  obtain ⟨p2, rfl⟩ := j2.form
                  obtain ⟨p3, rfl⟩ := j3.form
                  obtain ⟨p4, rfl⟩ := j4.form
                  have hE2 : e = .returned (.agg (ruleC r.fq r.iv r.ct r.un (.slice p1 r.ms.length r.ms.length) (.slice p2 r.mds.length r.mds.length) (.slice p3 r.wks.length r.wks.length) (.slice p4 r.pls.length r.pls.length) r.ws (txF F')).toArray) := hE
                  subst hE2
                  clear hE
                  have row13 := row12'.on hb13
                  have res13 := resF.on hb13
                  obtain ⟨g14, b14, row14⟩ := sets2 (vs := (ruleC r.fq r.iv r.ct r.un (.slice p1 r.ms.length r.ms.length) (.slice p2 r.mds.length r.mds.length) (.slice p3 r.wks.length r.wks.length) (.slice p4 r.pls.length r.pls.length) r.ws (txF F'))) (o := 4) row13 (hbF.trans (hb13.mono hbF.size)) hbB
                  rw [setL_rule _ _ _ _ zeroRule (ruleC r.fq r.iv r.ct r.un (.slice p1 r.ms.length r.ms.length) (.slice p2 r.mds.length r.mds.length) (.slice p3 r.wks.length r.wks.length) (.slice p4 r.pls.length r.pls.length) r.ws (txF F')) _ _ _ _ rfl] at row14
                  have res14 : RowAt (w13.setCells b 4 (ruleC r.fq r.iv r.ct r.un (.slice p1 r.ms.length r.ms.length) (.slice p2 r.mds.length r.mds.length) (.slice p3 r.wks.length r.wks.length) (.slice p4 r.pls.length r.pls.length) r.ws (txF F'))) w.heap.size zeroEv 79 := res13.setsOther hrb
                  obtain ⟨w14, hw14⟩ : ∃ w14, w14 = w13.setCells b 4 (ruleC r.fq r.iv r.ct r.un (.slice p1 r.ms.length r.ms.length) (.slice p2 r.mds.length r.mds.length) (.slice p3 r.wks.length r.wks.length) (.slice p4 r.pls.length r.pls.length) r.ws (txF F')) := ⟨_, rfl⟩
                  rw [← hw14] at g14 b14 row14 res14
                  have HW14 := hide hw14
                  clear hw14
                  have ht13 : w13.there b 4 (ruleC r.fq r.iv r.ct r.un (.slice p1 r.ms.length r.ms.length) (.slice p2 r.mds.length r.mds.length) (.slice p3 r.wks.length r.wks.length) (.slice p4 r.pls.length r.pls.length) r.ws (txF F')).toArray.size := row_mid row13 (by rw [evC_len _ _ _ _ _ _ _ _ _ rfl]; show 4 + (ruleC r.fq r.iv r.ct r.un (.slice p1 r.ms.length r.ms.length) (.slice p2 r.mds.length r.mds.length) (.slice p3 r.wks.length r.wks.length) (.slice p4 r.pls.length r.pls.length) r.ws (txF F')).length ≤ 18; rw [ruleC_len]; decide)
                  have hr14 := row_range row14
                  have ht14 : w14.there w.heap.size 0 (evC (ofL ((F 0).getD [])) st ln true (ruleC r.fq r.iv r.ct r.un (.slice p1 r.ms.length r.ms.length) (.slice p2 r.mds.length r.mds.length) (.slice p3 r.wks.length r.wks.length) (.slice p4 r.pls.length r.pls.length) r.ws (txF F')) (.slice a8 ex.length c8) (.slice a9 xt.length c9) tr k).toArray.size := row_there res14 (by show (evC (ofL ((F 0).getD [])) st ln true (ruleC r.fq r.iv r.ct r.un (.slice p1 r.ms.length r.ms.length) (.slice p2 r.mds.length r.mds.length) (.slice p3 r.wks.length r.wks.length) (.slice p4 r.pls.length r.pls.length) r.ws (txF F')) (.slice a8 ex.length c8) (.slice a9 xt.length c9) tr k).length = _; rw [zeroEv_len, evC_len _ _ _ _ _ _ _ _ _ rfl])
                  have o13 : (ruleC r.fq r.iv r.ct r.un (.slice p1 r.ms.length r.ms.length) (.slice p2 r.mds.length r.mds.length) (.slice p3 r.wks.length r.wks.length) (.slice p4 r.pls.length r.pls.length) r.ws (txF F')).toArray.all (·.oneCell') = true := all_oneCell_toArray (ruleC_one _ _ _ _ _ _ _ _ _ _ _ _ _ _ _ _ _ _)
                  have o14 : (evC (ofL ((F 0).getD [])) st ln true (ruleC r.fq r.iv r.ct r.un (.slice p1 r.ms.length r.ms.length) (.slice p2 r.mds.length r.mds.length) (.slice p3 r.wks.length r.wks.length) (.slice p4 r.pls.length r.pls.length) r.ws (txF F')) (.slice a8 ex.length c8) (.slice a9 xt.length c9) tr k).toArray.all (·.oneCell') = true := all_oneCell_toArray (evC_one _ _ _ _ _ _ _ _ _ _ _ _ _ (ruleC_one _ _ _ _ _ _ _ _ _ _ _ _ _ _ _ _ _ _))
                  have i13 : (Tryz.prog.info? 76).map (·.size) = some (ruleC r.fq r.iv r.ct r.un (.slice p1 r.ms.length r.ms.length) (.slice p2 r.mds.length r.mds.length) (.slice p3 r.wks.length r.wks.length) (.slice p4 r.pls.length r.pls.length) r.ws (txF F')).toArray.size := infoRule
                  have i14 : (Tryz.prog.info? 79).map (·.size) = some (evC (ofL ((F 0).getD [])) st ln true (ruleC r.fq r.iv r.ct r.un (.slice p1 r.ms.length r.ms.length) (.slice p2 r.mds.length r.mds.length) (.slice p3 r.wks.length r.wks.length) (.slice p4 r.pls.length r.pls.length) r.ws (txF F')) (.slice a8 ex.length c8) (.slice a9 xt.length c9) tr k).length := by rw [evC_len _ _ _ _ _ _ _ _ _ rfl]; exact infoEvent
                  have H13 := hide ht13
                  have H14 := hide ht14
                  have HR := hide hr14
                  have HO13 := hide o13
                  have HO14 := hide o14
                  have HI13 := hide i13
                  have HI14 := hide i14
                  clear ht13 ht14 hr14 o13 o14 i13 i14
                  refine hK2 _ _ ?_
                  clear hK2 K2
                  have HFIN := hide (And.intro g14 (And.intro b14 (And.intro res14 (And.intro i1 (And.intro i2 (And.intro hb13 (And.intro j1 (And.intro j2 (And.intro j3 (And.intro j4 hIR))))))))))
                  clear hIR j1 j2 j3 j4 row13 res13 g14 b14 row14 res14 i1 i2 row12' resF hbF hm12 hb13 eb q2 q3 q4 hm9
                  go_wp2_with (first
                    | (refine wpList_store_mid rfl 76 (.tmp 59) (.tmp 58) rfl b 4 (ruleC r.fq r.iv r.ct r.un (.slice p1 r.ms.length r.ms.length) (.slice p2 r.mds.length r.mds.length) (.slice p3 r.wks.length r.wks.length) (.slice p4 r.pls.length r.pls.length) r.ws (txF F')).toArray rfl rfl H13.out HI13.out HO13.out ?_; rw [show (ruleC r.fq r.iv r.ct r.un (.slice p1 r.ms.length r.ms.length) (.slice p2 r.mds.length r.mds.length) (.slice p3 r.wks.length r.wks.length) (.slice p4 r.pls.length r.pls.length) r.ws (txF F')).toArray.toList = (ruleC r.fq r.iv r.ct r.un (.slice p1 r.ms.length r.ms.length) (.slice p2 r.mds.length r.mds.length) (.slice p3 r.wks.length r.wks.length) (.slice p4 r.pls.length r.pls.length) r.ws (txF F')) from rfl, ← HW14.out])
                    | (refine wpList_load_mid rfl 79 (.tmp 4) rfl b 0 rfl (evC (ofL ((F 0).getD [])) st ln true (ruleC r.fq r.iv r.ct r.un (.slice p1 r.ms.length r.ms.length) (.slice p2 r.mds.length r.mds.length) (.slice p3 r.wks.length r.wks.length) (.slice p4 r.pls.length r.pls.length) r.ws (txF F')) (.slice a8 ex.length c8) (.slice a9 xt.length c9) tr k) _ HR.out Tryz.underlying79 rfl HI14.out ?_)
                    | (refine wpList_store_mid rfl 79 (.tmp 2) (.tmp 60) rfl w.heap.size 0 (evC (ofL ((F 0).getD [])) st ln true (ruleC r.fq r.iv r.ct r.un (.slice p1 r.ms.length r.ms.length) (.slice p2 r.mds.length r.mds.length) (.slice p3 r.wks.length r.wks.length) (.slice p4 r.pls.length r.pls.length) r.ws (txF F')) (.slice a8 ex.length c8) (.slice a9 xt.length c9) tr k).toArray rfl rfl H14.out HI14.out HO14.out ?_))
                  obtain ⟨g14, b14, res14, i1, i2, hb13, j1, j2, j3, j4, hIR⟩ := HFIN.out
                  obtain ⟨hgr, hblf, rowF⟩ := sets2 (vs := (evC (ofL ((F 0).getD [])) st ln true (ruleC r.fq r.iv r.ct r.un (.slice p1 r.ms.length r.ms.length) (.slice p2 r.mds.length r.mds.length) (.slice p3 r.wks.length r.wks.length) (.slice p4 r.pls.length r.pls.length) r.ws (txF F')) (.slice a8 ex.length c8) (.slice a9 xt.length c9) tr k)) (o := 0) res14 b14 (Nat.le_refl _)
                  rw [setL_all _ zeroEv (by rw [zeroEv_len, evC_len _ _ _ _ _ _ _ _ _ rfl])] at rowF
                  exact bodyPost_ret (v := evV (ofL ((F 0).getD [])) st ln true (ruleC r.fq r.iv r.ct r.un (.slice p1 r.ms.length r.ms.length) (.slice p2 r.mds.length r.mds.length) (.slice p3 r.wks.length r.wks.length) (.slice p4 r.pls.length r.pls.length) r.ws (txF F')) (.slice a8 ex.length c8) (.slice a9 xt.length c9) tr k) (results_cell Tryz.results43 rfl (run_loadVar_mid _ w.heap.size 0 79 (evC (ofL ((F 0).getD [])) st ln true (ruleC r.fq r.iv r.ct r.un (.slice p1 r.ms.length r.ms.length) (.slice p2 r.mds.length r.mds.length) (.slice p3 r.wks.length r.wks.length) (.slice p4 r.pls.length r.pls.length) r.ws (txF F')) (.slice a8 ex.length c8) (.slice a9 xt.length c9) tr k) _ (row_range rowF) Tryz.underlying79 rfl (by kernel_rfl))) rfl
                    ⟨.inl ⟨F, tr, k, st, ln, ex, xt, HD.out, HTA.out, _, _, ((i1.on hb13).gr tyIntE g14).gr tyIntE hgr, ((i2.on hb13).gr tyIntE g14).gr tyIntE hgr, .inr ⟨v, F', r, _, _, _, _, H4.out, hIR, (j1.gr tyIntE g14).gr tyIntE hgr, (j2.gr tyIntE g14).gr tyIntE hgr, (j3.gr tyWkE g14).gr tyWkE hgr, (j4.gr tyIntE g14).gr tyIntE hgr, rfl⟩⟩, hblf⟩
end Go.Proofs.YthpndgcaoeokeaaGreatDoor
