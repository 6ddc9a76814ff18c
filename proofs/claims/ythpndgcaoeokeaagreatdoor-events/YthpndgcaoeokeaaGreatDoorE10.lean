/- The document's rule (fallowref.rule): what is made, what goes back, one part more. The document's rule (fallowref.rule): its last region, which draws its order and has guards. A drawn region that copies two arrays into the results' variables (fallowref.fields). Structs and arrays made, stored and loaded whole, with the world behind named at once. Of no program. -/
import Derived.Test.YthpndgcaoeokeaaGreatDoorE9
import Derived.BigQuiet
import Derived.Test.YthpndgcaoeokeaaGreatDoorE8
namespace Go.Proofs.YthpndgcaoeokeaaGreatDoor
open Go.RowKit

theorem RuleLoop.drewN {w1 wr : World} {B R p hv g : Nat} {P : List ByteArray} {f : Nat → Option (List UInt8)} (h : RuleLoop w1 B R p hv g P f wr) (n : Nat) : RuleLoop w1 B R p hv g P f (wr.drewN n) :=
  ⟨⟨h.rule.cell, h.rule.text, h.rule.free⟩, ⟨h.have_.cell, h.have_.free⟩, h.res, h.strs, below_drewN h.below n, h.size, h.ok⟩
theorem Cells19.drewN {w : World} {p : Nat} (h : Cells19 w p) (n : Nat) : Cells19 (w.drewN n) p := h
theorem infoRefRule : (Tryz.prog.info? 243).map (·.size) = some 19 := by kernel_rfl
/-- the rule goes back as it lies: false -/
theorem row19_there {w : World} {R : Nat} {t : TypeId} {n : Nat} (h : RowAt w R zero19 t) (hn : n = 19) : w.there R 0 n := fun j hj => by
  have hl : zero19.length = 19 := rfl
  rw [Nat.zero_add]
  exact ⟨by rw [h.cell (List.getElem?_eq_getElem (show j < zero19.length by omega))]; rfl, h.free⟩

theorem setCells_size (b : Nat) : ∀ (vs : List Value) (o : Nat) (w : World), (w.setCells b o vs).heap.size = w.heap.size
  | [], _, _ => rfl
  | v :: r, o, w => by rw [World.setCells, setCells_size b r]; exact setCell_size _ _ _
theorem alloc_rule_run {o : Oper} (ho : o.op = .alloc 243) (a : Act) (w : World) : (execOp a.eval o).run Tryz.prog w = .ok (.value (.pointer (some ⟨w.heap.size, 0, none⟩))) (w.alloc (.cells zero19.toArray 243)) := by
  obtain ⟨_, _, _, _, _, _⟩ := o
  simp only [] at ho
  subst ho
  kernel_rfl
theorem alloc_have_run {o : Oper} (ho : o.op = .alloc 286) (a : Act) (w : World) : (execOp a.eval o).run Tryz.prog w = .ok (.value (.pointer (some ⟨w.heap.size, 0, none⟩))) (w.alloc (.cells bools9.toArray 286)) := by
  obtain ⟨_, _, _, _, _, _⟩ := o
  simp only [] at ho
  subst ho
  kernel_rfl
theorem build_rule_run {o : Oper} (ho : o.op = .build 243 #[(1, .const (.int .i64 1)), (3, .const (.int .i64 (-1)))]) (a : Act) (w : World) : (execOp a.eval o).run Tryz.prog w = .ok (.value (.agg rule0.toArray)) w := by
  obtain ⟨_, _, _, _, _, _⟩ := o
  simp only [] at ho
  subst ho
  kernel_rfl
theorem rule0_one : rule0.toArray.all (·.oneCell') = true := all_oneCell_toArray (by
  intro v hv
  unfold rule0 at hv
  simp only [List.mem_cons, List.not_mem_nil, or_false] at hv
  rcases hv with rfl | rfl | rfl | rfl | rfl | rfl | rfl | rfl | rfl | rfl | rfl | rfl | rfl | rfl | rfl | rfl | rfl | rfl | rfl <;> rfl)
theorem one_of_all {cs : List Value} (h : cs.toArray.all (·.oneCell') = true) : ∀ x ∈ cs, x.oneCell' = true := by
  rw [Array.all_eq_true'] at h
  exact fun x hx => h x (by simpa using hx)
/-- what goes back -/
theorem rule_end {s : List UInt8} {w W : World} {cs : List Value} {tmps : Array Value} {b : Bool} (hrow : RowAt W w.heap.size zero19 243) (hb : Below w.heap.size w W) (hl : cs.length = 19) (ho : cs.toArray.all (·.oneCell') = true)
    (h2 : tmps.getD 2 undef = .pointer (some ⟨w.heap.size, 0, none⟩)) (h3 : tmps.getD 3 undef = .bool b) (h0 : b = false → ruleF s = none) (h1 : b = true → ∃ F, ruleF s = some F ∧ RefRule w.heap.size (W.setCells w.heap.size 0 cs) (.agg cs.toArray) F) :
    bodyPost Tryz.prog Tryz.f237 (RulPost s w) .ret ⟨tmps, []⟩ (W.setCells w.heap.size 0 cs) := by
  obtain ⟨_, hbl, hrw⟩ := sets2 (vs := cs) (o := 0) hrow hb (Nat.le_refl _)
  rw [setL_all cs zero19 (by rw [hl]; rfl)] at hrw
  refine bodyPost_ret (v := .tuple #[.agg cs.toArray, .bool b]) ?_ rfl ⟨hbl, cs, b, rfl, hl, one_of_all ho, h0, h1⟩
  rw [results_cell_tmp Tryz.results237 h2 (run_loadVar_mid _ w.heap.size 0 243 cs _ (row_range hrw) Tryz.underlying243 rfl (by rw [hl]; exact infoRefRule)), h3]
theorem rule_end2 {s : List UInt8} {w W : World} {cs : List Value} {tmps : Array Value} {b : Bool} (hrw : RowAt W w.heap.size cs 243) (hbl : Below w.heap.size w W) (hl : cs.length = 19) (ho : cs.toArray.all (·.oneCell') = true)
    (h2 : tmps.getD 2 undef = .pointer (some ⟨w.heap.size, 0, none⟩)) (h3 : tmps.getD 3 undef = .bool b) (h0 : b = false → ruleF s = none) (h1 : b = true → ∃ F, ruleF s = some F ∧ RefRule w.heap.size W (.agg cs.toArray) F) :
    bodyPost Tryz.prog Tryz.f237 (RulPost s w) .ret ⟨tmps, []⟩ W := by
  refine bodyPost_ret (v := .tuple #[.agg cs.toArray, .bool b]) ?_ rfl ⟨hbl, cs, b, rfl, hl, one_of_all ho, h0, h1⟩
  rw [results_cell_tmp Tryz.results237 h2 (run_loadVar_mid _ w.heap.size 0 243 cs _ (row_range hrw) Tryz.underlying243 rfl (by rw [hl]; exact infoRefRule)), h3]
theorem names_later {w w' : World} {b : Nat} {ns : List (List UInt8)} (h : NamesAt w b 0 ns) (hb : b < w.heap.size) (hx : Below w.heap.size w w') : NamesAt w' b 0 ns := names_on h hb hx
theorem RuleLoop.names {w wr : World} {B p hv g c : Nat} {P : List ByteArray} {f : Nat → Option (List UInt8)} {ns : List (List UInt8)} (h : RuleLoop w B w.heap.size p hv g P f wr) (hn : NamesAt w c 0 ns) (hc : c < w.heap.size) : NamesAt wr c 0 ns := names_on hn hc h.below
theorem ord_dy (f : Nat → Option (List UInt8)) : ordinals f = (dyO (f 6)).2.any fun o => decide (o ≠ 0) := by
  unfold ordinals dyO
  cases f 6 with
  | none => rfl
  | some v =>
    simp only []
    cases daysF (ba v) <;> rfl
/-- one part more: the world behind its text and its mark -/
theorem RuleLoop.marked {w wr : World} {B R p hv g : Nat} {P : List ByteArray} {f : Nat → Option (List UInt8)} {j : Nat} {v : List UInt8} (h : RuleLoop w B R p hv g P f wr) (_hR : R ≤ w.heap.size) (hRp : R < p) (hph : p < hv) (hhB : hv < B) (_hgB : g < B) (hgh : hv < g) (hj : j < 9) :
    RuleAt B ((wr.setCell ⟨hv, j, none⟩ (.bool true)).setCell ⟨p, 10 + j, none⟩ (.string ⟨(partNames.getD j [] ++ 61 :: v).toArray⟩)) p f (upd f j v) ∧
    HaveAt ((wr.setCell ⟨hv, j, none⟩ (.bool true)).setCell ⟨p, 10 + j, none⟩ (.string ⟨(partNames.getD j [] ++ 61 :: v).toArray⟩)) hv (upd f j v) ∧
    RowAt ((wr.setCell ⟨hv, j, none⟩ (.bool true)).setCell ⟨p, 10 + j, none⟩ (.string ⟨(partNames.getD j [] ++ 61 :: v).toArray⟩)) R zero19 243 ∧
    StrsAt ((wr.setCell ⟨hv, j, none⟩ (.bool true)).setCell ⟨p, 10 + j, none⟩ (.string ⟨(partNames.getD j [] ++ 61 :: v).toArray⟩)) g P ∧
    Below R w ((wr.setCell ⟨hv, j, none⟩ (.bool true)).setCell ⟨p, 10 + j, none⟩ (.string ⟨(partNames.getD j [] ++ 61 :: v).toArray⟩)) ∧
    B ≤ ((wr.setCell ⟨hv, j, none⟩ (.bool true)).setCell ⟨p, 10 + j, none⟩ (.string ⟨(partNames.getD j [] ++ 61 :: v).toArray⟩)).heap.size := by
  have hz := h.size
  have e1 : ∀ k, k ≠ hv → k ≠ p → ((wr.setCell ⟨hv, j, none⟩ (.bool true)).setCell ⟨p, 10 + j, none⟩ (.string ⟨(partNames.getD j [] ++ 61 :: v).toArray⟩)).heap[k]? = wr.heap[k]? := fun k h1 h2 => (Below.heap_setCell _ _ _ _ (by exact h2)).trans (Below.heap_setCell _ _ _ _ (by exact h1))
  refine ⟨?_, ?_, ?_, ?_, ?_, ?_⟩
  · exact (h.rule.other (by omega) hhB (by omega)).putText (by omega) hj
  · exact (h.have_.put hj).on (Below.heap_setCell _ _ _ _ (show hv ≠ p by omega))
  · exact (h.res.other (by omega) _).other (by omega) _
  · obtain ⟨s1, s2⟩ := h.strs
    refine ⟨by rw [setCell_size, setCell_size]; exact s1, fun i l hl => ?_⟩
    rw [World.cell?_of_block (a := ⟨g, i, none⟩) (e1 g (by omega) (by omega))]
    exact s2 i l hl
  · exact (h.below.setCell (p := ⟨hv, j, none⟩) (by show R ≤ hv; omega) _).setCell (p := ⟨p, 10 + j, none⟩) (by show R ≤ p; omega) _
  · rw [setCell_size, setCell_size]; exact hz
/-- and behind the part -/
theorem RuleLoop.next {w wr : World} {W W' : World} {B R p hv g : Nat} {P : List ByteArray} {f : Nat → Option (List UInt8)} {j : Nat} {v : List UInt8} (hR : R ≤ w.heap.size) (hRp : R < p) (hph : p < hv) (hhB : hv < B) (_hgB : g < B) (hgp : p < g)
    (h2 : HaveAt W hv (upd f j v)) (h3 : RowAt W R zero19 243) (h4 : StrsAt W g P) (h5 : Below R w W) (h6 : B ≤ W.heap.size) (hx : Exc (fun k => k = p) W W') (hr : RuleAt B W' p (upd f j v) (upd f j v)) (hok : ∀ j v, f j = some v → j < 9 ∧ partOk j v = true) (hj : j < 9) (hp : partOk j v = true) (_h : wr = wr) :
    RuleLoop w B R p hv g P (upd f j v) W' := by
  refine ⟨hr, h2.on (hx.block hv (by omega) (by omega)), ?_, ?_, ?_, Nat.le_trans h6 hx.size, fun i x hi => ?_⟩
  · unfold RowAt at h3 ⊢
    rw [hx.block R (by omega) (by omega)]
    exact h3
  · obtain ⟨s1, s2⟩ := h4
    refine ⟨Nat.lt_of_lt_of_le s1 hx.size, fun i l hl => ?_⟩
    rw [World.cell?_of_block (a := ⟨g, i, none⟩) (hx.block g s1 (by omega))]
    exact s2 i l hl
  · exact h5.trans (hx.below (by have := h5.size; omega) (fun k hk => by omega))
  · by_cases e : i = j
    · subst e
      rw [upd_same] at hi
      cases hi
      exact ⟨hj, hp⟩
    · rw [upd_ne e] at hi
      exact hok i x hi
end Go.Proofs.YthpndgcaoeokeaaGreatDoor
namespace Go.Proofs.YthpndgcaoeokeaaGreatDoor
open Go.RowKit

/-- what holds at every moment of the region: the marks at hv, the rule at p, the result at r -/
structure J22 (w0 : World) (r p hv : Nat) (cs : List Value) (x4 x5 x6 x7 : Bool) (a : Act) (w : World) : Prop where
  size : a.tmps.size = 115
  defers : a.defers = []
  s2 : a.eval (.tmp 2) = .pointer (some ⟨r, 0, none⟩)
  s4 : a.eval (.tmp 4) = .pointer (some ⟨p, 0, none⟩)
  s5 : a.eval (.tmp 5) = .pointer (some ⟨hv, 0, none⟩)
  c4 : w.cell? ⟨hv, 4, none⟩ = some (.bool x4)
  c5 : w.cell? ⟨hv, 5, none⟩ = some (.bool x5)
  c6 : w.cell? ⟨hv, 6, none⟩ = some (.bool x6)
  c7 : w.cell? ⟨hv, 7, none⟩ = some (.bool x7)
  rule : w.rangeAt p 0 cs
  res : ∃ cs' : List Value, cs'.length = 19 ∧ RowAt w r cs' 243
  exc : Exc (fun k => k = r) w0 w
def slot22 (i : Nat) : Nat := 99 + i
/-- what operation i leaves -/
def N22 (hv : Nat) (cs : List Value) (x4 x5 x6 x7 : Bool) (i : Nat) (v : Value) : Prop := match i with
  | 0 => v = .agg cs.toArray
  | 1 => v = .pointer (some ⟨hv, 7, none⟩)
  | 2 => v = .bool x7
  | 3 | 4 => v = .bool (!x7)
  | 5 => x7 = true → v = .pointer (some ⟨hv, 4, none⟩)
  | 6 => x7 = true → v = .bool x4
  | 7 | 8 => v = .bool (!x7 || x4)
  | 9 => (!x7 || x4) = false → v = .pointer (some ⟨hv, 5, none⟩)
  | 10 => (!x7 || x4) = false → v = .bool x5
  | 11 | 12 => v = .bool (!x7 || x4 || x5)
  | 13 => (!x7 || x4 || x5) = false → v = .pointer (some ⟨hv, 6, none⟩)
  | 14 => (!x7 || x4 || x5) = false → v = .bool x6
  | 15 => v = .bool (!x7 || x4 || x5 || x6)
  | _ => True
def G22 (r hv : Nat) (cs : List Value) (x4 x5 x6 x7 : Bool) (i : Nat) (a : Act) (w : World) : Prop :=
  if i = 16 then RowAt w r cs 243
  else if i = 17 then a.eval (.tmp 3) = .bool (!x7 || x4 || x5 || x6)
  else N22 hv cs x4 x5 x6 x7 i (a.eval (.tmp (slot22 i)))
theorem G22_val {r hv : Nat} {cs : List Value} {x4 x5 x6 x7 : Bool} {i : Nat} {a : Act} {w : World} (h : G22 r hv cs x4 x5 x6 x7 i a w) (hi : i < 16) : N22 hv cs x4 x5 x6 x7 i (a.eval (.tmp (slot22 i))) := by
  unfold G22 at h
  rw [if_neg (by omega), if_neg (by omega)] at h
  exact h
/-- a value is put into its slot -/
theorem step22 {w0 : World} {r p hv : Nat} {cs : List Value} {x4 x5 x6 x7 : Bool} {a : Act} {w : World} {ops : Array Oper} {i : Nat} {v : Value} {dst : Option Nat} (hd : dst = some (slot22 i)) (hi : i < 16) (h : J22 w0 r p hv cs x4 x5 x6 x7 a w) (hn : N22 hv cs x4 x5 x6 x7 i v) (hsz : ops.size = 18) :
    OpEnd ops (G22 r hv cs x4 x5 x6 x7) (J22 w0 r p hv cs x4 x5 x6 x7) i a w (a.put dst v) w := by
  subst hd
  have hs : slot22 i < a.tmps.size := by rw [h.size]; unfold slot22; omega
  refine ⟨⟨by rw [put_size]; exact h.size, by rw [put_defers]; exact h.defers, by rw [ev_ne (by unfold slot22; omega)]; exact h.s2, by rw [ev_ne (by unfold slot22; omega)]; exact h.s4, by rw [ev_ne (by unfold slot22; omega)]; exact h.s5, h.c4, h.c5, h.c6, h.c7, h.rule, h.res, h.exc⟩, ?_, fun j oj hoj hji _ hg => ?_⟩
  · unfold G22
    rw [if_neg (by omega), if_neg (by omega), ev_same hs]
    exact hn
  · have hj2 : j < 18 := by rw [← hsz]; exact (Array.getElem?_eq_some_iff.1 hoj).1
    unfold G22 at hg ⊢
    by_cases e16 : j = 16
    · rw [if_pos e16] at hg ⊢; exact hg
    · rw [if_neg e16] at hg ⊢
      by_cases e17 : j = 17
      · rw [if_pos e17] at hg ⊢
        rw [ev_ne (by unfold slot22; omega)]
        exact hg
      · rw [if_neg e17] at hg ⊢
        rw [ev_ne (by unfold slot22; omega)]
        exact hg
theorem setCells_other (b : Nat) : ∀ (vs : List Value) (o : Nat) (w : World) (k : Nat), k ≠ b → (w.setCells b o vs).heap[k]? = w.heap[k]?
  | [], _, _, _, _ => rfl
  | v :: r, o, w, k, h => by rw [World.setCells, setCells_other b r (o + 1) _ k h]; exact Below.heap_setCell _ _ _ _ h
theorem setsRow {T : TypeId} {b : Nat} : ∀ {vs : List Value} {o : Nat} {w : World} {cs : List Value}, RowAt w b cs T → RowAt (w.setCells b o vs) b (setL o vs cs) T
  | [], _, _, _, h => h
  | v :: _, o, _, _, h => setsRow (o := o + 1) (h.set (k := o) v)
theorem setsSys (b : Nat) : ∀ (vs : List Value) (o : Nat) (w : World), (w.setCells b o vs).os = w.os ∧ (w.setCells b o vs).tape = w.tape ∧ (w.setCells b o vs).output = w.output
  | [], _, _ => ⟨rfl, rfl, rfl⟩
  | v :: r, o, w => by
    obtain ⟨h1, h2, h3⟩ := setsSys b r (o + 1) (w.setCell ⟨b, o, none⟩ v)
    rw [World.setCells]
    exact ⟨h1.trans (by simp [World.setCell]), h2.trans (by simp [World.setCell]), h3.trans (by simp [World.setCell])⟩
/-- the rule is stored into the result -/
theorem store22 {w0 : World} {r p hv : Nat} {cs : List Value} {x4 x5 x6 x7 : Bool} {a : Act} {w : World} {ops : Array Oper} (h : J22 w0 r p hv cs x4 x5 x6 x7 a w) (hl : cs.length = 19) (hrp : p ≠ r) (hrh : hv ≠ r) :
    w.there r 0 cs.toArray.size ∧ OpEnd ops (G22 r hv cs x4 x5 x6 x7) (J22 w0 r p hv cs x4 x5 x6 x7) 16 a w (a.put none undef) (w.setCells r 0 cs) := by
  obtain ⟨cs', hl', hrow⟩ := h.res
  have e := fun k hk => setCells_other r cs 0 w k hk
  have hrw := setsRow (vs := cs) (o := 0) hrow
  obtain ⟨y1, y2, y3⟩ := setsSys r cs 0 w
  refine ⟨row_there hrow (by rw [List.size_toArray]; omega), ⟨h.size, h.defers, h.s2, h.s4, h.s5, ?_, ?_, ?_, ?_, ?_, ⟨cs, hl, ?_⟩, ?_⟩, ?_, fun j oj hoj hji _ hg => ?_⟩
  · exact (World.cell?_of_block (a := ⟨hv, 4, none⟩) (e hv hrh)).trans h.c4
  · exact (World.cell?_of_block (a := ⟨hv, 5, none⟩) (e hv hrh)).trans h.c5
  · exact (World.cell?_of_block (a := ⟨hv, 6, none⟩) (e hv hrh)).trans h.c6
  · exact (World.cell?_of_block (a := ⟨hv, 7, none⟩) (e hv hrh)).trans h.c7
  · exact fun j v hv => (World.cell?_of_block (a := ⟨p, 0 + j, none⟩) (e p hrp)).trans (h.rule j v hv)
  · rw [setL_all cs cs' (by omega)] at hrw; exact hrw
  · exact h.exc.trans1 ⟨y1, y2, y3, by rw [setCells_size]; exact Nat.le_refl _, fun k _ hk => e k hk⟩
  · unfold G22; rw [if_pos rfl]; rw [setL_all cs cs' (by omega)] at hrw; exact hrw
  · unfold G22 at hg ⊢
    rw [if_neg hji] at hg ⊢
    exact hg
/-- the answer is put -/
theorem answer22 {w0 : World} {r p hv : Nat} {cs : List Value} {x4 x5 x6 x7 : Bool} {a : Act} {w : World} {ops : Array Oper} {v : Value} (h : J22 w0 r p hv cs x4 x5 x6 x7 a w) (hv' : v = .bool (!x7 || x4 || x5 || x6)) (hsz : ops.size = 18) :
    OpEnd ops (G22 r hv cs x4 x5 x6 x7) (J22 w0 r p hv cs x4 x5 x6 x7) 17 a w (a.put (some 3) v) w := by
  subst hv'
  refine ⟨⟨by rw [put_size]; exact h.size, by rw [put_defers]; exact h.defers, by rw [ev_ne (by omega)]; exact h.s2, by rw [ev_ne (by omega)]; exact h.s4, by rw [ev_ne (by omega)]; exact h.s5, h.c4, h.c5, h.c6, h.c7, h.rule, h.res, h.exc⟩, ?_, fun j oj hoj hji _ hg => ?_⟩
  · unfold G22
    rw [if_neg (by omega), if_pos rfl, ev_same (by rw [h.size]; omega)]
  · have hj2 : j < 18 := by rw [← hsz]; exact (Array.getElem?_eq_some_iff.1 hoj).1
    unfold G22 at hg ⊢
    by_cases e16 : j = 16
    · rw [if_pos e16] at hg ⊢; exact hg
    · rw [if_neg e16, if_neg hji] at hg ⊢
      rw [ev_ne (by unfold slot22; omega)]
      exact hg
theorem haveAt_run (hv k : Nat) (hk : k < 9) (w : World) : (Instr.indexAt 286 (.pointer (some ⟨hv, 0, none⟩)) (.int .i64 (k : Int))).run Tryz.prog w = .ok (.pointer (some ⟨hv, k, none⟩)) w := by
  have hk' : (k : Int) < 9 := by omega
  go_simp
theorem boolLoad_run {b k : Nat} {z : Bool} {w : World} (h : w.cell? ⟨b, k, none⟩ = some (.bool z)) : (Instr.loadAt 4 (.pointer (some ⟨b, k, none⟩))).run Tryz.prog w = .ok (.bool z) w := by
  go_simp
end Go.Proofs.YthpndgcaoeokeaaGreatDoor
namespace Go.Proofs.YthpndgcaoeokeaaGreatDoor
open Go.RowKit

/-- the region's five operations -/
structure Copies (ops : Array Oper) (x y : Nat) (b : Bool) (T1 T2 : TypeId) : Prop where
  size : ops.size = 5
  o0 : ∃ o, ops[0]? = some o ∧ o.op = .load T1 (.tmp 5) ∧ o.dst = some x ∧ o.guard = none
  o1 : ∃ o, ops[1]? = some o ∧ o.op = .load T2 (.tmp 6) ∧ o.dst = some y ∧ o.guard = none
  o2 : ∃ o, ops[2]? = some o ∧ o.op = .store T1 (.tmp 2) (.tmp x) ∧ o.dst = none ∧ o.guard = none ∧ ∃ e ∈ o.after, Region.binds .any e = true ∧ e.on = 0
  o3 : ∃ o, ops[3]? = some o ∧ o.op = .store T2 (.tmp 3) (.tmp y) ∧ o.dst = none ∧ o.guard = none ∧ ∃ e ∈ o.after, Region.binds .any e = true ∧ e.on = 1
  o4 : ∃ o, ops[4]? = some o ∧ o.op = .assign (.const (.bool b)) ∧ o.dst = some 4 ∧ o.guard = none
/-- what holds at every moment -/
structure JC (a0 : Act) (w0 : World) (R1 R2 b5 b6 x y : Nat) (T1 T2 : TypeId) (vs hs : List Value) (a : Act) (w : World) : Prop where
  size : a.tmps.size = a0.tmps.size
  defers : a.defers = a0.defers
  same : ∀ k, k ≠ x → k ≠ y → k ≠ 4 → a.tmps[k]? = a0.tmps[k]?
  v : RowAt w b5 vs T1
  h : RowAt w b6 hs T2
  r1 : ∃ c : List Value, c.length = vs.length ∧ RowAt w R1 c T1
  r2 : ∃ c : List Value, c.length = hs.length ∧ RowAt w R2 c T2
  exc : Exc (fun k => k = R1 ∨ k = R2) w0 w
def GC (R1 R2 x y : Nat) (b : Bool) (T1 T2 : TypeId) (vs hs : List Value) (i : Nat) (a : Act) (w : World) : Prop := match i with
  | 0 => a.eval (.tmp x) = .agg vs.toArray
  | 1 => a.eval (.tmp y) = .agg hs.toArray
  | 2 => RowAt w R1 vs T1
  | 3 => RowAt w R2 hs T2
  | 4 => a.eval (.tmp 4) = .bool b
  | _ => True
theorem put_same {a : Act} {d k : Nat} {v : Value} (h : k ≠ d) : (a.put (some d) v).tmps[k]? = a.tmps[k]? := by
  show (a.tmps.setIfInBounds d v)[k]? = _
  rw [Array.getElem?_setIfInBounds]
  simp [Ne.symm h]
theorem eval_of {a a0 : Act} {k : Nat} (h : a.tmps[k]? = a0.tmps[k]?) : a.eval (.tmp k) = a0.eval (.tmp k) := by
  show a.tmps.getD k undef = a0.tmps.getD k undef
  rw [Array.getD_eq_getD_getElem?, Array.getD_eq_getD_getElem?, h]
/-- the frame behind the region -/
theorem frame_end {a0 a : Act} {x y : Nat} {b : Bool} {vs hs : List Value} (hs0 : a.tmps.size = a0.tmps.size) (hd : a.defers = a0.defers) (same : ∀ k, k ≠ x → k ≠ y → k ≠ 4 → a.tmps[k]? = a0.tmps[k]?)
    (hx : a.eval (.tmp x) = .agg vs.toArray) (hy : a.eval (.tmp y) = .agg hs.toArray) (h4 : a.eval (.tmp 4) = .bool b) (hxl : x < a0.tmps.size) (hyl : y < a0.tmps.size) (h4l : 4 < a0.tmps.size) (hxy : x ≠ y) (hx4 : x ≠ 4) (hy4 : y ≠ 4) :
    a = ((a0.put (some x) (.agg vs.toArray)).put (some y) (.agg hs.toArray)).put (some 4) (.bool b) := by
  have get : ∀ {k : Nat} {v : Value}, k < a.tmps.size → a.eval (.tmp k) = v → a.tmps[k]? = some v := fun {k v} hk h => by
    have : a.tmps.getD k undef = v := h
    rw [Array.getElem?_eq_getElem hk]
    rw [Array.getD_eq_getD_getElem?, Array.getElem?_eq_getElem hk] at this
    simpa using this
  obtain ⟨tm, df⟩ := a
  obtain ⟨tm0, df0⟩ := a0
  simp only [] at hd hs0 hxl hyl h4l
  subst hd
  show (⟨tm, df⟩ : Act) = ⟨((tm0.setIfInBounds x _).setIfInBounds y _).setIfInBounds 4 _, df⟩
  congr 1
  apply Array.ext'
  apply List.ext_getElem?
  intro k
  rw [Array.getElem?_toList, Array.getElem?_toList]
  by_cases e4 : k = 4
  · subst e4
    rw [get (by show 4 < tm.size; omega) h4, Array.getElem?_setIfInBounds]
    simp [h4l]
  · rw [Array.getElem?_setIfInBounds, if_neg (Ne.symm e4)]
    by_cases ey : k = y
    · subst ey
      rw [get (by show k < tm.size; omega) hy, Array.getElem?_setIfInBounds]
      simp [hyl]
    · rw [Array.getElem?_setIfInBounds, if_neg (Ne.symm ey)]
      by_cases ex : k = x
      · subst ex
        rw [get (by show k < tm.size; omega) hx, Array.getElem?_setIfInBounds]
        simp [hxl]
      · rw [Array.getElem?_setIfInBounds, if_neg (Ne.symm ex)]
        exact same k ex ey e4
theorem JC.put {a0 a : Act} {w0 w : World} {R1 R2 b5 b6 x y : Nat} {T1 T2 : TypeId} {vs hs : List Value} {d : Nat} {v : Value} (h : JC a0 w0 R1 R2 b5 b6 x y T1 T2 vs hs a w) (hd : d = x ∨ d = y ∨ d = 4) : JC a0 w0 R1 R2 b5 b6 x y T1 T2 vs hs (a.put (some d) v) w :=
  ⟨by rw [put_size]; exact h.size, by rw [put_defers]; exact h.defers, fun k h1 h2 h3 => (put_same (by rcases hd with rfl | rfl | rfl <;> assumption)).trans (h.same k h1 h2 h3), h.v, h.h, h.r1, h.r2, h.exc⟩

set_option maxHeartbeats 1000000 in
theorem wp_copies {P : Program} {ops : Array Oper} {Q : Exit → Act → World → Prop} {id : Nat} {a : Act} {w : World} {R1 R2 b5 b6 x y : Nat} {b : Bool} {T1 T2 : TypeId} {d1 d2 : TypeDesc} {vs hs : List Value} (hm : P.follows .mixedOrders = true) (hf : forward .any ops = true) (hC : Copies ops x y b T1 T2)
    (h2 : a.eval (.tmp 2) = .pointer (some ⟨R1, 0, none⟩)) (h3 : a.eval (.tmp 3) = .pointer (some ⟨R2, 0, none⟩)) (h5 : a.eval (.tmp 5) = .pointer (some ⟨b5, 0, none⟩)) (h6 : a.eval (.tmp 6) = .pointer (some ⟨b6, 0, none⟩))
    (hx : x < a.tmps.size) (hy : y < a.tmps.size) (h4l : 4 < a.tmps.size) (hx6 : 6 < x) (hxy : x < y) (ne : R1 ≠ R2 ∧ R1 ≠ b5 ∧ R1 ≠ b6 ∧ R2 ≠ b5 ∧ R2 ≠ b6)
    (hv : RowAt w b5 vs T1) (hh : RowAt w b6 hs T2) (r1 : ∃ c : List Value, c.length = vs.length ∧ RowAt w R1 c T1) (r2 : ∃ c : List Value, c.length = hs.length ∧ RowAt w R2 c T2)
    (hu1 : P.underlying T1 = some d1) (hd1 : d1.isRow = true) (hi1 : (P.info? T1).map (·.size) = some vs.length) (ho1 : ∀ v ∈ vs, v.oneCell' = true)
    (hu2 : P.underlying T2 = some d2) (hd2 : d2.isRow = true) (hi2 : (P.info? T2).map (·.size) = some hs.length) (ho2 : ∀ v ∈ hs, v.oneCell' = true)
    (D : ∀ w', RowAt w' R1 vs T1 → RowAt w' R2 hs T2 → Exc (fun k => k = R1 ∨ k = R2) w w' → Q .normal (((a.put (some x) (.agg vs.toArray)).put (some y) (.agg hs.toArray)).put (some 4) (.bool b)) w') :
    (Code.region id ops true).wp P Q a w := by
  have slots : ∀ {a' : Act} {w' : World}, JC a w R1 R2 b5 b6 x y T1 T2 vs hs a' w' → a'.eval (.tmp 2) = .pointer (some ⟨R1, 0, none⟩) ∧ a'.eval (.tmp 3) = .pointer (some ⟨R2, 0, none⟩) ∧ a'.eval (.tmp 5) = .pointer (some ⟨b5, 0, none⟩) ∧ a'.eval (.tmp 6) = .pointer (some ⟨b6, 0, none⟩) := fun {a' w'} h =>
    ⟨(eval_of (h.same 2 (by omega) (by omega) (by omega))).trans h2, (eval_of (h.same 3 (by omega) (by omega) (by omega))).trans h3, (eval_of (h.same 5 (by omega) (by omega) (by omega))).trans h5, (eval_of (h.same 6 (by omega) (by omega) (by omega))).trans h6⟩
  refine wp_region_gd (GC R1 R2 x y b T1 T2 vs hs) (JC a w R1 R2 b5 b6 x y T1 T2 vs hs) hm hf ?_ ?_ ⟨rfl, rfl, fun _ _ _ _ => rfl, hv, hh, r1, r2, (Exc.refl _ _).drew⟩
  · intro i o ho a' w' hI hG
    have hi : i < 5 := by rw [← hC.size]; exact (Array.getElem?_eq_some_iff.1 ho).1
    obtain ⟨s2, s3, s5, s6⟩ := slots hI
    have hxl : x < a'.tmps.size := by rw [hI.size]; exact hx
    have hyl : y < a'.tmps.size := by rw [hI.size]; exact hy
    have h4l' : 4 < a'.tmps.size := by rw [hI.size]; exact h4l
    have hor : i = 0 ∨ i = 1 ∨ i = 2 ∨ i = 3 ∨ i = 4 := by omega
    rcases hor with rfl | rfl | rfl | rfl | rfl
    · obtain ⟨o', ho', hop, hdst, hgd⟩ := hC.o0
      rw [ho] at ho'
      cases ho'
      rw [if_pos (wanted_none hgd)]
      refine op_value (w' := w') (v := .agg vs.toArray) ?_ ?_
      · unfold execOp
        simp only [hop]
        exact run_value (by rw [s5]; exact run_loadAt_mid w' b5 0 T1 vs _ (row_range hI.v) hu1 hd1 hi1)
      · rw [hdst]
        refine ⟨hI.put (.inl rfl), ?_, fun j oj hoj hj _ hg => ?_⟩
        · exact ev_same hxl
        · have hj5 : j < 5 := by rw [← hC.size]; exact (Array.getElem?_eq_some_iff.1 hoj).1
          have : j = 1 ∨ j = 2 ∨ j = 3 ∨ j = 4 := by omega
          rcases this with rfl | rfl | rfl | rfl
          · exact (ev_ne (by omega)).trans hg
          · exact hg
          · exact hg
          · exact (ev_ne (by omega)).trans hg
    · obtain ⟨o', ho', hop, hdst, hgd⟩ := hC.o1
      rw [ho] at ho'
      cases ho'
      rw [if_pos (wanted_none hgd)]
      refine op_value (w' := w') (v := .agg hs.toArray) ?_ ?_
      · unfold execOp
        simp only [hop]
        exact run_value (by rw [s6]; exact run_loadAt_mid w' b6 0 T2 hs _ (row_range hI.h) hu2 hd2 hi2)
      · rw [hdst]
        refine ⟨hI.put (.inr (.inl rfl)), ?_, fun j oj hoj hj _ hg => ?_⟩
        · exact ev_same hyl
        · have hj5 : j < 5 := by rw [← hC.size]; exact (Array.getElem?_eq_some_iff.1 hoj).1
          have : j = 0 ∨ j = 2 ∨ j = 3 ∨ j = 4 := by omega
          rcases this with rfl | rfl | rfl | rfl
          · exact (ev_ne (by omega)).trans hg
          · exact hg
          · exact hg
          · exact (ev_ne (by omega)).trans hg
    · obtain ⟨o', ho', hop, hdst, hgd, e, he, hbd, hon⟩ := hC.o2
      rw [ho] at ho'
      cases ho'
      have g0 := hG e he hbd
      rw [hon] at g0
      obtain ⟨c, hcl, hrow⟩ := hI.r1
      have hrw := setsRow (vs := vs) (o := 0) hrow
      rw [setL_all vs c hcl] at hrw
      obtain ⟨y1, y2, y3⟩ := setsSys R1 vs 0 w'
      rw [if_pos (wanted_none hgd)]
      refine op_skip (w' := w'.setCells R1 0 vs) ?_ ?_
      · unfold execOp
        simp only [hop]
        exact run_unit (by rw [s2, show a'.eval (.tmp x) = _ from g0]; exact run_storeAt_mid w' R1 0 T1 vs.toArray (row_there hrow (by rw [List.size_toArray]; exact hcl.symm)) (by rw [List.size_toArray]; exact hi1) (all_oneCell_toArray ho1))
      · rw [hdst]
        refine ⟨⟨hI.size, hI.defers, hI.same, hI.v.setsOther (Ne.symm ne.2.1), hI.h.setsOther (Ne.symm ne.2.2.1), ⟨vs, rfl, hrw⟩, ?_, ?_⟩, hrw, fun j oj hoj hj _ hg => ?_⟩
        · obtain ⟨c2, hc2, hr2⟩ := hI.r2
          exact ⟨c2, hc2, hr2.setsOther (Ne.symm ne.1)⟩
        · exact hI.exc.trans1 ⟨y1, y2, y3, by rw [setCells_size]; exact Nat.le_refl _, fun k _ hk => setCells_other R1 vs 0 w' k (fun e => hk (.inl e))⟩
        · have hj5 : j < 5 := by rw [← hC.size]; exact (Array.getElem?_eq_some_iff.1 hoj).1
          have : j = 0 ∨ j = 1 ∨ j = 3 ∨ j = 4 := by omega
          rcases this with rfl | rfl | rfl | rfl
          · exact hg
          · exact hg
          · exact RowAt.setsOther hg (Ne.symm ne.1)
          · exact hg
    · obtain ⟨o', ho', hop, hdst, hgd, e, he, hbd, hon⟩ := hC.o3
      rw [ho] at ho'
      cases ho'
      have g0 := hG e he hbd
      rw [hon] at g0
      obtain ⟨c, hcl, hrow⟩ := hI.r2
      have hrw := setsRow (vs := hs) (o := 0) hrow
      rw [setL_all hs c hcl] at hrw
      obtain ⟨y1, y2, y3⟩ := setsSys R2 hs 0 w'
      rw [if_pos (wanted_none hgd)]
      refine op_skip (w' := w'.setCells R2 0 hs) ?_ ?_
      · unfold execOp
        simp only [hop]
        exact run_unit (by rw [s3, show a'.eval (.tmp y) = _ from g0]; exact run_storeAt_mid w' R2 0 T2 hs.toArray (row_there hrow (by rw [List.size_toArray]; exact hcl.symm)) (by rw [List.size_toArray]; exact hi2) (all_oneCell_toArray ho2))
      · rw [hdst]
        refine ⟨⟨hI.size, hI.defers, hI.same, hI.v.setsOther (Ne.symm ne.2.2.2.1), hI.h.setsOther (Ne.symm ne.2.2.2.2), ?_, ⟨hs, rfl, hrw⟩, ?_⟩, hrw, fun j oj hoj hj _ hg => ?_⟩
        · obtain ⟨c2, hc2, hr2⟩ := hI.r1
          exact ⟨c2, hc2, hr2.setsOther ne.1⟩
        · exact hI.exc.trans1 ⟨y1, y2, y3, by rw [setCells_size]; exact Nat.le_refl _, fun k _ hk => setCells_other R2 hs 0 w' k (fun e => hk (.inr e))⟩
        · have hj5 : j < 5 := by rw [← hC.size]; exact (Array.getElem?_eq_some_iff.1 hoj).1
          have : j = 0 ∨ j = 1 ∨ j = 2 ∨ j = 4 := by omega
          rcases this with rfl | rfl | rfl | rfl
          · exact hg
          · exact hg
          · exact RowAt.setsOther hg ne.1
          · exact hg
    · obtain ⟨o', ho', hop, hdst, hgd⟩ := hC.o4
      rw [ho] at ho'
      cases ho'
      rw [if_pos (wanted_none hgd)]
      refine op_value (w' := w') (v := .bool b) ?_ ?_
      · unfold execOp
        simp only [hop]
        rfl
      · rw [hdst]
        refine ⟨hI.put (.inr (.inr rfl)), ?_, fun j oj hoj hj _ hg => ?_⟩
        · exact ev_same h4l'
        · have hj5 : j < 5 := by rw [← hC.size]; exact (Array.getElem?_eq_some_iff.1 hoj).1
          have : j = 0 ∨ j = 1 ∨ j = 2 ∨ j = 3 := by omega
          rcases this with rfl | rfl | rfl | rfl
          · exact (ev_ne (by omega)).trans hg
          · exact (ev_ne (by omega)).trans hg
          · exact hg
          · exact hg
  · intro a' w' hI hG
    have e := frame_end hI.size hI.defers hI.same (hG 0 (by rw [hC.size]; decide)) (hG 1 (by rw [hC.size]; decide)) (hG 4 (by rw [hC.size]; decide)) hx hy h4l (by omega) (by omega) (by omega)
    rw [e]
    exact D w' (hG 2 (by rw [hC.size]; decide)) (hG 3 (by rw [hC.size]; decide)) hI.exc
end Go.Proofs.YthpndgcaoeokeaaGreatDoor
namespace Go.Proofs.YthpndgcaoeokeaaGreatDoor
open Go.RowKit

section
variable {P : Program} {ops : Array Oper} {Q : Exit → Act → World → Prop} {o : Oper} {rest : List Oper} {a : Act} {w : World}

/-- one block more -/
theorem wpl_alloc_row {zs : List Value} {T : TypeId} (hgd : o.guard = none) (hr : (execOp a.eval o).run P w = .ok (.value (.pointer (some ⟨w.heap.size, 0, none⟩))) (w.alloc (.cells zs.toArray T)))
    (hK : ∀ w', RowAt w' w.heap.size zs T → w'.heap.size = w.heap.size + 1 → Below w.heap.size w w' → wpList P ops Q rest (a.put o.dst (.pointer (some ⟨w.heap.size, 0, none⟩))) w') : wpList P ops Q (o :: rest) a w :=
  wpl_value hgd hr (hK _ (RowAt.new w zs T) (by simp) ((Below.refl _ _).alloc (Nat.le_refl _) _))
/-- what a store of some cells of a row leaves -/
theorem sets_exc (b o : Nat) (vs : List Value) (w : World) : Exc (fun k => k = b) w (w.setCells b o vs) := by
  obtain ⟨y1, y2, y3⟩ := setsSys b vs o w
  exact ⟨y1, y2, y3, by rw [setCells_size]; exact Nat.le_refl _, fun k _ hk => setCells_other b vs o w k hk⟩
/-- a row is stored over -/
theorem wpl_store_row {T : TypeId} {x y : Operand} {b : Nat} {vs cs : List Value} (hgd : o.guard = none) (ho : o.op = .store T x y) (hx : a.eval x = .pointer (some ⟨b, 0, none⟩)) (hy : a.eval y = .agg vs.toArray) (hrow : RowAt w b cs T) (hl : cs.length = vs.length)
    (hi : (P.info? T).map (·.size) = some vs.length) (h1 : ∀ v ∈ vs, v.oneCell' = true) (hK : ∀ w', RowAt w' b vs T → Exc (fun k => k = b) w w' → wpList P ops Q rest (a.put o.dst undef) w') : wpList P ops Q (o :: rest) a w := by
  have hrw := setsRow (vs := vs) (o := 0) hrow
  rw [setL_all vs cs hl] at hrw
  refine wpList_store_mid hgd T x y ho b 0 vs.toArray hx hy (row_there hrow (by rw [List.size_toArray]; exact hl.symm)) (by rw [List.size_toArray]; exact hi) (all_oneCell_toArray h1) ?_
  exact hK _ hrw (sets_exc b 0 vs w)
/-- some cells of a row are stored over -/
theorem wpl_store_part {T S : TypeId} {x y : Operand} {b k : Nat} {vs cs : List Value} (hgd : o.guard = none) (ho : o.op = .store T x y) (hx : a.eval x = .pointer (some ⟨b, k, none⟩)) (hy : a.eval y = .agg vs.toArray) (hrow : RowAt w b cs S) (hl : k + vs.length ≤ cs.length)
    (hi : (P.info? T).map (·.size) = some vs.length) (h1 : ∀ v ∈ vs, v.oneCell' = true) (hK : ∀ w', RowAt w' b (setL k vs cs) S → Exc (fun k => k = b) w w' → wpList P ops Q rest (a.put o.dst undef) w') : wpList P ops Q (o :: rest) a w := by
  have hrw := setsRow (vs := vs) (o := k) hrow
  refine wpList_store_mid hgd T x y ho b k vs.toArray hx hy (fun j hj => ?_) (by rw [List.size_toArray]; exact hi) (all_oneCell_toArray h1) ?_
  · rw [List.size_toArray] at hj
    exact ⟨by rw [hrow.cell (List.getElem?_eq_getElem (show k + j < cs.length by omega))]; rfl, hrow.free⟩
  · exact hK _ hrw (sets_exc b k vs w)
/-- a row is loaded -/
theorem wpl_load_row {T : TypeId} {x : Operand} {b : Nat} {cs : List Value} {d : TypeDesc} (hgd : o.guard = none) (ho : o.op = .load T x) (hx : a.eval x = .pointer (some ⟨b, 0, none⟩)) (hrow : RowAt w b cs T)
    (hu : P.underlying T = some d) (hd : d.isRow = true) (hi : (P.info? T).map (·.size) = some cs.length) (hK : wpList P ops Q rest (a.put o.dst (.agg cs.toArray)) w) : wpList P ops Q (o :: rest) a w :=
  wpList_load_mid hgd T x ho b 0 hx cs d (row_range hrow) hu hd hi hK
end
theorem setL_len : ∀ (vs cs : List Value) (k : Nat), (setL k vs cs).length = cs.length
  | [], _, _ => rfl
  | v :: r, cs, k => by rw [setL, setL_len r, List.length_set]
theorem setL_mid (xs ys zs vs : List Value) (k : Nat) (hk : xs.length = k) (hl : ys.length = vs.length) : setL k vs (xs ++ ys ++ zs) = xs ++ vs ++ zs := by
  induction vs generalizing xs ys k with
  | nil =>
    have : ys = [] := List.eq_nil_of_length_eq_zero hl
    subst this
    rfl
  | cons v r ih =>
    cases ys with
    | nil => simp at hl
    | cons y t =>
      rw [setL]
      have e : (xs ++ y :: t ++ zs).set k v = (xs ++ [v]) ++ t ++ zs := by
        rw [List.append_assoc, List.set_append_right _ _ (by omega), hk, Nat.sub_self]
        simp
      rw [e, ih (xs ++ [v]) t (k + 1) (by simp [hk]) (by simpa using hl)]
      simp
theorem RowAt.exc {w w' : World} {O : Nat → Prop} {b : Nat} {cs : List Value} {T : TypeId} (h : RowAt w b cs T) (hx : Exc O w w') (hb : ¬ O b) : RowAt w' b cs T := by
  unfold RowAt at h ⊢
  rw [hx.block b (Array.getElem?_eq_some_iff.1 h).1 hb]
  exact h
end Go.Proofs.YthpndgcaoeokeaaGreatDoor
