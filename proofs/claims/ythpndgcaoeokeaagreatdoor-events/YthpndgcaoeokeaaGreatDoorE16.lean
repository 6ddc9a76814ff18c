/- The document's Read (fallowref.Read): what is made, what is kept, what goes back. Written by gen32.py. The document's Read (fallowref.Read), whole. Written by gen33.py. The document's Text ((fallowref.Event).Text): its region that draws. Written by gen34r.py. The document's Text ((fallowref.Event).Text), whole. Written by gen35r.py. The document's Check (fallowref.Check), whole. -/
import Derived.Test.YthpndgcaoeokeaaGreatDoorE10
import Derived.Test.YthpndgcaoeokeaaGreatDoorE11
import Derived.Test.YthpndgcaoeokeaaGreatDoorE13
import Derived.Test.YthpndgcaoeokeaaGreatDoorE12
import Derived.Test.YthpndgcaoeokeaaGreatDoorE14
import Derived.Test.YthpndgcaoeokeaaGreatDoorE1
import Derived.Test.YthpndgcaoeokeaaGreatDoorE15
namespace Go.Proofs.YthpndgcaoeokeaaGreatDoor
open Go.RowKit

/-- an event's cells: a rule's nineteen in their midst -/
def rvC (u : ByteArray) (st ln : Int) (rc : List Value) (ex xt : Value) (op : Bool) (k : Int) : List Value := [.string u, .int .i64 st, .int .i64 ln] ++ rc ++ [ex, xt, .bool op, .int .i64 k]
def zero26 : List Value := rvC ⟨#[]⟩ 0 0 zero19 (.slice none 0 0) (.slice none 0 0) false 0
theorem rvC_len {u : ByteArray} {st ln : Int} {rc : List Value} {ex xt : Value} {op : Bool} {k : Int} (h : rc.length = 19) : (rvC u st ln rc ex xt op k).length = 26 := by
  unfold rvC; simp [h]
theorem rvC_one {u : ByteArray} {st ln : Int} {rc : List Value} {ex xt : Value} {op : Bool} {k : Int} (h : ∀ x ∈ rc, x.oneCell' = true) (h1 : ex.oneCell' = true) (h2 : xt.oneCell' = true) : ∀ x ∈ rvC u st ln rc ex xt op k, x.oneCell' = true := by
  intro x hx
  unfold rvC at hx
  rw [List.mem_append, List.mem_append] at hx
  rcases hx with (hx | hx) | hx
  · simp only [List.mem_cons, List.not_mem_nil, or_false] at hx
    rcases hx with rfl | rfl | rfl <;> rfl
  · exact h x hx
  · simp only [List.mem_cons, List.not_mem_nil, or_false] at hx
    rcases hx with rfl | rfl | rfl | rfl
    · exact h1
    · exact h2
    · rfl
    · rfl
theorem zero19_one : ∀ x ∈ zero19, x.oneCell' = true := by
  intro v hv
  unfold zero19 at hv
  simp only [List.mem_cons, List.not_mem_nil, or_false] at hv
  rcases hv with rfl | rfl | rfl | rfl | rfl | rfl | rfl | rfl | rfl | rfl | rfl | rfl | rfl | rfl | rfl | rfl | rfl | rfl | rfl <;> rfl
theorem infoRefEv : (Tryz.prog.info? 245).map (·.size) = some 26 := by kernel_rfl
theorem alloc_ev_run {o : Oper} (ho : o.op = .alloc 245) (a : Act) (w : World) : (execOp a.eval o).run Tryz.prog w = .ok (.value (.pointer (some ⟨w.heap.size, 0, none⟩))) (w.alloc (.cells zero26.toArray 245)) := by
  obtain ⟨_, _, _, _, _, _⟩ := o
  simp only [] at ho
  subst ho
  kernel_rfl
theorem build_ev0_run {o : Oper} (ho : o.op = .build 245 #[]) (a : Act) (w : World) : (execOp a.eval o).run Tryz.prog w = .ok (.value (.agg zero26.toArray)) w := by
  obtain ⟨_, _, _, _, _, _⟩ := o
  simp only [] at ho
  subst ho
  kernel_rfl
theorem build_ev_lit (u : ByteArray) (b : Bool) (w : World) : (Instr.build 245 #[(0, .string u), (7, .int .i64 1), (6, .bool b)]).run Tryz.prog w = .ok (.agg (rvC u 0 0 zero19 (.slice none 0 0) (.slice none 0 0) b 1).toArray) w := by
  kernel_rfl
theorem build_ev_run {o : Oper} {x y : Operand} {u : ByteArray} {b : Bool} {a : Act} (ho : o.op = .build 245 #[(0, x), (7, .const (.int .i64 1)), (6, y)]) (hx : a.eval x = .string u) (hy : a.eval y = .bool b) (w : World) : (execOp a.eval o).run Tryz.prog w = .ok (.value (.agg (rvC u 0 0 zero19 (.slice none 0 0) (.slice none 0 0) b 1).toArray)) w := by
  obtain ⟨_, _, _, _, _, _⟩ := o
  simp only [] at ho
  subst ho
  unfold execOp
  have h0 : a.eval (.const (.int .i64 1)) = .int .i64 1 := rfl
  simp only [List.map_toArray, List.map_cons, List.map_nil, h0, hx, hy]
  refine run_value ?_
  exact build_ev_lit u b w
/-- what is kept: the properties' texts (V) and marks (H), the event (E), the result (R) -/
structure RdS (w : World) (V H E : Nat) (f : Nat → Option (List UInt8)) (cs : List Value) (wr : World) : Prop where
  v : RowAt wr V (vals f) 241
  h : RowAt wr H (havs f) 286
  e : RowAt wr E cs 245
  r : RowAt wr w.heap.size zero26 245
  below : Below w.heap.size w wr
structure RdA (R V H E : Nat) (a : Act) : Prop where
  size : a.tmps.size = 115
  defers : a.defers = []
  s2 : a.eval (.tmp 2) = .pointer (some ⟨R, 0, none⟩)
  s4 : a.eval (.tmp 4) = .pointer (some ⟨V, 0, none⟩)
  s5 : a.eval (.tmp 5) = .pointer (some ⟨H, 0, none⟩)
  s7 : a.eval (.tmp 7) = .pointer (some ⟨E, 0, none⟩)
theorem RdS.on {w wr wr' : World} {V H E : Nat} {f : Nat → Option (List UInt8)} {cs : List Value} (h : RdS w V H E f cs wr) (hb : Below wr.heap.size wr wr') : RdS w V H E f cs wr' :=
  ⟨h.v.on hb, h.h.on hb, h.e.on hb, h.r.on hb, h.below.trans (hb.mono h.below.size)⟩
/-- the event's row is another -/
theorem RdS.exc {w wr wr' : World} {V H E : Nat} {f : Nat → Option (List UInt8)} {cs cs' : List Value} (h : RdS w V H E f cs wr) (hx : Exc (fun k => k = E) wr wr') (he : RowAt wr' E cs' 245) (hV : V ≠ E) (hH : H ≠ E) (hE : w.heap.size < E) : RdS w V H E f cs' wr' :=
  ⟨h.v.exc hx hV, h.h.exc hx hH, he, h.r.exc hx (by omega), h.below.trans (hx.below h.below.size (fun k hk => by omega))⟩
theorem RdS.set {w wr : World} {V H E i : Nat} {f : Nat → Option (List UInt8)} {cs : List Value} (h : RdS w V H E f cs wr) (v : Value) (hV : V ≠ E) (hH : H ≠ E) (hE : w.heap.size < E) : RdS w V H E f (cs.set i v) (wr.setCell ⟨E, i, none⟩ v) :=
  h.exc ((Exc.refl (fun k => k = E) wr).setCell (p := ⟨E, i, none⟩) (.inl rfl) v) (h.e.set (k := i) v) hV hH hE
/-- a rule's cells, as far as its text goes -/
structure RefTx (rc : List Value) (F : Nat → Option (List UInt8)) : Prop where
  len : rc.length = 19
  one : ∀ x ∈ rc, x.oneCell' = true
  fq : rc[0]? = some (.int .i64 (freqOf F))
  tx : ∀ k, k < 9 → rc[10 + k]? = some (.string ⟨(txO k (F k)).toArray⟩)
theorem refTx {N : Nat} {w : World} {v : Value} {F : Nat → Option (List UInt8)} (h : RefRule N w v F) : ∃ rc, v = .agg rc.toArray ∧ RefTx rc F := by
  obtain ⟨cs, h1, h2, h3, h4, h5⟩ := h
  obtain ⟨x, B, _, q1, q2⟩ := h4 0 (by decide)
  exact ⟨cs, h1, ⟨h2, h3, by rw [q1]; exact congrArg some q2, h5⟩⟩
/-- a list of numbers of the call's own, behind E -/
def Own20 (E : Nat) (w : World) (v : Value) (zs : List Int) : Prop := w.ownsRow (E + 1) 3 1 v zs.length (zs.map (Value.int .i64)) ∧ zs.length ≤ 20
theorem Own20.on {E : Nat} {w w' : World} {v : Value} {zs : List Int} (h : Own20 E w v zs) (hb : Below w.heap.size w w') : Own20 E w' v zs := ⟨own_block h.1 fun g hg _ => hb.block g hg, h.2⟩
theorem Own20.exc {E : Nat} {w w' : World} {v : Value} {zs : List Int} {O : Nat → Prop} (h : Own20 E w v zs) (hx : Exc O w w') (hO : ∀ k, O k → k ≤ E) : Own20 E w' v zs := ⟨own_block h.1 fun g hg hE => hx.block g hg (fun ho => by have := hO g ho; omega), h.2⟩
theorem Own20.one {E : Nat} {w : World} {v : Value} {zs : List Int} (h : Own20 E w v zs) : v.oneCell' = true := by
  rcases h.1.2 with ⟨rfl, _⟩ | ⟨g, cap, cur, rfl, _⟩ <;> rfl
theorem Own20.nil (E : Nat) (w : World) : Own20 E w (.slice none 0 0) [] := ⟨World.ownsRow_nil _ _ _ _, by simp⟩
/-- how Read ends -/
def RdPost (s : List UInt8) (w : World) (e : Ending) (w' : World) : Prop :=
  Below w.heap.size w w' ∧ ((∃ x, readF s = .error x ∧ e = .returned (.tuple #[.agg zero26.toArray, .int .i64 x])) ∨
    ∃ d rc ex xt, readF s = .ok d ∧ e = .returned (.tuple #[.agg (rvC (ba (val d.f 0)) d.st d.ln rc ex xt (openOf d.f) (kindOf d.f)).toArray, .int .i64 0]) ∧ IntsAt w' ex d.ex ∧ IntsAt w' xt d.xt ∧
      ((d.rl = none ∧ rc = zero19) ∨ ∃ F, d.rl = some F ∧ RefTx rc F))
theorem read_end {s : List UInt8} {w W : World} {cs : List Value} {tmps : Array Value} {x : Int} (r : RowAt W w.heap.size cs 245) (hl : cs.length = 26) (h2 : tmps.getD 2 undef = .pointer (some ⟨w.heap.size, 0, none⟩)) (h3 : tmps.getD 3 undef = .int .i64 x)
    (hP : RdPost s w (.returned (.tuple #[.agg cs.toArray, .int .i64 x])) W) : bodyPost Tryz.prog Tryz.f186 (RdPost s w) .ret ⟨tmps, []⟩ W := by
  refine bodyPost_ret (v := .tuple #[.agg cs.toArray, .int .i64 x]) ?_ rfl hP
  rw [results_cell_tmp Tryz.results186 h2 (run_loadVar_mid _ w.heap.size 0 245 cs _ (row_range r) Tryz.underlying245 rfl (by rw [hl]; exact infoRefEv)), h3]
set_option maxRecDepth 10000 in
theorem act_lit115 (a : Act) (h : a.tmps.size = 115) (hd : a.defers = []) : ∃ f : Nat → Value, a = ⟨List.toArray (f 0 :: f 1 :: f 2 :: f 3 :: f 4 :: f 5 :: f 6 :: f 7 :: f 8 :: f 9 :: f 10 :: f 11 :: f 12 :: f 13 :: f 14 :: f 15 :: f 16 :: f 17 :: f 18 :: f 19 :: f 20 :: f 21 :: f 22 :: f 23 :: f 24 :: f 25 :: f 26 :: f 27 :: f 28 :: f 29 :: f 30 :: f 31 :: f 32 :: f 33 :: f 34 :: f 35 :: f 36 :: f 37 :: f 38 :: f 39 :: f 40 :: f 41 :: f 42 :: f 43 :: f 44 :: f 45 :: f 46 :: f 47 :: f 48 :: f 49 :: f 50 :: f 51 :: f 52 :: f 53 :: f 54 :: f 55 :: f 56 :: f 57 :: f 58 :: f 59 :: f 60 :: f 61 :: f 62 :: f 63 :: f 64 :: f 65 :: f 66 :: f 67 :: f 68 :: f 69 :: f 70 :: f 71 :: f 72 :: f 73 :: f 74 :: f 75 :: f 76 :: f 77 :: f 78 :: f 79 :: f 80 :: f 81 :: f 82 :: f 83 :: f 84 :: f 85 :: f 86 :: f 87 :: f 88 :: f 89 :: f 90 :: f 91 :: f 92 :: f 93 :: f 94 :: f 95 :: f 96 :: f 97 :: f 98 :: f 99 :: f 100 :: f 101 :: f 102 :: f 103 :: f 104 :: f 105 :: f 106 :: f 107 :: f 108 :: f 109 :: f 110 :: f 111 :: f 112 :: f 113 :: f 114 :: []), []⟩ ∧ ∀ k, a.eval (.tmp k) = f k := by
  obtain ⟨t, d⟩ := a
  simp only [] at h hd
  subst hd
  refine ⟨fun k => t.getD k undef, ?_, fun k => rfl⟩
  congr 1
  apply Array.ext'
  apply List.ext_getElem?
  intro i
  by_cases hi : i < 115
  · rw [show t.toList[i]? = some (t.getD i undef) from by simp [Array.getD, h, hi]]
    match i, hi with
    | 0, _ => rfl
    | 1, _ => rfl
    | 2, _ => rfl
    | 3, _ => rfl
    | 4, _ => rfl
    | 5, _ => rfl
    | 6, _ => rfl
    | 7, _ => rfl
    | 8, _ => rfl
    | 9, _ => rfl
    | 10, _ => rfl
    | 11, _ => rfl
    | 12, _ => rfl
    | 13, _ => rfl
    | 14, _ => rfl
    | 15, _ => rfl
    | 16, _ => rfl
    | 17, _ => rfl
    | 18, _ => rfl
    | 19, _ => rfl
    | 20, _ => rfl
    | 21, _ => rfl
    | 22, _ => rfl
    | 23, _ => rfl
    | 24, _ => rfl
    | 25, _ => rfl
    | 26, _ => rfl
    | 27, _ => rfl
    | 28, _ => rfl
    | 29, _ => rfl
    | 30, _ => rfl
    | 31, _ => rfl
    | 32, _ => rfl
    | 33, _ => rfl
    | 34, _ => rfl
    | 35, _ => rfl
    | 36, _ => rfl
    | 37, _ => rfl
    | 38, _ => rfl
    | 39, _ => rfl
    | 40, _ => rfl
    | 41, _ => rfl
    | 42, _ => rfl
    | 43, _ => rfl
    | 44, _ => rfl
    | 45, _ => rfl
    | 46, _ => rfl
    | 47, _ => rfl
    | 48, _ => rfl
    | 49, _ => rfl
    | 50, _ => rfl
    | 51, _ => rfl
    | 52, _ => rfl
    | 53, _ => rfl
    | 54, _ => rfl
    | 55, _ => rfl
    | 56, _ => rfl
    | 57, _ => rfl
    | 58, _ => rfl
    | 59, _ => rfl
    | 60, _ => rfl
    | 61, _ => rfl
    | 62, _ => rfl
    | 63, _ => rfl
    | 64, _ => rfl
    | 65, _ => rfl
    | 66, _ => rfl
    | 67, _ => rfl
    | 68, _ => rfl
    | 69, _ => rfl
    | 70, _ => rfl
    | 71, _ => rfl
    | 72, _ => rfl
    | 73, _ => rfl
    | 74, _ => rfl
    | 75, _ => rfl
    | 76, _ => rfl
    | 77, _ => rfl
    | 78, _ => rfl
    | 79, _ => rfl
    | 80, _ => rfl
    | 81, _ => rfl
    | 82, _ => rfl
    | 83, _ => rfl
    | 84, _ => rfl
    | 85, _ => rfl
    | 86, _ => rfl
    | 87, _ => rfl
    | 88, _ => rfl
    | 89, _ => rfl
    | 90, _ => rfl
    | 91, _ => rfl
    | 92, _ => rfl
    | 93, _ => rfl
    | 94, _ => rfl
    | 95, _ => rfl
    | 96, _ => rfl
    | 97, _ => rfl
    | 98, _ => rfl
    | 99, _ => rfl
    | 100, _ => rfl
    | 101, _ => rfl
    | 102, _ => rfl
    | 103, _ => rfl
    | 104, _ => rfl
    | 105, _ => rfl
    | 106, _ => rfl
    | 107, _ => rfl
    | 108, _ => rfl
    | 109, _ => rfl
    | 110, _ => rfl
    | 111, _ => rfl
    | 112, _ => rfl
    | 113, _ => rfl
    | 114, _ => rfl
    | n + 115, hn => omega
  · rw [List.getElem?_eq_none (by rw [Array.length_toList]; omega), List.getElem?_eq_none (by show 115 ≤ i; omega)]
theorem fields_small {s : List UInt8} {f : Nat → Option (List UInt8)} (h : fieldsF s = some f) : ∀ k, (val f k).length ≤ 2000 := fun k => by
  have hp : IsProps s (sw f) := ((head_iff s (sw f) _ _).2 ⟨f, h, rfl, rfl, rfl⟩).1
  have := hp.small (swp k)
  unfold sw at this
  rw [swp_swp] at this
  exact this
theorem parseV_tim (v : List UInt8) : parseV ⟨v.toArray⟩ = match timF v with | some z => .tuple #[.int .i64 z, .int .i64 0] | none => .tuple #[.int .i64 0, .int .i64 1] := by
  unfold parseV timF ofL
  split <;> rfl
end Go.Proofs.YthpndgcaoeokeaaGreatDoor
namespace Go.Proofs.YthpndgcaoeokeaaGreatDoor
open Go.RowKit

/-- what the segments keep -/
def RI (w : World) (V H E : Nat) (f : Nat → Option (List UInt8)) (cs : List Value) (X : World → Prop) (a : Act) (wr : World) : Prop := RdA w.heap.size V H E a ∧ RdS w V H E f cs wr ∧ X wr
theorem timF_two (v : List UInt8) : ∃ z e : Int, parseV ⟨v.toArray⟩ = .tuple #[.int .i64 z, .int .i64 e] ∧ 0 ≤ z ∧ z ≤ 7258118399 ∧ (e = 0 → timF v = some z) ∧ (e ≠ 0 → timF v = none) := by
  rw [parseV_tim]
  cases h : timF v with
  | none => exact ⟨0, 1, rfl, by omega, by omega, fun h => by omega, fun _ => rfl⟩
  | some z => exact ⟨z, 0, rfl, (timF_bd h).1, (timF_bd h).2, fun _ => rfl, fun h => absurd rfl h⟩
theorem lenV_two (v : List UInt8) : ∃ z e : Int, lenV (lenL v) = .tuple #[.int .i64 z, .int .i64 e] ∧ (e = 0 → lenL v = some z) ∧ (e ≠ 0 → lenL v = none) := by
  cases h : lenL v with
  | none => exact ⟨0, 1, rfl, fun h => by omega, fun _ => rfl⟩
  | some z => exact ⟨z, 0, rfl, fun _ => rfl, fun h => absurd rfl h⟩
/-- the length, and its error -/
theorem ln_yes {f : Nat → Option (List UInt8)} {z1 z3 n2 e3 e2 : Int} (h3 : e3 = 0 → timF (val f 3) = some z3) (h2 : e2 = 0 → lenL (val f 2) = some n2) {L g : Int} (hL : L = if (f 3).isSome then z3 - z1 else n2) (hg : g = if (f 3).isSome then e3 else e2) (g0 : g = 0) (l1 : 1 ≤ L) (l2 : L ≤ 2678400) : lnF z1 (f 3) (f 2) = some L := by
  unfold lnF val at *
  cases hf : f 3 with
  | none =>
    rw [hf] at hL hg
    simp only [Option.isSome_none, Bool.false_eq_true, if_false] at hL hg
    subst hL hg
    simp only [h2 g0]
    exact if_pos ⟨l1, l2⟩
  | some v =>
    rw [hf] at hL hg h3
    simp only [Option.isSome_some, if_true] at hL hg
    subst hL hg
    have := h3 g0
    simp only [Option.getD_some] at this
    simp only [this, Option.map_some]
    exact if_pos ⟨l1, l2⟩
theorem ln_no {f : Nat → Option (List UInt8)} {z1 z3 n2 e3 e2 : Int} (h3 : e3 = 0 → timF (val f 3) = some z3) (k3 : e3 ≠ 0 → timF (val f 3) = none) (h2 : e2 = 0 → lenL (val f 2) = some n2) (k2 : e2 ≠ 0 → lenL (val f 2) = none) {L g : Int} (hL : L = if (f 3).isSome then z3 - z1 else n2) (hg : g = if (f 3).isSome then e3 else e2) (hn : ¬ (g = 0 ∧ 1 ≤ L ∧ L ≤ 2678400)) : lnF z1 (f 3) (f 2) = none := by
  unfold lnF val at *
  cases hf : f 3 with
  | none =>
    rw [hf] at hL hg
    simp only [Option.isSome_none, Bool.false_eq_true, if_false] at hL hg
    subst hL hg
    by_cases g0 : g = 0
    · simp only [h2 g0]
      exact if_neg (fun h => hn ⟨g0, h⟩)
    · simp only [k2 g0]
  | some v =>
    rw [hf] at hL hg h3 k3
    simp only [Option.isSome_some, if_true] at hL hg
    subst hL hg
    simp only [Option.getD_some] at h3 k3
    by_cases g0 : g = 0
    · simp only [h3 g0, Option.map_some]
      exact if_neg (fun h => hn ⟨g0, h⟩)
    · simp only [k3 g0, Option.map_none]
def RL (rl : Option (Nat → Option (List UInt8))) (rc : List Value) : Prop := (rl = none ∧ rc = zero19) ∨ ∃ F, rl = some F ∧ RefTx rc F
theorem rv_last {u : ByteArray} {st ln : Int} {rc : List Value} {ex xt : Value} {op : Bool} {k : Int} (h : rc.length = 19) : (rvC u st ln rc ex xt op k)[25]? = some (.int .i64 k) := by
  unfold rvC
  rw [List.getElem?_append_right (by simp [h])]
  simp [h]
theorem rvC_k {u : ByteArray} {st ln : Int} {rc : List Value} {ex xt : Value} {op : Bool} {k k' : Int} (h : rc.length = 19) : (rvC u st ln rc ex xt op k).set 25 (.int .i64 k') = rvC u st ln rc ex xt op k' := by
  unfold rvC
  rw [List.set_append_right _ _ (by simp [h])]
  simp [h]
theorem rvC_rule {u : ByteArray} {st ln : Int} {rc rc' : List Value} {ex xt : Value} {op : Bool} {k : Int} (h : rc.length = 19) (h' : rc'.length = 19) : setL 3 rc' (rvC u st ln rc ex xt op k) = rvC u st ln rc' ex xt op k := by
  unfold rvC
  exact setL_mid _ rc _ rc' 3 rfl (by rw [h, h'])
theorem read_e1 {s : List UInt8} {f : Nat → Option (List UInt8)} (hf : fieldsF s = some f) (h : timF (val f 1) = none ∨ ∃ st, timF (val f 1) = some st ∧ lnF st (f 3) (f 2) = none) : readF s = .error 1 := by
  unfold readF
  rw [hf]
  simp only []
  rcases h with h | ⟨st, h1, h2⟩
  · rw [h]
  · rw [h1]
    simp only []
    rw [h2]
theorem read_e5 {s : List UInt8} {f : Nat → Option (List UInt8)} {st ln : Int} (hf : fieldsF s = some f) (h1 : timF (val f 1) = some st) (h2 : lnF st (f 3) (f 2) = some ln) (h : tmO (f 5) = none ∨ ∃ ex, tmO (f 5) = some ex ∧ tmO (f 6) = none) : readF s = .error 1 := by
  unfold readF
  rw [hf]
  simp only [h1, h2]
  rcases h with h | ⟨ex, h3, h4⟩
  · rw [h]
  · rw [h3]
    simp only []
    rw [h4]

set_option maxRecDepth 100000 in
set_option maxHeartbeats 8000000 in
theorem read_ref (s : List UInt8) (w : World) (hs : s.length ≤ 1048575) (hn : NamesAt w 1 0 propNames) (hg : 1 < w.heap.size) (hn2 : NamesAt w 2 0 partNames) (hg2 : 2 < w.heap.size) :
    Calls Tryz.prog 186 #[.string (ba s)] w (RdPost s w) := by
  have CF := hide (fun W (h : Below w.heap.size w W) => fields_ref s W hs (names_on hn hg h) (Nat.lt_of_lt_of_le hg h.size))
  have HN2 := hide hn2
  clear hn hn2
  go_enter Tryz.func186, Tryz.ntmps186
  go_upto_region 1 with (refine wpl_alloc_row rfl (alloc_ev_run rfl _ _) ?_; intro w0 hr0 hz0 hb0)
  go_upto_region 2 with (first
    | (go_at_call 235; refine (CF.out _ hb0).mono ?_; rintro e w1 ⟨hb1, f, b, rfl, hno, hyes⟩; have hr1 := hr0.on hb1; have hz1 := hb1.size)
    | (refine wpl_alloc_row rfl (alloc_vals_run rfl _ _) ?_; intro w2 hv2 hz2 hb2)
    | (refine wpl_alloc_row rfl (alloc_havs_run rfl _ _) ?_; intro w3 hh3 hz3 hb3; have hv3 := hv2.on hb3)
    | (refine wpl_store_row rfl (y := .tmp 17) rfl rfl rfl hv3 ((vals_len _).trans (vals_len _).symm) (by rw [vals_len]; exact infoStr9) (vals_one _) ?_; intro w4 hv4 hx4)
    | (refine wpl_store_row rfl (y := .tmp 18) rfl rfl rfl (hh3.exc hx4 (by omega)) ((havs_len _).trans (havs_len _).symm) (by rw [havs_len]; exact infoBool9) (havs_one _) ?_; intro w5 hh5 hx5))
  have hz4 := hx4.size
  have hz5 := hx5.size
  have hv5 := hv4.exc hx5 (by omega)
  have hr5 := (((hr1.on hb2).on hb3).exc hx4 (by omega)).exc hx5 (by omega)
  have hbl5 : Below w.heap.size w w5 := ((((hb0.trans (hb1.mono (by omega))).trans (hb2.mono (by omega))).trans (hb3.mono (by omega))).trans (hx4.below (by omega) (fun k hk => by omega))).trans (hx5.below (by omega) (fun k hk => by omega))
  have HNO := hide hno
  have HYE := hide hyes
  obtain ⟨V, hV⟩ : ∃ V, V = w1.heap.size := ⟨_, rfl⟩
  obtain ⟨H, hH⟩ : ∃ H, H = V + 1 := ⟨_, rfl⟩
  rw [← hV] at hv5 ⊢
  rw [hz2, ← hV, ← hH] at hh5
  rw [← hH]
  have hVl : w.heap.size < V ∧ V < H ∧ H < w5.heap.size := by omega
  have HV5 := hide hv5
  have HH5 := hide hh5
  have HR5 := hide hr5
  have HB5 := hide hbl5
  clear CF hno hyes hr0 hz0 hb0 hb1 hr1 hz1 hv2 hz2 hb2 hh3 hz3 hb3 hv3 hv4 hx4 hh5 hx5 hz4 hz5 hv5 hr5 hbl5 hV hH
  clear w0 w1 w2 w3 w4
  cases b with
  | false =>
    have HX : Hid (readF s = .error 2) := hide (by unfold readF; rw [HNO.out rfl])
    go_wp2_with (first
      | (refine wpl_value rfl (build_ev0_run rfl _ _) ?_)
      | (refine wpl_store_row rfl rfl rfl rfl HR5.out rfl infoRefEv (rvC_one zero19_one rfl rfl) ?_; intro w9 hr9 hx9))
    exact read_end hr9 rfl rfl rfl ⟨HB5.out.trans (hx9.below HB5.out.size (fun k hk => by omega)), .inl ⟨2, HX.out, rfl⟩⟩
  | true =>
    have HF := hide (HYE.out rfl)
    clear HNO HYE
    obtain ⟨ob, hob⟩ : ∃ ob, ob = openOf f := ⟨_, rfl⟩
    obtain ⟨Y0, hY0⟩ : ∃ Y : ByteArray, Y = ⟨((f 0).getD []).toArray⟩ := ⟨_, rfl⟩
    obtain ⟨Y7, hY7⟩ : ∃ Y : ByteArray, Y = ⟨((f 7).getD []).toArray⟩ := ⟨_, rfl⟩
    have v0 := HV5.out.cell (vals_get f (show 0 < 9 by decide))
    have v7 := HV5.out.cell (vals_get f (show 7 < 9 by decide))
    rw [← hY0] at v0
    rw [← hY7] at v7
    have g7 : (Y7.toList == [84, 82, 65, 78, 83, 80, 65, 82, 69, 78, 84]) = ob := by
      rw [hob, hY7]
      unfold openOf val trspL
      by_cases e : (f 7).getD [] = [84, 82, 65, 78, 83, 80, 65, 82, 69, 78, 84]
      · rw [e]; simp
      · have e2 : ¬ (⟨((f 7).getD []).toArray⟩ : ByteArray) = ⟨#[84, 82, 65, 78, 83, 80, 65, 82, 69, 78, 84]⟩ := fun h => e ((ba_iff _ [84, 82, 65, 78, 83, 80, 65, 82, 69, 78, 84]).1 h)
        have := (Lib.bytes_beq_false_iff _ _).2 e2
        simp only [e, decide_false]
        simpa using this
    have HOB := hide hob
    have HY0 := hide hY0
    clear hob hY0 hY7
    go_upto_region 5 with (first
      | (refine wpl_value rfl (build_ev_run rfl rfl rfl _) ?_)
      | (refine wpl_alloc_row rfl (alloc_ev_run rfl _ _) ?_; intro w6 he6 hz6 hb6)
      | (refine wpl_store_row rfl (y := .tmp 28) rfl rfl rfl he6 rfl infoRefEv (rvC_one zero19_one rfl rfl) ?_; intro w7 he7 hx7))
    have hz7 := hx7.size
    obtain ⟨E, hE⟩ : ∃ E, E = w5.heap.size := ⟨_, rfl⟩
    rw [← hE] at he7 hx7 ⊢
    have hEl : w.heap.size < V ∧ V < H ∧ H < E ∧ E < w7.heap.size := by omega
    have hVl2 : w.heap.size < V ∧ V < H ∧ H < E := by omega
    have HS : Hid (RdS w V H E f (rvC Y0 0 0 zero19 (.slice none 0 0) (.slice none 0 0) ob 1) w7) := hide ⟨(HV5.out.on hb6).exc hx7 (by omega), (HH5.out.on hb6).exc hx7 (by omega), he7, (HR5.out.on hb6).exc hx7 (by omega), (HB5.out.trans (hb6.mono HB5.out.size)).trans (hx7.below (by omega) (fun k hk => by omega))⟩
    clear HV5 HH5 HR5 HB5 v0 v7 g7 hVl he6 hz6 hb6 he7 hx7 hz7 w6 hE w5
    have HVS : Hid (∀ k, (val f k).length ≤ 2000) := hide (fields_small HF.out)
    obtain ⟨z1, e1, hp1, b1, b1', t1, k1⟩ := timF_two ((f 1).getD [])
    obtain ⟨n2, e2, hp2, t2, k2⟩ := lenV_two ((f 2).getD [])
    obtain ⟨z3, e3, hp3, b3, b3', t3, k3⟩ := timF_two ((f 3).getD [])
    have C1 := hide (fun W => refParse_any ⟨((f 1).getD []).toArray⟩ W (small_max (Nat.le_trans (HVS.out 1) (by decide))))
    have C2 := hide (fun W => refLength_any ⟨((f 2).getD []).toArray⟩ W (small_max (Nat.le_trans (HVS.out 2) (by decide))))
    have C3 := hide (fun W => refParse_any ⟨((f 3).getD []).toArray⟩ W (small_max (Nat.le_trans (HVS.out 3) (by decide))))
    rw [hp1] at C1
    rw [hp3] at C3
    rw [show lenL (⟨((f 2).getD []).toArray⟩ : ByteArray).data.toList = lenL ((f 2).getD []) from rfl, hp2] at C2
    have T1 := hide t1
    have T2 := hide t2
    have T3 := hide t3
    have U1 := hide k1
    have U2 := hide k2
    have U3 := hide k3
    clear hp1 hp2 hp3 t1 t2 t3 k1 k2 k3
    have v1 := HS.out.v.cell (vals_get f (show 1 < 9 by decide))
    have s1 := HS.out.e.cell (k := 1) rfl
    have f1 := HS.out.e.free (k := 1)
    go_upto_region 6 with (go_at_call 107; refine (C1.out _).mono ?_; rintro e w8 ⟨rfl, rfl⟩)
    have HS1 : Hid (RdS w V H E f (rvC Y0 z1 0 zero19 (.slice none 0 0) (.slice none 0 0) ob 1) (w7.setCell ⟨E, 1, none⟩ (.int .i64 z1))) := hide (HS.out.set (i := 1) _ (by omega) (by omega) (by omega))
    go_upto_region 7 with fail
    clear s1 f1 v1 HS C1
    have hE7 : E < (w7.setCell ⟨E, 1, none⟩ (.int .i64 z1)).heap.size := HS1.out.e.lt
    generalize w7.setCell ⟨E, 1, none⟩ (.int .i64 z1) = w8 at *
    clear hEl
    have v2 := HS1.out.v.cell (vals_get f (show 2 < 9 by decide))
    go_upto_region 8 with (go_at_call 110; refine (C2.out _).mono ?_; rintro e w9 ⟨rfl, hb9⟩)
    have HS2 := hide (HS1.out.on hb9)
    have hE9 : H < E ∧ E < w9.heap.size := by have := hb9.size; omega
    clear HS1 v2 hb9 C2 hE7
    rename_i K1 hK1 K2 hK2
    obtain ⟨L, hL⟩ : ∃ L, L = if (f 3).isSome then z3 - z1 else n2 := ⟨_, rfl⟩
    obtain ⟨gg, hgg⟩ : ∃ g, g = if (f 3).isSome then e3 else e2 := ⟨_, rfl⟩
    have HL := hide hL
    have HG := hide hgg
    have rC : ∀ a wr, RI w V H E f (rvC Y0 z1 0 zero19 (.slice none 0 0) (.slice none 0 0) ob 1) (fun _ => a.eval (.tmp 9) = .int .i64 e1 ∧ a.eval (.tmp 10) = .int .i64 L ∧ a.eval (.tmp 11) = .int .i64 gg) a wr → K1 a wr := by
      clear hK2 K2 HS2 C3 hE9 hL hgg
      intro a wr h
      refine hK1 a wr ?_
      clear hK1
      have hEw : E < wr.heap.size := h.2.1.e.lt
      obtain ⟨hA, hS, h⟩ := h
      obtain ⟨q, rfl, hq⟩ := act_lit115 a hA.size hA.defers
      have q2 := (hq 2).symm.trans hA.s2
      have q4 := (hq 4).symm.trans hA.s4
      have q5 := (hq 5).symm.trans hA.s5
      have q7 := (hq 7).symm.trans hA.s7
      have q9 := (hq 9).symm.trans h.1
      have q10 := (hq 10).symm.trans h.2.1
      have q11 := (hq 11).symm.trans h.2.2
      rw [q2, q4, q5, q7, q9, q10, q11]
      have HS := hide hS
      clear hq hA hS q2 q4 q5 q7 q9 q10 q11
      clear h
      go_upto_region 12 with fail
      have s2 := HS.out.e.cell (k := 2) rfl
      have f2 := HS.out.e.free (k := 2)
      have HS3 : Hid (RdS w V H E f (rvC Y0 z1 L zero19 (.slice none 0 0) (.slice none 0 0) ob 1) (wr.setCell ⟨E, 2, none⟩ (.int .i64 L))) := hide (HS.out.set (i := 2) _ (by omega) (by omega) (by omega))
      go_upto_region 13 with fail
      clear s2 f2 HS
      generalize wr.setCell ⟨E, 2, none⟩ (.int .i64 L) = wq at *
      have HS := HS3
      clear HS3
      by_cases q1 : e1 = 0
      case neg =>
        have HX : Hid (readF s = .error 1) := hide (read_e1 HF.out (.inl (U1.out q1)))
        have q1b : (e1 == 0) = false := beq_eq_false_iff_ne.2 q1
        go_wp2_with (first
          | (refine wpl_value rfl (build_ev0_run rfl _ _) ?_)
          | (refine wpl_store_row rfl rfl rfl rfl HS.out.r rfl infoRefEv (rvC_one zero19_one rfl rfl) ?_; intro w9 hr9 hx9))
        exact read_end hr9 rfl rfl rfl ⟨HS.out.below.trans (hx9.below HS.out.below.size (fun k hk => by omega)), .inl ⟨1, HX.out, rfl⟩⟩
      case pos =>
        have HT1 := hide (T1.out q1)
        subst q1
        by_cases q2 : gg = 0
        case neg =>
          have HX : Hid (readF s = .error 1) := hide (read_e1 HF.out (.inr ⟨z1, HT1.out, ln_no T3.out U3.out T2.out U2.out HL.out HG.out (fun h => q2 h.1)⟩))
          have q2b : (gg == 0) = false := beq_eq_false_iff_ne.2 q2
          go_wp2_with (first
            | (refine wpl_value rfl (build_ev0_run rfl _ _) ?_)
            | (refine wpl_store_row rfl rfl rfl rfl HS.out.r rfl infoRefEv (rvC_one zero19_one rfl rfl) ?_; intro w9 hr9 hx9))
          exact read_end hr9 rfl rfl rfl ⟨HS.out.below.trans (hx9.below HS.out.below.size (fun k hk => by omega)), .inl ⟨1, HX.out, rfl⟩⟩
        case pos =>
          by_cases q3 : 1 ≤ L
          case neg =>
            have HX : Hid (readF s = .error 1) := hide (read_e1 HF.out (.inr ⟨z1, HT1.out, ln_no T3.out U3.out T2.out U2.out HL.out HG.out (fun h => q3 h.2.1)⟩))
            subst q2
            have q3b : L < 1 := by omega
            go_wp2_with (first
              | (refine wpl_value rfl (build_ev0_run rfl _ _) ?_)
              | (refine wpl_store_row rfl rfl rfl rfl HS.out.r rfl infoRefEv (rvC_one zero19_one rfl rfl) ?_; intro w9 hr9 hx9))
            exact read_end hr9 rfl rfl rfl ⟨HS.out.below.trans (hx9.below HS.out.below.size (fun k hk => by omega)), .inl ⟨1, HX.out, rfl⟩⟩
          case pos =>
            by_cases q4 : L ≤ 2678400
            case neg =>
              have HX : Hid (readF s = .error 1) := hide (read_e1 HF.out (.inr ⟨z1, HT1.out, ln_no T3.out U3.out T2.out U2.out HL.out HG.out (fun h => q4 h.2.2)⟩))
              subst q2
              have q4b : 2678400 < L := by omega
              go_wp2_with (first
                | (refine wpl_value rfl (build_ev0_run rfl _ _) ?_)
                | (refine wpl_store_row rfl rfl rfl rfl HS.out.r rfl infoRefEv (rvC_one zero19_one rfl rfl) ?_; intro w9 hr9 hx9))
              exact read_end hr9 rfl rfl rfl ⟨HS.out.below.trans (hx9.below HS.out.below.size (fun k hk => by omega)), .inl ⟨1, HX.out, rfl⟩⟩
            case pos =>
              have HLN := hide (ln_yes T3.out T2.out HL.out HG.out q2 q3 q4)
              subst q2
              have q3b : ¬ L < 1 := by omega
              have q4b : ¬ 2678400 < L := by omega
              go_upto_region 15 with fail
              rename_i K1 hK1 K2 hK2
              clear q3 q4 q3b q4b T1 T2 T3 U1 U2 U3 HL HG
              have h : True := trivial
              obtain ⟨wr, hwr⟩ : ∃ wr, wr = wq := ⟨_, rfl⟩
              rw [← hwr] at HS ⊢
              clear hwr
              have d0 := HS.out.h.cell (havs_get f (show 5 < 9 by decide))
              have v0 := HS.out.v.cell (vals_get f (show 5 < 9 by decide))
              have rX : ∀ exs exv, Hid (tmO (f 5) = some exs) → ∀ a wr, RI w V H E f (rvC Y0 z1 L zero19 exv (.slice none 0 0) ob 1) (fun wr => Own20 E wr exv exs) a wr → K1 a wr := by
                clear hK2 K2 HS d0 v0 h
                intro exs exv HX5
                intro a wr h
                refine hK1 a wr ?_
                clear hK1
                obtain ⟨hA, hS, h⟩ := h
                obtain ⟨q, rfl, hq⟩ := act_lit115 a hA.size hA.defers
                have q2 := (hq 2).symm.trans hA.s2
                have q4 := (hq 4).symm.trans hA.s4
                have q5 := (hq 5).symm.trans hA.s5
                have q7 := (hq 7).symm.trans hA.s7
                rw [q2, q4, q5, q7]
                have HS := hide hS
                clear hq hA hS q2 q4 q5 q7
                go_upto_region 19 with fail
                rename_i K1 hK1 K2 hK2
                have d0 := HS.out.h.cell (havs_get f (show 6 < 9 by decide))
                have v0 := HS.out.v.cell (vals_get f (show 6 < 9 by decide))
                have rD : ∀ xts xtv, Hid (tmO (f 6) = some xts) → ∀ a wr, RI w V H E f (rvC Y0 z1 L zero19 exv xtv ob 1) (fun wr => Own20 E wr exv exs ∧ Own20 E wr xtv xts) a wr → K1 a wr := by
                  clear hK2 K2 HS d0 v0 h
                  intro xts xtv HX6
                  intro a wr h
                  refine hK1 a wr ?_
                  clear hK1
                  obtain ⟨hA, hS, h⟩ := h
                  obtain ⟨q, rfl, hq⟩ := act_lit115 a hA.size hA.defers
                  have q2 := (hq 2).symm.trans hA.s2
                  have q4 := (hq 4).symm.trans hA.s4
                  have q5 := (hq 5).symm.trans hA.s5
                  have q7 := (hq 7).symm.trans hA.s7
                  rw [q2, q4, q5, q7]
                  have HS := hide hS
                  clear hq hA hS q2 q4 q5 q7
                  go_upto_region 23 with fail
                  rename_i K1 hK1 K2 hK2
                  have d4 := HS.out.h.cell (havs_get f (show 4 < 9 by decide))
                  have v4 := HS.out.v.cell (vals_get f (show 4 < 9 by decide))
                  have rR : ∀ rl rcv, Hid (rlO (f 4) = some rl) → Hid (rcv.length = 19 ∧ ∀ x ∈ rcv, x.oneCell' = true) → ∀ a wr, RI w V H E f (rvC Y0 z1 L rcv exv xtv ob 1) (fun wr => Own20 E wr exv exs ∧ Own20 E wr xtv xts ∧ RL rl rcv) a wr → K1 a wr := by
                    clear hK2 K2 HS d4 v4 h
                    intro rl rcv HR4 HRCL
                    intro a wr h
                    refine hK1 a wr ?_
                    clear hK1
                    obtain ⟨hA, hS, h⟩ := h
                    obtain ⟨q, rfl, hq⟩ := act_lit115 a hA.size hA.defers
                    have q2 := (hq 2).symm.trans hA.s2
                    have q4 := (hq 4).symm.trans hA.s4
                    have q5 := (hq 5).symm.trans hA.s5
                    have q7 := (hq 7).symm.trans hA.s7
                    rw [q2, q4, q5, q7]
                    have HS := hide hS
                    clear hq hA hS q2 q4 q5 q7
                    go_upto_region 27 with fail
                    rename_i K1 hK1 K2 hK2
                    have HK8 : Hid (kindOf f = if (f 8).isSome then wrd ((f 8).getD []) confL tentL cancL else 1) := hide rfl
                    have d8 := HS.out.h.cell (havs_get f (show 8 < 9 by decide))
                    have v8 := HS.out.v.cell (vals_get f (show 8 < 9 by decide))
                    have s25 := HS.out.e.cell (k := 25) (rv_last HRCL.out.1)
                    have f25 := HS.out.e.free (k := 25)
                    have C8 := hide (fun W => word_any ((f 8).getD []) confL tentL cancL W)
                    have rK : ∀ kd, Hid (kd = kindOf f) → ∀ a wr, RI w V H E f (rvC Y0 z1 L rcv exv xtv ob kd) (fun wr => Own20 E wr exv exs ∧ Own20 E wr xtv xts ∧ RL rl rcv) a wr → K1 a wr := by
                      clear hK2 K2 HS d8 v8 s25 f25 C8 h
                      intro kd HKD
                      intro a wr h
                      refine hK1 a wr ?_
                      clear hK1
                      obtain ⟨hA, hS, h⟩ := h
                      obtain ⟨q, rfl, hq⟩ := act_lit115 a hA.size hA.defers
                      have q2 := (hq 2).symm.trans hA.s2
                      have q4 := (hq 4).symm.trans hA.s4
                      have q5 := (hq 5).symm.trans hA.s5
                      have q7 := (hq 7).symm.trans hA.s7
                      rw [q2, q4, q5, q7]
                      have HS := hide hS
                      clear hq hA hS q2 q4 q5 q7
                      obtain ⟨O1, O2, hrl⟩ := h
                      have HO1 := hide O1
                      have HO2 := hide O2
                      have HRL := hide hrl
                      clear O1 O2 hrl
                      have hL26 : (rvC Y0 z1 L rcv exv xtv ob kd).length = 26 := rvC_len HRCL.out.1
                      have HL26 := hide hL26
                      have HONE : Hid (∀ x ∈ rvC Y0 z1 L rcv exv xtv ob kd, x.oneCell' = true) := hide (rvC_one HRCL.out.2 HO1.out.one HO2.out.one)
                      clear hL26
                      go_wp2_with (first
                        | (refine wpl_load_row rfl rfl rfl HS.out.e Tryz.underlying245 rfl (by rw [HL26.out]; exact infoRefEv) ?_)
                        | (refine wpl_store_row rfl rfl rfl rfl HS.out.r (HL26.out.symm ▸ rfl) (by rw [HL26.out]; exact infoRefEv) HONE.out ?_; intro w9 hr9 hx9))
                      refine read_end hr9 HL26.out rfl rfl ⟨HS.out.below.trans (hx9.below HS.out.below.size (fun k hk => by omega)), .inr ⟨⟨f, z1, L, exs, xts, rl⟩, rcv, exv, xtv, ?_, ?_, own_ints (HO1.out.exc hx9 (fun k hk => by omega)).1 (Nat.le_trans HO1.out.2 (by decide)), own_ints (HO2.out.exc hx9 (fun k hk => by omega)).1 (Nat.le_trans HO2.out.2 (by decide)), HRL.out⟩⟩
                      · rw [read_of HF.out HT1.out HLN.out HX5.out HX6.out, HR4.out]
                      · rw [HKD.out, HOB.out, HY0.out]
                        rfl
                    clear hK1
                    obtain ⟨O1, O2, hrl⟩ := h
                    generalize hx8 : (f 8).isSome = x8 at *
                    cases x8 with
                    | false =>
                      go_wp2_with fail
                      exact rK 1 (hide (by rw [HK8.out]; rfl)) _ _ ⟨⟨rfl, rfl, rfl, rfl, rfl, rfl⟩, HS.out, O1, O2, hrl⟩
                    | true =>
                      go_wp2_with (go_at_call 238; refine (C8.out _).mono ?_; rintro e w8 ⟨rfl, rfl⟩)
                      exact rK _ (hide (by rw [HK8.out]; rfl)) _ _ ⟨⟨rfl, rfl, rfl, rfl, rfl, rfl⟩, rvC_k HRCL.out.1 ▸ HS.out.set (i := 25) _ (by omega) (by omega) (by omega), O1.exc ((Exc.refl (fun k => k = E) _).setCell (p := ⟨E, 25, none⟩) (.inl rfl) _) (fun k hk => by omega), O2.exc ((Exc.refl (fun k => k = E) _).setCell (p := ⟨E, 25, none⟩) (.inl rfl) _) (fun k hk => by omega), hrl⟩
                  clear hK1
                  obtain ⟨O1, O2⟩ := h
                  cases h4 : f 4 with
                  | none =>
                    rw [h4] at d4
                    go_wp2_with fail
                    exact rR none zero19 (hide (by rw [h4]; rfl)) (hide ⟨rfl, zero19_one⟩) _ _ ⟨⟨rfl, rfl, rfl, rfl, rfl, rfl⟩, HS.out, O1, O2, .inl ⟨rfl, rfl⟩⟩
                  | some v =>
                    rw [h4] at d4 v4
                    have hvl : v.length ≤ 2000 := by have := HVS.out 4; unfold val at this; rw [h4] at this; exact this
                    have CR := rule_ref v wr (by omega) (names_on HN2.out hg2 HS.out.below) (Nat.lt_of_lt_of_le hg2 HS.out.below.size)
                    have HCR := hide CR
                    have HV4 := hide h4
                    clear CR h4
                    go_upto_region 25 with (first
                      | (go_at_call 237; refine (HCR.out).mono ?_; rintro e w8 ⟨hb8, rcv, b8, rfl, hrl1, hrl2, h80, h81⟩; have HS8 := hide (HS.out.on hb8))
                      | (refine wpl_store_part rfl (k := 3) rfl rfl rfl HS8.out.e (by rw [rvC_len rfl, hrl1]; decide) (by rw [hrl1]; exact infoRefRule) hrl2 ?_; intro w9 hr9 hx9))
                    rw [rvC_rule rfl hrl1] at hr9
                    have HS9 := hide (HS8.out.exc hx9 hr9 (by omega) (by omega) (by omega))
                    have H80 := hide h80
                    have H81 := hide h81
                    have O19 := (O1.on hb8).exc hx9 (fun k hk => by omega)
                    have O29 := (O2.on hb8).exc hx9 (fun k hk => by omega)
                    clear h80 h81 hr9 hx9 hb8 O1 O2 HS8 HS d4 v4
                    cases b8 with
                    | false =>
                      have HX : Hid (readF s = .error 3) := hide (by rw [read_of HF.out HT1.out HLN.out HX5.out HX6.out, show rlO (f 4) = none from by rw [HV4.out]; show (ruleF v).map some = none; rw [H80.out rfl]; rfl])
                      go_wp2_with (first
                        | (refine wpl_value rfl (build_ev0_run rfl _ _) ?_)
                        | (refine wpl_store_row rfl rfl rfl rfl HS9.out.r rfl infoRefEv (rvC_one zero19_one rfl rfl) ?_; intro w10 hr10 hx10))
                      exact read_end hr10 rfl rfl rfl ⟨HS9.out.below.trans (hx10.below HS9.out.below.size (fun k hk => by omega)), .inl ⟨3, HX.out, rfl⟩⟩
                    | true =>
                      obtain ⟨F, hF, hRR⟩ := H81.out rfl
                      obtain ⟨rc2, e2', hTX⟩ := refTx hRR
                      have e3' : rc2 = rcv := by have := Value.agg.inj e2'; simpa using this.symm
                      subst e3'
                      go_wp2_with fail
                      exact rR (some F) rc2 (hide (by rw [HV4.out]; show (ruleF v).map some = _; rw [hF]; rfl)) (hide ⟨hrl1, hrl2⟩) _ _ ⟨⟨rfl, rfl, rfl, rfl, rfl, rfl⟩, HS9.out, O19, O29, .inr ⟨F, rfl, hTX⟩⟩
                clear hK1
                have O1 := h
                cases h5 : f 6 with
                | none =>
                  rw [h5] at d0
                  go_wp2_with fail
                  exact rD [] (.slice none 0 0) (hide (by rw [h5]; rfl)) _ _ ⟨⟨rfl, rfl, rfl, rfl, rfl, rfl⟩, HS.out, O1, Own20.nil _ _⟩
                | some v =>
                  rw [h5] at d0 v0
                  have hvl : v.length ≤ 2000 := by have := HVS.out 6; unfold val at this; rw [h5] at this; exact this
                  have CR := times_ref ⟨v.toArray⟩ wr (by show v.toArray.size ≤ _; rw [List.size_toArray]; omega)
                  have HCR := hide CR
                  have HV5 := hide h5
                  clear CR h5
                  go_upto_region 21 with (go_at_call 236; refine (HCR.out).mono ?_; rintro e w8 ⟨a8, n8, c8, b8, rfl, hb8, h80, h81⟩; have HS8 := hide (HS.out.on hb8); have s8 := HS8.out.e.cell (k := 23) rfl; have f8 := HS8.out.e.free (k := 23))
                  have HS9 := hide (HS8.out.set (i := 23) (.slice a8 n8 c8) (by omega) (by omega) (by omega))
                  have hxE : Exc (fun k => k = E) w8 (w8.setCell ⟨E, 23, none⟩ (.slice a8 n8 c8)) := (Exc.refl (fun k => k = E) w8).setCell (p := ⟨E, 23, none⟩) (.inl rfl) _
                  have H80 := hide h80
                  have H81 := hide h81
                  have HEX9 := hide hxE
                  have hzz : E + 1 ≤ wr.heap.size := by have := HS.out.e.lt; omega
                  clear h80 h81 hxE s8 f8 d0 v0 HS HS8
                  cases b8 with
                  | false =>
                    have HX : Hid (readF s = .error 1) := hide (read_e5 HF.out HT1.out HLN.out (.inr ⟨exs, HX5.out, by rw [HV5.out]; exact H80.out rfl⟩))
                    go_wp2_with (first
                      | (refine wpl_value rfl (build_ev0_run rfl _ _) ?_)
                      | (refine wpl_store_row rfl rfl rfl rfl HS9.out.r rfl infoRefEv (rvC_one zero19_one rfl rfl) ?_; intro w9 hr9 hx9))
                    exact read_end hr9 rfl rfl rfl ⟨HS9.out.below.trans (hx9.below HS9.out.below.size (fun k hk => by omega)), .inl ⟨1, HX.out, rfl⟩⟩
                  | true =>
                    obtain ⟨zs, hz1, hz2, hz3⟩ := H81.out rfl
                    have hzo : Own20 E w8 (.slice a8 n8 c8) zs := ⟨own_mono hz2 hzz, hz3⟩
                    go_wp2_with fail
                    exact rD zs (.slice a8 n8 c8) (hide (by rw [HV5.out]; exact hz1)) _ _ ⟨⟨rfl, rfl, rfl, rfl, rfl, rfl⟩, HS9.out, (O1.on hb8).exc HEX9.out (fun k hk => by omega), hzo.exc HEX9.out (fun k hk => by omega)⟩
              clear hK1
              cases h5 : f 5 with
              | none =>
                rw [h5] at d0
                go_wp2_with fail
                exact rX [] (.slice none 0 0) (hide (by rw [h5]; rfl)) _ _ ⟨⟨rfl, rfl, rfl, rfl, rfl, rfl⟩, HS.out, Own20.nil _ _⟩
              | some v =>
                rw [h5] at d0 v0
                have hvl : v.length ≤ 2000 := by have := HVS.out 5; unfold val at this; rw [h5] at this; exact this
                have CR := times_ref ⟨v.toArray⟩ wr (by show v.toArray.size ≤ _; rw [List.size_toArray]; omega)
                have HCR := hide CR
                have HV5 := hide h5
                clear CR h5
                go_upto_region 17 with (go_at_call 236; refine (HCR.out).mono ?_; rintro e w8 ⟨a8, n8, c8, b8, rfl, hb8, h80, h81⟩; have HS8 := hide (HS.out.on hb8); have s8 := HS8.out.e.cell (k := 22) rfl; have f8 := HS8.out.e.free (k := 22))
                have HS9 := hide (HS8.out.set (i := 22) (.slice a8 n8 c8) (by omega) (by omega) (by omega))
                have hxE : Exc (fun k => k = E) w8 (w8.setCell ⟨E, 22, none⟩ (.slice a8 n8 c8)) := (Exc.refl (fun k => k = E) w8).setCell (p := ⟨E, 22, none⟩) (.inl rfl) _
                have H80 := hide h80
                have H81 := hide h81
                have HEX9 := hide hxE
                have hzz : E + 1 ≤ wr.heap.size := by have := HS.out.e.lt; omega
                clear h80 h81 hxE s8 f8 d0 v0 HS HS8
                cases b8 with
                | false =>
                  have HX : Hid (readF s = .error 1) := hide (read_e5 HF.out HT1.out HLN.out (.inl (by rw [HV5.out]; exact H80.out rfl)))
                  go_wp2_with (first
                    | (refine wpl_value rfl (build_ev0_run rfl _ _) ?_)
                    | (refine wpl_store_row rfl rfl rfl rfl HS9.out.r rfl infoRefEv (rvC_one zero19_one rfl rfl) ?_; intro w9 hr9 hx9))
                  exact read_end hr9 rfl rfl rfl ⟨HS9.out.below.trans (hx9.below HS9.out.below.size (fun k hk => by omega)), .inl ⟨1, HX.out, rfl⟩⟩
                | true =>
                  obtain ⟨zs, hz1, hz2, hz3⟩ := H81.out rfl
                  have hzo : Own20 E w8 (.slice a8 n8 c8) zs := ⟨own_mono hz2 hzz, hz3⟩
                  go_wp2_with fail
                  exact rX zs (.slice a8 n8 c8) (hide (by rw [HV5.out]; exact hz1)) _ _ ⟨⟨rfl, rfl, rfl, rfl, rfl, rfl⟩, HS9.out, hzo.exc HEX9.out (fun k hk => by omega)⟩
    clear hK1
    have d3 := HS2.out.h.cell (havs_get f (show 3 < 9 by decide))
    have v3 := HS2.out.v.cell (vals_get f (show 3 < 9 by decide))
    generalize hx3 : (f 3).isSome = x3 at *
    cases x3 with
    | false =>
      rw [if_neg (by simp)] at hL hgg
      subst hL hgg
      go_wp2_with fail
      exact ⟨⟨rfl, rfl, rfl, rfl, rfl, rfl⟩, HS2.out, rfl, rfl, rfl⟩
    | true =>
      rw [if_pos rfl] at hL hgg
      subst hL hgg
      go_wp2_with (go_at_call 107; refine (C3.out _).mono ?_; rintro e w10 ⟨rfl, rfl⟩)
      exact ⟨⟨rfl, rfl, rfl, rfl, rfl, rfl⟩, HS2.out, rfl, rfl, rfl⟩
end Go.Proofs.YthpndgcaoeokeaaGreatDoor
namespace Go.Proofs.YthpndgcaoeokeaaGreatDoor
open Go.RowKit

theorem box_any {P : Program} (T : TypeId) (cs : List Value) (w : World) : (Instr.box T (.agg cs.toArray)).run P w = .ok (.pointer (some ⟨w.heap.size, 0, none⟩)) (w.alloc (.cells cs.toArray T)) := by
  first
  | rfl
  | (simp [Instr.box, newVar, newRow, Value.cells]; done)
  | (unfold Instr.box newVar; go_simp)
theorem box_run {o : Oper} {a : Act} {w : World} {x : Operand} {T : TypeId} {cs : List Value} (ho : o.op = .box T x) (hx : a.eval x = .agg cs.toArray) : (execOp a.eval o).run Tryz.prog w = .ok (.value (.pointer (some ⟨w.heap.size, 0, none⟩))) (w.alloc (.cells cs.toArray T)) := by
  obtain ⟨_, _, _, _, _, _⟩ := o
  simp only [] at ho
  subst ho
  unfold execOp
  simp only [hx]
  exact run_value (box_any T cs w)
def rA : ByteArray := ⟨#[66, 69, 71, 73, 78, 58, 86, 69, 86, 69, 78, 84, 13, 10, 85, 73, 68, 58]⟩
def rC : ByteArray := ⟨#[13, 10]⟩
def rD : ByteArray := ⟨#[68, 84, 83, 84, 65, 82, 84, 58]⟩
def rU : ByteArray := ⟨#[68, 85, 82, 65, 84, 73, 79, 78, 58, 80, 84]⟩
def rS : ByteArray := ⟨#[83]⟩
def c2 (U : ByteArray) : ByteArray := rA ++ U
def c3 (U : ByteArray) : ByteArray := c2 U ++ rC
def c4 (U : ByteArray) : ByteArray := c3 U ++ rD
def c6 (U T : ByteArray) : ByteArray := c4 U ++ T
def c7 (U T : ByteArray) : ByteArray := c6 U T ++ rC
def c8 (U T : ByteArray) : ByteArray := c7 U T ++ rU
def c12 (U T D : ByteArray) : ByteArray := c8 U T ++ D
def c13 (U T D : ByteArray) : ByteArray := c12 U T D ++ rS
def c14 (U T D : ByteArray) : ByteArray := c13 U T D ++ rC
theorem s2 (U : ByteArray) : (c2 U).size = U.size + 18 := by
  unfold c2
  rw [ByteArray.size_append]
  have : rA.size = 18 := rfl
  omega
theorem s3 (U : ByteArray) : (c3 U).size = U.size + 20 := by
  unfold c3
  rw [ByteArray.size_append, s2]
  have : rC.size = 2 := rfl
  omega
theorem s4 (U : ByteArray) : (c4 U).size = U.size + 28 := by
  unfold c4
  rw [ByteArray.size_append, s3]
  have : rD.size = 8 := rfl
  omega
theorem s6 (U T : ByteArray) : (c6 U T).size = U.size + T.size + 28 := by
  unfold c6
  rw [ByteArray.size_append, s4]
  omega
theorem s7 (U T : ByteArray) : (c7 U T).size = U.size + T.size + 30 := by
  unfold c7
  rw [ByteArray.size_append, s6]
  have : rC.size = 2 := rfl
  omega
theorem s8 (U T : ByteArray) : (c8 U T).size = U.size + T.size + 41 := by
  unfold c8
  rw [ByteArray.size_append, s7]
  have : rU.size = 11 := rfl
  omega
theorem s12 (U T D : ByteArray) : (c12 U T D).size = U.size + T.size + D.size + 41 := by
  unfold c12
  rw [ByteArray.size_append, s8]
  omega
theorem s13 (U T D : ByteArray) : (c13 U T D).size = U.size + T.size + D.size + 42 := by
  unfold c13
  rw [ByteArray.size_append, s12]
  have : rS.size = 1 := rfl
  omega
theorem s14 (U T D : ByteArray) : (c14 U T D).size = U.size + T.size + D.size + 44 := by
  unfold c14
  rw [ByteArray.size_append, s13]
  have : rC.size = 2 := rfl
  omega
def slR (i : Nat) : Nat := if i = 15 then 5 else 15 + i
def NR (b : Nat) (U T D : ByteArray) (ln : Int) (i : Nat) (v : Value) (_ : World) : Prop := match i with
  | 0 => v = .pointer (some ⟨b, 0, none⟩)
  | 1 => v = .string U
  | 2 => v = .string (c2 U)
  | 3 => v = .string (c3 U)
  | 4 => v = .string (c4 U)
  | 5 => v = .string T
  | 6 => v = .string (c6 U T)
  | 7 => v = .string (c7 U T)
  | 8 => v = .string (c8 U T)
  | 9 => v = .pointer (some ⟨b, 2, none⟩)
  | 10 => v = .int .i64 ln
  | 11 => v = .string D
  | 12 => v = .string (c12 U T D)
  | 13 => v = .string (c13 U T D)
  | 14 => v = .string (c14 U T D)
  | _ => v = .string (c14 U T D)
theorem NR.grow {b : Nat} {U T D : ByteArray} {ln : Int} (i : Nat) (v : Value) (w w' : World) (h : NR b U T D ln i v w) (_ : Below w.heap.size w w') : NR b U T D ln i v w' := h
theorem slotsR (b : Nat) (U T D : ByteArray) (ln : Int) : Slots slR [(1, .pointer (some ⟨b, 0, none⟩)), (3, .string T)] 107 16 (NR b U T D ln) :=
  ⟨fun i hi => by unfold slR; split <;> omega, fun i j hi hj h => by unfold slR at h; split at h <;> split at h <;> omega, fun p hp i hi => by
    simp only [List.mem_cons, List.not_mem_nil, or_false] at hp
    rcases hp with rfl | rfl
    · show 1 ≠ slR i; unfold slR; split <;> omega
    · show 3 ≠ slR i; unfold slR; split <;> omega, NR.grow⟩
theorem rvFld_run (b k off : Nat) (h : (k, off) = (0, 0) ∨ (k, off) = (1, 1) ∨ (k, off) = (2, 2)) (w : World) : (Instr.fieldAt 245 (.pointer (some ⟨b, 0, none⟩)) k).run Tryz.prog w = .ok (.pointer (some ⟨b, off, none⟩)) w := by
  rcases h with h | h | h <;> cases h <;> go_simp
theorem mv_run {o : Oper} {a : Act} {w : World} {x : Operand} {v : Value} (ho : o.op = .move x) (h : a.eval x = v) : (execOp a.eval o).run Tryz.prog w = .ok (.value v) w := by
  obtain ⟨_, _, _, _, _, _⟩ := o
  simp only [] at ho
  subst ho
  unfold execOp
  simp only [h]
  rfl
set_option maxRecDepth 10000 in
theorem act_lit107 (a : Act) (h : a.tmps.size = 107) (hd : a.defers = []) : ∃ f : Nat → Value, a = ⟨List.toArray (f 0 :: f 1 :: f 2 :: f 3 :: f 4 :: f 5 :: f 6 :: f 7 :: f 8 :: f 9 :: f 10 :: f 11 :: f 12 :: f 13 :: f 14 :: f 15 :: f 16 :: f 17 :: f 18 :: f 19 :: f 20 :: f 21 :: f 22 :: f 23 :: f 24 :: f 25 :: f 26 :: f 27 :: f 28 :: f 29 :: f 30 :: f 31 :: f 32 :: f 33 :: f 34 :: f 35 :: f 36 :: f 37 :: f 38 :: f 39 :: f 40 :: f 41 :: f 42 :: f 43 :: f 44 :: f 45 :: f 46 :: f 47 :: f 48 :: f 49 :: f 50 :: f 51 :: f 52 :: f 53 :: f 54 :: f 55 :: f 56 :: f 57 :: f 58 :: f 59 :: f 60 :: f 61 :: f 62 :: f 63 :: f 64 :: f 65 :: f 66 :: f 67 :: f 68 :: f 69 :: f 70 :: f 71 :: f 72 :: f 73 :: f 74 :: f 75 :: f 76 :: f 77 :: f 78 :: f 79 :: f 80 :: f 81 :: f 82 :: f 83 :: f 84 :: f 85 :: f 86 :: f 87 :: f 88 :: f 89 :: f 90 :: f 91 :: f 92 :: f 93 :: f 94 :: f 95 :: f 96 :: f 97 :: f 98 :: f 99 :: f 100 :: f 101 :: f 102 :: f 103 :: f 104 :: f 105 :: f 106 :: []), []⟩ ∧ ∀ k, a.eval (.tmp k) = f k := by
  obtain ⟨t, d⟩ := a
  simp only [] at h hd
  subst hd
  refine ⟨fun k => t.getD k undef, ?_, fun k => rfl⟩
  congr 1
  apply Array.ext'
  apply List.ext_getElem?
  intro i
  by_cases hi : i < 107
  · rw [show t.toList[i]? = some (t.getD i undef) from by simp [Array.getD, h, hi]]
    match i, hi with
    | 0, _ => rfl
    | 1, _ => rfl
    | 2, _ => rfl
    | 3, _ => rfl
    | 4, _ => rfl
    | 5, _ => rfl
    | 6, _ => rfl
    | 7, _ => rfl
    | 8, _ => rfl
    | 9, _ => rfl
    | 10, _ => rfl
    | 11, _ => rfl
    | 12, _ => rfl
    | 13, _ => rfl
    | 14, _ => rfl
    | 15, _ => rfl
    | 16, _ => rfl
    | 17, _ => rfl
    | 18, _ => rfl
    | 19, _ => rfl
    | 20, _ => rfl
    | 21, _ => rfl
    | 22, _ => rfl
    | 23, _ => rfl
    | 24, _ => rfl
    | 25, _ => rfl
    | 26, _ => rfl
    | 27, _ => rfl
    | 28, _ => rfl
    | 29, _ => rfl
    | 30, _ => rfl
    | 31, _ => rfl
    | 32, _ => rfl
    | 33, _ => rfl
    | 34, _ => rfl
    | 35, _ => rfl
    | 36, _ => rfl
    | 37, _ => rfl
    | 38, _ => rfl
    | 39, _ => rfl
    | 40, _ => rfl
    | 41, _ => rfl
    | 42, _ => rfl
    | 43, _ => rfl
    | 44, _ => rfl
    | 45, _ => rfl
    | 46, _ => rfl
    | 47, _ => rfl
    | 48, _ => rfl
    | 49, _ => rfl
    | 50, _ => rfl
    | 51, _ => rfl
    | 52, _ => rfl
    | 53, _ => rfl
    | 54, _ => rfl
    | 55, _ => rfl
    | 56, _ => rfl
    | 57, _ => rfl
    | 58, _ => rfl
    | 59, _ => rfl
    | 60, _ => rfl
    | 61, _ => rfl
    | 62, _ => rfl
    | 63, _ => rfl
    | 64, _ => rfl
    | 65, _ => rfl
    | 66, _ => rfl
    | 67, _ => rfl
    | 68, _ => rfl
    | 69, _ => rfl
    | 70, _ => rfl
    | 71, _ => rfl
    | 72, _ => rfl
    | 73, _ => rfl
    | 74, _ => rfl
    | 75, _ => rfl
    | 76, _ => rfl
    | 77, _ => rfl
    | 78, _ => rfl
    | 79, _ => rfl
    | 80, _ => rfl
    | 81, _ => rfl
    | 82, _ => rfl
    | 83, _ => rfl
    | 84, _ => rfl
    | 85, _ => rfl
    | 86, _ => rfl
    | 87, _ => rfl
    | 88, _ => rfl
    | 89, _ => rfl
    | 90, _ => rfl
    | 91, _ => rfl
    | 92, _ => rfl
    | 93, _ => rfl
    | 94, _ => rfl
    | 95, _ => rfl
    | 96, _ => rfl
    | 97, _ => rfl
    | 98, _ => rfl
    | 99, _ => rfl
    | 100, _ => rfl
    | 101, _ => rfl
    | 102, _ => rfl
    | 103, _ => rfl
    | 104, _ => rfl
    | 105, _ => rfl
    | 106, _ => rfl
    | n + 107, hn => omega
  · rw [List.getElem?_eq_none (by rw [Array.length_toList]; omega), List.getElem?_eq_none (by show 107 ≤ i; omega)]
end Go.Proofs.YthpndgcaoeokeaaGreatDoor
namespace Go.Proofs.YthpndgcaoeokeaaGreatDoor
open Go.RowKit

theorem pad_plain : ∀ (m u : Nat), u ≤ m → u < 10000000 → pad (dsz u) u = Lib.decDigits u
  | m, u, hm, h => by
    by_cases h1 : u < 10
    · rw [dsz_one _ (by omega), Lib.decDigits_one h1]
      simp only [pad, List.nil_append]
      congr 2
      omega
    · cases m with
      | zero => omega
      | succ m =>
        have ih := pad_plain m (u / 10) (by omega) (by omega)
        rw [dsz_step _ (by omega) (by omega), dec_snoc h1, ← ih]
        show pad (dsz ((u : Int) / 10)) ((u : Int) / 10) ++ [UInt8.ofNat (48 + (u : Int) % 10).toNat] = _
        have e : (u : Int) / 10 = ((u / 10 : Nat) : Int) := by omega
        have e2 : (48 + (u : Int) % 10).toNat = 48 + u % 10 := by omega
        rw [e, e2]
/-- the cells of an event -/
theorem rv_get {u : ByteArray} {st ln : Int} {rc : List Value} {ex xt : Value} {op : Bool} {k : Int} (h : rc.length = 19) :
    (∀ j, j < 19 → (rvC u st ln rc ex xt op k)[3 + j]? = rc[j]?) ∧ (rvC u st ln rc ex xt op k)[22]? = some ex ∧ (rvC u st ln rc ex xt op k)[23]? = some xt ∧ (rvC u st ln rc ex xt op k)[24]? = some (.bool op) ∧ (rvC u st ln rc ex xt op k)[25]? = some (.int .i64 k) := by
  unfold rvC
  refine ⟨fun j hj => ?_, ?_, ?_, ?_, ?_⟩
  · rw [List.append_assoc, List.getElem?_append_right (by simp), show 3 + j - [Value.string u, Value.int .i64 st, Value.int .i64 ln].length = j by simp, List.getElem?_append_left (by omega)]
  all_goals
    rw [List.getElem?_append_right (by simp [h])]
    simp [h]
/-- what the segments of Text keep: the text so far -/
structure TR (b : Nat) (W : World) (ls : List (List UInt8)) (a : Act) (wr : World) : Prop where
  size : a.tmps.size = 107
  defers : a.defers = []
  s1 : a.eval (.tmp 1) = .pointer (some ⟨b, 0, none⟩)
  s5 : a.eval (.tmp 5) = .string ⟨(txl ls).toArray⟩
  below : Below W.heap.size W wr
theorem txl_add (ls ms : List (List UInt8)) : txl (ls ++ ms) = txl ls ++ txl ms := by unfold txl; rw [List.flatMap_append]
theorem c14_txl {u : List UInt8} {st ln : Int} : c14 (ba u) ⟨(ptx st).toArray⟩ ⟨(Lib.decDigits ln.toNat).toArray⟩ = ⟨(txl (ev4 u st ln)).toArray⟩ := by
  apply ByteArray.ext
  simp [c14, c13, c12, c8, c7, c6, c4, c3, c2, rA, rC, rD, rU, rS, ba, txl, ev4, beginL, uidL, dtsL, durL]

theorem txt1_bd {F : Nat → Option (List UInt8)} {B : Nat} (h : ∀ k, ((F k).getD []).length ≤ B) : ∀ k, ∀ t ∈ txts F k, t.length ≤ B + 21
  | 0, t, ht => by simp [txts] at ht
  | k + 1, t, ht => by
    rw [txts, List.mem_append] at ht
    rcases ht with ht | ht
    · exact txt1_bd h k t ht
    · unfold txt1 at ht
      have h1 := h k
      have h2 := names_small k
      cases hf : F k with
      | none => rw [hf] at ht; simp at ht
      | some v =>
        rw [hf] at ht h1
        simp only [] at ht
        split at ht
        · rw [List.mem_singleton] at ht
          subst ht
          rw [List.length_append, List.length_cons]
          simp at h1
          omega
        · simp at ht
theorem join_rule {F : Nat → Option (List UInt8)} (hb : ∀ k, ((F k).getD []).length ≤ 2000) {j : Nat} (hj : j ≤ 9 := by decide) : (Lib.join (txts F j) [59]).length ≤ 20000 := by
  have h7 := intercalate_len [59] 2021 (txts F j) (txt1_bd hb j)
  have h8 := txts_len F j
  have h9 : (txts F j).length * (2021 + [(59 : UInt8)].length) ≤ 9 * 2022 := Nat.mul_le_mul (by omega) (by simp)
  omega
theorem txO_small {F : Nat → Option (List UInt8)} (hb : ∀ k, ((F k).getD []).length ≤ 2000) (j : Nat) : (txO j (F j)).length ≤ 2100 := by
  have h1 := hb j
  have h2 := names_small j
  unfold txO
  cases hf : F j with
  | none => simp
  | some v =>
    rw [hf] at h1
    simp at h1
    rw [List.length_append, List.length_cons]
    omega
theorem txts_skip {F : Nat → Option (List UInt8)} {j : Nat} (h : txO j (F j) = [] ∨ txO j (F j) = [73, 78, 84, 69, 82, 86, 65, 76, 61, 49] ∨ txO j (F j) = [87, 75, 83, 84, 61, 77, 79]) : txts F (j + 1) = txts F j := by
  rw [txts]
  unfold txt1
  cases hf : F j with
  | none => simp
  | some v =>
    rw [hf] at h
    simp only [txO] at h
    simp only []
    rw [if_neg, List.append_nil]
    intro hs
    unfold shown at hs
    simp only [Bool.and_eq_true, decide_eq_true_eq] at hs
    rcases h with h | h | h
    · simp at h
    · exact hs.1 h
    · exact hs.2 h
theorem txts_add {F : Nat → Option (List UInt8)} {j : Nat} (h0 : txO j (F j) ≠ []) (h1 : txO j (F j) ≠ [73, 78, 84, 69, 82, 86, 65, 76, 61, 49]) (h2 : txO j (F j) ≠ [87, 75, 83, 84, 61, 77, 79]) : txts F (j + 1) = txts F j ++ [txO j (F j)] := by
  rw [txts]
  unfold txt1
  cases hf : F j with
  | none => rw [hf] at h0; exact absurd rfl h0
  | some v =>
    rw [hf] at h1 h2
    simp only [txO] at h1 h2 ⊢
    rw [if_pos]
    unfold shown
    simp only [Bool.and_eq_true, decide_eq_true_eq]
    exact ⟨h1, h2⟩
theorem txts_ne {F : Nat → Option (List UInt8)} : ∀ j, ∀ t ∈ txts F j, t ≠ []
  | 0, t, h => by simp [txts] at h
  | j + 1, t, h => by
    rw [txts, List.mem_append] at h
    rcases h with h | h
    · exact txts_ne j t h
    · unfold txt1 at h
      cases hf : F j with
      | none => rw [hf] at h; simp at h
      | some v =>
        rw [hf] at h
        simp only [] at h
        split at h
        · rw [List.mem_singleton] at h; subst h; simp
        · simp at h
theorem txts_nil {F : Nat → Option (List UInt8)} {j : Nat} (h : Lib.join (txts F j) [59] = []) : txts F j = [] := by
  cases ht : txts F j with
  | nil => rfl
  | cons t r =>
    rw [ht, Lib.join_cons] at h
    have := txts_ne (F := F) j t (by rw [ht]; simp)
    exact absurd (List.append_eq_nil_iff.1 h).1 this
theorem ints_on {w w' : World} {v : Value} {zs : List Int} (h : IntsAt w v zs) (hb : Below w.heap.size w w') : IntsAt w' v zs := by
  refine ⟨h.1, h.2.imp id ?_⟩
  rintro ⟨g, off, cap, h1, h2, h3⟩
  exact ⟨g, off, cap, h1, Nat.lt_of_lt_of_le h2 hb.size, fun j hj => (hb.cell (p := ⟨g, off + j, none⟩) h2).trans (h3 j hj)⟩
set_option maxRecDepth 100000 in
set_option maxHeartbeats 8000000 in
theorem text_ref (u : List UInt8) (st ln : Int) (rc : List Value) (rt : Option (List UInt8)) (exv xtv : Value) (ex xt : List Int) (op : Bool) (k : Int) (w : World) (hl : rc.length = 19) (h1c : ∀ x ∈ rc, x.oneCell' = true)
    (hrc : (rt = none ∧ rc = zero19) ∨ ∃ F, rt = some (Lib.join (txts F 9) [59]) ∧ RefTx rc F ∧ 0 < freqOf F ∧ ∀ k, ((F k).getD []).length ≤ 2000)
    (hex : IntsAt w exv ex) (hxt : IntsAt w xtv xt) (hle : ex.length ≤ 20) (hlx : xt.length ≤ 20) (hu : u.length ≤ 2000) (hl1 : 1 ≤ ln) (hl2 : ln ≤ 2678400) (hk1 : 1 ≤ k) (hk2 : k ≤ 3) :
    Calls Tryz.prog 187 #[.agg (rvC (ba u) st ln rc exv xtv op k).toArray] w fun E w' => E = .returned (.string ⟨(txl (evT u st ln rt ex xt op (k - 1))).toArray⟩) ∧ Below w.heap.size w w' := by
  obtain ⟨ax5, cx5, rfl, _⟩ := ints_form hex
  obtain ⟨ax6, cx6, rfl, _⟩ := ints_form hxt
  obtain ⟨x1, hx1⟩ := printV_ptx st
  have CP := fun W => refPrint_any st W
  rw [hx1] at CP
  have CL := fun W => plain_any ln W (by omega) (by omega)
  rw [show pad (dsz ln) ln = Lib.decDigits ln.toNat from by have := pad_plain ln.toNat ln.toNat (Nat.le_refl _) (by omega); rw [show ((ln.toNat : Nat) : Int) = ln by omega] at this; exact this] at CL
  obtain ⟨T, hT⟩ : ∃ T : ByteArray, T = ⟨(ptx st).toArray⟩ := ⟨_, rfl⟩
  obtain ⟨D, hD⟩ : ∃ D : ByteArray, D = ⟨(Lib.decDigits ln.toNat).toArray⟩ := ⟨_, rfl⟩
  obtain ⟨U, hU⟩ : ∃ U : ByteArray, U = ba u := ⟨_, rfl⟩
  have sU : U.size ≤ 2000 := by rw [hU]; show u.toArray.size ≤ _; rw [List.size_toArray]; exact hu
  have sT : T.size ≤ 16 := by rw [hT]; show (ptx st).toArray.size ≤ _; rw [List.size_toArray]; exact ptx_len st
  have sD : D.size ≤ 8 := by rw [hD]; show (Lib.decDigits ln.toNat).toArray.size ≤ _; rw [List.size_toArray]; exact dec_len _ (by omega)
  rw [← hT] at CP
  rw [← hD] at CL
  rw [← hU]
  obtain ⟨cs, hcs⟩ : ∃ cs, cs = rvC U st ln rc (.slice ax5 ex.length cx5) (.slice ax6 xt.length cx6) op k := ⟨_, rfl⟩
  rw [← hcs]
  have HC14 : Hid (c14 U T D = ⟨(txl (ev4 u st ln)).toArray⟩) := hide (by rw [hU, hT, hD]; exact c14_txl)
  have HCP := hide CP
  have HCL := hide CL
  have HCS := hide hcs
  have HEX := hide hex
  have HXT := hide hxt
  have HRC := hide hrc
  clear CP CL hT hD hU hcs hx1 hex hxt hrc
  go_enter Tryz.func187, Tryz.ntmps187
  go_upto_region 1 with (refine wpl_alloc_row rfl (box_run rfl rfl) ?_; intro W hrow hzW hbW)
  have HROW := hide hrow
  have c1 : W.cell? ⟨w.heap.size, 1, none⟩ = some (.int .i64 st) := HROW.out.cell (by rw [HCS.out]; rfl)
  clear hrow
  go_upto_region 2 with (go_at_call 109; refine (HCP.out _).mono ?_; rintro e w2 ⟨rfl, hb2⟩)
  rename_i K hK
  have hbw2 : w.heap.size < w2.heap.size := by have := hb2.size; omega
  have d0 : ∀ w', Below w2.heap.size w2 w' → w'.cell? ⟨w.heap.size, 0, none⟩ = some (.string U) := fun w' h => ((h.cell (p := ⟨w.heap.size, 0, none⟩) hbw2).trans (hb2.cell (p := ⟨w.heap.size, 0, none⟩) (by show w.heap.size < W.heap.size; omega))).trans (HROW.out.cell (by rw [HCS.out]; rfl))
  have d2 : ∀ w', Below w2.heap.size w2 w' → w'.cell? ⟨w.heap.size, 2, none⟩ = some (.int .i64 ln) := fun w' h => ((h.cell (p := ⟨w.heap.size, 2, none⟩) hbw2).trans (hb2.cell (p := ⟨w.heap.size, 2, none⟩) (by show w.heap.size < W.heap.size; omega))).trans (HROW.out.cell (by rw [HCS.out]; rfl))
  have S := slotsR w.heap.size U T D ln
  refine wp_region_plain (GV slR (NR w.heap.size U T D ln)) (JV 107 [(1, .pointer (some ⟨w.heap.size, 0, none⟩)), (3, .string T)] w2) (by kernel_rfl) (by kernel_rfl) (by kernel_rfl) ?_ ?_ ⟨rfl, rfl, fun p hp => by
    simp only [List.mem_cons, List.not_mem_nil, or_false] at hp
    rcases hp with rfl | rfl <;> rfl, (Below.refl _ _).drew⟩
  · intro i o ho a w' hI hG
    have hi : i < 16 := (Array.getElem?_eq_some_iff.1 ho).1
    have p1 : a.eval (.tmp 1) = .pointer (some ⟨w.heap.size, 0, none⟩) := hI.fixed (1, _) (by simp)
    have p3 : a.eval (.tmp 3) = .string T := hI.fixed (3, _) (by simp)
    have hor : i = 0 ∨ i = 1 ∨ i = 2 ∨ i = 3 ∨ i = 4 ∨ i = 5 ∨ i = 6 ∨ i = 7 ∨ i = 8 ∨ i = 9 ∨ i = 10 ∨ i = 11 ∨ i = 12 ∨ i = 13 ∨ i = 14 ∨ i = 15 := by omega
    rcases hor with rfl | rfl | rfl | rfl | rfl | rfl | rfl | rfl | rfl | rfl | rfl | rfl | rfl | rfl | rfl | rfl <;> obtain rfl := Option.some.inj ho
    · -- 0
      exact op_value (v := .pointer (some ⟨w.heap.size, 0, none⟩)) (fld_run rfl p1 (rvFld_run _ 0 0 (.inl rfl) _)) (stepV S rfl (by decide) hI (Below.refl _ _) rfl)
    · -- 1
      have e0 : a.eval (.tmp 15) = .pointer (some ⟨w.heap.size, 0, none⟩) := hG ⟨0, .data⟩ (by simp) rfl
      exact op_value (v := .string U) (ld_run rfl e0 (strLd_run (d0 _ hI.below))) (stepV S rfl (by decide) hI (Below.refl _ _) rfl)
    · -- 2
      have e1 : a.eval (.tmp 16) = .string U := hG ⟨1, .data⟩ (by simp) rfl
      exact op_value (v := .string (c2 U)) (cat_run rfl rfl e1 (by show 18 + U.size ≤ _; omega)) (stepV S rfl (by decide) hI (Below.refl _ _) rfl)
    · -- 3
      have e2 : a.eval (.tmp 17) = .string (c2 U) := hG ⟨2, .data⟩ (by simp) rfl
      exact op_value (v := .string (c3 U)) (cat_run rfl e2 rfl (by rw [s2]; show _ + 2 ≤ _; omega)) (stepV S rfl (by decide) hI (Below.refl _ _) rfl)
    · -- 4
      have e3 : a.eval (.tmp 18) = .string (c3 U) := hG ⟨3, .data⟩ (by simp) rfl
      exact op_value (v := .string (c4 U)) (cat_run rfl e3 rfl (by rw [s3]; show _ + 8 ≤ _; omega)) (stepV S rfl (by decide) hI (Below.refl _ _) rfl)
    · -- 5
      exact op_value (v := .string T) (mv_run rfl p3) (stepV S rfl (by decide) hI (Below.refl _ _) rfl)
    · -- 6
      have e4 : a.eval (.tmp 19) = .string (c4 U) := hG ⟨4, .data⟩ (by simp) rfl
      have e5 : a.eval (.tmp 20) = .string T := hG ⟨5, .data⟩ (by simp) rfl
      exact op_value (v := .string (c6 U T)) (cat_run rfl e4 e5 (by rw [s4]; omega)) (stepV S rfl (by decide) hI (Below.refl _ _) rfl)
    · -- 7
      have e6 : a.eval (.tmp 21) = .string (c6 U T) := hG ⟨6, .data⟩ (by simp) rfl
      exact op_value (v := .string (c7 U T)) (cat_run rfl e6 rfl (by rw [s6]; show _ + 2 ≤ _; omega)) (stepV S rfl (by decide) hI (Below.refl _ _) rfl)
    · -- 8
      have e7 : a.eval (.tmp 22) = .string (c7 U T) := hG ⟨7, .data⟩ (by simp) rfl
      exact op_value (v := .string (c8 U T)) (cat_run rfl e7 rfl (by rw [s7]; show _ + 11 ≤ _; omega)) (stepV S rfl (by decide) hI (Below.refl _ _) rfl)
    · -- 9
      exact op_value (v := .pointer (some ⟨w.heap.size, 2, none⟩)) (fld_run rfl p1 (rvFld_run _ 2 2 (.inr (.inr rfl)) _)) (stepV S rfl (by decide) hI (Below.refl _ _) rfl)
    · -- 10
      have e9 : a.eval (.tmp 24) = .pointer (some ⟨w.heap.size, 2, none⟩) := hG ⟨9, .data⟩ (by simp) rfl
      exact op_value (v := .int .i64 ln) (ld_run rfl e9 (intLd_run (d2 _ hI.below))) (stepV S rfl (by decide) hI (Below.refl _ _) rfl)
    · -- 11
      have e10 : a.eval (.tmp 25) = .int .i64 ln := hG ⟨10, .data⟩ (by simp) rfl
      exact op_callV (f := 239) (args := #[a.eval (.tmp 25)]) (by kernel_rfl) (by rw [e10]; exact HCL.out w') (fun w'' hb => stepV S rfl (by decide) hI hb rfl)
    · -- 12
      have e8 : a.eval (.tmp 23) = .string (c8 U T) := hG ⟨8, .data⟩ (by simp) rfl
      have e11 : a.eval (.tmp 26) = .string D := hG ⟨11, .data⟩ (by simp) rfl
      exact op_value (v := .string (c12 U T D)) (cat_run rfl e8 e11 (by rw [s8]; omega)) (stepV S rfl (by decide) hI (Below.refl _ _) rfl)
    · -- 13
      have e12 : a.eval (.tmp 27) = .string (c12 U T D) := hG ⟨12, .data⟩ (by simp) rfl
      exact op_value (v := .string (c13 U T D)) (cat_run rfl e12 rfl (by rw [s12]; show _ + 1 ≤ _; omega)) (stepV S rfl (by decide) hI (Below.refl _ _) rfl)
    · -- 14
      have e13 : a.eval (.tmp 28) = .string (c13 U T D) := hG ⟨13, .data⟩ (by simp) rfl
      exact op_value (v := .string (c14 U T D)) (cat_run rfl e13 rfl (by rw [s13]; show _ + 2 ≤ _; omega)) (stepV S rfl (by decide) hI (Below.refl _ _) rfl)
    · -- 15
      have e14 : a.eval (.tmp 29) = .string (c14 U T D) := hG ⟨14, .data⟩ (by simp) rfl
      exact op_value (v := .string (c14 U T D)) (asg_run rfl e14) (stepV S rfl (by decide) hI (Below.refl _ _) rfl)
  intro a w4 hI hG
  have e5 : a.eval (.tmp 5) = .string (c14 U T D) := hG 15 (by decide)
  have p1 : a.eval (.tmp 1) = .pointer (some ⟨w.heap.size, 0, none⟩) := hI.fixed (1, _) (by simp)
  rw [HC14.out] at e5
  have hbl : Below W.heap.size W w4 := hb2.trans (hI.below.mono hb2.size)
  have h : TR w.heap.size W (ev4 u st ln) a w4 := ⟨hI.size, hI.defers, p1, e5, hbl⟩
  clear hI hG e5 p1 hbl d0 d2 S sU sT sD HCP HCL HC14 c1 hb2 hbw2
  clear w2
  refine hK a w4 ?_
  clear hK
  obtain ⟨L1, hL1⟩ : ∃ L1, L1 = ev4 u st ln ++ evR rt := ⟨_, rfl⟩
  obtain ⟨L2, hL2⟩ : ∃ L2, L2 = L1 ++ evX ex := ⟨_, rfl⟩
  obtain ⟨L3, hL3⟩ : ∃ L3, L3 = L2 ++ evD xt := ⟨_, rfl⟩
  obtain ⟨L4, hL4⟩ : ∃ L4, L4 = L3 ++ evO op := ⟨_, rfl⟩
  obtain ⟨L5, hL5⟩ : ∃ L5, L5 = L4 ++ evS (k - 1) := ⟨_, rfl⟩
  have HEV : Hid (evT u st ln rt ex xt op (k - 1) = L5 ++ [endL]) := hide (by rw [hL5, hL4, hL3, hL2, hL1]; rfl)
  have HBD : Hid ((txl (ev4 u st ln)).length ≤ 400000 ∧ (txl L1).length ≤ 400000 ∧ (txl L2).length ≤ 400000 ∧ (txl L3).length ≤ 400000 ∧ (txl L4).length ≤ 400000 ∧ (txl L5).length ≤ 400000) := hide (by
    have hb := evT_bound u st ln rt ex xt op (k - 1) hu (by
      rcases HRC.out with ⟨rfl, _⟩ | ⟨F, rfl, _, _, hs⟩
      · simp
      · exact join_rule hs) hle hlx hl2
    rw [HEV.out, txl_add, hL5, txl_add, hL4, txl_add, hL3, txl_add, hL2, txl_add, hL1, txl_add] at hb
    subst hL5 hL4 hL3 hL2 hL1
    simp only [txl_add, List.length_append] at hb ⊢
    omega)
  have H1 := hide hL1
  have H2 := hide hL2
  have H3 := hide hL3
  have H4 := hide hL4
  have H5 := hide hL5
  clear hL1 hL2 hL3 hL4 hL5
  obtain ⟨f, rfl, hf⟩ := act_lit107 a h.size h.defers
  have f1 := (hf 1).symm.trans h.s1
  have f5 := (hf 5).symm.trans h.s5
  rw [f1, f5]
  have HBR := hide h.below
  have hzr := HBR.out.size
  clear hf f1 f5 h
  obtain ⟨X, hX⟩ : ∃ X : ByteArray, X = ⟨(txl (ev4 u st ln)).toArray⟩ := ⟨_, rfl⟩
  have sX : X.size ≤ 400000 := by rw [hX]; show (txl (ev4 u st ln)).toArray.size ≤ _; rw [List.size_toArray]; exact HBD.out.1
  rw [← hX]
  have HX := hide hX
  clear hX
  go_upto_region 3 with fail
  rename_i K1 hK1 K2 hK2
  have r1 : ∀ a wr, TR w.heap.size W L1 a wr → K1 a wr := by
    clear hK2 K2 HBR hzr HX sX
    clear X
    intro a wr h
    refine hK1 a wr ?_
    clear hK1
    obtain ⟨f, rfl, hf⟩ := act_lit107 a h.size h.defers
    have f1 := (hf 1).symm.trans h.s1
    have f5 := (hf 5).symm.trans h.s5
    rw [f1, f5]
    have HBR := hide h.below
    have hzr := HBR.out.size
    clear hf f1 f5 h
    obtain ⟨X, hX⟩ : ∃ X : ByteArray, X = ⟨(txl L1).toArray⟩ := ⟨_, rfl⟩
    have sX : X.size ≤ 400000 := by rw [hX]; show (txl L1).toArray.size ≤ _; rw [List.size_toArray]; exact HBD.out.2.1
    rw [← hX]
    have HX := hide hX
    clear hX
    go_upto_region 14 with fail
    rename_i K1 hK1 K2 hK2
    have c0 : wr.cell? ⟨w.heap.size, 22, none⟩ = some (.slice ax5 ex.length cx5) := (HROW.out.on HBR.out).cell (by rw [HCS.out]; exact (rv_get hl).2.1)
    have r2 : ∀ a wr, TR w.heap.size W L2 a wr → K1 a wr := by
      clear hK2 K2 HBR hzr c0 HX sX
      clear X
      intro a wr h
      refine hK1 a wr ?_
      clear hK1
      obtain ⟨f, rfl, hf⟩ := act_lit107 a h.size h.defers
      have f1 := (hf 1).symm.trans h.s1
      have f5 := (hf 5).symm.trans h.s5
      rw [f1, f5]
      have HBR := hide h.below
      have hzr := HBR.out.size
      clear hf f1 f5 h
      obtain ⟨X, hX⟩ : ∃ X : ByteArray, X = ⟨(txl L2).toArray⟩ := ⟨_, rfl⟩
      have sX : X.size ≤ 400000 := by rw [hX]; show (txl L2).toArray.size ≤ _; rw [List.size_toArray]; exact HBD.out.2.2.1
      rw [← hX]
      have HX := hide hX
      clear hX
      go_upto_region 16 with fail
      rename_i K1 hK1 K2 hK2
      have c0 : wr.cell? ⟨w.heap.size, 23, none⟩ = some (.slice ax6 xt.length cx6) := (HROW.out.on HBR.out).cell (by rw [HCS.out]; exact (rv_get hl).2.2.1)
      have r3 : ∀ a wr, TR w.heap.size W L3 a wr → K1 a wr := by
        clear hK2 K2 HBR hzr c0 HX sX
        clear X
        intro a wr h
        refine hK1 a wr ?_
        clear hK1
        obtain ⟨f, rfl, hf⟩ := act_lit107 a h.size h.defers
        have f1 := (hf 1).symm.trans h.s1
        have f5 := (hf 5).symm.trans h.s5
        rw [f1, f5]
        have HBR := hide h.below
        have hzr := HBR.out.size
        clear hf f1 f5 h
        obtain ⟨X, hX⟩ : ∃ X : ByteArray, X = ⟨(txl L3).toArray⟩ := ⟨_, rfl⟩
        have sX : X.size ≤ 400000 := by rw [hX]; show (txl L3).toArray.size ≤ _; rw [List.size_toArray]; exact HBD.out.2.2.2.1
        rw [← hX]
        have HX := hide hX
        clear hX
        go_upto_region 18 with fail
        rename_i K1 hK1 K2 hK2
        have c0 : wr.cell? ⟨w.heap.size, 24, none⟩ = some (.bool op) := (HROW.out.on HBR.out).cell (by rw [HCS.out]; exact (rv_get hl).2.2.2.1)
        have r4 : ∀ a wr, TR w.heap.size W L4 a wr → K1 a wr := by
          clear hK2 K2 HBR hzr c0 HX sX
          clear X
          intro a wr h
          refine hK1 a wr ?_
          clear hK1
          obtain ⟨f, rfl, hf⟩ := act_lit107 a h.size h.defers
          have f1 := (hf 1).symm.trans h.s1
          have f5 := (hf 5).symm.trans h.s5
          rw [f1, f5]
          have HBR := hide h.below
          have hzr := HBR.out.size
          clear hf f1 f5 h
          obtain ⟨X, hX⟩ : ∃ X : ByteArray, X = ⟨(txl L4).toArray⟩ := ⟨_, rfl⟩
          have sX : X.size ≤ 400000 := by rw [hX]; show (txl L4).toArray.size ≤ _; rw [List.size_toArray]; exact HBD.out.2.2.2.2.1
          rw [← hX]
          have HX := hide hX
          clear hX
          go_upto_region 20 with fail
          rename_i K1 hK1 K2 hK2
          have c0 : wr.cell? ⟨w.heap.size, 25, none⟩ = some (.int .i64 k) := (HROW.out.on HBR.out).cell (by rw [HCS.out]; exact (rv_get hl).2.2.2.2)
          have r5 : ∀ a wr, TR w.heap.size W L5 a wr → K1 a wr := by
            clear hK2 K2 HBR hzr c0 HX sX
            clear X
            intro a wr h
            refine hK1 a wr ?_
            clear hK1
            obtain ⟨f, rfl, hf⟩ := act_lit107 a h.size h.defers
            have f1 := (hf 1).symm.trans h.s1
            have f5 := (hf 5).symm.trans h.s5
            rw [f1, f5]
            have HBR := hide h.below
            have hzr := HBR.out.size
            clear hf f1 f5 h
            obtain ⟨X, hX⟩ : ∃ X : ByteArray, X = ⟨(txl L5).toArray⟩ := ⟨_, rfl⟩
            have sX : X.size ≤ 400000 := by rw [hX]; show (txl L5).toArray.size ≤ _; rw [List.size_toArray]; exact HBD.out.2.2.2.2.2
            rw [← hX]
            have HX := hide hX
            clear hX
            go_wp2_with fail
            go_ret
            exact ⟨by rw [HEV.out, txl_add]; exact congrArg (fun x => Ending.returned (Value.string x)) (by rw [HX.out]; apply ByteArray.ext; simp [txl, endL]), hbW.trans (HBR.out.mono (by omega))⟩
          clear hK1
          have hkk : k = 1 ∨ k = 2 ∨ k = 3 := by omega
          rcases hkk with rfl | rfl | rfl
          · go_wp2_with fail
            exact ⟨rfl, rfl, rfl, by rw [H5.out, show evS (1 - 1) = [] from rfl, List.append_nil]; exact congrArg Value.string HX.out, HBR.out⟩
          · go_wp2_with fail
            exact ⟨rfl, rfl, rfl, by rw [H5.out, show evS (2 - 1) = [staL ++ tentL] from rfl, txl_add]; exact congrArg Value.string (by rw [HX.out]; apply ByteArray.ext; simp [txl, staL, tentL]), HBR.out⟩
          · go_wp2_with fail
            exact ⟨rfl, rfl, rfl, by rw [H5.out, show evS (3 - 1) = [staL ++ cancL] from rfl, txl_add]; exact congrArg Value.string (by rw [HX.out]; apply ByteArray.ext; simp [txl, staL, cancL]), HBR.out⟩
        clear hK1
        cases op with
        | false =>
          go_wp2_with fail
          exact ⟨rfl, rfl, rfl, by rw [H4.out, show evO false = [] from rfl, List.append_nil]; exact congrArg Value.string HX.out, HBR.out⟩
        | true =>
          go_wp2_with fail
          exact ⟨rfl, rfl, rfl, by rw [H4.out, show evO true = [trtL] from rfl, txl_add]; exact congrArg Value.string (by rw [HX.out]; apply ByteArray.ext; simp [txl, trtL]), HBR.out⟩
      clear hK1
      by_cases hx0 : xt.length = 0
      case pos =>
        rw [hx0] at c0
        have HZ := hide hx0
        clear hx0
        go_wp2_with fail
        exact ⟨rfl, rfl, rfl, by rw [H3.out, show evD xt = [] from if_pos HZ.out, List.append_nil]; exact congrArg Value.string HX.out, HBR.out⟩
      case neg =>
        have hxp : (0 : Int) < xt.length := by omega
        have hbww : Below w.heap.size w wr := hbW.trans (HBR.out.mono (by omega))
        have CX := printed_any (.slice ax6 xt.length cx6) xt wr (ints_on HXT.out hbww)
        obtain ⟨J, hJ⟩ : ∃ J : ByteArray, J = ⟨(Lib.join (xt.map ptx) [44]).toArray⟩ := ⟨_, rfl⟩
        have sJ : J.size ≤ 1000 := by rw [hJ]; exact join_small xt (by omega)
        rw [show prk xt xt.length = Lib.join (xt.map ptx) [44] from by rw [prk_join _ _ (Nat.le_refl _), List.take_length], ← hJ] at CX
        have HJ := hide hJ
        have CX2 := hide CX
        have HZ := hide hx0
        clear hJ CX hx0 hbww
        go_wp2_with (go_at_call 240; refine (CX2.out).mono ?_; rintro e w5 ⟨rfl, hb5⟩)
        exact ⟨rfl, rfl, rfl, by rw [H3.out, show evD xt = _ from if_neg HZ.out, txl_add]; exact congrArg Value.string (by rw [HX.out, HJ.out]; apply ByteArray.ext; simp [txl, rdaL]), HBR.out.trans (hb5.mono hzr)⟩
    clear hK1
    by_cases hx0 : ex.length = 0
    case pos =>
      rw [hx0] at c0
      have HZ := hide hx0
      clear hx0
      go_wp2_with fail
      exact ⟨rfl, rfl, rfl, by rw [H2.out, show evX ex = [] from if_pos HZ.out, List.append_nil]; exact congrArg Value.string HX.out, HBR.out⟩
    case neg =>
      have hxp : (0 : Int) < ex.length := by omega
      have hbww : Below w.heap.size w wr := hbW.trans (HBR.out.mono (by omega))
      have CX := printed_any (.slice ax5 ex.length cx5) ex wr (ints_on HEX.out hbww)
      obtain ⟨J, hJ⟩ : ∃ J : ByteArray, J = ⟨(Lib.join (ex.map ptx) [44]).toArray⟩ := ⟨_, rfl⟩
      have sJ : J.size ≤ 1000 := by rw [hJ]; exact join_small ex (by omega)
      rw [show prk ex ex.length = Lib.join (ex.map ptx) [44] from by rw [prk_join _ _ (Nat.le_refl _), List.take_length], ← hJ] at CX
      have HJ := hide hJ
      have CX2 := hide CX
      have HZ := hide hx0
      clear hJ CX hx0 hbww
      go_wp2_with (go_at_call 240; refine (CX2.out).mono ?_; rintro e w5 ⟨rfl, hb5⟩)
      exact ⟨rfl, rfl, rfl, by rw [H2.out, show evX ex = _ from if_neg HZ.out, txl_add]; exact congrArg Value.string (by rw [HX.out, HJ.out]; apply ByteArray.ext; simp [txl, exdL]), HBR.out.trans (hb5.mono hzr)⟩
  clear hK1
  obtain ⟨q, hq⟩ : ∃ q : Int, rc[0]? = some (.int .i64 q) ∧ (rt = none → q = 0) ∧ ∀ F, rt = some (Lib.join (txts F 9) [59]) → RefTx rc F → q = freqOf F := by
    rcases HRC.out with ⟨rfl, rfl⟩ | ⟨F, rfl, hF, _, _⟩
    · exact ⟨0, rfl, fun _ => rfl, fun F h => (by cases h)⟩
    · exact ⟨_, hF.fq, fun h => (by cases h), fun F' _ hF' => by have := hF.fq.symm.trans hF'.fq; simpa using this⟩
  have c0 : w4.cell? ⟨w.heap.size, 3, none⟩ = some (.int .i64 q) := (HROW.out.on HBR.out).cell (by rw [HCS.out]; exact ((rv_get hl).1 0 (by decide)).trans hq.1)
  have HQ := hide hq.2
  clear hq
  rcases HRC.out with ⟨rfl, hrz⟩ | ⟨F, hF0, hF, hF1, hF2⟩
  · have : q = 0 := HQ.out.1 rfl
    subst this
    clear HQ hrz
    go_wp2_with fail
    exact ⟨rfl, rfl, rfl, by rw [H1.out, show evR none = [] from rfl, List.append_nil]; exact congrArg Value.string HX.out, HBR.out⟩
  · have hq0 : 0 < q := by have := HQ.out.2 F hF0 hF; omega
    have HF0 := hide hF0
    have HF2 := hide hF2
    have HTX : Hid (∀ j, j < 9 → w4.cell? ⟨w.heap.size, 13 + j, none⟩ = some (.string ⟨(txO j (F j)).toArray⟩)) := hide fun j hj => (HROW.out.on HBR.out).cell (by rw [HCS.out, show 13 + j = 3 + (10 + j) by omega]; exact ((rv_get hl).1 (10 + j) (by omega)).trans (hF.tx j hj))
    clear HQ hF0 hF hF1 hF2
    go_wp2_with fail
    go_loop [6, 7] (fun v i => ∃ j : Nat, j ≤ 9 ∧ i = .int .i64 j ∧ v = .string ⟨(Lib.join (txts F j) [59]).toArray⟩) (fun _ i => 9 - (intOf i).toNat)
    case atStart => exact ⟨0, by omega, rfl, rfl⟩
    case round =>
      obtain ⟨j, hj, rfl, rfl⟩ := hrel
      obtain ⟨R, hR⟩ : ∃ R : ByteArray, R = ⟨(Lib.join (txts F j) [59]).toArray⟩ := ⟨_, rfl⟩
      have sR : R.size ≤ 20000 := by rw [hR]; show (Lib.join (txts F j) [59]).toArray.size ≤ _; rw [List.size_toArray]; exact join_rule HF2.out hj
      rw [← hR]
      have HR := hide hR
      clear hR
      by_cases hlt : j < 9
      case neg =>
        have hj9 : j = 9 := by omega
        subst hj9
        go_wp2_with fail
        exact ⟨rfl, rfl, rfl, by rw [H1.out, HF0.out, txl_add]; exact congrArg Value.string (by rw [HX.out, HR.out]; apply ByteArray.ext; simp [txl, evR, rruL]), HBR.out⟩
      case pos =>
        obtain ⟨Y, hY⟩ : ∃ Y : ByteArray, Y = ⟨(txO j (F j)).toArray⟩ := ⟨_, rfl⟩
        have cY := HTX.out j hlt
        have sY : Y.size ≤ 2100 := by rw [hY]; show (txO j (F j)).toArray.size ≤ _; rw [List.size_toArray]; exact txO_small HF2.out j
        rw [← hY] at cY
        have HY := hide hY
        clear hY
        have hjz : (j : Int) < 9 := by omega
        by_cases e0 : Y = ⟨#[]⟩
        case pos =>
          have HN : Hid (txts F (j + 1) = txts F j) := hide (txts_skip (.inl ((ba_iff _ []).1 (HY.out.symm.trans e0))))
          subst e0
          go_wp2_with fail
          exact ⟨⟨j + 1, by omega, by go_num, by rw [HN.out]; exact congrArg Value.string HR.out⟩, by simp [intOf]; omega⟩
        case neg =>
          have n0 : ¬ Y.toList = [] := by simpa using (Lib.bytes_beq_false_iff Y ⟨#[]⟩).2 e0
          have g0 : (Y.toList == []) = false := beq_eq_false_iff_ne.2 n0
          by_cases e1 : Y = ⟨#[73, 78, 84, 69, 82, 86, 65, 76, 61, 49]⟩
          case pos =>
            have HN : Hid (txts F (j + 1) = txts F j) := hide (txts_skip (.inr (.inl ((ba_iff _ [73, 78, 84, 69, 82, 86, 65, 76, 61, 49]).1 (HY.out.symm.trans e1)))))
            subst e1
            clear e0 n0 g0
            go_wp2_with fail
            exact ⟨⟨j + 1, by omega, by go_num, by rw [HN.out]; exact congrArg Value.string HR.out⟩, by simp [intOf]; omega⟩
          case neg =>
            have n1 : ¬ Y.toList = [73, 78, 84, 69, 82, 86, 65, 76, 61, 49] := by simpa using (Lib.bytes_beq_false_iff Y ⟨#[73, 78, 84, 69, 82, 86, 65, 76, 61, 49]⟩).2 e1
            have g1 : (Y.toList == [73, 78, 84, 69, 82, 86, 65, 76, 61, 49]) = false := beq_eq_false_iff_ne.2 n1
            by_cases e2 : Y = ⟨#[87, 75, 83, 84, 61, 77, 79]⟩
            case pos =>
              have HN : Hid (txts F (j + 1) = txts F j) := hide (txts_skip (.inr (.inr ((ba_iff _ [87, 75, 83, 84, 61, 77, 79]).1 (HY.out.symm.trans e2)))))
              subst e2
              clear e0 n0 g0 e1 n1 g1
              go_wp2_with fail
              exact ⟨⟨j + 1, by omega, by go_num, by rw [HN.out]; exact congrArg Value.string HR.out⟩, by simp [intOf]; omega⟩
            case neg =>
              have n2 : ¬ Y.toList = [87, 75, 83, 84, 61, 77, 79] := by simpa using (Lib.bytes_beq_false_iff Y ⟨#[87, 75, 83, 84, 61, 77, 79]⟩).2 e2
              have g2 : (Y.toList == [87, 75, 83, 84, 61, 77, 79]) = false := beq_eq_false_iff_ne.2 n2
              have HN : Hid (txts F (j + 1) = txts F j ++ [txO j (F j)]) := hide (txts_add (fun e => e0 (by rw [HY.out, e])) (fun e => e1 (by rw [HY.out, e])) (fun e => e2 (by rw [HY.out, e])))
              clear e0 e1 e2
              by_cases r0 : R = ⟨#[]⟩
              case pos =>
                have HE : Hid (txts F j = []) := hide (txts_nil ((ba_iff _ []).1 (HR.out.symm.trans r0)))
                subst r0
                go_wp2_with fail
                exact ⟨⟨j + 1, by omega, by go_num, by rw [HN.out, HE.out]; exact congrArg Value.string (by rw [HY.out]; apply ByteArray.ext; simp [Lib.join_one])⟩, by simp [intOf]; omega⟩
              case neg =>
                have m0 : ¬ R.toList = [] := by simpa using (Lib.bytes_beq_false_iff R ⟨#[]⟩).2 r0
                have m1 : (R.toList == []) = false := beq_eq_false_iff_ne.2 m0
                have HE : Hid (txts F j ≠ []) := hide (fun e => r0 (by rw [HR.out, e]; rfl))
                clear r0
                go_wp2_with fail
                exact ⟨⟨j + 1, by omega, by go_num, by rw [HN.out, join_snoc _ _ _ HE.out]; exact congrArg Value.string (by rw [HY.out, HR.out]; apply ByteArray.ext; simp)⟩, by simp [intOf]; omega⟩
end Go.Proofs.YthpndgcaoeokeaaGreatDoor
namespace Go.Proofs.YthpndgcaoeokeaaGreatDoor
open Go.RowKit

theorem rule_facts {v : List UInt8} {F : Nat → Option (List UInt8)} (h : ruleF v = some F) (hv : v.length ≤ 2000) : 0 < freqOf F ∧ ∀ k, ((F k).getD []).length ≤ 2000 := by
  obtain ⟨r, hR⟩ := (rule_iff v F).1 h
  refine ⟨?_, flds_small (fun p hp => Nat.le_trans (spl_small 59 v p hp) hv) (fun k => by simp) hR.1⟩
  have hP := hR.2.2.1
  obtain ⟨h0, he⟩ := (parts_iff F).1 ⟨r, hP⟩
  unfold has at h0
  obtain ⟨x, hx⟩ := Option.isSome_iff_exists.1 h0
  have := (eachOk_iff F).1 he 0 (by decide) x hx
  unfold partOk at this
  unfold freqOf
  rw [hx]
  simpa using this
theorem read_err {s : List UInt8} {x : Int} (h : readF s = .error x) : x = 1 ∨ x = 2 ∨ x = 3 := by
  unfold readF at h
  repeat' split at h
  all_goals first
    | (cases h; done)
    | (cases h; exact .inl rfl)
    | (cases h; exact .inr (.inl rfl))
    | (cases h; exact .inr (.inr rfl))
set_option maxRecDepth 100000 in
set_option maxHeartbeats 4000000 in
theorem refCheck_any (s : List UInt8) (w : World) (hs : s.length ≤ 1048575) (hn : NamesAt w 1 0 propNames) (hg : 1 < w.heap.size) (hn2 : NamesAt w 2 0 partNames) (hg2 : 2 < w.heap.size) :
    Calls Tryz.prog 111 #[.string (ba s)] w fun E w' => E = .returned (chkV s) ∧ Below w.heap.size w w' := by
  have CR := read_ref s w hs hn hg hn2 hg2
  cases hr : readF s with
  | error x =>
    have hv : chkV s = .tuple #[.string ⟨#[]⟩, .int .i64 x] := by unfold chkV; rw [hr]
    rw [hv]
    have hx0 : ¬ x = 0 := by rcases read_err hr with rfl | rfl | rfl <;> decide
    have hx1 : (x == 0) = false := beq_eq_false_iff_ne.2 hx0
    have C : Hid (Calls Tryz.prog 186 #[.string (ba s)] w fun e w' => e = .returned (.tuple #[.agg zero26.toArray, .int .i64 x]) ∧ Below w.heap.size w w') := hide (CR.mono fun e w' ⟨hb, h⟩ => by
      rcases h with ⟨y, h1, h2⟩ | ⟨d, rc, ex, xt, h1, _⟩
      · rw [hr] at h1; cases h1; exact ⟨h2, hb⟩
      · rw [hr] at h1; cases h1)
    clear CR hr hv hn hn2
    go_enter Tryz.func111, Tryz.ntmps111
    go_wp2_with (first
      | (go_at_call 186; refine (C.out).mono ?_; rintro e w1 ⟨rfl, hb1⟩)
      | (refine wpl_alloc_row rfl (alloc_ev_run rfl _ _) ?_; intro w2 he2 hz2 hb2)
      | (refine wpl_store_row rfl rfl rfl rfl he2 rfl infoRefEv (rvC_one zero19_one rfl rfl) ?_; intro w3 he3 hx3))
    go_ret2
    exact ⟨rfl, (hb1.trans (hb2.mono hb1.size)).trans (hx3.below (by have := hb1.size; omega) (fun k hk => by have := hb1.size; omega))⟩
  | ok d =>
    have hv : chkV s = .tuple #[.string ⟨(chkT d).toArray⟩, .int .i64 0] := by unfold chkV; rw [hr]
    rw [hv]
    obtain ⟨q0, q1, q2, q3, q4, q5⟩ := read_ok hr
    obtain ⟨g1, g2, g3, g4⟩ := fields_ok q0
    obtain ⟨k1, k2⟩ := kind_bd g4
    obtain ⟨l1, l2⟩ := lnF_bd q2
    have hfs := fields_small q0
    have C : Hid (Calls Tryz.prog 186 #[.string (ba s)] w fun e w' => ∃ cs : List Value, e = .returned (.tuple #[.agg cs.toArray, .int .i64 0]) ∧ cs.length = 26 ∧ (∀ x ∈ cs, x.oneCell' = true) ∧ Below w.heap.size w w' ∧ Hid (∀ W, Below w'.heap.size w' W → Calls Tryz.prog 187 #[.agg cs.toArray] W fun E w' => E = .returned (.string ⟨(chkT d).toArray⟩) ∧ Below W.heap.size W w')) := hide (CR.mono fun e w' ⟨hb, h⟩ => by
      rcases h with ⟨y, h1, h2⟩ | ⟨d', rc, ex, xt, h1, h2, i1, i2, h3⟩
      · rw [hr] at h1; cases h1
      · rw [hr] at h1
        cases h1
        have hrl : rc.length = 19 ∧ ∀ x ∈ rc, x.oneCell' = true := by
          rcases h3 with ⟨_, rfl⟩ | ⟨F, _, hF⟩
          · exact ⟨rfl, zero19_one⟩
          · exact ⟨hF.len, hF.one⟩
        obtain ⟨b5, e5, hf5, _⟩ := ints_form i1
        obtain ⟨b6, e6, hf6, _⟩ := ints_form i2
        refine ⟨_, h2, rvC_len hrl.1, rvC_one hrl.2 (by rw [hf5]; rfl) (by rw [hf6]; rfl), hb, hide fun W hW => ?_⟩
        refine text_ref (val d.f 0) d.st d.ln rc (d.rl.map fun F => Lib.join (txts F 9) [59]) ex xt d.ex d.xt (openOf d.f) (kindOf d.f) W hrl.1 hrl.2 ?_ (ints_on i1 hW) (ints_on i2 hW) (tmO_len q3) (tmO_len q4) (hfs 0) l1 l2 (by omega) (by omega)
        rcases h3 with ⟨h4, h5⟩ | ⟨F, h4, hF⟩
        · exact .inl ⟨by rw [h4]; rfl, h5⟩
        · refine .inr ⟨F, by rw [h4]; rfl, hF, ?_⟩
          rw [h4] at q5
          cases h6 : d.f 4 with
          | none => rw [h6] at q5; cases q5
          | some v =>
            rw [h6] at q5
            have hvF : ruleF v = some F := by
              change (ruleF v).map some = some (some F) at q5
              cases hq : ruleF v with
              | none => rw [hq] at q5; cases q5
              | some F' => rw [hq] at q5; cases q5; rfl
            exact rule_facts hvF (by have := hfs 4; unfold val at this; rw [h6] at this; exact this))
    clear CR hr hv hn hn2 q0 q1 q2 q3 q4 q5 g1 g2 g3 g4 k1 k2 l1 l2 hfs
    go_enter Tryz.func111, Tryz.ntmps111
    go_wp2_with (first
      | (go_at_call 186; refine (C.out).mono ?_; rintro e w1 ⟨cs, rfl, hcl, hco, hb1, CT⟩)
      | (refine wpl_alloc_row rfl (alloc_ev_run rfl _ _) ?_; intro w2 he2 hz2 hb2)
      | (refine wpl_store_row rfl rfl rfl rfl he2 (hcl.symm ▸ rfl) (by rw [hcl]; exact infoRefEv) hco ?_; intro w3 he3 hx3; have hb3 := hb2.trans (hx3.below (by omega) (fun k hk => by omega)))
      | (refine wpl_load_row rfl rfl rfl he3 Tryz.underlying245 rfl (by rw [hcl]; exact infoRefEv) ?_)
      | (go_at_call 187; refine (CT.out _ hb3).mono ?_; rintro e w4 ⟨rfl, hb4⟩))
    go_ret2
    have hb13 := hb1.trans (hb3.mono hb1.size)
    exact ⟨rfl, hb13.trans (hb4.mono hb13.size)⟩
end Go.Proofs.YthpndgcaoeokeaaGreatDoor
