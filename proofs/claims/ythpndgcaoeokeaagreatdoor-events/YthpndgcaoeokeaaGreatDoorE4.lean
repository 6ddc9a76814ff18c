/- A region that draws its order, by what each of its operations leaves behind: no order is followed. A drawn region whose operations have no guards; what an operation does, by its operands' values. A drawn region with guards, by what each operation leaves behind. What a function hands back of its results' variables; structs loaded and stored whole. Of no program. Iterators (a range over a function) that give one element: what the loop and the iterator promise each other, with cells of the iterator's own; and the law for the loop. Of no program. -/
import Derived.Test.YthpndgcaoeokeaaGreatDoorE3
import Derived.Deep.MidRow
import Derived.WalkKit
import Derived.RangeFuncNested
import Derived.RangeFuncBound
namespace Go.Proofs.YthpndgcaoeokeaaGreatDoor
open Go.RowKit

section
variable {P : Program} {ops : Array Oper} {Q : Exit → Act → World → Prop} {md : Region.Mode}

theorem ready_spec {listed : Array Bool} {i : Nat} (h : i ∈ Region.ready md ops listed) : i < ops.size ∧ listed.getD i true = false ∧ ∃ o, ops[i]? = some o ∧ ∀ e ∈ o.after, Region.binds md e = true → listed.getD e.on false = true := by
  unfold Region.ready at h
  rw [List.mem_filter, List.mem_range] at h
  obtain ⟨hi, h⟩ := h
  rw [Bool.and_eq_true] at h
  obtain ⟨h1, h2⟩ := h
  refine ⟨hi, by simpa using h1, ops[i], Array.getElem?_eq_getElem hi, ?_⟩
  rw [Array.getElem?_eq_getElem hi, Option.map_some, Option.getD_some, Array.all_eq_true'] at h2
  intro e he hb
  have := h2 e he
  rw [hb] at this
  simpa using this
theorem ready_of {listed : Array Bool} {i : Nat} {o : Oper} (ho : ops[i]? = some o) (h1 : listed.getD i true = false) (h2 : ∀ e ∈ o.after, Region.binds md e = true → listed.getD e.on false = true) : i ∈ Region.ready md ops listed := by
  unfold Region.ready
  rw [List.mem_filter, List.mem_range]
  refine ⟨(Array.getElem?_eq_some_iff.1 ho).1, ?_⟩
  rw [Bool.and_eq_true]
  refine ⟨by simp only [h1, Bool.not_false], ?_⟩
  rw [ho, Option.map_some, Option.getD_some, Array.all_eq_true']
  intro e he
  cases hb : Region.binds md e
  · rfl
  · rw [h2 e he hb]; rfl

/-- each operation waits for earlier ones alone -/
def forward (md : Region.Mode) (ops : Array Oper) : Bool := (List.range ops.size).all fun i => ((ops[i]?).map fun o => o.after.all fun e => !Region.binds md e || decide (e.on < i)).getD true
theorem forward_spec (h : forward md ops = true) {i : Nat} {o : Oper} (ho : ops[i]? = some o) : ∀ e ∈ o.after, Region.binds md e = true → e.on < i := by
  unfold forward at h
  rw [List.all_eq_true] at h
  have := h i (List.mem_range.2 (Array.getElem?_eq_some_iff.1 ho).1)
  rw [ho, Option.map_some, Option.getD_some, Array.all_eq_true'] at this
  intro e he hb
  have := this e he
  rw [hb] at this
  simpa using this
theorem getD_lt {l : Array Bool} {i : Nat} (d : Bool) (h : i < l.size) : l.getD i d = l[i] := by simp [Array.getD, h]
theorem all_listed (hf : forward md ops = true) {listed : Array Bool} (hs : listed.size = ops.size) (hr : Region.ready md ops listed = []) : ∀ i, i < ops.size → listed.getD i false = true := by
  intro i
  induction i using Nat.strongRecOn with
  | ind i ih =>
    intro hi
    cases hc : listed.getD i false
    · exfalso
      have : i ∈ Region.ready md ops listed := ready_of (Array.getElem?_eq_getElem hi) (by rw [getD_lt _ (by omega)] at hc ⊢; exact hc)
        (fun e he hb => ih e.on (forward_spec hf (Array.getElem?_eq_getElem hi) e he hb) (Nat.lt_trans (forward_spec hf (Array.getElem?_eq_getElem hi) e he hb) hi))
      rw [hr] at this; simp at this
    · rfl

theorem wpAny_each (G : Nat → Act → World → Prop) (I : Act → World → Prop) (hf : forward md ops = true)
    (H : ∀ i o a w, ops[i]? = some o → I a w → (∀ e ∈ o.after, Region.binds md e = true → G e.on a w) → wpOp P ops Q i (fun a' w' => I a' w' ∧ G i a' w' ∧ ∀ j oj, ops[j]? = some oj → j ≠ i → (∀ e ∈ oj.after, Region.binds md e = true → e.on ≠ i) → G j a w → G j a' w') a w)
    (D : ∀ a w, I a w → (∀ i, i < ops.size → G i a w) → Q .normal a w) :
    ∀ (fuel : Nat) (listed : Array Bool) (a : Act) (w : World), listed.size = ops.size → listed.toList.count false ≤ fuel → I a w → (∀ i, i < ops.size → listed.getD i false = true → G i a w) → (∀ i o, ops[i]? = some o → listed.getD i false = true → ∀ e ∈ o.after, Region.binds md e = true → listed.getD e.on false = true) → wpAny P md ops Q fuel listed a w := by
  intro fuel
  induction fuel with
  | zero =>
    intro listed a w hs hc hI hG hC
    have hall : ∀ i, i < ops.size → listed.getD i false = true := fun i hi => by
      rw [getD_lt _ (by omega)]
      cases hb : listed[i]'(by omega)
      · exfalso
        have : false ∈ listed.toList := by rw [← hb]; exact Array.mem_def.1 (Array.getElem_mem _)
        have := List.count_pos_iff.2 this
        omega
      · rfl
    have hr : Region.ready md ops listed = [] := by
      rw [List.eq_nil_iff_forall_not_mem]
      intro i hi
      obtain ⟨h1, h2, _⟩ := ready_spec hi
      have := hall i h1
      rw [getD_lt _ (by omega)] at this h2
      rw [this] at h2; cases h2
    exact ⟨hr, D a w hI (fun i hi => hG i hi (hall i hi))⟩
  | succ fuel ih =>
    intro listed a w hs hc hI hG hC
    refine ⟨fun hr => D a w hI (fun i hi => hG i hi (all_listed hf hs hr i hi)), fun i hi => ?_⟩
    obtain ⟨h1, h2, o, ho, h3⟩ := ready_spec hi
    refine wpOp_mono (fun a' w' ⟨q1, q2, q3⟩ => ?_) (H i o a w ho hI (fun e he hb => hG e.on (Nat.lt_trans (forward_spec hf ho e he hb) h1) (h3 e he hb)))
    have hup : ∀ k, listed.getD k false = true → (listed.setIfInBounds i true).getD k false = true := fun k hk => by
      by_cases hki : k = i
      · subst hki; rw [getD_lt _ (by simp; omega)]; simp
      · by_cases hks : k < listed.size
        · rw [getD_lt _ hks] at hk
          rw [getD_lt _ (by simp; exact hks), Array.getElem_setIfInBounds_ne _ (fun e => hki e.symm)]
          exact hk
        · simp [Array.getD, hks] at hk
    have hdown : ∀ k, k ≠ i → (listed.setIfInBounds i true).getD k false = true → listed.getD k false = true := fun k hki hk => by
      by_cases hks : k < listed.size
      · rw [getD_lt _ (by simp; exact hks), Array.getElem_setIfInBounds_ne _ (fun e => hki e.symm)] at hk
        rw [getD_lt _ hks]; exact hk
      · simp [Array.getD, hks] at hk
    refine ih (listed.setIfInBounds i true) a' w' (by simp [hs]) ?_ q1 (fun j hj hl => ?_) (fun j oj hoj hl e he hb => ?_)
    · rw [Array.toList_setIfInBounds, List.count_set (by rw [Array.length_toList]; omega)]
      have : listed.toList[i]'(by rw [Array.length_toList]; omega) = false := by
        rw [getD_lt _ (by omega)] at h2
        simpa using h2
      rw [this]
      have hp : 0 < listed.toList.count false := List.count_pos_iff.2 (by rw [← this]; exact List.getElem_mem _)
      show listed.toList.count false - 1 + 0 ≤ fuel
      omega
    · by_cases hji : j = i
      · subst hji; exact q2
      · have hlj := hdown j hji hl
        refine q3 j ops[j] (Array.getElem?_eq_getElem hj) hji (fun e he hb hei => ?_) (hG j hj hlj)
        have := hC j ops[j] (Array.getElem?_eq_getElem hj) hlj e he hb
        rw [hei, getD_lt _ (by omega)] at this
        rw [getD_lt _ (by omega), this] at h2
        cases h2
    · by_cases hji : j = i
      · subst hji
        rw [ho] at hoj; cases hoj
        exact hup _ (h3 e he hb)
      · exact hup _ (hC j oj hoj (hdown j hji hl) e he hb)
/-- the same from the region's beginning -/
theorem wp_region_each {id : Nat} {a : Act} {w : World} (G : Nat → Act → World → Prop) (I : Act → World → Prop) (hm : P.follows .mixedOrders = true) (hf : forward .any ops = true)
    (H : ∀ i o a w, ops[i]? = some o → I a w → (∀ e ∈ o.after, Region.binds .any e = true → G e.on a w) → wpOp P ops Q i (fun a' w' => I a' w' ∧ G i a' w' ∧ ∀ j oj, ops[j]? = some oj → j ≠ i → (∀ e ∈ oj.after, Region.binds .any e = true → e.on ≠ i) → G j a w → G j a' w') a w)
    (D : ∀ a w, I a w → (∀ i, i < ops.size → G i a w) → Q .normal a w) (hI : I a { w with drawn := w.drawn + 1 }) : (Code.region id ops true).wp P Q a w :=
  wp_region_any hm (wpAny_each G I hf H D ops.size (Array.replicate ops.size false) a _ (by simp) (by rw [Array.toList_replicate, List.count_replicate]; simp) hI (fun i hi h => by
    rw [getD_lt _ (by simpa using hi)] at h; simp at h) (fun i o ho h => by
    rw [getD_lt _ (by simpa using (Array.getElem?_eq_some_iff.1 ho).1)] at h; simp at h))
end
end Go.Proofs.YthpndgcaoeokeaaGreatDoor
namespace Go.Proofs.YthpndgcaoeokeaaGreatDoor
open Go.RowKit

section
variable {P : Program} {ops : Array Oper} {Q : Exit → Act → World → Prop}

theorem op_value {o : Oper} {a : Act} {w w' : World} {K : Act → World → Prop} {v : Value} (h : (execOp a.eval o).run P w = .ok (.value v) w') (hK : K (a.put o.dst v) w') : Oper.wp P o a w K Q := by
  unfold Oper.wp; rw [h]; exact hK
theorem op_skip {o : Oper} {a : Act} {w w' : World} {K : Act → World → Prop} (h : (execOp a.eval o).run P w = .ok .skip w') (hK : K (a.put o.dst undef) w') : Oper.wp P o a w K Q := by
  unfold Oper.wp; rw [h]; exact hK
theorem op_call {o : Oper} {a : Act} {w w' : World} {K : Act → World → Prop} {f : FuncId} {args : Array Value} {R : Ending → World → Prop} (h : (execOp a.eval o).run P w = .ok (.enter f args) w') (hc : Calls P f args w' R)
    (h1 : ∀ v w'', R (.returned v) w'' → K (a.put o.dst v) w'') (h2 : ∀ c w'', R (.panicked c) w'' → Q (.panic c) a w'') (h3 : ∀ w'', ¬ R .outgrown w'') : Oper.wp P o a w K Q := by
  unfold Oper.wp; rw [h]
  refine Calls.mono hc fun e w'' he => ?_
  cases e with
  | returned v => exact h1 v w'' he
  | panicked c => exact h2 c w'' he
  | outgrown => exact absurd he (h3 w'')

def noGuards (ops : Array Oper) : Bool := ops.all fun o => o.guard.isNone
theorem wp_region_plain {id : Nat} {a : Act} {w : World} (G : Nat → Act → World → Prop) (I : Act → World → Prop) (hm : P.follows .mixedOrders = true) (hf : forward .any ops = true) (hg : noGuards ops = true)
    (H : ∀ i o, ops[i]? = some o → ∀ a w, I a w → (∀ e ∈ o.after, Region.binds .any e = true → G e.on a w) → Oper.wp P o a w (fun a' w' => I a' w' ∧ G i a' w' ∧ ∀ j oj, ops[j]? = some oj → j ≠ i → (∀ e ∈ oj.after, Region.binds .any e = true → e.on ≠ i) → G j a w → G j a' w') Q)
    (D : ∀ a w, I a w → (∀ i, i < ops.size → G i a w) → Q .normal a w) (hI : I a { w with drawn := w.drawn + 1 }) : (Code.region id ops true).wp P Q a w := by
  refine wp_region_each G I hm hf (fun i o a w ho hI hG => ?_) D hI
  refine wpOp_step ho fun K' hK' => ?_
  have hgo : o.guard = none := by
    unfold noGuards at hg
    rw [Array.all_eq_true'] at hg
    have := hg o (Array.mem_of_getElem? ho)
    simpa using this
  have hw : Region.wanted o (yielded ops a.tmps) = true := by unfold Region.wanted; rw [hgo]
  rw [if_pos hw]
  exact Oper.wp_mono hK' (H i o ho a w hI hG)
end

theorem ev_ne {a : Act} {d k : Nat} {v : Value} (h : k ≠ d) : (a.put (some d) v).eval (.tmp k) = a.eval (.tmp k) := by
  show (a.tmps.setIfInBounds d v).getD k undef = a.tmps.getD k undef
  simp [Array.getD_eq_getD_getElem?, Ne.symm h]
theorem ev_same {a : Act} {d : Nat} {v : Value} (h : d < a.tmps.size) : (a.put (some d) v).eval (.tmp d) = v := by
  show (a.tmps.setIfInBounds d v).getD d undef = v
  simp [Array.getD_eq_getD_getElem?, h]
theorem put_size {a : Act} {d : Option Nat} {v : Value} : (a.put d v).tmps.size = a.tmps.size := by
  cases d with
  | none => rfl
  | some d => show (a.tmps.setIfInBounds d v).size = _; simp
theorem put_defers {a : Act} {d : Option Nat} {v : Value} : (a.put d v).defers = a.defers := by
  cases d <;> rfl
end Go.Proofs.YthpndgcaoeokeaaGreatDoor
namespace Go.Proofs.YthpndgcaoeokeaaGreatDoor
open Go.RowKit

section
variable {P : Program} {ops : Array Oper} {Q : Exit → Act → World → Prop}

/-- what is asked of an operation's end: what always holds, what it leaves, what the others left -/
def OpEnd (ops : Array Oper) (G : Nat → Act → World → Prop) (I : Act → World → Prop) (i : Nat) (a : Act) (w : World) (a' : Act) (w' : World) : Prop :=
  I a' w' ∧ G i a' w' ∧ ∀ j oj, ops[j]? = some oj → j ≠ i → (∀ e ∈ oj.after, Region.binds .any e = true → e.on ≠ i) → G j a w → G j a' w'
theorem wp_region_gd {id : Nat} {a : Act} {w : World} (G : Nat → Act → World → Prop) (I : Act → World → Prop) (hm : P.follows .mixedOrders = true) (hf : forward .any ops = true)
    (H : ∀ i o, ops[i]? = some o → ∀ a w, I a w → (∀ e ∈ o.after, Region.binds .any e = true → G e.on a w) →
      if Region.wanted o (yielded ops a.tmps) = true then Oper.wp P o a w (OpEnd ops G I i a w) Q else OpEnd ops G I i a w (a.put o.dst undef) w)
    (D : ∀ a w, I a w → (∀ i, i < ops.size → G i a w) → Q .normal a w) (hI : I a { w with drawn := w.drawn + 1 }) : (Code.region id ops true).wp P Q a w := by
  refine wp_region_each G I hm hf (fun i o a w ho hI hG => ?_) D hI
  refine wpOp_step ho fun K' hK' => ?_
  have h := H i o ho a w hI hG
  by_cases hw : Region.wanted o (yielded ops a.tmps) = true
  · rw [if_pos hw] at h ⊢
    exact Oper.wp_mono hK' h
  · rw [if_neg hw] at h ⊢
    exact hK' _ _ h
theorem wanted_none {o : Oper} {y : Nat → Option Bool} (h : o.guard = none) : Region.wanted o y = true := by unfold Region.wanted; rw [h]
theorem wanted_some {o oj : Oper} {a : Act} {j d : Nat} {want b : Bool} (h : o.guard = some (j, want)) (hj : ops[j]? = some oj) (hd : oj.dst = some d) (hs : d < a.tmps.size) (hv : a.eval (.tmp d) = .bool b) : Region.wanted o (yielded ops a.tmps) = (b == want) := by
  have e : a.tmps[d]? = some (.bool b) := by
    have : a.tmps.getD d undef = .bool b := hv
    rw [Array.getElem?_eq_getElem hs]
    rw [Array.getD_eq_getD_getElem?, Array.getElem?_eq_getElem hs] at this
    simpa using this
  unfold Region.wanted yielded
  rw [h]
  simp only [hj, Option.bind_some, hd, e]
  cases b <;> cases want <;> rfl
end
end Go.Proofs.YthpndgcaoeokeaaGreatDoor
namespace Go.Proofs.YthpndgcaoeokeaaGreatDoor
open Go.RowKit

theorem run_asAddr {P : Program} {a : Addr} {w : World} : (asAddr (.pointer (some a))).run P w = .ok a w := by simp [asAddr]
/-- one result, a variable -/
theorem results_cell {P : Program} {fn : Func} {tmps : Array Value} {w : World} {t : Nat} {ty : TypeId} {b o : Nat} {v : Value} (hf : fn.results = #[.cell t ty]) (ht : tmps.getD t undef = .pointer (some ⟨b, o, none⟩))
    (hl : (loadVar ty ⟨b, o, none⟩).run P w = .ok v w) : (results fn tmps).run P w = .ok v w := by
  unfold results
  rw [Array.getD_eq_getD_getElem?] at ht
  rw [hf]
  simp [ht, run_asAddr, hl]
/-- a variable and a slot -/
theorem results_cell_tmp {P : Program} {fn : Func} {tmps : Array Value} {w : World} {t s : Nat} {ty : TypeId} {b o : Nat} {v : Value} (hf : fn.results = #[.cell t ty, .tmp s]) (ht : tmps.getD t undef = .pointer (some ⟨b, o, none⟩))
    (hl : (loadVar ty ⟨b, o, none⟩).run P w = .ok v w) : (results fn tmps).run P w = .ok (.tuple #[v, tmps.getD s undef]) w := by
  unfold results
  rw [Array.getD_eq_getD_getElem?] at ht
  rw [hf]
  simp [ht, run_asAddr, hl]
/-- two variables and a slot -/
theorem results_cell2_tmp {P : Program} {fn : Func} {tmps : Array Value} {w : World} {t t' s : Nat} {ty ty' : TypeId} {b o b' o' : Nat} {v v' : Value} (hf : fn.results = #[.cell t ty, .cell t' ty', .tmp s]) (ht : tmps.getD t undef = .pointer (some ⟨b, o, none⟩)) (ht' : tmps.getD t' undef = .pointer (some ⟨b', o', none⟩))
    (hl : (loadVar ty ⟨b, o, none⟩).run P w = .ok v w) (hl' : (loadVar ty' ⟨b', o', none⟩).run P w = .ok v' w) : (results fn tmps).run P w = .ok (.tuple #[v, v', tmps.getD s undef]) w := by
  unfold results
  rw [Array.getD_eq_getD_getElem?] at ht ht'
  rw [hf]
  simp [ht, ht', run_asAddr, hl, hl']
/-- one operation of a list, by its run -/
theorem wpl_value {P : Program} {ops : Array Oper} {Q : Exit → Act → World → Prop} {o : Oper} {rest : List Oper} {a : Act} {w w' : World} {v : Value} (hgd : o.guard = none) (h : (execOp a.eval o).run P w = .ok (.value v) w') (hK : wpList P ops Q rest (a.put o.dst v) w') : wpList P ops Q (o :: rest) a w :=
  wpList_plain hgd fun _ hk => op_value h (hk _ _ hK)
theorem wpl_skip {P : Program} {ops : Array Oper} {Q : Exit → Act → World → Prop} {o : Oper} {rest : List Oper} {a : Act} {w w' : World} (hgd : o.guard = none) (h : (execOp a.eval o).run P w = .ok .skip w') (hK : wpList P ops Q rest (a.put o.dst undef) w') : wpList P ops Q (o :: rest) a w :=
  wpList_plain hgd fun _ hk => op_skip h (hk _ _ hK)
end Go.Proofs.YthpndgcaoeokeaaGreatDoor
namespace Go.Proofs.YthpndgcaoeokeaaGreatDoor
open Go.RowKit

/-- of what was there nothing has turned but the blocks of O -/
structure Exc (O : Nat → Prop) (W W' : World) : Prop where
  os : W'.os = W.os
  tape : W'.tape = W.tape
  output : W'.output = W.output
  size : W.heap.size ≤ W'.heap.size
  block : ∀ k, k < W.heap.size → ¬ O k → W'.heap[k]? = W.heap[k]?

theorem Exc.refl (O : Nat → Prop) (W : World) : Exc O W W := ⟨rfl, rfl, rfl, Nat.le_refl _, fun _ _ _ => rfl⟩
theorem Exc.trans {O O' : Nat → Prop} {A B C : World} (h : Exc O A B) (k : Exc O' B C) (hO : ∀ i, O' i → O i ∨ A.heap.size ≤ i) : Exc O A C :=
  ⟨k.os.trans h.os, k.tape.trans h.tape, k.output.trans h.output, Nat.le_trans h.size k.size, fun i hi hn => (k.block i (Nat.lt_of_lt_of_le hi h.size) (fun ho => (hO i ho).elim hn (by omega))).trans (h.block i hi hn)⟩
theorem Exc.trans1 {O : Nat → Prop} {A B C : World} (h : Exc O A B) (k : Exc O B C) : Exc O A C := h.trans k (fun _ h => .inl h)
theorem Exc.of_below {O : Nat → Prop} {W W' : World} (h : Below W.heap.size W W') : Exc O W W' := ⟨h.os, h.tape, h.output, h.size, fun k hk _ => h.block k hk⟩
theorem Exc.below {O : Nat → Prop} {W W' : World} {B : Nat} (h : Exc O W W') (hB : B ≤ W.heap.size) (hO : ∀ k, O k → B ≤ k) : Below B W W' :=
  ⟨h.os, h.tape, h.output, h.size, fun k hk => h.block k (by omega) (fun ho => by have := hO k ho; omega)⟩
theorem Exc.mono {O O' : Nat → Prop} {W W' : World} (h : Exc O W W') (hO : ∀ k, O k → O' k ∨ W.heap.size ≤ k) : Exc O' W W' :=
  ⟨h.os, h.tape, h.output, h.size, fun k hk hn => h.block k hk (fun ho => (hO k ho).elim hn (by omega))⟩
theorem Exc.setCell {O : Nat → Prop} {W W' : World} (h : Exc O W W') {p : Addr} (hp : O p.block ∨ W.heap.size ≤ p.block) (v : Value) : Exc O W (W'.setCell p v) :=
  ⟨h.os, h.tape, h.output, by simpa [World.setCell] using h.size, fun k hk hn => (Below.heap_setCell _ _ _ _ (fun e => by subst e; exact hp.elim hn (by omega))).trans (h.block k hk hn)⟩
theorem Exc.alloc {O : Nat → Prop} {W W' : World} (h : Exc O W W') (o : Obj) : Exc O W (W'.alloc o) :=
  ⟨h.os, h.tape, h.output, by have := h.size; simp; omega, fun k hk hn => (Below.heap_alloc _ _ _ (by have := h.size; omega)).trans (h.block k hk hn)⟩
theorem Exc.drew {O : Nat → Prop} {W W' : World} (h : Exc O W W') : Exc O W W'.drew := ⟨h.os, h.tape, h.output, h.size, h.block⟩
theorem Exc.put {O : Nat → Prop} {W W' : World} (h : Exc O W W') {r : Nat} (hr : O r ∨ W.heap.size ≤ r) (o : Obj) : Exc O W (W'.putObj r o) :=
  ⟨h.os, h.tape, h.output, by simpa using h.size, fun k hk hn => (World.putObj_heap_other (fun e => by subst e; exact hr.elim hn (by omega))).trans (h.block k hk hn)⟩

/-- J holds wherever the blocks of D are as they are here -/
def HoldAt (D : Nat → Prop) (J : World → Prop) (W : World) : Prop := ∀ W2 : World, (∀ k, D k → W2.heap[k]? = W.heap[k]?) → J W2
theorem HoldAt.out {D : Nat → Prop} {J : World → Prop} {W : World} (h : HoldAt D J W) : J W := h W (fun _ _ => rfl)
theorem HoldAt.on {D : Nat → Prop} {J : World → Prop} {W W' : World} (h : HoldAt D J W) (hk : ∀ k, D k → W'.heap[k]? = W.heap[k]?) : HoldAt D J W' :=
  fun W2 h2 => h W2 (fun k hd => (h2 k hd).trans (hk k hd))
/-- J holds, and leans on blocks of O and on ones from N on alone -/
def Got (O : Nat → Prop) (N : Nat) (J : World → Prop) (W : World) : Prop := ∃ D : Nat → Prop, (∀ k, D k → (O k ∨ N ≤ k) ∧ k < W.heap.size) ∧ HoldAt D J W
theorem Got.out {O : Nat → Prop} {N : Nat} {J : World → Prop} {W : World} (h : Got O N J W) : J W := h.choose_spec.2.out
theorem Got.on {O : Nat → Prop} {N : Nat} {J : World → Prop} {W W' : World} (h : Got O N J W) (hk : ∀ k, k < W.heap.size → (O k ∨ N ≤ k) → W'.heap[k]? = W.heap[k]?) : Got O N J W' := by
  obtain ⟨D, h1, h2⟩ := h
  refine ⟨D, fun k hd => ⟨(h1 k hd).1, ?_⟩, h2.on (fun k hd => hk k (h1 k hd).2 (h1 k hd).1)⟩
  have e := hk k (h1 k hd).2 (h1 k hd).1
  rw [Array.getElem?_eq_getElem (h1 k hd).2] at e
  exact (Array.getElem?_eq_some_iff.1 e).1
theorem Got.mono {O O' : Nat → Prop} {N N' : Nat} {J : World → Prop} {W : World} (h : Got O N J W) (hO : ∀ k, O k ∨ N ≤ k → O' k ∨ N' ≤ k) : Got O' N' J W := by
  obtain ⟨D, h1, h2⟩ := h
  exact ⟨D, fun k hd => ⟨hO k (h1 k hd).1, (h1 k hd).2⟩, h2⟩
theorem Got.imp {O : Nat → Prop} {N : Nat} {J J' : World → Prop} {W : World} (h : Got O N J W) (hj : ∀ w, J w → J' w) : Got O N J' W := by
  obtain ⟨D, h1, h2⟩ := h
  exact ⟨D, h1, fun W2 hk => hj _ (h2 W2 hk)⟩
/-- what was got is got again -/
theorem Got.twice {O : Nat → Prop} {N : Nat} {J : World → Prop} {W : World} (h : Got O N J W) : Got O N (Got O N J) W := by
  obtain ⟨D, h1, h2⟩ := h
  refine ⟨D, h1, fun W2 hk => ⟨D, fun k hd => ⟨(h1 k hd).1, ?_⟩, h2.on hk⟩⟩
  have e := hk k hd
  rw [Array.getElem?_eq_getElem (h1 k hd).2] at e
  exact (Array.getElem?_eq_some_iff.1 e).1
theorem Got.setCell {O : Nat → Prop} {N : Nat} {J : World → Prop} {W : World} (h : Got O N J W) {p : Addr} (hp : ¬ O p.block) (hN : p.block < N) (v : Value) : Got O N J (W.setCell p v) :=
  h.on fun k _ ho => Below.heap_setCell _ _ _ _ (fun e => by subst e; exact ho.elim hp (by omega))
theorem Got.alloc {O : Nat → Prop} {N : Nat} {J : World → Prop} {W : World} (h : Got O N J W) (o : Obj) : Got O N J (W.alloc o) :=
  h.on fun _ hk _ => Below.heap_alloc _ _ _ hk
theorem Got.put {O : Nat → Prop} {N : Nat} {J : World → Prop} {W : World} (h : Got O N J W) {r : Nat} (hp : ¬ O r) (hN : r < N) (o : Obj) : Got O N J (W.putObj r o) :=
  h.on fun k _ ho => World.putObj_heap_other (fun e => by subst e; exact ho.elim hp (by omega))
theorem Got.drew {O : Nat → Prop} {N : Nat} {J : World → Prop} {W : World} (h : Got O N J W) : Got O N J W.drew := h.on fun _ _ _ => rfl
theorem Got.below {O : Nat → Prop} {N : Nat} {J : World → Prop} {W W' : World} (h : Got O N J W) (hb : Below W.heap.size W W') : Got O N J W' := h.on fun k hk _ => hb.block k hk
theorem HoldAt.below {D : Nat → Prop} {J : World → Prop} {W W' : World} (h : HoldAt D J W) (hD : ∀ k, D k → k < W.heap.size) (hb : Below W.heap.size W W') : HoldAt D J W' := h.on fun k hk => hb.block k (hD k hk)

/-- how a round, and the iterator, end -/
def Post (O : Nat → Prop) (N : Nat) (J : World → Prop) (W W' : World) : Prop := Exc O W W' ∧ Got O N J W'

/-- an iterator's word: it calls yield once, with xs; it reads the blocks of R; the loop's own blocks are those of O -/
def It (P : Program) (g : Nat) (lb xs : Array Value) (R : Nat → Prop) (w : World) : Prop :=
  ∀ (l : Nat) (W : World) (O : Nat → Prop) (J : World → Prop), w.heap.size ≤ W.heap.size → (∀ k, R k → W.heap[k]? = w.heap[k]?) → (∀ k, O k → k < W.heap.size ∧ ¬ R k) →
    (∀ W1 : World, Below W.heap.size W W1 → YieldAt Fence.wide 0 P l xs W1 fun e W' => e = .returned (.bool true) ∧ Post O W1.heap.size J W1 W') →
    CallsIn Fence.wide 0 P g (#[.func (.yield l) #[] #[]] ++ lb) W fun e W' => (∃ v, e = .returned v) ∧ Post O W.heap.size J W W'

/-- what is asked at the end of a round's body: it goes on -/
def goPost (O : Nat → Prop) (J : World → Prop) (W : World) : Exit → Act → World → Prop
  | .normal, _, W' => Post O W.heap.size J W W'
  | _, _, _ => False

theorem lt_of_same {W W' : World} {k : Nat} (hk : k < W.heap.size) (e : W'.heap[k]? = W.heap[k]?) : k < W'.heap.size := by
  rw [Array.getElem?_eq_getElem hk] at e
  exact (Array.getElem?_eq_some_iff.1 e).1

/-- the loop over an iterator that gives one element -/
theorem range_one {P : Program} {g : Operand} {ps : Array Tmp} {assign body : Code} {Q : Exit → Act → World → Prop} {a : Act} {w : World}
    {gf : Nat} {lb xs : Array Value} (hg : a.eval g = .func (.func gf) #[] lb) (eg : ∀ args w, (callFunc gf args).run P w = .ok (.enter gf args) w)
    {R : Nat → Prop} {w0 : World} (hit : It P gf lb xs R w0) (hws : w0.heap.size ≤ w.heap.size) (hwR : ∀ k, R k → w.heap[k]? = w0.heap[k]?) (hRw : ∀ k, R k → k < w.heap.size)
    (O : Nat → Prop) (hO : ∀ k, O k → k < w.heap.size ∧ ¬ R k) (J : World → Prop) (hps : xs.size = ps.size) (a₁ : Act)
    (hassign : ∀ (l : Nat) (W : World) (K : Act → World → Prop), K a₁ W →
      assign.wpIn (Fence.wide.inRound l) 0 P (Exit.then K (fun _ _ _ => False)) { tmps := (ps.zip xs).foldl (fun t (p, v) => t.setIfInBounds p v) a.tmps, defers := [] } W)
    (hbody : ∀ (l : Nat) (W : World), Below w.heap.size w W → w.heap.size + 2 ≤ W.heap.size → body.wpIn (Fence.wide.inRound l) 0 P (goPost O J W) a₁ W)
    (hdone : ∀ (W : World), Post O (w.heap.size + 2) J w W → w.heap.size + 2 ≤ W.heap.size → W.heap[w.heap.size]? = some (.deferred (some [])) → Q .normal { a with defers := { target := .collected w.heap.size, args := #[] } :: a.defers } W) :
    (Code.rangeFunc g ps assign body).wpIn Fence.wide 0 P Q a w := by
  refine wpIn_rangeFunc ?_
  intro fn hfn
  show ∃ (l : Nat) (mark : List Deferred) (w₁ : World) (d : Deferred) (w₁' : World) (f : FuncId) (args : Array Value) (w₂ : World), (Instr.enterLoop fn a.tmps ps assign body none).run P w = .ok (l, mark) w₁ ∧ _
  obtain ⟨rec, hrec⟩ : ∃ rec : LoopState → Option Code → Loop, rec = fun st pe => { state := st, pending := pe, fn, tmps := a.tmps, params := ps, assign, body, defers := w.heap.size } := ⟨_, rfl⟩
  obtain ⟨W1, hW1⟩ : ∃ W1, (w.alloc (.deferred (some []))).alloc (.loop (rec .ready none)) = W1 := ⟨_, rfl⟩
  have hL1 : W1.heap[w.heap.size + 1]? = some (.loop (rec .ready none)) := by
    rw [← hW1]; have := World.alloc_heap_new (w.alloc (.deferred (some []))) (.loop (rec .ready none)); rwa [World.size_alloc] at this
  have hK1 : W1.heap[w.heap.size]? = some (.deferred (some [])) := by
    rw [← hW1]; exact (Below.heap_alloc _ _ _ (by simp)).trans (World.alloc_heap_new w _)
  have hS1 : W1.heap.size = w.heap.size + 2 := by rw [← hW1]; simp
  have hB1 : Below w.heap.size w W1 := by
    rw [← hW1]; exact ((Below.refl _ w).alloc (Nat.le_refl _) _).alloc (by simp) _
  refine ⟨w.heap.size + 1, [{ target := .collected w.heap.size, args := #[] }], W1, { target := .fn (.func gf) lb, args := #[.func (.yield (w.heap.size + 1)) #[] #[]] }, W1, gf,
    #[.func (.yield (w.heap.size + 1)) #[] #[]] ++ lb, W1, ?_, ?_, ?_, ?_, fun h => (by simp [Fence.wide] at h), ?_⟩
  · rw [← hW1, hrec]; exact run_enterLoop_outer _ _ _ _ _
  · simp only [resolve, hg]
    simp [go_sem]
  · intro f' hf'; trivial
  · simp [invoke, go_sem, eg]
  · have nl : ∀ k, O k → k ≠ w.heap.size + 1 := fun k hk => by have := (hO k hk).1; omega
    have nOl : ¬ O (w.heap.size + 1) := fun h => nl _ h rfl
    refine (hit (w.heap.size + 1) W1 (fun k => O k ∨ k = w.heap.size + 1)
      (fun W => Got O (w.heap.size + 2) J W ∧ W.heap[w.heap.size + 1]? = some (.loop (rec .ready none))) (by omega) (fun k hk => (hB1.block k (hRw k hk)).trans (hwR k hk))
      (fun k hk => by
        rcases hk with hk | rfl
        · have := hO k hk
          exact ⟨by omega, this.2⟩
        · exact ⟨by omega, fun hr => by have := hRw _ hr; omega⟩) ?_).mono ?_
    · intro W hb
      have hl : W.heap[w.heap.size + 1]? = some (.loop (rec .ready none)) := (hb.block _ (by omega)).trans hL1
      have hlt : w.heap.size + 1 < W.heap.size := (Array.getElem?_eq_some_iff.1 hl).1
      have hy := run_yield (P := P) (args := xs) hl (by rw [hrec]; exact hps)
      rw [hrec] at hy
      refine ⟨fn, _, assign, body, hy, roundIn_of_wpIn hfn (hassign _ W _ ?_)⟩
      clear hy
      refine ⟨_, run_beginRound hl (by rw [hrec]), ?_⟩
      obtain ⟨W2, hW2⟩ : ∃ W2, W.putObj (w.heap.size + 1) (.loop { rec .ready none with state := .busy }) = W2 := ⟨_, rfl⟩
      have hl2 : W2.heap[w.heap.size + 1]? = some (.loop { rec .ready none with state := .busy }) := by rw [← hW2]; exact World.putObj_heap_same hlt
      have hs2 : W2.heap.size = W.heap.size := by rw [← hW2]; simp
      have hb2 : Below w.heap.size w W2 := by
        have e : Below w.heap.size W W2 := by rw [← hW2]; exact ⟨rfl, rfl, rfl, by simp, fun k hk => World.putObj_heap_other (by omega)⟩
        exact hB1.trans ((hb.mono (by omega)).trans e)
      have hx2 : Exc (fun k => O k ∨ k = w.heap.size + 1) W W2 := by rw [← hW2]; exact (Exc.refl _ _).put (.inl (.inr rfl)) _
      rw [hW2]
      clear hW2
      refine wpIn_mono (hbody _ W2 hb2 (by omega)) ?_
      rintro e a3 W3 hp
      cases e with
      | normal =>
        obtain ⟨hx3, hg3⟩ := hp
        have hl3 := (hx3.block _ (by omega) nOl).trans hl2
        have hr := run_endRound (P := P) none hl3
        rw [hrec] at hr
        refine ⟨_, _, hr, rfl, ?_, ?_⟩
        · exact (hx2.trans1 (hx3.mono (fun k hk => .inl (.inl hk)))).put (.inl (.inr rfl)) _
        · obtain ⟨D, d1, d2⟩ := hg3
          have nD : ∀ k, D k → k ≠ w.heap.size + 1 := fun k hd e => by
            rcases (d1 k hd).1 with h | h
            · exact nl k h e
            · omega
          have hl3' : w.heap.size + 1 < W3.heap.size := (Array.getElem?_eq_some_iff.1 hl3).1
          refine ⟨fun k => D k ∨ k = w.heap.size + 1, fun k hk => ?_, fun W4 h4 => ⟨⟨D, fun k hd => ⟨?_, ?_⟩, d2.on fun k hd => (h4 k (.inl hd)).trans (World.putObj_heap_other (nD k hd))⟩, ?_⟩⟩
          · rcases hk with hk | rfl
            · have := d1 k hk
              refine ⟨?_, by simpa using this.2⟩
              rcases this.1 with h | h
              · exact .inl (.inl h)
              · exact .inr (by omega)
            · exact ⟨.inl (.inr rfl), by simpa using hl3'⟩
          · rcases (d1 k hd).1 with h | h
            · exact .inl h
            · exact .inr (by omega)
          · exact lt_of_same (W := W3) (d1 k hd).2 ((h4 k (.inl hd)).trans (World.putObj_heap_other (nD k hd)))
          · rw [h4 _ (.inr rfl), World.putObj_heap_same hl3']
            rw [hrec]
            rfl
      | ret => exact hp.elim
      | exit id => exact hp.elim
      | goto t => exact hp.elim
      | panic ch => exact hp.elim
      | outgrown => exact hp.elim
    · rintro e W2 ⟨⟨v, rfl⟩, hx, hg⟩
      obtain ⟨hgot, hl⟩ := hg.out
      have hlt : w.heap.size + 1 < W2.heap.size := (Array.getElem?_eq_some_iff.1 hl).1
      have he := run_endLoop (P := P) hl (by rw [hrec]; simp)
      rw [hrec] at he
      refine ⟨none, _, he, ?_⟩
      refine hdone _ ⟨?_, hgot.put nOl (by omega) _⟩ (by simp; omega) ?_
      · have e1 : Exc O w W1 := Exc.of_below hB1
        refine (e1.trans hx (fun i hi => ?_)).put (.inr (by omega)) _
        rcases hi with hi | rfl
        · exact .inl hi
        · exact .inr (by omega)
      · rw [World.putObj_heap_other (by omega)]
        refine (hx.block _ (by omega) ?_).trans hK1
        rintro (h | h)
        · have := (hO _ h).1
          omega
        · omega
end Go.Proofs.YthpndgcaoeokeaaGreatDoor
