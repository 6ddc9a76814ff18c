/- A region that draws its order, by what each of its operations leaves behind: no order is followed. A drawn region whose operations have no guards; what an operation does, by its operands' values. What a function hands back of its results' variables; structs loaded and stored whole. Of no program. The argument of the laws: a list of steps, opened. The program's own: lists of BYDAY's values (package words). The program's own: a rule's parts as they are printed (package rules). -/
import Derived.Test.YthpndgcaoeokeaaGreatDoorCm6
import Derived.Test.YthpndgcaoeokeaaGreatDoorRows
import Derived.Deep.MidRow
import Derived.Deep.Slices
import Derived.Lib.SmallJoins
import Derived.Lib.LaidTab
import Derived.Stop.LaidErr
import Derived.MakeChecks
namespace Go.Proofs.YthpndgcaoeokeaaGreatDoor
open Go.RowKit

section
variable {P : Program} {ops : Array Oper} {Q : Exit → Act → World → Prop} {md : Region.Mode}

theorem ready_spec {listed : Array Bool} {i : Nat} (h : i ∈ Region.ready md ops listed) : i < ops.size ∧ listed.getD i true = false ∧ ∃ o, ops[i]? = some o ∧ ∀ e ∈ o.after, Region.binds md e = true → listed.getD e.on false = true := by
  unfold Region.ready at h
  rw [List.mem_filter, List.mem_range] at h
  obtain ⟨hi, h⟩ := h
  rw [Bool.and_eq_true] at h
  obtain ⟨h1, h2⟩ := h
  refine ⟨hi, by simpa using h1, ops[i], Array.getElem?_eq_getElem hi, ?_⟩
  rw [Array.getElem?_eq_getElem hi, Option.map_some, Option.getD_some, Array.all_eq_true'] at h2
  intro e he hb
  have := h2 e he
  rw [hb] at this
  simpa using this
theorem ready_of {listed : Array Bool} {i : Nat} {o : Oper} (ho : ops[i]? = some o) (h1 : listed.getD i true = false) (h2 : ∀ e ∈ o.after, Region.binds md e = true → listed.getD e.on false = true) : i ∈ Region.ready md ops listed := by
  unfold Region.ready
  rw [List.mem_filter, List.mem_range]
  refine ⟨(Array.getElem?_eq_some_iff.1 ho).1, ?_⟩
  rw [Bool.and_eq_true]
  refine ⟨by simp only [h1, Bool.not_false], ?_⟩
  rw [ho, Option.map_some, Option.getD_some, Array.all_eq_true']
  intro e he
  cases hb : Region.binds md e
  · rfl
  · rw [h2 e he hb]; rfl

/-- each operation waits for earlier ones alone -/
def forward (md : Region.Mode) (ops : Array Oper) : Bool := (List.range ops.size).all fun i => ((ops[i]?).map fun o => o.after.all fun e => !Region.binds md e || decide (e.on < i)).getD true
theorem forward_spec (h : forward md ops = true) {i : Nat} {o : Oper} (ho : ops[i]? = some o) : ∀ e ∈ o.after, Region.binds md e = true → e.on < i := by
  unfold forward at h
  rw [List.all_eq_true] at h
  have := h i (List.mem_range.2 (Array.getElem?_eq_some_iff.1 ho).1)
  rw [ho, Option.map_some, Option.getD_some, Array.all_eq_true'] at this
  intro e he hb
  have := this e he
  rw [hb] at this
  simpa using this
theorem getD_lt {l : Array Bool} {i : Nat} (d : Bool) (h : i < l.size) : l.getD i d = l[i] := by simp [Array.getD, h]
theorem all_listed (hf : forward md ops = true) {listed : Array Bool} (hs : listed.size = ops.size) (hr : Region.ready md ops listed = []) : ∀ i, i < ops.size → listed.getD i false = true := by
  intro i
  induction i using Nat.strongRecOn with
  | ind i ih =>
    intro hi
    cases hc : listed.getD i false
    · exfalso
      have : i ∈ Region.ready md ops listed := ready_of (Array.getElem?_eq_getElem hi) (by rw [getD_lt _ (by omega)] at hc ⊢; exact hc)
        (fun e he hb => ih e.on (forward_spec hf (Array.getElem?_eq_getElem hi) e he hb) (Nat.lt_trans (forward_spec hf (Array.getElem?_eq_getElem hi) e he hb) hi))
      rw [hr] at this; simp at this
    · rfl

theorem wpAny_each (G : Nat → Act → World → Prop) (I : Act → World → Prop) (hf : forward md ops = true)
    (H : ∀ i o a w, ops[i]? = some o → I a w → (∀ e ∈ o.after, Region.binds md e = true → G e.on a w) → wpOp P ops Q i (fun a' w' => I a' w' ∧ G i a' w' ∧ ∀ j oj, ops[j]? = some oj → j ≠ i → (∀ e ∈ oj.after, Region.binds md e = true → e.on ≠ i) → G j a w → G j a' w') a w)
    (D : ∀ a w, I a w → (∀ i, i < ops.size → G i a w) → Q .normal a w) :
    ∀ (fuel : Nat) (listed : Array Bool) (a : Act) (w : World), listed.size = ops.size → listed.toList.count false ≤ fuel → I a w → (∀ i, i < ops.size → listed.getD i false = true → G i a w) → (∀ i o, ops[i]? = some o → listed.getD i false = true → ∀ e ∈ o.after, Region.binds md e = true → listed.getD e.on false = true) → wpAny P md ops Q fuel listed a w := by
  intro fuel
  induction fuel with
  | zero =>
    intro listed a w hs hc hI hG hC
    have hall : ∀ i, i < ops.size → listed.getD i false = true := fun i hi => by
      rw [getD_lt _ (by omega)]
      cases hb : listed[i]'(by omega)
      · exfalso
        have : false ∈ listed.toList := by rw [← hb]; exact Array.mem_def.1 (Array.getElem_mem _)
        have := List.count_pos_iff.2 this
        omega
      · rfl
    have hr : Region.ready md ops listed = [] := by
      rw [List.eq_nil_iff_forall_not_mem]
      intro i hi
      obtain ⟨h1, h2, _⟩ := ready_spec hi
      have := hall i h1
      rw [getD_lt _ (by omega)] at this h2
      rw [this] at h2; cases h2
    exact ⟨hr, D a w hI (fun i hi => hG i hi (hall i hi))⟩
  | succ fuel ih =>
    intro listed a w hs hc hI hG hC
    refine ⟨fun hr => D a w hI (fun i hi => hG i hi (all_listed hf hs hr i hi)), fun i hi => ?_⟩
    obtain ⟨h1, h2, o, ho, h3⟩ := ready_spec hi
    refine wpOp_mono (fun a' w' ⟨q1, q2, q3⟩ => ?_) (H i o a w ho hI (fun e he hb => hG e.on (Nat.lt_trans (forward_spec hf ho e he hb) h1) (h3 e he hb)))
    have hup : ∀ k, listed.getD k false = true → (listed.setIfInBounds i true).getD k false = true := fun k hk => by
      by_cases hki : k = i
      · subst hki; rw [getD_lt _ (by simp; omega)]; simp
      · by_cases hks : k < listed.size
        · rw [getD_lt _ hks] at hk
          rw [getD_lt _ (by simp; exact hks), Array.getElem_setIfInBounds_ne _ (fun e => hki e.symm)]
          exact hk
        · simp [Array.getD, hks] at hk
    have hdown : ∀ k, k ≠ i → (listed.setIfInBounds i true).getD k false = true → listed.getD k false = true := fun k hki hk => by
      by_cases hks : k < listed.size
      · rw [getD_lt _ (by simp; exact hks), Array.getElem_setIfInBounds_ne _ (fun e => hki e.symm)] at hk
        rw [getD_lt _ hks]; exact hk
      · simp [Array.getD, hks] at hk
    refine ih (listed.setIfInBounds i true) a' w' (by simp [hs]) ?_ q1 (fun j hj hl => ?_) (fun j oj hoj hl e he hb => ?_)
    · rw [Array.toList_setIfInBounds, List.count_set (by rw [Array.length_toList]; omega)]
      have : listed.toList[i]'(by rw [Array.length_toList]; omega) = false := by
        rw [getD_lt _ (by omega)] at h2
        simpa using h2
      rw [this]
      have hp : 0 < listed.toList.count false := List.count_pos_iff.2 (by rw [← this]; exact List.getElem_mem _)
      show listed.toList.count false - 1 + 0 ≤ fuel
      omega
    · by_cases hji : j = i
      · subst hji; exact q2
      · have hlj := hdown j hji hl
        refine q3 j ops[j] (Array.getElem?_eq_getElem hj) hji (fun e he hb hei => ?_) (hG j hj hlj)
        have := hC j ops[j] (Array.getElem?_eq_getElem hj) hlj e he hb
        rw [hei, getD_lt _ (by omega)] at this
        rw [getD_lt _ (by omega), this] at h2
        cases h2
    · by_cases hji : j = i
      · subst hji
        rw [ho] at hoj; cases hoj
        exact hup _ (h3 e he hb)
      · exact hup _ (hC j oj hoj (hdown j hji hl) e he hb)
/-- the same from the region's beginning -/
theorem wp_region_each {id : Nat} {a : Act} {w : World} (G : Nat → Act → World → Prop) (I : Act → World → Prop) (hm : P.follows .mixedOrders = true) (hf : forward .any ops = true)
    (H : ∀ i o a w, ops[i]? = some o → I a w → (∀ e ∈ o.after, Region.binds .any e = true → G e.on a w) → wpOp P ops Q i (fun a' w' => I a' w' ∧ G i a' w' ∧ ∀ j oj, ops[j]? = some oj → j ≠ i → (∀ e ∈ oj.after, Region.binds .any e = true → e.on ≠ i) → G j a w → G j a' w') a w)
    (D : ∀ a w, I a w → (∀ i, i < ops.size → G i a w) → Q .normal a w) (hI : I a { w with drawn := w.drawn + 1 }) : (Code.region id ops true).wp P Q a w :=
  wp_region_any hm (wpAny_each G I hf H D ops.size (Array.replicate ops.size false) a _ (by simp) (by rw [Array.toList_replicate, List.count_replicate]; simp) hI (fun i hi h => by
    rw [getD_lt _ (by simpa using hi)] at h; simp at h) (fun i o ho h => by
    rw [getD_lt _ (by simpa using (Array.getElem?_eq_some_iff.1 ho).1)] at h; simp at h))
end
end Go.Proofs.YthpndgcaoeokeaaGreatDoor
namespace Go.Proofs.YthpndgcaoeokeaaGreatDoor
open Go.RowKit

section
variable {P : Program} {ops : Array Oper} {Q : Exit → Act → World → Prop}

theorem op_value {o : Oper} {a : Act} {w w' : World} {K : Act → World → Prop} {v : Value} (h : (execOp a.eval o).run P w = .ok (.value v) w') (hK : K (a.put o.dst v) w') : Oper.wp P o a w K Q := by
  unfold Oper.wp; rw [h]; exact hK
theorem op_skip {o : Oper} {a : Act} {w w' : World} {K : Act → World → Prop} (h : (execOp a.eval o).run P w = .ok .skip w') (hK : K (a.put o.dst undef) w') : Oper.wp P o a w K Q := by
  unfold Oper.wp; rw [h]; exact hK
theorem op_call {o : Oper} {a : Act} {w w' : World} {K : Act → World → Prop} {f : FuncId} {args : Array Value} {R : Ending → World → Prop} (h : (execOp a.eval o).run P w = .ok (.enter f args) w') (hc : Calls P f args w' R)
    (h1 : ∀ v w'', R (.returned v) w'' → K (a.put o.dst v) w'') (h2 : ∀ c w'', R (.panicked c) w'' → Q (.panic c) a w'') (h3 : ∀ w'', ¬ R .outgrown w'') : Oper.wp P o a w K Q := by
  unfold Oper.wp; rw [h]
  refine Calls.mono hc fun e w'' he => ?_
  cases e with
  | returned v => exact h1 v w'' he
  | panicked c => exact h2 c w'' he
  | outgrown => exact absurd he (h3 w'')

def noGuards (ops : Array Oper) : Bool := ops.all fun o => o.guard.isNone
theorem wp_region_plain {id : Nat} {a : Act} {w : World} (G : Nat → Act → World → Prop) (I : Act → World → Prop) (hm : P.follows .mixedOrders = true) (hf : forward .any ops = true) (hg : noGuards ops = true)
    (H : ∀ i o, ops[i]? = some o → ∀ a w, I a w → (∀ e ∈ o.after, Region.binds .any e = true → G e.on a w) → Oper.wp P o a w (fun a' w' => I a' w' ∧ G i a' w' ∧ ∀ j oj, ops[j]? = some oj → j ≠ i → (∀ e ∈ oj.after, Region.binds .any e = true → e.on ≠ i) → G j a w → G j a' w') Q)
    (D : ∀ a w, I a w → (∀ i, i < ops.size → G i a w) → Q .normal a w) (hI : I a { w with drawn := w.drawn + 1 }) : (Code.region id ops true).wp P Q a w := by
  refine wp_region_each G I hm hf (fun i o a w ho hI hG => ?_) D hI
  refine wpOp_step ho fun K' hK' => ?_
  have hgo : o.guard = none := by
    unfold noGuards at hg
    rw [Array.all_eq_true'] at hg
    have := hg o (Array.mem_of_getElem? ho)
    simpa using this
  have hw : Region.wanted o (yielded ops a.tmps) = true := by unfold Region.wanted; rw [hgo]
  rw [if_pos hw]
  exact Oper.wp_mono hK' (H i o ho a w hI hG)
end

theorem ev_ne {a : Act} {d k : Nat} {v : Value} (h : k ≠ d) : (a.put (some d) v).eval (.tmp k) = a.eval (.tmp k) := by
  show (a.tmps.setIfInBounds d v).getD k undef = a.tmps.getD k undef
  simp [Array.getD_eq_getD_getElem?, Ne.symm h]
theorem ev_same {a : Act} {d : Nat} {v : Value} (h : d < a.tmps.size) : (a.put (some d) v).eval (.tmp d) = v := by
  show (a.tmps.setIfInBounds d v).getD d undef = v
  simp [Array.getD_eq_getD_getElem?, h]
theorem put_size {a : Act} {d : Option Nat} {v : Value} : (a.put d v).tmps.size = a.tmps.size := by
  cases d with
  | none => rfl
  | some d => show (a.tmps.setIfInBounds d v).size = _; simp
theorem put_defers {a : Act} {d : Option Nat} {v : Value} : (a.put d v).defers = a.defers := by
  cases d <;> rfl
end Go.Proofs.YthpndgcaoeokeaaGreatDoor
namespace Go.Proofs.YthpndgcaoeokeaaGreatDoor
open Go.RowKit

theorem run_asAddr {P : Program} {a : Addr} {w : World} : (asAddr (.pointer (some a))).run P w = .ok a w := by simp [asAddr]
/-- one result, a variable -/
theorem results_cell {P : Program} {fn : Func} {tmps : Array Value} {w : World} {t : Nat} {ty : TypeId} {b o : Nat} {v : Value} (hf : fn.results = #[.cell t ty]) (ht : tmps.getD t undef = .pointer (some ⟨b, o, none⟩))
    (hl : (loadVar ty ⟨b, o, none⟩).run P w = .ok v w) : (results fn tmps).run P w = .ok v w := by
  unfold results
  rw [Array.getD_eq_getD_getElem?] at ht
  rw [hf]
  simp [ht, run_asAddr, hl]
/-- one operation of a list, by its run -/
theorem wpl_value {P : Program} {ops : Array Oper} {Q : Exit → Act → World → Prop} {o : Oper} {rest : List Oper} {a : Act} {w w' : World} {v : Value} (hgd : o.guard = none) (h : (execOp a.eval o).run P w = .ok (.value v) w') (hK : wpList P ops Q rest (a.put o.dst v) w') : wpList P ops Q (o :: rest) a w :=
  wpList_plain hgd fun _ hk => op_value h (hk _ _ hK)
end Go.Proofs.YthpndgcaoeokeaaGreatDoor
namespace Go.Proofs.YthpndgcaoeokeaaGreatDoor
open Go.ChangeShapes Go.WideShapes Go.ChangeAt Go.RowKit

theorem cellsInt : Tryz.prog.cellsOf 3 = 1 := by kernel_rfl
section
variable {H : Type} {enc : TypeId × Value → H} {w : World} {spare : Nat → Bool} {held : Bool}
end

theorem gTab : Tryz.prog.globalNamed "internal/strconv.uint64pow10" = some 3 := by kernel_rfl
theorem gTabType : (Tryz.prog.globals[3]?).map (·.type) = some 354 := by kernel_rfl
theorem cellsTab : Tryz.prog.cellsOf 354 = 20 := by kernel_rfl
theorem cellsU64 : Tryz.prog.cellsOf 309 = 1 := by kernel_rfl
end Go.Proofs.YthpndgcaoeokeaaGreatDoor
namespace Go.Proofs.YthpndgcaoeokeaaGreatDoor
open Go.RowKit Go.Sort

/-- pairs, one behind the other -/
def flat (zs : List (Int × Int)) : List Value := zs.flatMap fun q => [.int .i64 q.1, .int .i64 q.2]
theorem flat_len (zs : List (Int × Int)) : (flat zs).length = zs.length * 2 := by
  induction zs with
  | nil => rfl
  | cons a r ih => simp [flat] at ih ⊢; omega
theorem flat_snoc (zs : List (Int × Int)) (z : Int × Int) : flat (zs ++ [z]) = flat zs ++ [.int .i64 z.1, .int .i64 z.2] := by simp [flat]
/-- how the reading of a list of BYDAY's values ends -/
def LwPost (rd : List UInt8 → Option (Int × Int)) (v : List UInt8) (x : Int) (w : World) (E : Ending) (w' : World) : Prop :=
  match lsF rd (some v) with
  | none => E = .panicked (rsn x)
  | some zs => ∃ g, E = .returned (.slice (some ⟨g, 0, none⟩) zs.length zs.length) ∧ w.heap.size ≤ g ∧ RowAt w' g (flat zs) 183
/-- the row while it is filled -/
def rowW (zs : List (Int × Int)) (n : Nat) : List Value := flat zs ++ List.replicate ((n - zs.length) * 2) (.int .i64 0)
theorem rowW_get0 {zs : List (Int × Int)} {n k : Nat} (hz : zs.length = k) (hk : k < n) : (rowW zs n)[k * 2]? = some (.int .i64 0) := by
  unfold rowW
  have hf := flat_len zs
  rw [List.getElem?_append_right (by omega)]
  rw [List.getElem?_replicate, if_pos (by omega)]
theorem rowW_get1 {zs : List (Int × Int)} {n k : Nat} (hz : zs.length = k) (hk : k < n) : (rowW zs n)[k * 2 + 1]? = some (.int .i64 0) := by
  unfold rowW
  have hf := flat_len zs
  rw [List.getElem?_append_right (by omega)]
  rw [List.getElem?_replicate, if_pos (by omega)]
theorem rowW_set {zs : List (Int × Int)} {n k : Nat} (hz : zs.length = k) (hk : k < n) (z : Int × Int) : ((rowW zs n).set (k * 2) (.int .i64 z.1)).set (k * 2 + 1) (.int .i64 z.2) = rowW (zs ++ [z]) n := by
  unfold rowW
  have hf := flat_len zs
  rw [List.set_append_right _ _ (by omega), List.set_append_right _ _ (by omega)]
  have : (n - zs.length) * 2 = (n - (zs ++ [z]).length) * 2 + 1 + 1 := by simp; omega
  rw [this, List.replicate_succ, List.replicate_succ, flat_snoc]
  rw [show k * 2 - (flat zs).length = 0 from by omega, show k * 2 + 1 - (flat zs).length = 1 from by omega]
  simp
theorem rowW_full {zs : List (Int × Int)} {n : Nat} (hz : zs.length = n) : rowW zs n = flat zs := by
  unfold rowW; rw [hz]; simp
theorem made_two (z : Value) (m : Nat) : madeCells #[z, z] m = (List.replicate m z).toArray := by
  unfold madeCells
  apply Array.ext
  · simp
  · intro i h1 h2
    have : i % 2 = 0 ∨ i % 2 = 1 := by omega
    rcases this with h | h <;> simp [h]
theorem infoWk : (Tryz.prog.info? 183).map (fun i => (i.zero, i.size, i.bytes)) = some (some (.agg #[.int .i64 0, .int .i64 0]), 2, 16) := by kernel_rfl
theorem makeWk (w : World) (n : Nat) (hn : n ≤ 20) : (Instr.makeSlice 74 (.int .i64 (n : Int)) (.int .i64 (n : Int))).run Tryz.prog w = .ok (.slice (some ⟨w.heap.size, 0, none⟩) n n) (w.alloc (.cells (rowW [] n).toArray 183)) := by
  obtain ⟨i0, hi, hz0, hz1, hz2⟩ := info_parts infoWk
  have k := run_make (P := Tryz.prog) w 74 183 i0 _ Tryz.underlying74 hi hz0 .i64 .i64 (n : Int) (n : Int) (by omega) (Int.le_refl _) (by rw [hz2]; omega) (by omega)
  rw [hz1, show (Value.agg #[.int .i64 0, .int .i64 0]).cells = #[.int .i64 0, .int .i64 0] from rfl, made_two] at k
  simp only [Int.toNat_natCast] at k
  exact k

set_option maxRecDepth 100000 in
set_option maxHeartbeats 2000000 in
theorem listWk_some (rd : List UInt8 → Option (Int × Int)) (fn : FuncId) (v : List UInt8) (x : Int) (w : World) (hm : ML w) (hl : v.length ≤ 1048576)
    (hen : ∀ args w, (callFunc fn args).run Tryz.prog w = .ok (.enter fn args) w)
    (hr : ∀ (t : List UInt8) (W : World), t.length ≤ 1048576 → Calls Tryz.prog fn #[.string ⟨t.toArray⟩] W fun E w' => E = (match rd t with | none => Ending.panicked (rsn x) | some z => .returned (.agg #[.int .i64 z.1, .int .i64 z.2])) ∧ Below W.heap.size W w') :
    Calls Tryz.prog 147 #[.agg #[.string ⟨v.toArray⟩, .bool true], .int .i64 x, .func (.func fn) #[] #[]] w fun E w' =>
      LwPost rd v x w E w' ∧ Below w.heap.size w w' := by
  have CS := hide fun W (h : ML W) => strSplit_any v 44 W h hl
  have HM : Hid (ML (w.alloc (.cells #[.string ⟨v.toArray⟩, .bool true] 122))) := hide (hm.on ((Below.refl _ _).alloc (Nat.le_refl _) _))
  have HR := hide hr
  have HS : Hid (∀ p ∈ spl 44 v, p.length ≤ 1048576) := hide (fun p hp => Nat.le_trans (spl_small 44 v p hp) hl)
  have HF : Hid (lsF rd (some v) = if (spl 44 v).length ≤ 20 then rds rd (spl 44 v) else none) := hide rfl
  clear hr hm
  obtain ⟨ps, hps⟩ : ∃ ps, ps = spl 44 v := ⟨_, rfl⟩
  rw [← hps] at CS HS HF
  clear hps
  by_cases h20 : ps.length ≤ 20
  case neg =>
    have HE : Hid (lsF rd (some v) = none) := hide (by rw [HF.out, if_neg h20])
    have h20' : decide ((ps.length : Int) ≤ 20) = false := by simp; omega
    go_enter Tryz.func147, Tryz.ntmps147
    go_wp2_with (first
      | (go_at_call 139; refine (CS.out _ HM.out).mono ?_; rintro e w1 ⟨rfl, rfl⟩)
      | (go_at_call_of 65 (Value.bool false); refine (unless_no _ _).mono ?_; rintro e w' ⟨rfl, rfl⟩))
    exact ⟨rfl, by unfold LwPost; rw [HE.out], ((Below.refl _ _).alloc (Nat.le_refl _) _).alloc (by simp) _⟩
  case pos =>
    have h20' : (ps.length : Int) ≤ 20 := by omega
    have HE : Hid (lsF rd (some v) = rds rd ps) := hide (by rw [HF.out, if_pos h20])
    have mk := fun W => makeWk W ps.length h20
    have hps : NamesAt ((w.alloc (.cells #[.string ⟨v.toArray⟩, .bool true] 122)).alloc (.cells (strs ps).toArray 9)) (w.heap.size + 1) 0 ps := by
      have := names_new (w.alloc (.cells #[.string ⟨v.toArray⟩, .bool true] 122)) ps 9
      rw [show (w.alloc (.cells #[.string ⟨v.toArray⟩, .bool true] 122)).heap.size = w.heap.size + 1 from by simp] at this
      exact this
    have hsz : ((w.alloc (.cells #[.string ⟨v.toArray⟩, .bool true] 122)).alloc (.cells (strs ps).toArray 9)).heap.size = w.heap.size + 1 + 1 := by simp
    have hrow := RowAt.new ((w.alloc (.cells #[.string ⟨v.toArray⟩, .bool true] 122)).alloc (.cells (strs ps).toArray 9)) (rowW [] ps.length) 183
    rw [hsz] at hrow
    have hb2 : Below w.heap.size w ((w.alloc (.cells #[.string ⟨v.toArray⟩, .bool true] 122)).alloc (.cells (strs ps).toArray 9)) := ((Below.refl _ _).alloc (Nat.le_refl _) _).alloc (by simp) _
    go_enter Tryz.func147, Tryz.ntmps147
    go_wp2_with (first
      | (go_at_call 139; refine (CS.out _ HM.out).mono ?_; rintro e w1 ⟨rfl, rfl⟩)
      | (go_at_call_of 65 (Value.bool true); refine (unless_yes _ _).mono ?_; rintro e w' ⟨rfl, rfl⟩))
    generalize (w.alloc (.cells #[.string ⟨v.toArray⟩, .bool true] 122)).alloc (.cells (strs ps).toArray 9) = W at *
    clear mk HM CS HF
    go_loopw [27] (fun i wr => ∃ (k : Nat) (zs : List (Int × Int)), k ≤ ps.length ∧ i = .int .i64 k ∧ zs.length = k ∧ RowAt wr (w.heap.size + 1 + 1) (rowW zs ps.length) 183 ∧ Below W.heap.size W wr ∧ Hid (rds rd ps = (rds rd (ps.drop k)).map (zs ++ ·))) (fun i _ => ps.length - (intOf i).toNat)
    case atStart => exact ⟨0, [], Nat.zero_le _, rfl, rfl, hrow, (Below.refl _ _).alloc (Nat.le_refl _) _, hide (by simp)⟩
    case round =>
      obtain ⟨k, zs, hk, rfl, hz, hrw, hnx, HT⟩ := hrel
      have hB := hnx.size
      by_cases hlt : k < ps.length
      case neg =>
        have hkl : k = ps.length := by omega
        subst hkl
        have HG : Hid (lsF rd (some v) = some zs) := hide (by rw [HE.out, HT.out, List.drop_length]; simp [rds])
        have HZ := hide hz
        clear HT HE hz
        go_wp2
        go_ret
        refine ⟨?_, hb2.trans (hnx.mono (by omega))⟩
        unfold LwPost
        rw [HG.out]
        refine ⟨w.heap.size + 1 + 1, by rw [HZ.out]; rfl, by omega, ?_⟩
        rw [← rowW_full HZ.out]; exact hrw
      case pos =>
        obtain ⟨l, hlk⟩ : ∃ l, ps[k]? = some l := ⟨_, List.getElem?_eq_getElem hlt⟩
        have hcell : wr.cell? ⟨w.heap.size + 1, k, none⟩ = some (.string ⟨l.toArray⟩) := by
          rw [hnx.cell (p := ⟨w.heap.size + 1, k, none⟩) (by show w.heap.size + 1 < W.heap.size; omega)]
          have := hps k hlt
          rw [Nat.zero_add] at this
          rw [this]; simp [List.getD, hlk]
        have CR := HR.out l wr (HS.out l (List.mem_of_getElem? hlk))
        cases hq : rd l with
        | none =>
          have HG : Hid (lsF rd (some v) = none) := hide (by rw [HE.out, rds_miss hlk hq HT.out])
          rw [hq] at CR
          have C := hide CR
          clear HT HE CR hq hlk
          go_wp2_with (refine (C.out).mono ?_; rintro e w1 ⟨rfl, hb1⟩)
          refine ⟨rfl, ?_, hb2.trans ((hnx.trans (hb1.mono hB)).mono (by omega))⟩
          unfold LwPost
          rw [HG.out]
        | some z =>
          have HG : Hid (rds rd ps = (rds rd (ps.drop (k + 1))).map ((zs ++ [z]) ++ ·)) := hide (rds_hit hlk hq HT.out)
          rw [hq] at CR
          have C := hide CR
          clear HT CR hq hlk
          go_wp2_with (refine (C.out).mono ?_; rintro e w1 ⟨rfl, hb1⟩; have hr1 := hrw.on hb1; have c1 := hr1.cell (rowW_get0 hz hlt); have c2 := hr1.cell (rowW_get1 hz hlt); have f1 := hr1.free (k := k * 2); have f2 := hr1.free (k := k * 2 + 1))
          go_roundw
          case rel => exact ⟨k + 1, zs ++ [z], by omega, by go_num, by simp [hz], by rw [← rowW_set hz hlt z]; exact (hr1.set _).set _, ((hnx.trans (hb1.mono hB)).setCell (by show W.heap.size ≤ w.heap.size + 1 + 1; omega) _).setCell (by show W.heap.size ≤ w.heap.size + 1 + 1; omega) _, HG⟩
          case measure => simp [intOf]; omega
end Go.Proofs.YthpndgcaoeokeaaGreatDoor
namespace Go.Proofs.YthpndgcaoeokeaaGreatDoor
open Go.RowKit Go.Sort

theorem partNames_any (w : World) : Calls Tryz.prog 140 #[] w fun E w' => E = .returned (.slice (some ⟨w.heap.size, 0, none⟩) 9 9) ∧ w' = w.alloc (.cells (strs partNames).toArray 9) := by
  go_enter Tryz.func140, Tryz.ntmps140
  go_wp2
  go_ret
  exact ⟨rfl, rfl⟩
/-- is a part printed? -/
def shown (t : List UInt8) : Bool := decide (t ≠ [73, 78, 84, 69, 82, 86, 65, 76, 61, 49]) && decide (t ≠ [87, 75, 83, 84, 61, 77, 79])
def txt1 (F : Nat → Option (List UInt8)) (k : Nat) : List (List UInt8) := match F k with
  | none => []
  | some v => if shown (partNames.getD k [] ++ 61 :: v) then [partNames.getD k [] ++ 61 :: v] else []
def txts (F : Nat → Option (List UInt8)) : Nat → List (List UInt8)
  | 0 => []
  | k + 1 => txts F k ++ txt1 F k
theorem txts_len (F : Nat → Option (List UInt8)) : ∀ k, (txts F k).length ≤ k
  | 0 => by simp [txts]
  | k + 1 => by
    have := txts_len F k
    rw [txts, List.length_append]
    unfold txt1
    cases F k with
    | none => simp; omega
    | some v => simp only []; split <;> simp <;> omega
theorem cat3 (a b : List UInt8) : (⟨a.toArray⟩ : ByteArray) ++ ⟨#[61]⟩ ++ ⟨b.toArray⟩ = ⟨(a ++ 61 :: b).toArray⟩ := by
  apply ByteArray.ext; simp

theorem names_small (k : Nat) : (partNames.getD k []).length ≤ 20 := by
  by_cases h : k < 9
  · have : k = 0 ∨ k = 1 ∨ k = 2 ∨ k = 3 ∨ k = 4 ∨ k = 5 ∨ k = 6 ∨ k = 7 ∨ k = 8 := by omega
    rcases this with rfl | rfl | rfl | rfl | rfl | rfl | rfl | rfl | rfl <;> decide
  · rw [List.getD_eq_getElem?_getD, List.getElem?_eq_none (by rw [show partNames.length = 9 from rfl]; omega)]; simp
theorem shown_no1 {t : List UInt8} (h : (t == [73, 78, 84, 69, 82, 86, 65, 76, 61, 49]) = true) : shown t = false := by
  rw [beq_iff_eq] at h
  unfold shown; rw [h]; rfl
theorem shown_no2 {t : List UInt8} (h : (t == [87, 75, 83, 84, 61, 77, 79]) = true) : shown t = false := by
  rw [beq_iff_eq] at h
  unfold shown; rw [h]; rfl
theorem shown_yes {t : List UInt8} (h : (t == [73, 78, 84, 69, 82, 86, 65, 76, 61, 49]) = false) (h2 : (t == [87, 75, 83, 84, 61, 77, 79]) = false) : shown t = true := by
  rw [beq_eq_false_iff_ne] at h h2
  unfold shown; simp [h, h2]
theorem txts_bd (F : Nat → Option (List UInt8)) (hs : ∀ k, ((F k).getD []).length ≤ 1048576) : ∀ k, ∀ t ∈ txts F k, t.length ≤ 1048600
  | 0, t, h => by simp [txts] at h
  | k + 1, t, h => by
    rw [txts, List.mem_append] at h
    rcases h with h | h
    · exact txts_bd F hs k t h
    · unfold txt1 at h
      have h1 := hs k
      have h2 := names_small k
      cases hf : F k with
      | none => rw [hf] at h; simp at h
      | some v =>
        rw [hf] at h h1
        simp only [] at h
        split at h
        · rw [List.mem_singleton] at h
          subst h
          simp only [Option.getD_some] at h1
          rw [List.length_append, List.length_cons]; omega
        · simp at h
theorem intercalate_len (sep : List UInt8) (B : Nat) : ∀ (xs : List (List UInt8)), (∀ x ∈ xs, x.length ≤ B) → (Lib.join xs sep).length ≤ xs.length * (B + sep.length)
  | [], _ => by simp [Lib.join_nil]
  | [x], h => by rw [Lib.join_one]; have := h x (by simp); simp; omega
  | x :: y :: r, h => by
    have ih := intercalate_len sep B (y :: r) (fun z hz => h z (by simp at hz ⊢; exact .inr hz))
    have hx := h x (by simp)
    have e : Lib.join (x :: y :: r) sep = x ++ sep ++ Lib.join (y :: r) sep := by simp [Lib.join, List.intercalate, List.intersperse]
    rw [e, List.length_append, List.length_append]
    have : (x :: y :: r).length * (B + sep.length) = (y :: r).length * (B + sep.length) + (B + sep.length) := by
      rw [List.length_cons (a := x), Nat.succ_mul]
    omega
theorem join_own (ls : List (List UInt8)) (B : Nat) (v : Value) (w : World) (hown : w.ownsRow B 9 1 v ls.length (strs ls)) (hb : ∀ t ∈ ls, t.length ≤ 1048600) (hn : ls.length ≤ 100) :
    Calls Tryz.prog 154 #[v, .string ⟨#[59]⟩] w fun E w' => E = .returned (.string ⟨(Lib.join ls [59]).toArray⟩) ∧ Below w.heap.size w w' := by
  rcases own_cells hown with ⟨rfl, hz⟩ | ⟨g, cap, rfl, _, hg, hc⟩
  · obtain rfl : ls = [] := by unfold strs at hz; simpa using hz
    exact (Tryz.strings_Join_none none 0 ⟨#[59]⟩ w).mono fun E w' ⟨h1, h2⟩ => ⟨h1, by rw [h2]; exact Below.refl _ _⟩
  · have hcap : ls.length ≤ cap := by
      obtain ⟨_, h | ⟨g', cap', cur, hv, _, hh, hc1, hc2, hsz, ht⟩⟩ := hown
      · cases h.1
      · cases hv; omega
    have e1 : (ls.map ofL).map (·.data.toList) = ls := by
      rw [List.map_map]; conv => rhs; rw [← List.map_id ls]
      apply List.map_congr_left; intro a _; rfl
    have k := Tryz.strings_Join g 0 cap (ls.map ofL) ⟨#[59]⟩ w (fun j x hx => by
      rw [Nat.zero_add]
      refine hc j (.string x) ?_
      rw [List.getElem?_map] at hx
      obtain ⟨a, ha, rfl⟩ := Option.map_eq_some_iff.1 hx
      unfold strs; rw [List.getElem?_map, ha]; rfl) hg (by rw [List.length_map]; omega) (by rw [List.length_map]; exact hcap) (by
        rw [e1]
        have := intercalate_len [59] 1048600 ls hb
        rw [show (⟨#[59]⟩ : ByteArray).data.toList = [59] from rfl]
        have h2 : ls.length * (1048600 + [(59 : UInt8)].length) ≤ 100 * 1048601 := Nat.mul_le_mul hn (by simp)
        omega)
    rw [e1, List.length_map] at k
    exact k

set_option maxRecDepth 100000 in
set_option maxHeartbeats 2000000 in
theorem rulesPrinted_any (g : Nat) (F : Nat → Option (List UInt8)) (w : World) (hF : FieldsAt w g F) (hs : ∀ k, ((F k).getD []).length ≤ 1048576) :
    Calls Tryz.prog 151 #[.slice (some ⟨g, 0, none⟩) 9 9] w fun E w' => E = .returned (.string ⟨(Lib.join (txts F 9) [59]).toArray⟩) ∧ Below w.heap.size w w' := by
  have hb0 : Below w.heap.size w (w.alloc (.cells (strs partNames).toArray 9)) := (Below.refl _ _).alloc (Nat.le_refl _) _
  have hnm := names_new w partNames 9
  have hg := hF.lt
  have hsz : (w.alloc (.cells (strs partNames).toArray 9)).heap.size = w.heap.size + 1 := by simp
  go_enter Tryz.func151, Tryz.ntmps151
  go_wp2_with (go_at_call 140; refine (partNames_any _).mono ?_; rintro e w1 ⟨rfl, rfl⟩)
  have hF1 := hF.on hb0
  generalize w.alloc (.cells (strs partNames).toArray 9) = W at *
  go_loopw [3, 9] (fun v i wr => ∃ k : Nat, k ≤ 9 ∧ i = .int .i64 k ∧ wr.ownsRow W.heap.size 9 1 v (txts F k).length (strs (txts F k)) ∧ Below W.heap.size W wr) (fun _ i _ => 9 - (intOf i).toNat)
  case atStart => exact ⟨0, by omega, rfl, World.ownsRow_nil _ _ _ _, Below.refl _ _⟩
  case round =>
    obtain ⟨k, hk, rfl, hown, hnx⟩ := hrel
    have hB := hnx.size
    have HT := hide (txts_len F k)
    by_cases hlt : k < 9
    case neg =>
      have hk9 : k = 9 := by omega
      subst hk9
      have CJ := hide (join_own (txts F 9) W.heap.size u3 wr hown (txts_bd F hs 9) (by have := HT.out; omega))
      clear hF1 hF hs
      obtain ⟨a3, n3, c3, rfl⟩ := own_form hown
      go_wp2_with (go_at_call 154; refine (CJ.out).mono ?_; rintro e w2 ⟨rfl, hb2⟩)
      go_ret
      exact ⟨rfl, hb0.trans ((hnx.trans (hb2.mono hB)).mono (by omega))⟩
    case pos =>
      have hF2 := hF1.on hnx
      obtain ⟨nm, hnm'⟩ : ∃ nm, nm = partNames.getD k [] := ⟨_, rfl⟩
      have cn : wr.cell? ⟨w.heap.size, k, none⟩ = some (.string ⟨nm.toArray⟩) := by
        rw [hnx.cell (p := ⟨w.heap.size, k, none⟩) (by show w.heap.size < W.heap.size; omega)]
        have := hnm k hlt
        rw [Nat.zero_add, ← hnm'] at this; exact this
      have cv := hF2.val k hlt
      have ct := hF2.there k hlt
      have hlt' : (k : Int) < 9 := by omega
      have hl1 : nm.length ≤ 20 := by rw [hnm']; exact names_small k
      have hl2 := hs k
      obtain ⟨val, hval⟩ : ∃ val, val = (F k).getD [] := ⟨_, rfl⟩
      rw [← hval] at cv hl2
      have hc3 := cat3 nm val
      have o1 : ¬ 9223372036854775807 < nm.length + 1 := by omega
      have o2 : ¬ 9223372036854775807 < nm.length + 1 + val.length := by omega
      obtain ⟨t, ht⟩ : ∃ t, t = nm ++ 61 :: val := ⟨_, rfl⟩
      rw [← ht] at hc3
      have H1 : Hid (txts F (k + 1) = txts F k ++ txt1 F k) := hide rfl
      cases hf : (F k).isSome with
      | false =>
        rw [hf] at ct
        have HN : Hid (txts F (k + 1) = txts F k) := hide (by rw [H1.out]; unfold txt1; rw [Option.isSome_eq_false_iff.1 hf |> Option.isNone_iff_eq_none.1]; simp)
        clear hf hF2 ht hval hnm' H1
        cases q1 : (t == [73, 78, 84, 69, 82, 86, 65, 76, 61, 49]) <;>
          (go_wp2
           go_roundw
           case rel => exact ⟨k + 1, by omega, by go_num, by rw [HN.out]; exact hown, hnx⟩
           case measure => simp [intOf]; omega)
      | true =>
        rw [hf] at ct
        have hFk : F k = some val := by
          obtain ⟨y, hy⟩ := Option.isSome_iff_exists.1 hf
          rw [hy] at hval; rw [hy, hval]; rfl
        have HX : Hid (txt1 F k = if shown t then [t] else []) := hide (by unfold txt1; rw [hFk]; simp only []; rw [← hnm', ← ht])
        cases q1 : (t == [73, 78, 84, 69, 82, 86, 65, 76, 61, 49]) with
        | true =>
          have HN : Hid (txts F (k + 1) = txts F k) := hide (by rw [H1.out, HX.out, shown_no1 q1]; simp)
          clear hf hF2 ht hval hnm' H1 hFk HX
          go_wp2
          go_roundw
          case rel => exact ⟨k + 1, by omega, by go_num, by rw [HN.out]; exact hown, hnx⟩
          case measure => simp [intOf]; omega
        | false =>
          cases q2 : (t == [87, 75, 83, 84, 61, 77, 79]) with
          | true =>
            have HN : Hid (txts F (k + 1) = txts F k) := hide (by rw [H1.out, HX.out, shown_no2 q2]; simp)
            clear hf hF2 ht hval hnm' H1 hFk HX
            go_wp2
            go_roundw
            case rel => exact ⟨k + 1, by omega, by go_num, by rw [HN.out]; exact hown, hnx⟩
            case measure => simp [intOf]; omega
          | false =>
            have HN : Hid (txts F (k + 1) = txts F k ++ [t]) := hide (by rw [H1.out, HX.out, shown_yes q1 q2]; simp)
            clear hf hF2 ht hval hnm' H1 hFk HX
            go_wp2_with (at_builtin; refine app_one rfl (.tmp 35) (.tmp 37) 52 9 _ 16 rfl Tryz.underlying52 infoString rfl W.heap.size _ _ _ rfl hown hnx hB (.string ⟨t.toArray⟩) rfl rfl (by simp) (by have := HT.out; omega) (by decide) ?_; intro v' w1 hown1 hnx1 hB1)
            go_roundw
            case rel => exact ⟨k + 1, by omega, by go_num, by rw [HN.out, strs_snoc, List.length_append]; exact hown1, hnx1⟩
            case measure => simp [intOf]; omega
end Go.Proofs.YthpndgcaoeokeaaGreatDoor
