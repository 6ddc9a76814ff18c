/- The document's lists of times (fallowref). The document's numbers and lists of times, as they are written (fallowref.plain, fallowref.printed). The program's own: giveup.Answer, of each of the functions that it is handed. A drawn region with guards, by what each operation leaves behind. Operations by their operands' values: fields' addresses, loads, texts put together. The program's own: (*strings.Builder).copyCheck and WriteString, walked at this program (the shelf's laying of them falls here). The program's own: the text of lines (words.Text), of a time and of times (events.timeText, timesText). The program's own: the text of a list of times (events.timesText). An event as it is printed, as lines. -/
import Derived.Test.YthpndgcaoeokeaaGreatDoorCm21
namespace Go.Proofs.YthpndgcaoeokeaaGreatDoor
open Go.RowKit

theorem own_block {w w' : World} {B : Nat} {e : TypeId} {v : Value} {n : Nat} {xs : List Value} (h : w.ownsRow B e 1 v n xs) (hk : ∀ g, g < w.heap.size → B ≤ g → w'.heap[g]? = w.heap[g]?) : w'.ownsRow B e 1 v n xs :=
  ⟨h.1, h.2.elim .inl fun ⟨g, cap, cur, h1, h2, h3, h4⟩ => .inr ⟨g, cap, cur, h1, h2, (hk g (Array.getElem?_eq_some_iff.1 h3).1 h2).trans h3, h4⟩⟩
end Go.Proofs.YthpndgcaoeokeaaGreatDoor
namespace Go.Proofs.YthpndgcaoeokeaaGreatDoor
open Go.RowKit

theorem ptx_len (z : Int) : (ptx z).length ≤ 16 := by
  unfold ptx
  split
  · unfold printL; simp [pad_length]
  · simp
theorem printV_ptx (z : Int) : ∃ x, printV z = .tuple #[.string ⟨(ptx z).toArray⟩, .int .i64 x] := by
  unfold printV ptx
  cases isTimeB z
  · exact ⟨1, rfl⟩
  · exact ⟨0, rfl⟩
end Go.Proofs.YthpndgcaoeokeaaGreatDoor
namespace Go.Proofs.YthpndgcaoeokeaaGreatDoor
open Go.RowKit Go.Sort

set_option maxRecDepth 100000 in
set_option maxHeartbeats 1000000 in
theorem answerCheck_yes (p : Addr) (n : ByteArray) (w : World)
    (hf : ∀ W, Below w.heap.size w W → Calls Tryz.prog 42 #[.pointer (some p)] W fun E w' => E = .returned (.string n) ∧ Below W.heap.size W w') :
    Calls Tryz.prog 34 #[.func (.func 42) #[] #[.pointer (some p)]] w fun E w' => E = .returned (.tuple #[.string n, .int .i64 0]) ∧ Below w.heap.size w w' := by
  have hmf : ∀ (fn : Fn) (first cap : Array Value) (w : World), (Instr.makeFunc fn first cap).run Tryz.prog w = .ok (.func fn first cap) w := fun _ _ _ _ => rfl
  have HF := hide hf
  clear hf
  go_enter_defers Tryz.func34, Tryz.ntmps34
  go_wp2_with fail
  refine (HF.out _ ((Below.refl _ _).alloc (Nat.le_refl _) _)).mono ?_
  rintro e w1 ⟨rfl, hb1⟩
  obtain ⟨hc, hfz⟩ := bcell hb1
  have hz := hb1.size
  have h0 : w1.cell? ⟨w.heap.size, 0, none⟩ = some (.int .i64 0) := by rw [hc _ _ (by simp)]; simp [go_sem]
  have h1 : w1.frozen? ⟨w.heap.size, 0, none⟩ = false := by rw [hfz _ _ (by simp)]; simp [go_sem]
  have hlt : w.heap.size < w1.heap.size := by simp at hz; omega
  have hb : Below w.heap.size w w1 := ((Below.refl _ _).alloc (Nat.le_refl _) _).trans (hb1.mono (by simp))
  clear hc hfz hb1 hz
  go_wp2
  refine leaves_cons (f := 63) (args := #[.pointer (some ⟨w.heap.size, 0, none⟩)]) (by simp) (by simp [go_sem]) ?_
  refine (catchString_idle _ _).mono ?_
  rintro e u' w'' ⟨rfl, rfl, rfl⟩
  refine ⟨.tuple #[.string n, .int .i64 0], ?_, rfl, hb.setCell (Nat.le_refl _) _⟩
  simp [results, Tryz.results34, go_sem, h0]

set_option maxRecDepth 100000 in
set_option maxHeartbeats 1000000 in
theorem answerCheck_no (p : Addr) (x : Int) (w : World)
    (hf : ∀ W, Below w.heap.size w W → Calls Tryz.prog 42 #[.pointer (some p)] W fun E w' => E = .panicked (rsn x) ∧ Below W.heap.size W w') :
    Calls Tryz.prog 34 #[.func (.func 42) #[] #[.pointer (some p)]] w fun E w' => E = .returned (.tuple #[.string ⟨#[]⟩, .int .i64 x]) ∧ Below w.heap.size w w' := by
  have hmf : ∀ (fn : Fn) (first cap : Array Value) (w : World), (Instr.makeFunc fn first cap).run Tryz.prog w = .ok (.func fn first cap) w := fun _ _ _ _ => rfl
  have HF := hide hf
  clear hf
  go_enter_defers Tryz.func34, Tryz.ntmps34
  go_wp2_with fail
  refine (HF.out _ ((Below.refl _ _).alloc (Nat.le_refl _) _)).mono ?_
  rintro e w1 ⟨rfl, hb1⟩
  obtain ⟨hc, hfz⟩ := bcell hb1
  have hz := hb1.size
  have h0 : w1.cell? ⟨w.heap.size, 0, none⟩ = some (.int .i64 0) := by rw [hc _ _ (by simp)]; simp [go_sem]
  have h1 : w1.frozen? ⟨w.heap.size, 0, none⟩ = false := by rw [hfz _ _ (by simp)]; simp [go_sem]
  have hlt : w.heap.size < w1.heap.size := by simp at hz; omega
  have hb : Below w.heap.size w w1 := ((Below.refl _ _).alloc (Nat.le_refl _) _).trans (hb1.mono (by simp))
  clear hc hfz hb1 hz
  refine leaves_cons (f := 63) (args := #[.pointer (some ⟨w.heap.size, 0, none⟩)]) (by simp) (by simp [go_sem]) ?_
  refine (catchString_panicking ⟨w.heap.size, 0, none⟩ x (.int .i64 0) [] _ h0 h1 hlt).mono ?_
  rintro e u' w'' ⟨rfl, rfl, rfl⟩
  refine ⟨.tuple #[.string ⟨#[]⟩, .int .i64 x], ?_, rfl, (hb.alloc (Nat.le_of_lt hlt) _).setCell (Nat.le_refl _) _⟩
  have h2 : ((w1.alloc (.cells #[.int .i64 x] 103)).cell? ⟨w.heap.size, 0, none⟩).isSome = true := by
    rw [World.cell?_alloc_past _ _ _ hlt, h0]; rfl
  simp [results, Tryz.results34, go_sem, h2]
end Go.Proofs.YthpndgcaoeokeaaGreatDoor
namespace Go.Proofs.YthpndgcaoeokeaaGreatDoor
open Go.RowKit

section
variable {P : Program} {ops : Array Oper} {Q : Exit → Act → World → Prop}

theorem wanted_none {o : Oper} {y : Nat → Option Bool} (h : o.guard = none) : Region.wanted o y = true := by unfold Region.wanted; rw [h]
end
end Go.Proofs.YthpndgcaoeokeaaGreatDoor
namespace Go.Proofs.YthpndgcaoeokeaaGreatDoor
open Go.RowKit

theorem cat_run {o : Oper} {a : Act} {w : World} {x y : Operand} {X Y : ByteArray} (ho : o.op = .binOp .add 9 x y 9) (hx : a.eval x = .string X) (hy : a.eval y = .string Y) (hs : X.size + Y.size ≤ 10000000) : (execOp a.eval o).run Tryz.prog w = .ok (.value (.string (X ++ Y))) w := by
  obtain ⟨_, _, _, _, _, _⟩ := o
  simp only [] at ho
  subst ho
  unfold execOp
  simp only [hx, hy]
  have hs' : (X.size : Int) + Y.size ≤ 10000000 := by omega
  have hm : X.size + Y.size ≤ maxLen := by unfold maxLen; omega
  go_simp
  omega
theorem strLd_run {p : Addr} {v : ByteArray} {w : World} (h : w.cell? p = some (.string v)) : (Instr.loadAt 9 (.pointer (some p))).run Tryz.prog w = .ok (.string v) w := by
  go_simp
theorem asg_run {o : Oper} {a : Act} {w : World} {x : Operand} {v : Value} (ho : o.op = .assign x) (h : a.eval x = v) : (execOp a.eval o).run Tryz.prog w = .ok (.value v) w := by
  obtain ⟨_, _, _, _, _, _⟩ := o
  simp only [] at ho
  subst ho
  unfold execOp
  simp only [h]
  rfl
/-- four texts, made a list -/
theorem four_run {o : Oper} {a : Act} {w : World} {x1 x2 x3 : Operand} {A B C D : ByteArray} (ho : o.op = .buildSlice 52 4 #[(0, .const (.string A)), (1, x1), (2, x2), (3, x3)]) (h1 : a.eval x1 = .string B) (h2 : a.eval x2 = .string C) (h3 : a.eval x3 = .string D) :
    (execOp a.eval o).run Tryz.prog w = .ok (.value (.slice (some ⟨w.heap.size, 0, none⟩) 4 4)) (w.alloc (.cells #[.string A, .string B, .string C, .string D] 9)) := by
  obtain ⟨_, _, _, _, _, _⟩ := o
  simp only [] at ho
  subst ho
  unfold execOp
  have h0 : a.eval (.const (.string A)) = .string A := rfl
  simp only [List.map_toArray, List.map_cons, List.map_nil, h0, h1, h2, h3]
  go_simp
end Go.Proofs.YthpndgcaoeokeaaGreatDoor
namespace Go.Proofs.YthpndgcaoeokeaaGreatDoor
open Go.RowKit

theorem sizeBld : (Tryz.prog.info? 189).map (·.size) = some 2 := by kernel_rfl
theorem liesBld : liesAt Tryz.prog Tryz.prog.depth 189 (2 / Tryz.prog.cellsOf 189) 0 189 1 = true := by kernel_rfl
theorem infoByte8 : (Tryz.prog.info? 5).map (fun i => (i.zero, i.size, i.bytes)) = some (some (.int .u8 0), 1, 1) := by kernel_rfl

set_option maxHeartbeats 1000000 in
set_option maxRecDepth 100000 in
theorem copyCheck_used (b : Nat) (w : World) (h0 : w.cell? ⟨b, 0, none⟩ = some (.pointer (some ⟨b, 0, none⟩))) :
    Calls Tryz.prog 213 #[.pointer (some ⟨b, 0, none⟩)] w fun e w' => e = .returned (.tuple #[]) ∧ w' = w := by
  obtain ⟨j, hj, _⟩ := Option.map_eq_some_iff.1 sizeBld
  go_enter Tryz.func213, Tryz.ntmps213
  go_wp2
  rw [Lib.run_neq_ptr_same w _ Tryz.underlying187 hj]
  go_wp2
  go_end0
  exact ⟨rfl, rfl⟩
set_option maxHeartbeats 1000000 in
set_option maxRecDepth 100000 in
theorem copyCheck_fresh (b : Nat) (w : World) (h0 : w.cell? ⟨b, 0, none⟩ = some (.pointer none)) (hsh : w.shape? b = some (189, 2)) (hfz : w.frozen? ⟨b, 0, none⟩ = false) :
    Calls Tryz.prog 213 #[.pointer (some ⟨b, 0, none⟩)] w fun e w' => e = .returned (.tuple #[]) ∧ w' = w.setCell ⟨b, 0, none⟩ (.pointer (some ⟨b, 0, none⟩)) := by
  obtain ⟨j, hj, hjs⟩ := Option.map_eq_some_iff.1 sizeBld
  go_enter Tryz.func213, Tryz.ntmps213
  go_wp2
  rw [Lib.run_to_unsafe w ⟨b, 0, none⟩ Tryz.underlying187 Tryz.underlying328 hj (by rw [hjs]; decide) hsh (Nat.zero_lt_succ 1)]
  simp only [Result.andThen]
  rw [Oper.upon_value]
  go_wp2
  rw [run_callFunc_extern Tryz.func279 (by kernel_rfl) (by kernel_rfl) (by kernel_rfl) (e := Extern.AbiNoEscape.same) (by kernel_rfl)]
  rw [Lib.run_noEscape]
  simp only [Result.andThen]
  rw [Oper.upon_value]
  go_wp2
  rw [Lib.run_from_unsafe w ⟨b, 0, none⟩ Tryz.underlying328 Tryz.underlying187 hj hsh liesBld]
  simp only [Result.andThen]
  rw [Oper.upon_value]
  go_wp2
  go_end0
  exact ⟨rfl, rfl⟩
theorem copyCheck_any (B b : Nat) (bs : List Value) (w : World) (h : Lib.IsBuilder 189 5 B b bs w) :
    Calls Tryz.prog 213 #[.pointer (some ⟨b, 0, none⟩)] w fun e w' => e = .returned (.tuple #[]) ∧ (Lib.BuilderAt 189 5 B b (.pointer (some ⟨b, 0, none⟩)) bs w' ∧ Below B w w') := by
  rcases h with h | h
  · exact (copyCheck_fresh b w h.cell0 h.shape h.frozen0).mono fun e w' ⟨h1, h2⟩ => by
      subst h2
      exact ⟨h1, h.used _, (Below.refl B w).setCell (p := ⟨b, 0, none⟩) h.1 _⟩
  · exact (copyCheck_used b w h.cell0).mono fun e w' ⟨h1, h2⟩ => by
      subst h2
      exact ⟨h1, h, Below.refl B _⟩
set_option maxHeartbeats 1000000 in
set_option maxRecDepth 100000 in
theorem writeString_any (B b : Nat) (bs : List Value) (s : ByteArray) (w : World) (h : Lib.IsBuilder 189 5 B b bs w) (hlen : bs.length + s.size ≤ 140737488355328) (hBw : B ≤ w.heap.size) :
    Calls Tryz.prog 155 #[.pointer (some ⟨b, 0, none⟩), .string s] w fun e w' => e = .returned (.tuple #[.int .i64 s.size, .nilIface]) ∧ (Lib.BuilderAt 189 5 B b (.pointer (some ⟨b, 0, none⟩)) (bs ++ Lib.strCells s) w' ∧ Below B w w') := by
  obtain ⟨i0, hi, hz0, hz1, hz2⟩ := info_parts infoByte8
  go_enter Tryz.func155, Tryz.ntmps155
  go_wp2_with (go_at_call 213; refine (copyCheck_any B b bs _ h).mono ?_)
  rintro e w1 ⟨rfl, h1, hb1⟩
  obtain ⟨hB, v, hbk, hown, hne⟩ := h1
  have c0 : w1.cell? ⟨b, 0, none⟩ = some (.pointer (some ⟨b, 0, none⟩)) := by rw [Lib.cell_of_heap hbk]; rfl
  have c1 : w1.cell? ⟨b, 1, none⟩ = some v := by rw [Lib.cell_of_heap hbk]; rfl
  go_wp2_with (at_builtin; refine Lib.wpList_append_own_string _ rfl _ _ 72 9 rfl B 5 i0 Tryz.underlying72 Tryz.underlying9 hi hz0 hz1 hz2 _ _ _ rfl hown s rfl ?c3 ?c4 ?c5 ?_)
  case c3 => unfold maxLen; omega
  case c4 => omega
  case c5 => have := hb1.size; omega
  intro v' w2 hown' hgrow _
  have hlt : b < w1.heap.size := by
    rcases Nat.lt_or_ge b w1.heap.size with h' | h'
    · exact h'
    · simp [Array.getElem?_eq_none h'] at hbk
  have hb2 : w2.heap[b]? = some (.cells #[.pointer (some ⟨b, 0, none⟩), v] 189 (0, 0)) := by
    rw [hgrow.block b hlt (fun e => hne e.symm)]
    exact hbk
  have d0 : w2.cell? ⟨b, 0, none⟩ = some (.pointer (some ⟨b, 0, none⟩)) := by rw [Lib.cell_of_heap hb2]; rfl
  have d1 : w2.cell? ⟨b, 1, none⟩ = some v := by rw [Lib.cell_of_heap hb2]; rfl
  have f1 : w2.frozen? ⟨b, 1, none⟩ = false := Lib.frozen_of_heap hb2 1
  obtain ⟨ao, n', cap, rfl⟩ : ∃ ao n' cap, v' = .slice ao n' cap := by
    rcases hown'.2 with ⟨hv, _⟩ | ⟨g, cap, cur, hv, _⟩
    · exact ⟨_, _, _, hv⟩
    · exact ⟨_, _, _, hv⟩
  go_wp2
  go_ret2
  refine ⟨rfl, ?_, ?_⟩
  · exact Lib.BuilderAt.put (T := 189) (e := 5) hB hb2 (bs' := bs ++ Lib.strCells s) (by simpa [Lib.strCells_length] using hown') (by decide)
  · exact (hb1.grown hgrow (by have := hb1.size; omega) (fun k hk => (hown.lt k hk).1)).setCell (p := ⟨b, 1, none⟩) hB _
end Go.Proofs.YthpndgcaoeokeaaGreatDoor
namespace Go.Proofs.YthpndgcaoeokeaaGreatDoor
open Go.RowKit Go.Sort

theorem txl_snoc (ls : List (List UInt8)) (l : List UInt8) : txl (ls ++ [l]) = txl ls ++ l ++ [13, 10] := by simp [txl]
theorem txl_take (ls : List (List UInt8)) (k : Nat) : (txl (ls.take k)).length ≤ (txl ls).length := by
  have : txl ls = txl (ls.take k) ++ txl (ls.drop k) := by
    conv => lhs; rw [← List.take_append_drop k ls]
    unfold txl
    rw [List.flatMap_append]
  rw [this, List.length_append]
  exact Nat.le_add_right _ _
theorem byte_str (a l : List UInt8) : Lib.byteCells a ++ Lib.strCells ⟨l.toArray⟩ = Lib.byteCells (a ++ l) := by
  unfold Lib.byteCells Lib.strCells
  rw [List.map_append]
theorem builder_new (w : World) : Lib.IsBuilder 189 5 w.heap.size w.heap.size (Lib.byteCells []) (w.alloc (.cells #[.pointer none, .slice none 0 0] 189)) := by
  refine .inl ⟨Nat.le_refl _, .slice none 0 0, RowAt.new w [.pointer none, .slice none 0 0] 189, World.ownsRow_nil _ _ _ _, by simp [Value.ownBlock]⟩

set_option maxRecDepth 100000 in
set_option maxHeartbeats 2000000 in
theorem wordsText_any (g cap : Nat) (ls : List (List UInt8)) (w : World) (hg : g < w.heap.size) (hn : NamesAt w g 0 ls) (hl : ls.length ≤ 1000000000) (hs : (txl ls).length ≤ 140737488355328) :
    Calls Tryz.prog 87 #[.slice (some ⟨g, 0, none⟩) ls.length cap] w fun E w' => E = .returned (.string ⟨(txl ls).toArray⟩) ∧ Below w.heap.size w w' := by
  have hb0 : Below w.heap.size w (w.alloc (.cells #[.pointer none, .slice none 0 0] 189)) := (Below.refl _ _).alloc (Nat.le_refl _) _
  have HB := hide (builder_new w)
  go_enter Tryz.func87, Tryz.ntmps87
  go_wp2
  generalize w.alloc (.cells #[.pointer none, .slice none 0 0] 189) = W at *
  go_loopw [8] (fun i wr => ∃ k : Nat, k ≤ ls.length ∧ i = .int .i64 k ∧ Hid (Lib.IsBuilder 189 5 w.heap.size w.heap.size (Lib.byteCells (txl (ls.take k))) wr) ∧ Hid (Below w.heap.size w wr)) (fun i _ => ls.length - (intOf i).toNat)
  case atStart => exact ⟨0, Nat.zero_le _, rfl, hide (by rw [List.take_zero]; exact HB.out), hide hb0⟩
  case round =>
    obtain ⟨k, hk, rfl, HI, HX⟩ := hrel
    have hB := HX.out.size
    by_cases hlt : k < ls.length
    case neg =>
      have hkl : k = ls.length := by omega
      subst hkl
      have CS := hide (Tryz.Builder_String_any w.heap.size w.heap.size (txl ls) wr (by have := HI.out; rw [List.take_length] at this; exact this) hB)
      go_wp2_with (go_at_call 156; refine (CS.out).mono ?_; rintro e w2 ⟨rfl, hb2⟩)
      go_ret
      exact ⟨rfl, HX.out.trans hb2⟩
    case pos =>
      obtain ⟨l, hle⟩ : ∃ l, l = ls[k] := ⟨_, rfl⟩
      have hcell : wr.cell? ⟨g, k, none⟩ = some (.string ⟨l.toArray⟩) := by
        have h1 := hn k hlt
        rw [Nat.zero_add] at h1
        rw [HX.out.cell (p := ⟨g, k, none⟩) hg, h1, hle, List.getD_eq_getElem?_getD, List.getElem?_eq_getElem hlt]
        rfl
      have HTK : Hid (txl (ls.take (k + 1)) = txl (ls.take k) ++ l ++ [13, 10]) := hide (by rw [List.take_succ_eq_append_getElem hlt, txl_snoc, hle])
      have htk : (txl (ls.take k)).length + l.length + 2 ≤ 140737488355328 := by
        have h3 := txl_take ls (k + 1)
        rw [HTK.out, List.length_append, List.length_append] at h3
        exact Nat.le_trans h3 hs
      have C1 := hide (writeString_any w.heap.size w.heap.size (Lib.byteCells (txl (ls.take k))) ⟨l.toArray⟩ wr HI.out (by rw [Lib.byteCells_length]; show _ + l.toArray.size ≤ _; rw [List.size_toArray]; omega) hB)
      clear hle
      go_upto_region 6 with (go_at_call 155; refine (C1.out).mono ?_; rintro e w2 ⟨rfl, hi2, hb2⟩)
      have hB2 := (HX.out.trans hb2).size
      have C2 := hide (writeString_any w.heap.size w.heap.size (Lib.byteCells (txl (ls.take k)) ++ Lib.strCells ⟨l.toArray⟩) ⟨#[13, 10]⟩ w2 (.inr hi2) (by rw [byte_str, Lib.byteCells_length, List.length_append]; show _ + 2 ≤ _; omega) hB2)
      have HX2 := hide (HX.out.trans hb2)
      clear C1 hi2 hb2 HI HX
      go_wp2_with (go_at_call 155; refine (C2.out).mono ?_; rintro e w3 ⟨rfl, hi3, hb3⟩)
      rw [byte_str, show (⟨#[13, 10]⟩ : ByteArray) = ⟨[(13 : UInt8), 10].toArray⟩ from rfl, byte_str, ← HTK.out] at hi3
      have HI3 := hide hi3
      have HX3 := hide (HX2.out.trans hb3)
      clear hi3 hb3
      go_wp2
      go_roundw
      case rel => exact ⟨k + 1, by omega, by go_num, hide (.inr HI3.out), HX3⟩
      case measure => simp [intOf]; omega

set_option maxRecDepth 100000 in
theorem timeText_any (z : Int) (w : World) (ht : Tab w) :
    Calls Tryz.prog 82 #[.int .i64 z] w fun E w' => E = .returned (.string ⟨(ptx z).toArray⟩) ∧ Below w.heap.size w w' := by
  obtain ⟨x, hx⟩ := printV_ptx z
  have C := print_any z w ht
  rw [hx] at C
  have C := hide C
  clear hx ht
  go_enter Tryz.func82, Tryz.ntmps82
  go_wp2_with (go_at_call 18; refine (C.out).mono ?_; rintro e w1 ⟨rfl, hb⟩)
  go_ret
  exact ⟨rfl, hb⟩
end Go.Proofs.YthpndgcaoeokeaaGreatDoor
namespace Go.Proofs.YthpndgcaoeokeaaGreatDoor
open Go.RowKit Go.Sort

/-- the first texts of a row, the rest still empty -/
def rowT (ts : List (List UInt8)) (n : Nat) : List Value := strs ts ++ List.replicate (n - ts.length) (.string ⟨#[]⟩)
theorem rowT_get {ts : List (List UInt8)} {n k : Nat} (hz : ts.length = k) (hk : k < n) : (rowT ts n)[k]? = some (.string ⟨#[]⟩) := by
  unfold rowT
  rw [List.getElem?_append_right (by rw [strs_length]; omega), strs_length]
  simp [hz, List.getElem?_replicate]; omega
theorem rowT_set {ts : List (List UInt8)} {n k : Nat} (hz : ts.length = k) (hk : k < n) (t : List UInt8) : (rowT ts n).set k (.string ⟨t.toArray⟩) = rowT (ts ++ [t]) n := by
  unfold rowT
  rw [List.set_append_right _ _ (by rw [strs_length]; omega), strs_length]
  have : n - ts.length = (n - (ts ++ [t]).length) + 1 := by simp; omega
  rw [this, List.replicate_succ, strs_snoc]
  simp [hz]
theorem rowT_full {ts : List (List UInt8)} {n : Nat} (hz : ts.length = n) : rowT ts n = strs ts := by
  unfold rowT; rw [hz]; simp
theorem join_row (ls : List (List UInt8)) (c : UInt8) (g cap : Nat) (w : World) (h : RowAt w g (strs ls) 9) (hc : ls.length ≤ cap) (hb : ∀ t ∈ ls, t.length ≤ 1048600) (hn : ls.length ≤ 100) :
    Calls Tryz.prog 154 #[.slice (some ⟨g, 0, none⟩) ls.length cap, .string ⟨#[c]⟩] w fun E w' => E = .returned (.string ⟨(Lib.join ls [c]).toArray⟩) ∧ Below w.heap.size w w' := by
  have e1 : (ls.map ofL).map (·.data.toList) = ls := by
    rw [List.map_map]; conv => rhs; rw [← List.map_id ls]
    apply List.map_congr_left; intro a _; rfl
  have k := Tryz.strings_Join g 0 cap (ls.map ofL) ⟨#[c]⟩ w (fun j x hx => by
    rw [Nat.zero_add]
    refine h.cell (y := .string x) ?_
    rw [List.getElem?_map] at hx
    obtain ⟨a, ha, rfl⟩ := Option.map_eq_some_iff.1 hx
    unfold strs; rw [List.getElem?_map, ha]; rfl) h.lt (by rw [List.length_map]; omega) (by rw [List.length_map]; exact hc) (by
      rw [e1]
      have := intercalate_len [c] 1048600 ls hb
      rw [show (⟨#[c]⟩ : ByteArray).data.toList = [c] from rfl]
      have h2 : ls.length * (1048600 + [c].length) ≤ 100 * 1048601 := Nat.mul_le_mul hn (by simp)
      omega)
  rw [e1, List.length_map] at k
  exact k
set_option maxRecDepth 100000 in
set_option maxHeartbeats 2000000 in
theorem timesText_any (g cap : Nat) (zs rest : List Int) (w : World) (ht : Tab w) (hr : RowAt w g ((zs ++ rest).map (Value.int .i64)) 3) (hl : zs.length ≤ 100) :
    Calls Tryz.prog 85 #[.slice (some ⟨g, 0, none⟩) zs.length cap] w fun E w' => E = .returned (.string ⟨(Lib.join (zs.map ptx) [44]).toArray⟩) ∧ Below w.heap.size w w' := by
  have mk := run_make_row' (P := Tryz.prog) 52 9 (.string ⟨#[]⟩) 16 Tryz.underlying52 infoString rfl .i64 .i64 zs.length (by omega) (by omega)
  rw [made_eq] at mk
  have hrow := RowAt.new w (List.replicate zs.length (.string ⟨#[]⟩)) 9
  have hg := hr.lt
  have hb0 : Below w.heap.size w (w.alloc (.cells (List.replicate zs.length (.string ⟨#[]⟩)).toArray 9)) := (Below.refl _ _).alloc (Nat.le_refl _) _
  have HR := hide hr
  have HT := hide ht
  clear hr ht
  go_enter Tryz.func85, Tryz.ntmps85
  go_wp2
  clear mk
  go_loopw [11] (fun i wr => ∃ k : Nat, k ≤ zs.length ∧ i = .int .i64 k ∧ Hid (RowAt wr w.heap.size (rowT ((zs.take k).map ptx) zs.length) 9) ∧ Hid (Below w.heap.size w wr)) (fun i _ => zs.length - (intOf i).toNat)
  case atStart => exact ⟨0, Nat.zero_le _, rfl, hide hrow, hide hb0⟩
  case round =>
    obtain ⟨k, hk, rfl, HW, HX⟩ := hrel
    have hB := HX.out.size
    by_cases hlt : k < zs.length
    case neg =>
      have hkl : k = zs.length := by omega
      subst hkl
      have CJ := hide (join_row (zs.map ptx) 44 w.heap.size zs.length wr (by have := HW.out; rw [List.take_length, rowT_full (by simp)] at this; exact this) (by simp) (fun t h => by
        obtain ⟨z, _, rfl⟩ := List.mem_map.1 h
        have := ptx_len z
        omega) (by simp; omega))
      rw [List.length_map] at CJ
      go_wp2_with (go_at_call 154; refine (CJ.out).mono ?_; rintro e w2 ⟨rfl, hb2⟩)
      go_ret
      exact ⟨rfl, HX.out.trans (hb2.mono hB)⟩
    case pos =>
      obtain ⟨z, hz⟩ : ∃ z, zs[k]? = some z := ⟨_, List.getElem?_eq_getElem hlt⟩
      have hcell : wr.cell? ⟨g, k, none⟩ = some (.int .i64 z) := by
        rw [HX.out.cell (p := ⟨g, k, none⟩) hg]
        refine HR.out.cell ?_
        rw [List.getElem?_map, List.getElem?_append_left hlt, hz]
        rfl
      have HTK : Hid ((zs.take (k + 1)).map ptx = (zs.take k).map ptx ++ [ptx z]) := hide (by
        rw [List.take_add_one, hz]; simp)
      have htl : ((zs.take k).map ptx).length = k := by simp; omega
      have C := hide (timeText_any z wr (HT.out.on HX.out))
      clear hz
      go_wp2_with (go_at_call 82; refine (C.out).mono ?_; rintro e w1 ⟨rfl, hb1⟩; have hr1 := HW.out.on hb1; have c1 := hr1.cell (rowT_get htl hlt); have f1 := hr1.free (k := k))
      have hr2 := hr1.set (k := k) (.string ⟨(ptx z).toArray⟩)
      rw [rowT_set htl hlt, ← HTK.out] at hr2
      have HR2 := hide hr2
      have HX2 := hide ((HX.out.trans (hb1.mono hB)).setCell (p := ⟨w.heap.size, k, none⟩) (Nat.le_refl _) (.string ⟨(ptx z).toArray⟩))
      go_roundw
      case rel => exact ⟨k + 1, by omega, by go_num, HR2, HX2⟩
      case measure => simp [intOf]; omega
end Go.Proofs.YthpndgcaoeokeaaGreatDoor
namespace Go.Proofs.YthpndgcaoeokeaaGreatDoor

def uidL : List UInt8 := [85, 73, 68, 58]
def dtsL : List UInt8 := [68, 84, 83, 84, 65, 82, 84, 58]
def durL : List UInt8 := [68, 85, 82, 65, 84, 73, 79, 78, 58, 80, 84]
def rruL : List UInt8 := [82, 82, 85, 76, 69, 58]
def exdL : List UInt8 := [69, 88, 68, 65, 84, 69, 58]
def rdaL : List UInt8 := [82, 68, 65, 84, 69, 58]
def trtL : List UInt8 := [84, 82, 65, 78, 83, 80, 58, 84, 82, 65, 78, 83, 80, 65, 82, 69, 78, 84]
def staL : List UInt8 := [83, 84, 65, 84, 85, 83, 58]
/-- the first four lines, and the others -/
def ev4 (u : List UInt8) (st ln : Int) : List (List UInt8) := [beginL, uidL ++ u, dtsL ++ ptx st, durL ++ Lib.decDigits ln.toNat ++ [83]]
def evR (rt : Option (List UInt8)) : List (List UInt8) := match rt with | none => [] | some t => [rruL ++ t]
def evX (ex : List Int) : List (List UInt8) := if ex.length = 0 then [] else [exdL ++ Lib.join (ex.map ptx) [44]]
def evD (xt : List Int) : List (List UInt8) := if xt.length = 0 then [] else [rdaL ++ Lib.join (xt.map ptx) [44]]
def evO (tr : Bool) : List (List UInt8) := if tr then [trtL] else []
def evS (k : Int) : List (List UInt8) := if k = 1 then [staL ++ tentL] else if k = 2 then [staL ++ cancL] else []
/-- an event's lines; k: 0 confirmed, 1 tentative, 2 cancelled -/
def evT (u : List UInt8) (st ln : Int) (rt : Option (List UInt8)) (ex xt : List Int) (tr : Bool) (k : Int) : List (List UInt8) :=
  ev4 u st ln ++ evR rt ++ evX ex ++ evD xt ++ evO tr ++ evS k ++ [endL]
end Go.Proofs.YthpndgcaoeokeaaGreatDoor
