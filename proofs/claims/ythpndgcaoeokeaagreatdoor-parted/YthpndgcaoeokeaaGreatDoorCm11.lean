/- The program's own: an event's length, its lists of times (package events). The program's own: lists of times, in order and each once (events.readTimes). What the library's ReplaceAll makes of a text's folds is what the document's unfolding makes of it. What the library's Split makes of a text's lines is what the document's lines are. The program's own: lines (words.Lines). -/
import Derived.Test.YthpndgcaoeokeaaGreatDoorCm10
import Derived.Lib.Replace
namespace Go.Proofs.YthpndgcaoeokeaaGreatDoor
open Go.RowKit Go.Sort

theorem timeN_bd {s : ByteArray} (h : timeB s = true) : 0 ≤ timeN s ∧ timeN s ≤ 7258118399 := by
  obtain ⟨_, _, _, y0, y1, vd, h1, h2, m1, m2, s1, s2⟩ := timeB_iff.1 h
  have nb := num_bd y0 y1 vd
  unfold timeN
  omega
theorem timF_bd {v : List UInt8} {z : Int} (h : timF v = some z) : 0 ≤ z ∧ z ≤ 7258118399 := by
  unfold timF at h
  split at h
  · rename_i ht; cases h; exact timeN_bd ht
  · cases h

set_option maxRecDepth 100000 in
set_option maxHeartbeats 2000000 in
theorem readLength_end (start : Int) (v : List UInt8) (l : Option (List UInt8)) (w : World) (h0 : 0 ≤ start) (h1 : start ≤ 7258118399) :
    Calls Tryz.prog 79 #[.int .i64 start, fldV (some v), fldV l] w fun E w' => E = optE 1 (lnF start (some v) l) ∧ Below w.heap.size w w' := by
  have k := fun W => eventsTime_any (ofL v) W
  rw [timeE_opt] at k
  unfold fldV
  cases ht : timF v with
  | none =>
    rw [ht] at k
    rw [show lnF start (some v) l = none from by unfold lnF; simp only []; rw [ht]; rfl]
    unfold optE at k
    have C := hide k
    clear k ht
    go_enter Tryz.func79, Tryz.ntmps79
    go_wp2_with (go_at_call 78; refine (C.out _).mono ?_; rintro e w1 ⟨rfl, hb1⟩)
    exact ⟨rfl, rfl, (((Below.refl _ _).alloc (Nat.le_refl _) _).alloc (by simp) _).trans (hb1.mono (by simp; omega))⟩
  | some z =>
    rw [ht] at k
    have hz := timF_bd ht
    have hln : lnF start (some v) l = if 1 ≤ z - start ∧ z - start ≤ 2678400 then some (z - start) else none := by unfold lnF; simp only []; rw [ht]; rfl
    rw [hln]
    unfold optE at k
    have C := hide k
    clear k ht hln
    by_cases g1 : 1 ≤ z - start
    · by_cases g2 : z - start ≤ 2678400
      · rw [if_pos ⟨g1, g2⟩]
        go_enter Tryz.func79, Tryz.ntmps79
        go_wp2_with (first
          | (go_at_call 78; refine (C.out _).mono ?_; rintro e w1 ⟨rfl, hb1⟩)
          | (go_at_call_of 65 (Value.bool true); refine (unless_yes _ _).mono ?_; rintro e w' ⟨rfl, rfl⟩))
        go_ret
        exact ⟨rfl, (((Below.refl _ _).alloc (Nat.le_refl _) _).alloc (by simp) _).trans (hb1.mono (by simp; omega))⟩
      · rw [if_neg (fun h => g2 h.2)]
        have g2' : decide (z - start ≤ 2678400) = false := by simpa using g2
        go_enter Tryz.func79, Tryz.ntmps79
        go_wp2_with (first
          | (go_at_call 78; refine (C.out _).mono ?_; rintro e w1 ⟨rfl, hb1⟩)
          | (go_at_call_of 65 (Value.bool false); refine (unless_no _ _).mono ?_; rintro e w' ⟨rfl, rfl⟩))
        exact ⟨rfl, rfl, (((Below.refl _ _).alloc (Nat.le_refl _) _).alloc (by simp) _).trans (hb1.mono (by simp; omega))⟩
    · rw [if_neg (fun h => g1 h.1)]
      have g1' : decide (1 ≤ z - start) = false := by simpa using g1
      go_enter Tryz.func79, Tryz.ntmps79
      go_wp2_with (first
        | (go_at_call 78; refine (C.out _).mono ?_; rintro e w1 ⟨rfl, hb1⟩)
        | (go_at_call_of 65 (Value.bool false); refine (unless_no _ _).mono ?_; rintro e w' ⟨rfl, rfl⟩))
      exact ⟨rfl, rfl, (((Below.refl _ _).alloc (Nat.le_refl _) _).alloc (by simp) _).trans (hb1.mono (by simp; omega))⟩

set_option maxRecDepth 100000 in
set_option maxHeartbeats 2000000 in
theorem readLength_dur (start : Int) (l : Option (List UInt8)) (w : World) (hl : (l.getD []).length ≤ maxLen) :
    Calls Tryz.prog 79 #[.int .i64 start, fldV none, fldV l] w fun E w' => E = optE 1 (lnF start none l) ∧ Below w.heap.size w w' := by
  have k := fun W => readDuration_any (l.getD []) W hl
  unfold fldV
  cases ht : lenL (l.getD []) with
  | none =>
    rw [ht] at k
    rw [show lnF start none l = none from by unfold lnF; simp only []; rw [ht]]
    unfold optE at k
    have C := hide k
    clear k ht
    go_enter Tryz.func79, Tryz.ntmps79
    go_wp2_with (go_at_call 135; refine (C.out _).mono ?_; rintro e w1 ⟨rfl, hb1⟩)
    exact ⟨rfl, rfl, (((Below.refl _ _).alloc (Nat.le_refl _) _).alloc (by simp) _).trans (hb1.mono (by simp; omega))⟩
  | some z =>
    rw [ht] at k
    have hln : lnF start none l = if 1 ≤ z ∧ z ≤ 2678400 then some z else none := by unfold lnF; simp only []; rw [ht]
    rw [hln]
    unfold optE at k
    have C := hide k
    clear k ht hln
    by_cases g1 : 1 ≤ z
    · by_cases g2 : z ≤ 2678400
      · rw [if_pos ⟨g1, g2⟩]
        go_enter Tryz.func79, Tryz.ntmps79
        go_wp2_with (first
          | (go_at_call 135; refine (C.out _).mono ?_; rintro e w1 ⟨rfl, hb1⟩)
          | (go_at_call_of 65 (Value.bool true); refine (unless_yes _ _).mono ?_; rintro e w' ⟨rfl, rfl⟩))
        go_ret
        exact ⟨rfl, (((Below.refl _ _).alloc (Nat.le_refl _) _).alloc (by simp) _).trans (hb1.mono (by simp; omega))⟩
      · rw [if_neg (fun h => g2 h.2)]
        have g2' : decide (z ≤ 2678400) = false := by simpa using g2
        go_enter Tryz.func79, Tryz.ntmps79
        go_wp2_with (first
          | (go_at_call 135; refine (C.out _).mono ?_; rintro e w1 ⟨rfl, hb1⟩)
          | (go_at_call_of 65 (Value.bool false); refine (unless_no _ _).mono ?_; rintro e w' ⟨rfl, rfl⟩))
        exact ⟨rfl, rfl, (((Below.refl _ _).alloc (Nat.le_refl _) _).alloc (by simp) _).trans (hb1.mono (by simp; omega))⟩
    · rw [if_neg (fun h => g1 h.1)]
      have g1' : decide (1 ≤ z) = false := by simpa using g1
      go_enter Tryz.func79, Tryz.ntmps79
      go_wp2_with (first
        | (go_at_call 135; refine (C.out _).mono ?_; rintro e w1 ⟨rfl, hb1⟩)
        | (go_at_call_of 65 (Value.bool false); refine (unless_no _ _).mono ?_; rintro e w' ⟨rfl, rfl⟩))
      exact ⟨rfl, rfl, (((Below.refl _ _).alloc (Nat.le_refl _) _).alloc (by simp) _).trans (hb1.mono (by simp; omega))⟩

theorem eventLength_any (start : Int) (e l : Option (List UInt8)) (w : World) (h0 : 0 ≤ start) (h1 : start ≤ 7258118399) (hl : (l.getD []).length ≤ maxLen) :
    Calls Tryz.prog 79 #[.int .i64 start, fldV e, fldV l] w fun E w' => E = optE 1 (lnF start e l) ∧ Below w.heap.size w w' := by
  cases e with
  | none => exact readLength_dur start l w hl
  | some v => exact readLength_end start v l w h0 h1

/-- a slice of numbers: none, or ahead in a row of the call's own -/
def IntsW (w : World) (v : Value) (zs : List Int) : Prop := (v = .slice none 0 0 ∧ zs = []) ∨ ∃ g cap rest, v = .slice (some ⟨g, 0, none⟩) zs.length cap ∧ RowAt w g ((zs ++ rest).map (Value.int .i64)) 3
/-- times in order, each once -/
def tsF (f : Option (List UInt8)) : Option (List Int) := (lsF timF f).map fun zs => Lib.compact (zs.mergeSort fun x y => decide (x ≤ y))
theorem row_holds {w : World} {g : Nat} {zs : List Int} {t : TypeId} (h : RowAt w g (zs.map (Value.int .i64)) t) : Holds (Value.int .i64) w g 0 zs.toArray := fun j hj => by
  have hj' : j < zs.length := by simpa using hj
  rw [Nat.zero_add]
  refine ⟨h.cell ?_, h.free⟩
  rw [List.getElem?_map, List.getElem?_eq_getElem hj']
  simp [hj']
theorem row_put {w : World} {g : Nat} {zs ds : List Int} {t : TypeId} (h : RowAt w g (zs.map (Value.int .i64)) t) (hd : ds.length = zs.length) (n : Nat) : RowAt (putRow (Value.int .i64) (Sort.ahead w n) g 0 ds.toArray) g (ds.map (Value.int .i64)) t := by
  unfold RowAt at h ⊢
  unfold putRow mapBlock
  have h' : (Sort.ahead w n).heap[g]? = some (.cells (zs.map (Value.int .i64)).toArray t) := h
  simp only [Array.getElem?_modify, if_true, h', Option.map_some, onCells]
  congr 2
  unfold putCells
  apply Array.ext
  · simp [hd]
  · intro i h1 h2
    have hi : i < ds.length := by simpa using h2
    simp [hi]
theorem row_grow {w : World} {g : Nat} {cs : List Value} {t : TypeId} (h : RowAt w g cs t) (os : Array Obj) : RowAt (grow w os) g cs t := by
  have hl := h.lt
  unfold RowAt at h ⊢
  show (w.heap ++ os)[g]? = _
  rw [Array.getElem?_append_left hl]; exact h
theorem below_put {B : Nat} {w : World} {g n : Nat} {d : Array Int} (hg : B ≤ g) : Below B w (putRow (Value.int .i64) (Sort.ahead w n) g 0 d) := by
  refine ⟨rfl, rfl, rfl, by rw [size_putRow]; exact Nat.le_refl _, fun k hk => ?_⟩
  unfold putRow mapBlock
  show ((Sort.ahead w n).heap.modify g _)[k]? = w.heap[k]?
  rw [Array.getElem?_modify, if_neg (by omega)]; rfl
theorem below_grow {B : Nat} {a w : World} (h : Below B a w) (os : Array Obj) (hB : B ≤ w.heap.size) : Below B a (grow w os) :=
  ⟨h.os, h.tape, h.output, by show _ ≤ (w.heap ++ os).size; rw [Array.size_append]; have := h.size; omega, fun k hk => by
    show (w.heap ++ os)[k]? = _
    rw [Array.getElem?_append_left (by omega)]; exact h.block k hk⟩
end Go.Proofs.YthpndgcaoeokeaaGreatDoor
namespace Go.Proofs.YthpndgcaoeokeaaGreatDoor
open Go.RowKit Go.Sort

/-- how the reading of times ends -/
def TsPost (f : Option (List UInt8)) (w : World) (E : Ending) (w' : World) : Prop :=
  ((∃ zs v, tsF f = some zs ∧ E = .returned v ∧ IntsW w' v zs) ∨ (tsF f = none ∧ E = .panicked (rsn 1))) ∧ Below w.heap.size w w'
theorem compact_le (zs : List Int) : (Lib.compact zs).length ≤ zs.length := by
  unfold Lib.compact Lib.compactUpTo
  rw [List.length_map]
  exact Nat.le_trans (List.length_filter_le _ _) (by simp)
theorem compact_run {g n : Nat} {S : List Int} {w : World} (hn : S.length = n) (hb : n ≤ 20) (hrow : RowAt w g (S.map (Value.int .i64)) 3) :
    Calls Tryz.prog 138 #[.slice (some ⟨g, 0, none⟩) n n] w fun e w' => e = .returned (.slice (some ⟨g, 0, none⟩) (Lib.compact S).length n) ∧ RowAt w' g ((Lib.compact S ++ List.replicate (S.length - (Lib.compact S).length) 0).map (Value.int .i64)) 3 ∧ ∀ B, B ≤ g → Below B w w' := by
  subst hn
  have hcl := compact_le S
  refine (Tryz.slices_Compact_int g 0 S.length S w (row_holds hrow) (by omega) (Nat.le_refl _)).mono fun e w' ⟨h1, q, h2⟩ => ⟨h1, ?_, fun B hB => ?_⟩
  · rw [h2]; exact row_put hrow (by simp; omega) q
  · rw [h2]; exact below_put hB
theorem sort_nil : ([] : List Int).mergeSort (fun x y => decide (x ≤ y)) = [] := by simp

set_option maxRecDepth 100000 in
set_option maxHeartbeats 2000000 in
theorem readTimes_any (f : Option (List UInt8)) (w : World) (hm : ML w) (hl : (f.getD []).length ≤ 1048576) :
    Calls Tryz.prog 80 #[fldV f] w (TsPost f w) := by
  have hb0 : Below w.heap.size w (w.alloc (.cells #[.string ⟨(f.getD []).toArray⟩, .bool f.isSome] 122)) := (Below.refl _ _).alloc (Nat.le_refl _) _
  have hz0 : (w.alloc (.cells #[.string ⟨(f.getD []).toArray⟩, .bool f.isSome] 122)).heap.size = w.heap.size + 1 := by simp
  have CL := eventTimes_any f (w.alloc (.cells #[.string ⟨(f.getD []).toArray⟩, .bool f.isSome] 122)) (hm.on hb0) hl
  cases hq : lsF timF f with
  | none =>
    have ht : tsF f = none := by unfold tsF; rw [hq]; rfl
    have C : Hid (Calls Tryz.prog 136 #[fldV f, .int .i64 1, .func (.func 78) #[] #[]] (w.alloc (.cells #[.string ⟨(f.getD []).toArray⟩, .bool f.isSome] 122)) fun E w' => E = .panicked (rsn 1) ∧ Below w.heap.size w w') :=
      hide (CL.mono fun E w' ⟨h1, h2⟩ => by
        refine ⟨?_, hb0.trans (h2.mono (by omega))⟩
        rcases h1 with ⟨zs, v, h, _⟩ | ⟨_, h⟩
        · rw [hq] at h; cases h
        · exact h)
    have HT := hide ht
    unfold fldV at C ⊢
    clear CL hq ht hb0 hz0 hm hl
    go_enter Tryz.func80, Tryz.ntmps80
    go_wp2_with (go_at_call 136; refine (C.out).mono ?_; rintro e w1 ⟨rfl, hb1⟩)
    exact ⟨rfl, .inr ⟨HT.out, rfl⟩, hb1⟩
  | some zs =>
    have ht : tsF f = some (Lib.compact (zs.mergeSort fun x y => decide (x ≤ y))) := by unfold tsF; rw [hq]; rfl
    have hlen := lsF_len hq
    cases f with
    | none =>
      have hz : zs = [] := by unfold lsF at hq; simp only [] at hq; cases hq; rfl
      subst hz
      have C : Hid (Calls Tryz.prog 136 #[fldV none, .int .i64 1, .func (.func 78) #[] #[]] (w.alloc (.cells #[.string ⟨((none : Option (List UInt8)).getD []).toArray⟩, .bool (none : Option (List UInt8)).isSome] 122)) fun E w' => E = .returned (.slice none 0 0) ∧ Below w.heap.size w w') :=
        hide ((listInt_none 78 1 _).mono fun E w' ⟨h1, h2⟩ => ⟨h1, hb0.trans (h2.mono (by omega))⟩)
      rw [sort_nil] at ht
      have HT := hide ht
      unfold fldV at C ⊢
      clear CL hq ht hb0 hz0 hm hl hlen
      go_enter Tryz.func80, Tryz.ntmps80
      go_wp2_with (first
        | (go_at_call 136; refine (C.out).mono ?_; rintro e w1 ⟨rfl, hb1⟩)
        | (go_at_call 137; refine (Tryz.slices_Sort_int_none _ _ _).mono ?_; rintro e w' ⟨rfl, rfl⟩)
        | (go_at_call 138; refine (Tryz.slices_Compact_int_empty _ _ _).mono ?_; rintro e w' ⟨rfl, rfl⟩))
      go_ret
      exact ⟨.inl ⟨[], _, HT.out, rfl, .inl ⟨rfl, rfl⟩⟩, hb1⟩
    | some v =>
      have C : Hid (Calls Tryz.prog 136 #[fldV (some v), .int .i64 1, .func (.func 78) #[] #[]] (w.alloc (.cells #[.string ⟨((some v).getD []).toArray⟩, .bool (some v).isSome] 122)) fun E w' => ∃ g, E = .returned (.slice (some ⟨g, 0, none⟩) zs.length zs.length) ∧ w.heap.size ≤ g ∧ RowAt w' g (zs.map (Value.int .i64)) 3 ∧ Below w.heap.size w w') :=
        hide ((listInt_some timF 78 v 1 _ (hm.on hb0) hl (enters_of Tryz.func78 (by kernel_rfl) rfl) (fun t W _ => (eventsTime_any (ofL t) W).mono fun E w' ⟨h1, h2⟩ => ⟨by rw [h1, timeE_opt]; unfold optE; cases timF t <;> rfl, h2⟩)).mono fun E w' ⟨h1, h2⟩ => by
          unfold LsPost at h1
          rw [hq] at h1
          obtain ⟨g, e, hg, hrow⟩ := h1
          exact ⟨g, e, by omega, hrow, hb0.trans (h2.mono (by omega))⟩)
      obtain ⟨S, hS⟩ : ∃ S, S = zs.mergeSort fun x y => decide (x ≤ y) := ⟨_, rfl⟩
      have hSl : S.length = zs.length := by rw [hS, List.length_mergeSort]
      rw [← hS] at ht
      have hcl := compact_le S
      have HT := hide ht
      have HS := hide hS
      unfold fldV at C ⊢
      clear CL hq ht hb0 hz0 hm hl hS
      go_enter Tryz.func80, Tryz.ntmps80
      go_wp2_with (first
        | (go_at_call 136; refine (C.out).mono ?_; rintro e w1 ⟨g, rfl, hg, hrow, hb1⟩)
        | (go_at_call 137; refine (Tryz.slices_Sort_int g 0 zs.length zs w1 (row_holds hrow) hrow.lt (by omega)).mono ?_; rintro e w2 ⟨rfl, n, os, hw2⟩; rw [← HS.out] at hw2; have hrow2 := row_grow (row_put hrow hSl n) os; have hb2 : Below w.heap.size w w2 := (by rw [hw2]; exact below_grow (hb1.trans (below_put hg)) os (by rw [size_putRow]; exact hb1.size)); rw [← hw2] at hrow2; clear hw2)
        | (go_at_call 138; refine (compact_run hSl (by omega) hrow2).mono ?_; rintro e w3 ⟨rfl, hrow3, hb3⟩))
      go_ret
      exact ⟨.inl ⟨Lib.compact S, _, HT.out, rfl, .inr ⟨g, zs.length, _, rfl, hrow3⟩⟩, hb2.trans (hb3 _ hg)⟩
end Go.Proofs.YthpndgcaoeokeaaGreatDoor
namespace Go.Proofs.YthpndgcaoeokeaaGreatDoor
open Go.Lib

def foldL : List UInt8 := [13, 10, 32]
/-- all instances replaced by nothing -/
def rep (s : List UInt8) : List UInt8 := replaceK foldL [] (count s foldL) s
theorem rep_eq (s : List UInt8) : replaceAll s foldL [] = rep s := by
  unfold replaceAll replace rep
  rw [if_neg (by decide)]
  unfold replaceNum
  rw [if_pos (.inl (by decide))]
theorem rep_none {s : List UInt8} (h : index s foldL = -1) : rep s = s := by
  unfold rep; rw [count_miss h]; rfl
theorem rep_some {s : List UInt8} {i : Nat} (h : index s foldL = i) : rep s = s.take i ++ rep (s.drop (i + 3)) := by
  unfold rep
  rw [count_hit (by decide) h, Nat.add_comm, replaceK_hit _ _ _ _ i h]
  simp [foldL]
theorem index_pre (r : List UInt8) : index (13 :: 10 :: 32 :: r) foldL = 0 := by
  unfold index; rw [if_pos (by simp [foldL])]
theorem rep_pre (r : List UInt8) : rep (13 :: 10 :: 32 :: r) = rep r := by
  rw [rep_some (i := 0) (index_pre r)]; simp
theorem rep_cons {a : UInt8} {r : List UInt8} (h : foldL.isPrefixOf (a :: r) = false) : rep (a :: r) = a :: rep r := by
  have e : index (a :: r) foldL = if index r foldL == -1 then -1 else index r foldL + 1 := by
    rw [index, if_neg (by rw [h]; exact Bool.false_ne_true)]
  have hge := index_ge r foldL
  by_cases hm : index r foldL = -1
  · rw [rep_none hm, rep_none (by rw [e, hm]; rfl)]
  · obtain ⟨i, hi⟩ : ∃ i : Nat, index r foldL = i := ⟨(index r foldL).toNat, by omega⟩
    rw [rep_some hi, rep_some (s := a :: r) (i := i + 1) (by rw [e, hi, if_neg (by simp)]; rfl)]
    simp
theorem unf_rep : ∀ s : List UInt8, unf s = rep s
  | [] => (rep_none rfl).symm
  | [a] => by
    rw [rep_cons (by simp [foldL, List.isPrefixOf]), rep_none rfl]; rfl
  | [a, b] => by
    rw [rep_cons (by simp [foldL, List.isPrefixOf]), rep_cons (by simp [foldL, List.isPrefixOf]), rep_none rfl]; rfl
  | a :: b :: c :: r => by
    rw [unf]
    split
    · rename_i h
      obtain ⟨rfl, rfl, rfl⟩ := h
      rw [rep_pre, unf_rep r]
    · rename_i h
      rw [rep_cons, unf_rep (b :: c :: r)]
      simp only [foldL, List.isPrefixOf, Bool.and_eq_false_iff, beq_eq_false_iff_ne, Bool.and_true]
      by_cases h1 : a = 13
      · by_cases h2 : b = 10
        · have h3 : c ≠ 32 := fun h3 => h ⟨h1, h2, h3⟩
          exact .inr (.inr (Ne.symm h3))
        · exact .inr (.inl (Ne.symm h2))
      · exact .inl (Ne.symm h1)
end Go.Proofs.YthpndgcaoeokeaaGreatDoor
namespace Go.Proofs.YthpndgcaoeokeaaGreatDoor
open Go.Lib

def crlf : List UInt8 := [13, 10]
/-- the pieces between the ends of lines -/
def spl2 : List UInt8 → List (List UInt8)
  | [] => [[]]
  | [a] => [[a]]
  | a :: b :: r => if a = 13 ∧ b = 10 then [] :: spl2 r else glue [a] (spl2 (b :: r))
theorem glue_ne (acc : List UInt8) (l : List (List UInt8)) : glue acc l ≠ [] := by cases l <;> simp [glue]
theorem glue_glue (a b : List UInt8) (l : List (List UInt8)) (h : l ≠ []) : glue a (glue b l) = glue (a ++ b) l := by
  cases l with
  | nil => exact absurd rfl h
  | cons x t => simp [glue]
theorem spl2_ne : ∀ l : List UInt8, spl2 l ≠ []
  | [] => by simp [spl2]
  | [a] => by simp [spl2]
  | a :: b :: r => by
    rw [spl2]
    split
    · simp
    · exact glue_ne _ _
theorem glue_cons_ne (acc : List UInt8) {l : List (List UInt8)} (h : l ≠ []) : (acc :: l).dropLast = acc :: l.dropLast := by
  cases l with
  | nil => exact absurd rfl h
  | cons x t => rfl
theorem lns_spl2 : ∀ (u acc : List UInt8), lns u acc = ((glue acc (spl2 u)).dropLast, ((glue acc (spl2 u)).getLast?.getD []).isEmpty)
  | [], acc => by simp [lns, spl2, glue]
  | [a], acc => by simp [lns, spl2, glue]
  | a :: b :: r, acc => by
    rw [lns, spl2]
    split
    · have ih := lns_spl2 r []
      rw [glue_nil (spl2_ne r)] at ih
      rw [ih]
      simp only [glue, List.append_nil]
      rw [glue_cons_ne acc (spl2_ne r)]
      cases hs : spl2 r with
      | nil => exact absurd hs (spl2_ne r)
      | cons x t => simp [List.getLast?_cons_cons]
    · rw [lns_spl2 (b :: r) (acc ++ [a]), glue_glue _ _ _ (spl2_ne _)]
/-- all instances -/
def spc (s : List UInt8) : List (List UInt8) := splitK crlf 0 (count s crlf) s
theorem spc_none {s : List UInt8} (h : index s crlf = -1) : spc s = [s] := by
  unfold spc; rw [count_miss h]; rfl
theorem spc_some {s : List UInt8} {i : Nat} (h : index s crlf = i) : spc s = s.take i :: spc (s.drop (i + 2)) := by
  have hm' : ¬ (index s crlf == -1) = true := fun e => by have := beq_iff_eq.1 e; omega
  have et : (index s crlf).toNat = i := by omega
  unfold spc
  rw [count_hit (by decide) h, Nat.add_comm, splitK, if_neg hm', et]
  simp [crlf]
theorem spc_pre (r : List UInt8) : spc (13 :: 10 :: r) = [] :: spc r := by
  have : index (13 :: 10 :: r) crlf = (0 : Nat) := by unfold index; rw [if_pos (by simp [crlf])]; rfl
  rw [spc_some this]; simp
theorem spc_cons {a : UInt8} {r : List UInt8} (h : crlf.isPrefixOf (a :: r) = false) : spc (a :: r) = glue [a] (spc r) := by
  have e : index (a :: r) crlf = if index r crlf == -1 then -1 else index r crlf + 1 := by
    rw [index, if_neg (by rw [h]; exact Bool.false_ne_true)]
  have hge := index_ge r crlf
  by_cases hm : index r crlf = -1
  · rw [spc_none hm, spc_none (by rw [e, hm]; rfl)]; rfl
  · obtain ⟨i, hi⟩ : ∃ i : Nat, index r crlf = i := ⟨(index r crlf).toNat, by omega⟩
    rw [spc_some hi, spc_some (s := a :: r) (i := i + 1) (by rw [e, hi, if_neg (by simp)]; rfl)]
    simp [glue]
theorem spl2_spc : ∀ s : List UInt8, spl2 s = spc s
  | [] => (spc_none rfl).symm
  | [a] => by
    rw [spc_cons (by simp [crlf, List.isPrefixOf]), spc_none rfl]; rfl
  | a :: b :: r => by
    rw [spl2]
    split
    · rename_i h
      obtain ⟨rfl, rfl⟩ := h
      rw [spc_pre, spl2_spc r]
    · rename_i h
      rw [spc_cons, spl2_spc (b :: r)]
      simp only [crlf, List.isPrefixOf, Bool.and_eq_false_iff, beq_eq_false_iff_ne, Bool.and_true]
      by_cases h1 : a = 13
      · exact .inr (Ne.symm (fun h2 => h ⟨h1, h2⟩))
      · exact .inl (Ne.symm h1)
theorem glue_snoc (acc : List UInt8) {l : List (List UInt8)} (x : List UInt8) (h : l ≠ []) : glue acc (l ++ [x]) = glue acc l ++ [x] := by
  cases l with
  | nil => exact absurd rfl h
  | cons y t => simp [glue]
theorem spl2_end : ∀ l : List UInt8, spl2 (l ++ [13, 10]) = spl2 l ++ [[]]
  | [] => by simp [spl2]
  | [a] => by
    show spl2 (a :: 13 :: [10]) = _
    simp [spl2, glue]
  | a :: b :: r => by
    show spl2 (a :: b :: (r ++ [13, 10])) = _
    rw [spl2, spl2]
    split
    · rw [spl2_end r]; rfl
    · rw [show b :: (r ++ [13, 10]) = (b :: r) ++ [13, 10] from rfl, spl2_end (b :: r), glue_snoc _ _ (spl2_ne _)]
theorem spl2_last : ∀ u : List UInt8, (spl2 u).getLast?.getD [] = [] → u = [] ∨ ∃ i, u = i ++ [13, 10]
  | [], _ => .inl rfl
  | [a], h => by simp [spl2] at h
  | a :: b :: r, h => by
    rw [spl2] at h
    split at h
    · rename_i hab
      obtain ⟨rfl, rfl⟩ := hab
      have hr : (spl2 r).getLast?.getD [] = [] := by
        cases hs : spl2 r with
        | nil => exact absurd hs (spl2_ne r)
        | cons x t => rw [hs, List.getLast?_cons_cons] at h; exact h
      rcases spl2_last r hr with rfl | ⟨i, rfl⟩
      · exact .inr ⟨[], rfl⟩
      · exact .inr ⟨13 :: 10 :: i, rfl⟩
    · have hr : (spl2 (b :: r)).getLast?.getD [] = [] := by
        cases hs : spl2 (b :: r) with
        | nil => exact absurd hs (spl2_ne _)
        | cons x t =>
          rw [hs] at h
          cases t with
          | nil => simp [glue] at h
          | cons y t => simp only [glue] at h; rw [List.getLast?_cons_cons] at h ⊢; exact h
      rcases spl2_last (b :: r) hr with h0 | ⟨i, hi⟩
      · cases h0
      · exact .inr ⟨a :: i, by rw [hi]; rfl⟩
/-- the document's lines, of a text that ends as a line does -/
theorem lns_yes (i : List UInt8) : lns (i ++ [13, 10]) [] = (spc i, true) := by
  rw [lns_spl2, glue_nil (spl2_ne _), spl2_end, ← spl2_spc]
  simp
/-- and of one that doesn't -/
theorem lns_no {u : List UInt8} (h0 : u ≠ []) (h : ∀ i, u ≠ i ++ [13, 10]) : (lns u []).2 = false := by
  rw [lns_spl2, glue_nil (spl2_ne _)]
  cases hs : (spl2 u).getLast?.getD [] with
  | nil =>
    rcases spl2_last u hs with h1 | ⟨i, h1⟩
    · exact absurd h1 h0
    · exact absurd h1 (h i)
  | cons x t => rfl
end Go.Proofs.YthpndgcaoeokeaaGreatDoor
namespace Go.Proofs.YthpndgcaoeokeaaGreatDoor
open Go.RowKit Go.Sort

/-- the lines of a text, as the program cuts them -/
def linesP (s : List UInt8) : Option (List (List UInt8)) := if Lib.hasSuffix (unf s) crlf = true then some (spc (Lib.trimSuffix (unf s) crlf)) else none
def LnPost (s : List UInt8) (x : Int) (w : World) (E : Ending) (w' : World) : Prop :=
  (match linesP s with
  | none => E = .panicked (rsn x)
  | some ls => ∃ g, E = .returned (.slice (some ⟨g, 0, none⟩) ls.length ls.length) ∧ w.heap.size ≤ g ∧ RowAt w' g (strs ls) 9) ∧ Below w.heap.size w w'
theorem split2_strs (l : List UInt8) : (Lib.splitB ⟨#[13, 10]⟩ 0 (Lib.countB ⟨l.toArray⟩ ⟨#[13, 10]⟩) ⟨l.toArray⟩).map Value.string = strs (spc l) := by
  have h1 := Lib.splitB_data ⟨#[13, 10]⟩ 0 (Lib.countB ⟨l.toArray⟩ ⟨#[13, 10]⟩) ⟨l.toArray⟩
  have h3 : (Lib.splitB ⟨#[13, 10]⟩ 0 (Lib.countB ⟨l.toArray⟩ ⟨#[13, 10]⟩) ⟨l.toArray⟩).map (·.data.toList) = spc l := h1
  rw [← h3]
  unfold strs
  rw [List.map_map]
  apply List.map_congr_left
  intro a _
  simp
theorem split2_count (l : List UInt8) : Lib.countB ⟨l.toArray⟩ ⟨#[13, 10]⟩ + 1 = (spc l).length := by
  have h1 := Lib.splitB_all ⟨#[13, 10]⟩ (by decide) 0 _ ⟨l.toArray⟩ rfl
  have h2 := congrArg List.length (split2_strs l)
  rw [List.length_map, strs_length] at h2
  omega
theorem strSplit2_any (l : List UInt8) (w : World) (hm : ML w) (hl : l.length ≤ 1048576) :
    Calls Tryz.prog 139 #[.string ⟨l.toArray⟩, .string ⟨#[13, 10]⟩] w fun e w' => e = .returned (.slice (some ⟨w.heap.size, 0, none⟩) (spc l).length (spc l).length) ∧ w' = w.alloc (.cells (strs (spc l)).toArray 9) := by
  obtain ⟨_, m, hm⟩ := hm
  have k := Tryz.strings_Split ⟨l.toArray⟩ ⟨#[13, 10]⟩ m w (by show l.length < 4294967281; omega) hm (by decide)
  rw [split2_strs, split2_count] at k
  exact k
theorem strReplace_any (s : List UInt8) (w : World) (hm : ML w) (hl : s.length ≤ 1048576) :
    Calls Tryz.prog 203 #[.string ⟨s.toArray⟩, .string ⟨#[13, 10, 32]⟩, .string ⟨#[]⟩] w fun e w' => e = .returned (.string ⟨(unf s).toArray⟩) ∧ Below w.heap.size w w' := by
  obtain ⟨_, m, hm⟩ := hm
  have k := Tryz.strings_ReplaceAll ⟨s.toArray⟩ ⟨#[13, 10, 32]⟩ ⟨#[]⟩ m w (by show s.length < 4294967281; omega) hm (by decide) (by show s.length + _ * 0 ≤ 140737488355328; omega)
  rw [show (⟨s.toArray⟩ : ByteArray).data.toList = s from rfl, show (⟨#[13, 10, 32]⟩ : ByteArray).data.toList = foldL from rfl, show (⟨#[]⟩ : ByteArray).data.toList = [] from rfl, rep_eq, ← unf_rep] at k
  exact k
theorem unf_len : ∀ (n : Nat) (s : List UInt8), s.length ≤ n → (unf s).length ≤ s.length
  | n, [], _ => by simp [unf]
  | n, [a], _ => by simp [unf]
  | n, [a, b], _ => by simp [unf]
  | 0, a :: b :: c :: r, h => by simp at h
  | n + 1, a :: b :: c :: r, h => by
    rw [unf]
    split
    · have := unf_len n r (by simp at h; omega); simp; omega
    · have := unf_len n (b :: c :: r) (by simp at h ⊢; omega); simp at this ⊢; omega

set_option maxRecDepth 100000 in
theorem lines_prog (s : List UInt8) (x : Int) (w : World) (hm : ML w) (hl : s.length ≤ 1048576) :
    Calls Tryz.prog 128 #[.string ⟨s.toArray⟩, .int .i64 x] w (LnPost s x w) := by
  have CR := hide (strReplace_any s w hm hl)
  have hul := unf_len s.length s (Nat.le_refl _)
  have cs := fun W => Tryz.strings_CutSuffix ⟨(unf s).toArray⟩ ⟨#[13, 10]⟩ W (by show (unf s).length ≤ 9223372036854775807; omega)
  rw [show (⟨(unf s).toArray⟩ : ByteArray).data.toList = unf s from rfl, show (⟨#[13, 10]⟩ : ByteArray).data.toList = crlf from rfl] at cs
  cases hq : Lib.hasSuffix (unf s) crlf with
  | false =>
    have HE : Hid (linesP s = none) := hide (by unfold linesP; rw [hq]; rfl)
    rw [hq] at cs
    have C := hide cs
    clear cs hq
    go_enter Tryz.func128, Tryz.ntmps128
    go_wp2_with (first
      | (go_at_call 203; refine (CR.out).mono ?_; rintro e w1 ⟨rfl, hb1⟩)
      | (go_at_call 204; refine (C.out _).mono ?_; rintro e w' ⟨rfl, rfl⟩)
      | (go_at_call_of 65 (Value.bool false); refine (unless_no _ _).mono ?_; rintro e w' ⟨rfl, rfl⟩))
    refine ⟨rfl, ?_, hb1⟩
    rw [HE.out]
  | true =>
    have HE : Hid (linesP s = some (spc (Lib.trimSuffix (unf s) crlf))) := hide (by unfold linesP; rw [hq]; rfl)
    rw [hq] at cs
    have htl : (Lib.trimSuffix (unf s) crlf).length ≤ 1048576 := by
      unfold Lib.trimSuffix
      split <;> simp <;> omega
    obtain ⟨t, ht⟩ : ∃ t, t = Lib.trimSuffix (unf s) crlf := ⟨_, rfl⟩
    rw [← ht] at cs HE htl
    have C := hide cs
    have HM := hide hm
    clear cs hq ht hm
    go_enter Tryz.func128, Tryz.ntmps128
    go_wp2_with (first
      | (go_at_call 203; refine (CR.out).mono ?_; rintro e w1 ⟨rfl, hb1⟩)
      | (go_at_call 204; refine (C.out _).mono ?_; rintro e w' ⟨rfl, rfl⟩)
      | (go_at_call_of 65 (Value.bool true); refine (unless_yes _ _).mono ?_; rintro e w' ⟨rfl, rfl⟩)
      | (go_at_call 139; refine (strSplit2_any t _ (HM.out.on hb1) htl).mono ?_; rintro e w' ⟨rfl, rfl⟩))
    go_ret
    refine ⟨?_, hb1.alloc hb1.size _⟩
    rw [HE.out]
    exact ⟨_, rfl, hb1.size, RowAt.new _ _ _⟩
end Go.Proofs.YthpndgcaoeokeaaGreatDoor
