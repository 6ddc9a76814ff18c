/- The document's fields (fallowref.fields): what is made, what its loop keeps, what goes back. The document's fields (fallowref.fields), whole. Written by gen31.py. -/
import Derived.Test.YthpndgcaoeokeaaGreatDoorE10
import Derived.Test.YthpndgcaoeokeaaGreatDoorE12
namespace Go.Proofs.YthpndgcaoeokeaaGreatDoor
open Go.RowKit

/-- the properties' texts and marks, as values -/
def vals (f : Nat → Option (List UInt8)) : List Value := (List.range 9).map fun k => Value.string ⟨((f k).getD []).toArray⟩
def havs (f : Nat → Option (List UInt8)) : List Value := (List.range 9).map fun k => Value.bool (f k).isSome
theorem vals_len (f : Nat → Option (List UInt8)) : (vals f).length = 9 := by simp [vals]
theorem havs_len (f : Nat → Option (List UInt8)) : (havs f).length = 9 := by simp [havs]
theorem vals_get (f : Nat → Option (List UInt8)) {k : Nat} (h : k < 9) : (vals f)[k]? = some (.string ⟨((f k).getD []).toArray⟩) := by
  unfold vals; rw [List.getElem?_map, List.getElem?_range h]; rfl
theorem havs_get (f : Nat → Option (List UInt8)) {k : Nat} (h : k < 9) : (havs f)[k]? = some (.bool (f k).isSome) := by
  unfold havs; rw [List.getElem?_map, List.getElem?_range h]; rfl
theorem vals_set (f : Nat → Option (List UInt8)) {j : Nat} (v : List UInt8) (hj : j < 9) : (vals f).set j (.string ⟨v.toArray⟩) = vals (upd f j v) := by
  apply List.ext_getElem?
  intro k
  by_cases hk : k < 9
  · rw [List.getElem?_set, vals_len]
    by_cases e : j = k
    · subst e; rw [if_pos rfl, if_pos hj, vals_get _ hj, upd_same]; rfl
    · rw [if_neg e, vals_get _ hk, vals_get _ hk, upd_ne (Ne.symm e)]
  · rw [List.getElem?_eq_none (by rw [List.length_set, vals_len]; omega), List.getElem?_eq_none (by rw [vals_len]; omega)]
theorem havs_set (f : Nat → Option (List UInt8)) {j : Nat} (v : List UInt8) (hj : j < 9) : (havs f).set j (.bool true) = havs (upd f j v) := by
  apply List.ext_getElem?
  intro k
  by_cases hk : k < 9
  · rw [List.getElem?_set, havs_len]
    by_cases e : j = k
    · subst e; rw [if_pos rfl, if_pos hj, havs_get _ hj, upd_same]; rfl
    · rw [if_neg e, havs_get _ hk, havs_get _ hk, upd_ne (Ne.symm e)]
  · rw [List.getElem?_eq_none (by rw [List.length_set, havs_len]; omega), List.getElem?_eq_none (by rw [havs_len]; omega)]
theorem vals_one (f : Nat → Option (List UInt8)) : ∀ v ∈ vals f, v.oneCell' = true := fun v hv => by
  unfold vals at hv
  obtain ⟨k, _, rfl⟩ := List.mem_map.1 hv
  rfl
theorem havs_one (f : Nat → Option (List UInt8)) : ∀ v ∈ havs f, v.oneCell' = true := fun v hv => by
  unfold havs at hv
  obtain ⟨k, _, rfl⟩ := List.mem_map.1 hv
  rfl
theorem infoStr9 : (Tryz.prog.info? 241).map (·.size) = some 9 := by kernel_rfl
theorem infoBool9 : (Tryz.prog.info? 286).map (·.size) = some 9 := by kernel_rfl
theorem alloc_vals_run {o : Oper} (ho : o.op = .alloc 241) (a : Act) (w : World) : (execOp a.eval o).run Tryz.prog w = .ok (.value (.pointer (some ⟨w.heap.size, 0, none⟩))) (w.alloc (.cells (vals noF).toArray 241)) := by
  obtain ⟨_, _, _, _, _, _⟩ := o
  simp only [] at ho
  subst ho
  kernel_rfl
theorem alloc_havs_run {o : Oper} (ho : o.op = .alloc 286) (a : Act) (w : World) : (execOp a.eval o).run Tryz.prog w = .ok (.value (.pointer (some ⟨w.heap.size, 0, none⟩))) (w.alloc (.cells (havs noF).toArray 286)) := by
  obtain ⟨_, _, _, _, _, _⟩ := o
  simp only [] at ho
  subst ho
  kernel_rfl
/-- a list of texts of a call's own, of any length -/
theorem strs_form {w : World} {B : Nat} {v : Value} {L : List (List UInt8)} {e : TypeId} (h : w.ownsRow B e 1 v L.length (strs L)) : ∃ a c, v = .slice a L.length c ∧ (0 < L.length → ∃ g, a = some ⟨g, 0, none⟩ ∧ B ≤ g ∧ g < w.heap.size ∧ NamesAt w g 0 L) := by
  rcases own_cells h with ⟨rfl, hn⟩ | ⟨g, cap, rfl, hb, hg, hc⟩
  · have hl : L.length = 0 := by have := congrArg List.length hn; rw [strs_length] at this; exact this
    rw [hl]
    exact ⟨none, 0, rfl, fun h => absurd h (by omega)⟩
  · refine ⟨_, _, rfl, fun _ => ⟨g, rfl, hb, hg, fun j hj => ?_⟩⟩
    rw [Nat.zero_add]
    refine hc j _ ?_
    unfold strs
    rw [List.getElem?_map, List.getElem?_eq_getElem hj]
    simp [List.getD_eq_getElem?_getD, List.getElem?_eq_getElem hj]
/-- what the loop keeps: R the results' blocks, then the texts' and the marks' -/
structure FLoop (w : World) (g : Nat) (L : List (List UInt8)) (f : Nat → Option (List UInt8)) (wr : World) : Prop where
  v : RowAt wr (w.heap.size + 2) (vals f) 241
  h : RowAt wr (w.heap.size + 3) (havs f) 286
  r1 : RowAt wr w.heap.size (vals noF) 241
  r2 : RowAt wr (w.heap.size + 1) (havs noF) 286
  ls : NamesAt wr g 0 L
  below : Below w.heap.size w wr
theorem FLoop.drewN {w wr : World} {g : Nat} {L : List (List UInt8)} {f : Nat → Option (List UInt8)} (h : FLoop w g L f wr) (n : Nat) : FLoop w g L f (wr.drewN n) :=
  ⟨h.v, h.h, h.r1, h.r2, h.ls, below_drewN h.below n⟩
theorem FLoop.put {w wr : World} {g j : Nat} {L : List (List UInt8)} {f : Nat → Option (List UInt8)} (h : FLoop w g L f wr) (v : List UInt8) (hg : w.heap.size + 4 ≤ g) (hj : j < 9) :
    FLoop w g L (upd f j v) ((wr.setCell ⟨w.heap.size + 3, j, none⟩ (.bool true)).setCell ⟨w.heap.size + 2, j, none⟩ (.string ⟨v.toArray⟩)) := by
  refine ⟨?_, ?_, ?_, ?_, ?_, ?_⟩
  · rw [← vals_set f v hj]
    exact (h.v.other (by omega) _).set (k := j) _
  · rw [← havs_set f v hj]
    exact (h.h.set (k := j) _).other (by omega) _
  · exact (h.r1.other (by omega) _).other (by omega) _
  · exact (h.r2.other (by omega) _).other (by omega) _
  · intro i hi
    rw [World.cell?_of_block (a := ⟨g, 0 + i, none⟩) ((Below.heap_setCell _ _ _ _ (show g ≠ w.heap.size + 2 by omega)).trans (Below.heap_setCell _ _ _ _ (show g ≠ w.heap.size + 3 by omega)))]
    exact h.ls i hi
  · exact (h.below.setCell (p := ⟨w.heap.size + 3, j, none⟩) (by show w.heap.size ≤ w.heap.size + 3; omega) _).setCell (p := ⟨w.heap.size + 2, j, none⟩) (by show w.heap.size ≤ w.heap.size + 2; omega) _
/-- how fields ends -/
def FldPost (s : List UInt8) (w : World) (e : Ending) (w' : World) : Prop :=
  Below w.heap.size w w' ∧ ∃ f b, e = .returned (.tuple #[.agg (vals f).toArray, .agg (havs f).toArray, .bool b]) ∧ (b = false → fieldsF s = none) ∧ (b = true → fieldsF s = some f)
theorem fields_end {s : List UInt8} {w W : World} {f : Nat → Option (List UInt8)} {tmps : Array Value} {b : Bool} (r1 : RowAt W w.heap.size (vals f) 241) (r2 : RowAt W (w.heap.size + 1) (havs f) 286) (hb : Below w.heap.size w W)
    (h2 : tmps.getD 2 undef = .pointer (some ⟨w.heap.size, 0, none⟩)) (h3 : tmps.getD 3 undef = .pointer (some ⟨w.heap.size + 1, 0, none⟩)) (h4 : tmps.getD 4 undef = .bool b) (h0 : b = false → fieldsF s = none) (h1 : b = true → fieldsF s = some f) :
    bodyPost Tryz.prog Tryz.f235 (FldPost s w) .ret ⟨tmps, []⟩ W := by
  refine bodyPost_ret (v := .tuple #[.agg (vals f).toArray, .agg (havs f).toArray, .bool b]) ?_ rfl ⟨hb, f, b, rfl, h0, h1⟩
  rw [results_cell2_tmp Tryz.results235 h2 h3 (run_loadVar_mid _ w.heap.size 0 241 (vals f) _ (row_range r1) Tryz.underlying241 rfl (by rw [vals_len]; exact infoStr9)) (run_loadVar_mid _ (w.heap.size + 1) 0 286 (havs f) _ (row_range r2) Tryz.underlying286 rfl (by rw [havs_len]; exact infoBool9)), h4]
/-- at the beginning: the four blocks -/
theorem fields_begin (w w1 : World) (h : w1 = (((w.alloc (.cells (vals noF).toArray 241)).alloc (.cells (havs noF).toArray 286)).alloc (.cells (vals noF).toArray 241)).alloc (.cells (havs noF).toArray 286)) :
    (RowAt w1 (w.heap.size + 2) (vals noF) 241 ∧ RowAt w1 (w.heap.size + 3) (havs noF) 286 ∧ RowAt w1 w.heap.size (vals noF) 241 ∧ RowAt w1 (w.heap.size + 1) (havs noF) 286 ∧ Below w.heap.size w w1) ∧ w1.heap.size = w.heap.size + 4 := by
  have a1 := RowAt.new w (vals noF) 241
  have z1 : (w.alloc (.cells (vals noF).toArray 241)).heap.size = w.heap.size + 1 := by simp
  have b1 : Below w.heap.size w (w.alloc (.cells (vals noF).toArray 241)) := (Below.refl _ _).alloc (Nat.le_refl _) _
  generalize w.alloc (.cells (vals noF).toArray 241) = A1 at *
  have a2 := RowAt.new A1 (havs noF) 286
  rw [z1] at a2
  have a1' := a1.on ((Below.refl A1.heap.size A1).alloc (Nat.le_refl _) (.cells (havs noF).toArray 286))
  have z2 : (A1.alloc (.cells (havs noF).toArray 286)).heap.size = w.heap.size + 2 := by simp [z1]
  have b2 : Below w.heap.size w (A1.alloc (.cells (havs noF).toArray 286)) := b1.alloc (by omega) _
  generalize A1.alloc (.cells (havs noF).toArray 286) = A2 at *
  have a3 := RowAt.new A2 (vals noF) 241
  rw [z2] at a3
  have c1 := a1'.on ((Below.refl A2.heap.size A2).alloc (Nat.le_refl _) (.cells (vals noF).toArray 241))
  have c2 := a2.on ((Below.refl A2.heap.size A2).alloc (Nat.le_refl _) (.cells (vals noF).toArray 241))
  have z3 : (A2.alloc (.cells (vals noF).toArray 241)).heap.size = w.heap.size + 3 := by simp [z2]
  have b3 : Below w.heap.size w (A2.alloc (.cells (vals noF).toArray 241)) := b2.alloc (by omega) _
  generalize A2.alloc (.cells (vals noF).toArray 241) = A3 at *
  have a4 := RowAt.new A3 (havs noF) 286
  rw [z3] at a4
  have hb := (Below.refl A3.heap.size A3).alloc (Nat.le_refl _) (.cells (havs noF).toArray 286)
  subst h
  exact ⟨⟨a3.on hb, a4, c1.on hb, c2.on hb, b3.alloc (by omega) _⟩, by simp [z3]⟩
theorem lns_len : ∀ (n : Nat) (l acc : List UInt8), l.length ≤ n → (lns l acc).1.length ≤ l.length
  | n, [], acc, _ => by simp [lns]
  | n, [a], acc, _ => by simp [lns]
  | 0, a :: b :: r, acc, h => by simp at h
  | n + 1, a :: b :: r, acc, h => by
    rw [lns]
    split
    · have := lns_len n r [] (by simp at h; omega)
      simp
      omega
    · have := lns_len n (b :: r) (acc ++ [a]) (by simp at h ⊢; omega)
      simp at this ⊢
      omega
theorem lns_small : ∀ (n : Nat) (l acc : List UInt8), l.length ≤ n → ∀ p ∈ (lns l acc).1, p.length ≤ acc.length + l.length
  | n, [], acc, _, p, hp => by simp [lns] at hp
  | n, [a], acc, _, p, hp => by simp [lns] at hp
  | 0, a :: b :: r, acc, h, _, _ => by simp at h
  | n + 1, a :: b :: r, acc, h, p, hp => by
    rw [lns] at hp
    split at hp
    · rcases List.mem_cons.1 hp with rfl | hp
      · omega
      · have := lns_small n r [] (by simp at h; omega) p hp
        simp at this ⊢
        omega
    · have := lns_small n (b :: r) (acc ++ [a]) (by simp at h ⊢; omega) p hp
      simp at this ⊢
      omega
theorem unf_small {s : ByteArray} (h : s.size ≤ 1048576) : (⟨(unf s.data.toList).toArray⟩ : ByteArray).size ≤ 1048576 := by
  have := unf_len s.data.toList.length s.data.toList (Nat.le_refl _)
  rw [Array.length_toList] at this
  show (unf s.data.toList).toArray.size ≤ _
  rw [List.size_toArray]
  exact Nat.le_trans this h
theorem lns_bounds {s : ByteArray} (h : s.size ≤ 1048576) : (lns (unf s.data.toList) []).1.length ≤ 1048576 ∧ ∀ p ∈ (lns (unf s.data.toList) []).1, p.length ≤ 1048576 := by
  have h1 := unf_len s.data.toList.length s.data.toList (Nat.le_refl _)
  have h2 : s.data.toList.length ≤ 1048576 := by rw [Array.length_toList]; exact h
  refine ⟨Nat.le_trans (lns_len _ _ _ (Nat.le_refl _)) (Nat.le_trans h1 h2), fun p hp => ?_⟩
  have := lns_small _ _ _ (Nat.le_refl _) p hp
  simp at this
  omega
/-- fieldsF by what the walk meets -/
theorem fields_unf {s : List UInt8} {L : List (List UInt8)} {b : Bool} (hL : L = (lns (unf (ba s).data.toList) []).1) (hb : b = (lns (unf (ba s).data.toList) []).2) :
    fieldsF s = if (b && decide (s.length ≤ 2000) && decide (2 ≤ L.length) && decide (L.getD 0 [] = beginL) && decide (L.getD (L.length - 1) [] = endL)) then match flds propNames 58 (innerL L) (fun _ => none) with
      | none => none
      | some f => if must f && words2 f then some f else none
    else none := by
  subst hL hb
  rfl
theorem inner_get {L : List (List UInt8)} {k : Nat} {l : List UInt8} (hk : 1 ≤ k) (hlt : k + 1 < L.length) (hl : l = L.getD k []) : (innerL L)[k - 1]? = some l := by
  unfold innerL
  rw [List.getElem?_take, if_pos (by omega), List.getElem?_drop, show 1 + (k - 1) = k by omega, List.getElem?_eq_getElem (by omega), hl, List.getD_eq_getElem?_getD, List.getElem?_eq_getElem (by omega)]
  rfl
theorem get_small {L : List (List UInt8)} {k : Nat} (h : ∀ p ∈ L, p.length ≤ 1048576) (hk : k < L.length) : (L.getD k []).length ≤ 1048576 := by
  rw [List.getD_eq_getElem?_getD, List.getElem?_eq_getElem hk]
  exact h _ (List.getElem_mem hk)
theorem small_max {l : List UInt8} (h : l.length ≤ 1048576) : (⟨l.toArray⟩ : ByteArray).size ≤ maxLen := by
  show l.toArray.size ≤ _
  rw [List.size_toArray]
  unfold maxLen
  omega
end Go.Proofs.YthpndgcaoeokeaaGreatDoor
namespace Go.Proofs.YthpndgcaoeokeaaGreatDoor
open Go.RowKit

set_option maxRecDepth 100000 in
set_option maxHeartbeats 8000000 in
theorem fields_ref (s : List UInt8) (w : World) (hs : s.length ≤ 1048575) (hn : NamesAt w 1 0 propNames) (hg : 1 < w.heap.size) :
    Calls Tryz.prog 235 #[.string (ba s)] w (FldPost s w) := by
  have hsz : (ba s).size = s.length := by unfold ba; simp [ByteArray.size]
  obtain ⟨w1, hw1⟩ : ∃ w1, w1 = (((w.alloc (.cells (vals noF).toArray 241)).alloc (.cells (havs noF).toArray 286)).alloc (.cells (vals noF).toArray 241)).alloc (.cells (havs noF).toArray 286) := ⟨_, rfl⟩
  obtain ⟨L0, z1⟩ := fields_begin w w1 hw1
  have HW1 := hide hw1
  have HN := hide hn
  clear hw1 hn
  have CU := hide (fun W => unfolded_any (ba s) W (by omega))
  have CL := lines_any ⟨(unf (ba s).data.toList).toArray⟩ w1 (unf_small (by rw [hsz]; omega))
  obtain ⟨lb1, lb2⟩ := lns_bounds (s := ba s) (by rw [hsz]; omega)
  obtain ⟨L, hL⟩ : ∃ L, L = (lns (unf (ba s).data.toList) []).1 := ⟨_, rfl⟩
  obtain ⟨b, hb⟩ : ∃ b, b = (lns (unf (ba s).data.toList) []).2 := ⟨_, rfl⟩
  rw [← hL] at lb1 lb2
  rw [← hL, ← hb] at CL
  have HLB := hide lb2
  have HF := hide (fields_unf (s := s) hL hb)
  have CL2 := hide CL
  have HSZ := hide hsz
  obtain ⟨S, hS⟩ : ∃ S, S = ba s := ⟨_, rfl⟩
  clear hL hb lb2 CL
  rw [← hS] at CU CL2 HSZ hsz ⊢
  clear hS
  have hS2 : (S.size : Int) ≤ 1048575 := by omega
  clear hsz
  go_enter Tryz.func235, Tryz.ntmps235
  go_upto_region 3 with (first
    | (refine wpl_value rfl (alloc_vals_run rfl _ _) ?_; try simp only [World.size_alloc])
    | (refine wpl_value rfl (alloc_havs_run rfl _ _) ?_; try simp only [World.size_alloc]))
  rw [← HW1.out, show w.heap.size + 1 + 1 + 1 = w.heap.size + 3 from rfl, show w.heap.size + 1 + 1 = w.heap.size + 2 from rfl]
  go_upto_region 4 with (first
    | (go_at_call 290; refine (CU.out _).mono ?_; rintro e w2 ⟨rfl, rfl⟩)
    | (go_at_call 289; refine (CL2.out).mono ?_; rintro e w2 ⟨v, rfl, hown, hb2⟩; obtain ⟨a, c, rfl, hform⟩ := strs_form hown; clear hown))
  have HFM := hide hform
  clear hform CU CL2 HW1
  have L2 : ∀ g M, NamesAt w2 g 0 M → FLoop w g M noF w2 := fun g M h => ⟨L0.1.on hb2, L0.2.1.on hb2, L0.2.2.1.on hb2, L0.2.2.2.1.on hb2, h, L0.2.2.2.2.trans (hb2.mono (by omega))⟩
  have HE : Hid (FLoop w 0 [] noF w2) := hide (L2 0 [] (fun j hj => by simp at hj))
  have HL2 := hide L2
  have hz2 := hb2.size
  clear L0 L2 hb2
  cases b with
  | false =>
    have HX : Hid (fieldsF s = none) := hide (by rw [HF.out]; rfl)
    clear HF HL2 HFM
    go_upto_region 5 with fail
    rename_i K hK
    refine wp_copies (R1 := w.heap.size) (R2 := w.heap.size + 1) (b5 := w.heap.size + 2) (b6 := w.heap.size + 3) (x := 49) (y := 50) (b := false) (T1 := 241) (T2 := 286) (vs := vals noF) (hs := havs noF) (by kernel_rfl) (by kernel_rfl)
      ⟨rfl, ⟨_, rfl, rfl, rfl, rfl⟩, ⟨_, rfl, rfl, rfl, rfl⟩, ⟨_, rfl, rfl, rfl, rfl, ⟨0, .data⟩, by simp, rfl, rfl⟩, ⟨_, rfl, rfl, rfl, rfl, ⟨1, .data⟩, by simp, rfl, rfl⟩, ⟨_, rfl, rfl, rfl, rfl⟩⟩
      rfl rfl rfl rfl (by show 49 < 135; decide) (by show 50 < 135; decide) (by show 4 < 135; decide) (by decide) (by decide) ⟨by omega, by omega, by omega, by omega, by omega⟩
      HE.out.v HE.out.h ⟨_, (vals_len _).trans (vals_len _).symm, HE.out.r1⟩ ⟨_, (havs_len _).trans (havs_len _).symm, HE.out.r2⟩ Tryz.underlying241 rfl (by rw [vals_len]; exact infoStr9) (vals_one _) Tryz.underlying286 rfl (by rw [havs_len]; exact infoBool9) (havs_one _) ?_
    intro w9 q1 q2 q3
    refine hK _ _ ?_
    refine wp_ret ?_
    exact fields_end (f := noF) (b := false) q1 q2 (HE.out.below.trans (q3.below HE.out.below.size (fun k hk => by omega))) rfl rfl rfl (fun _ => HX.out) (fun h => by cases h)
  | true =>
    by_cases h2000 : s.length ≤ 2000
    case neg =>
      have HX : Hid (fieldsF s = none) := hide (by rw [HF.out, if_neg (by simp [h2000])])
      have hgt : (2000 : Int) < S.size := by have := HSZ.out; omega
      clear HF HL2 HFM h2000
      go_upto_region 5 with fail
      rename_i K hK
      refine wp_copies (R1 := w.heap.size) (R2 := w.heap.size + 1) (b5 := w.heap.size + 2) (b6 := w.heap.size + 3) (x := 49) (y := 50) (b := false) (T1 := 241) (T2 := 286) (vs := vals noF) (hs := havs noF) (by kernel_rfl) (by kernel_rfl)
        ⟨rfl, ⟨_, rfl, rfl, rfl, rfl⟩, ⟨_, rfl, rfl, rfl, rfl⟩, ⟨_, rfl, rfl, rfl, rfl, ⟨0, .data⟩, by simp, rfl, rfl⟩, ⟨_, rfl, rfl, rfl, rfl, ⟨1, .data⟩, by simp, rfl, rfl⟩, ⟨_, rfl, rfl, rfl, rfl⟩⟩
        rfl rfl rfl rfl (by show 49 < 135; decide) (by show 50 < 135; decide) (by show 4 < 135; decide) (by decide) (by decide) ⟨by omega, by omega, by omega, by omega, by omega⟩
        HE.out.v HE.out.h ⟨_, (vals_len _).trans (vals_len _).symm, HE.out.r1⟩ ⟨_, (havs_len _).trans (havs_len _).symm, HE.out.r2⟩ Tryz.underlying241 rfl (by rw [vals_len]; exact infoStr9) (vals_one _) Tryz.underlying286 rfl (by rw [havs_len]; exact infoBool9) (havs_one _) ?_
      intro w9 q1 q2 q3
      refine hK _ _ ?_
      refine wp_ret ?_
      exact fields_end (f := noF) (b := false) q1 q2 (HE.out.below.trans (q3.below HE.out.below.size (fun k hk => by omega))) rfl rfl rfl (fun _ => HX.out) (fun h => by cases h)
    case pos =>
      have hle : (S.size : Int) ≤ 2000 := by have := HSZ.out; omega
      by_cases h2 : 2 ≤ L.length
      case neg =>
        have HX : Hid (fieldsF s = none) := hide (by rw [HF.out, if_neg (by simp [h2])])
        have hlt : (L.length : Int) < 2 := by omega
        clear HF HL2 HFM h2 h2000
        go_upto_region 5 with fail
        rename_i K hK
        refine wp_copies (R1 := w.heap.size) (R2 := w.heap.size + 1) (b5 := w.heap.size + 2) (b6 := w.heap.size + 3) (x := 49) (y := 50) (b := false) (T1 := 241) (T2 := 286) (vs := vals noF) (hs := havs noF) (by kernel_rfl) (by kernel_rfl)
          ⟨rfl, ⟨_, rfl, rfl, rfl, rfl⟩, ⟨_, rfl, rfl, rfl, rfl⟩, ⟨_, rfl, rfl, rfl, rfl, ⟨0, .data⟩, by simp, rfl, rfl⟩, ⟨_, rfl, rfl, rfl, rfl, ⟨1, .data⟩, by simp, rfl, rfl⟩, ⟨_, rfl, rfl, rfl, rfl⟩⟩
          rfl rfl rfl rfl (by show 49 < 135; decide) (by show 50 < 135; decide) (by show 4 < 135; decide) (by decide) (by decide) ⟨by omega, by omega, by omega, by omega, by omega⟩
          HE.out.v HE.out.h ⟨_, (vals_len _).trans (vals_len _).symm, HE.out.r1⟩ ⟨_, (havs_len _).trans (havs_len _).symm, HE.out.r2⟩ Tryz.underlying241 rfl (by rw [vals_len]; exact infoStr9) (vals_one _) Tryz.underlying286 rfl (by rw [havs_len]; exact infoBool9) (havs_one _) ?_
        intro w9 q1 q2 q3
        refine hK _ _ ?_
        refine wp_ret ?_
        exact fields_end (f := noF) (b := false) q1 q2 (HE.out.below.trans (q3.below HE.out.below.size (fun k hk => by omega))) rfl rfl rfl (fun _ => HX.out) (fun h => by cases h)
      case pos =>
        obtain ⟨g, rfl, hg1, hg2, hls⟩ := HFM.out (by omega)
        have h2' : (2 : Int) ≤ L.length := by omega
        have HLS := hide hls
        have c0 := hls 0 (by omega)
        have cl := hls (L.length - 1) (by omega)
        have el : ((L.length - 1 : Nat) : Int) = (L.length : Int) - 1 := by omega
        rw [Nat.zero_add] at cl
        clear HFM hls
        obtain ⟨X0, hX0⟩ : ∃ X : ByteArray, X = ⟨(L.getD 0 []).toArray⟩ := ⟨_, rfl⟩
        obtain ⟨X1, hX1⟩ : ∃ X : ByteArray, X = ⟨(L.getD (L.length - 1) []).toArray⟩ := ⟨_, rfl⟩
        rw [← hX0] at c0
        rw [← hX1] at cl
        have H0 := hide hX0
        have H1 := hide hX1
        clear hX0 hX1
        have il : ((L.length : Int) - 1).toNat = L.length - 1 := by omega
        by_cases e0 : X0 = ⟨#[66, 69, 71, 73, 78, 58, 86, 69, 86, 69, 78, 84]⟩
        case neg =>
          have n0 : ¬ X0.toList = [66, 69, 71, 73, 78, 58, 86, 69, 86, 69, 78, 84] := by simpa using (Lib.bytes_beq_false_iff X0 ⟨#[66, 69, 71, 73, 78, 58, 86, 69, 86, 69, 78, 84]⟩).2 e0
          have g0 : (X0.toList == [66, 69, 71, 73, 78, 58, 86, 69, 86, 69, 78, 84]) = false := beq_eq_false_iff_ne.2 n0
          have HX : Hid (fieldsF s = none) := hide (by
            rw [HF.out, if_neg]
            intro hc
            simp only [Bool.and_eq_true, decide_eq_true_eq] at hc
            exact e0 (by rw [H0.out, hc.1.2]; rfl))
          clear HF HL2 e0 cl
          go_upto_region 5 with fail
          rename_i K hK
          refine wp_copies (R1 := w.heap.size) (R2 := w.heap.size + 1) (b5 := w.heap.size + 2) (b6 := w.heap.size + 3) (x := 49) (y := 50) (b := false) (T1 := 241) (T2 := 286) (vs := vals noF) (hs := havs noF) (by kernel_rfl) (by kernel_rfl)
            ⟨rfl, ⟨_, rfl, rfl, rfl, rfl⟩, ⟨_, rfl, rfl, rfl, rfl⟩, ⟨_, rfl, rfl, rfl, rfl, ⟨0, .data⟩, by simp, rfl, rfl⟩, ⟨_, rfl, rfl, rfl, rfl, ⟨1, .data⟩, by simp, rfl, rfl⟩, ⟨_, rfl, rfl, rfl, rfl⟩⟩
            rfl rfl rfl rfl (by show 49 < 135; decide) (by show 50 < 135; decide) (by show 4 < 135; decide) (by decide) (by decide) ⟨by omega, by omega, by omega, by omega, by omega⟩
            HE.out.v HE.out.h ⟨_, (vals_len _).trans (vals_len _).symm, HE.out.r1⟩ ⟨_, (havs_len _).trans (havs_len _).symm, HE.out.r2⟩ Tryz.underlying241 rfl (by rw [vals_len]; exact infoStr9) (vals_one _) Tryz.underlying286 rfl (by rw [havs_len]; exact infoBool9) (havs_one _) ?_
          intro w9 q1 q2 q3
          refine hK _ _ ?_
          refine wp_ret ?_
          exact fields_end (f := noF) (b := false) q1 q2 (HE.out.below.trans (q3.below HE.out.below.size (fun k hk => by omega))) rfl rfl rfl (fun _ => HX.out) (fun h => by cases h)
        case pos =>
          have n0 : X0.toList = [66, 69, 71, 73, 78, 58, 86, 69, 86, 69, 78, 84] := by simpa using (Lib.bytes_beq_iff X0 ⟨#[66, 69, 71, 73, 78, 58, 86, 69, 86, 69, 78, 84]⟩).2 e0
          have g0 : (X0.toList == [66, 69, 71, 73, 78, 58, 86, 69, 86, 69, 78, 84]) = true := beq_iff_eq.2 n0
          by_cases e1 : X1 = ⟨#[69, 78, 68, 58, 86, 69, 86, 69, 78, 84]⟩
          case neg =>
            have n1 : ¬ X1.toList = [69, 78, 68, 58, 86, 69, 86, 69, 78, 84] := by simpa using (Lib.bytes_beq_false_iff X1 ⟨#[69, 78, 68, 58, 86, 69, 86, 69, 78, 84]⟩).2 e1
            have g1 : (X1.toList == [69, 78, 68, 58, 86, 69, 86, 69, 78, 84]) = false := beq_eq_false_iff_ne.2 n1
            have HX : Hid (fieldsF s = none) := hide (by
              rw [HF.out, if_neg]
              intro hc
              simp only [Bool.and_eq_true, decide_eq_true_eq] at hc
              exact e1 (by rw [H1.out, hc.2]; rfl))
            clear HF HL2 e0 e1
            go_upto_region 5 with fail
            rename_i K hK
            refine wp_copies (R1 := w.heap.size) (R2 := w.heap.size + 1) (b5 := w.heap.size + 2) (b6 := w.heap.size + 3) (x := 49) (y := 50) (b := false) (T1 := 241) (T2 := 286) (vs := vals noF) (hs := havs noF) (by kernel_rfl) (by kernel_rfl)
              ⟨rfl, ⟨_, rfl, rfl, rfl, rfl⟩, ⟨_, rfl, rfl, rfl, rfl⟩, ⟨_, rfl, rfl, rfl, rfl, ⟨0, .data⟩, by simp, rfl, rfl⟩, ⟨_, rfl, rfl, rfl, rfl, ⟨1, .data⟩, by simp, rfl, rfl⟩, ⟨_, rfl, rfl, rfl, rfl⟩⟩
              rfl rfl rfl rfl (by show 49 < 135; decide) (by show 50 < 135; decide) (by show 4 < 135; decide) (by decide) (by decide) ⟨by omega, by omega, by omega, by omega, by omega⟩
              HE.out.v HE.out.h ⟨_, (vals_len _).trans (vals_len _).symm, HE.out.r1⟩ ⟨_, (havs_len _).trans (havs_len _).symm, HE.out.r2⟩ Tryz.underlying241 rfl (by rw [vals_len]; exact infoStr9) (vals_one _) Tryz.underlying286 rfl (by rw [havs_len]; exact infoBool9) (havs_one _) ?_
            intro w9 q1 q2 q3
            refine hK _ _ ?_
            refine wp_ret ?_
            exact fields_end (f := noF) (b := false) q1 q2 (HE.out.below.trans (q3.below HE.out.below.size (fun k hk => by omega))) rfl rfl rfl (fun _ => HX.out) (fun h => by cases h)
          case pos =>
            have n1 : X1.toList = [69, 78, 68, 58, 86, 69, 86, 69, 78, 84] := by simpa using (Lib.bytes_beq_iff X1 ⟨#[69, 78, 68, 58, 86, 69, 86, 69, 78, 84]⟩).2 e1
            have g1 : (X1.toList == [69, 78, 68, 58, 86, 69, 86, 69, 78, 84]) = true := beq_iff_eq.2 n1
            have HF2 : Hid (fieldsF s = match flds propNames 58 (innerL L) (fun _ => none) with | none => none | some f => if must f && words2 f then some f else none) := hide (by
              have b0 : L.getD 0 [] = beginL := by have := H0.out.symm.trans e0; exact (ba_iff _ [66, 69, 71, 73, 78, 58, 86, 69, 86, 69, 78, 84]).1 this
              have b1 : L.getD (L.length - 1) [] = endL := by have := H1.out.symm.trans e1; exact (ba_iff _ [69, 78, 68, 58, 86, 69, 86, 69, 78, 84]).1 this
              exact HF.out.trans (if_pos (by rw [b0, b1]; simp [h2000, h2])))
            clear HF e0 e1
            have HI : Hid (FLoop w g L noF w2) := hide (HL2.out g L HLS.out)
            have hgl : w.heap.size + 4 ≤ g := by omega
            have hp1 : 1 < w.heap.size := hg
            clear HL2 HE HLS H0 H1
            go_wp2_with fail
            clear c0 cl g0 g1 n0 n1
            go_loopw [9] (fun i wr => ∃ (k : Nat) (f : Nat → Option (List UInt8)), 1 ≤ k ∧ k + 1 ≤ L.length ∧ i = .int .i64 k ∧ Hid (FLoop w g L f wr) ∧ Hid (flds propNames 58 (innerL L) (fun _ => none) = flds propNames 58 ((innerL L).drop (k - 1)) f)) (fun i _ => L.length - (intOf i).toNat)
            case atStart => exact ⟨1, noF, Nat.le_refl _, by omega, rfl, HI, hide rfl⟩
            case round =>
              obtain ⟨k, f, hk1, hk2, rfl, HR, HT⟩ := hrel
              clear HI
              by_cases hlt : k + 1 < L.length
              case pos =>
                obtain ⟨l, hl⟩ : ∃ l, l = L.getD k [] := ⟨_, rfl⟩
                have hcell : wr.cell? ⟨g, k, none⟩ = some (.string ⟨l.toArray⟩) := by
                  have := HR.out.ls k (by omega)
                  rw [Nat.zero_add] at this
                  rw [hl]
                  exact this
                have hll : (innerL L)[k - 1]? = some l := inner_get hk1 hlt hl
                have hls : l.length ≤ 1048576 := by rw [hl]; exact get_small HLB.out (by omega)
                have hlz : (⟨l.toArray⟩ : ByteArray).size ≤ 1048576 := by show l.toArray.size ≤ _; rw [List.size_toArray]; exact hls
                have CQ : Hid (∀ n, Calls Tryz.prog 291 #[.slice (some ⟨1, 0, none⟩) 9 9, .string ⟨l.toArray⟩, .int .u8 58] (wr.drewN n) fun e w' => e = .returned (plcV (plc propNames 58 l)) ∧ ∃ q, w' = (wr.drewN n).drewN q) := hide fun n => place_any 1 0 9 propNames ⟨l.toArray⟩ 58 (wr.drewN n) hlz (by decide) (names_on HN.out hg (below_drewN HR.out.below n))
                have HLL := hide hll
                clear hll hl hlz
                cases hplc : plc propNames 58 l with
                | none =>
                  have CQ2 : Hid (∀ n, Calls Tryz.prog 291 #[.slice (some ⟨1, 0, none⟩) 9 9, .string ⟨l.toArray⟩, .int .u8 58] (wr.drewN n) fun e w' => e = .returned (.tuple #[.int .i64 0, .string ⟨#[]⟩, .bool false]) ∧ ∃ q, w' = (wr.drewN n).drewN q) := hide fun n => by have := CQ.out n; rw [hplc] at this; exact this
                  have HX : Hid (fieldsF s = none) := hide (by rw [HF2.out, HT.out, flds_none HLL.out hplc])
                  clear hplc HT CQ HF2
                  go_wp2
                  go_quiet ((go_at_call 291; exact Calls.quiet_of (CQ2.out _)))
                  have HRN : Hid (FLoop w g L f (wr.drewN nq)) := hide (HR.out.drewN nq)
                  clear HR CQ2 hcell
                  go_upto_region 11 with fail
                  rename_i K hK
                  refine wp_copies (R1 := w.heap.size) (R2 := w.heap.size + 1) (b5 := w.heap.size + 2) (b6 := w.heap.size + 3) (x := 75) (y := 76) (b := false) (T1 := 241) (T2 := 286) (vs := vals f) (hs := havs f) (by kernel_rfl) (by kernel_rfl)
                    ⟨rfl, ⟨_, rfl, rfl, rfl, rfl⟩, ⟨_, rfl, rfl, rfl, rfl⟩, ⟨_, rfl, rfl, rfl, rfl, ⟨0, .data⟩, by simp, rfl, rfl⟩, ⟨_, rfl, rfl, rfl, rfl, ⟨1, .data⟩, by simp, rfl, rfl⟩, ⟨_, rfl, rfl, rfl, rfl⟩⟩
                    rfl rfl rfl rfl (by show 75 < 135; decide) (by show 76 < 135; decide) (by show 4 < 135; decide) (by decide) (by decide) ⟨by omega, by omega, by omega, by omega, by omega⟩
                    HRN.out.v HRN.out.h ⟨_, (vals_len _).trans (vals_len _).symm, HRN.out.r1⟩ ⟨_, (havs_len _).trans (havs_len _).symm, HRN.out.r2⟩ Tryz.underlying241 rfl (by rw [vals_len]; exact infoStr9) (vals_one _) Tryz.underlying286 rfl (by rw [havs_len]; exact infoBool9) (havs_one _) ?_
                  intro w9 q1 q2 q3
                  refine hK _ _ ?_
                  refine wp_ret ?_
                  exact fields_end (f := f) (b := false) q1 q2 (HRN.out.below.trans (q3.below HRN.out.below.size (fun k hk => by omega))) rfl rfl rfl (fun _ => HX.out) (fun h => by cases h)
                | some q =>
                  obtain ⟨j, v⟩ := q
                  obtain ⟨hj, hlv⟩ := plc_form hplc
                  have hj9 : j < 9 := hj
                  have CQ2 : Hid (∀ n, Calls Tryz.prog 291 #[.slice (some ⟨1, 0, none⟩) 9 9, .string ⟨l.toArray⟩, .int .u8 58] (wr.drewN n) fun e w' => e = .returned (.tuple #[.int .i64 j, .string ⟨v.toArray⟩, .bool true]) ∧ ∃ q, w' = (wr.drewN n).drewN q) := hide fun n => by have := CQ.out n; rw [hplc] at this; exact this
                  have hjz : (j : Int) < 9 := by omega
                  clear CQ hj hlv
                  cases hd : (f j).isSome with
                  | true =>
                    have HX : Hid (fieldsF s = none) := hide (by rw [HF2.out, HT.out, flds_twice HLL.out hplc hd])
                    have hh : wr.cell? ⟨w.heap.size + 3, j, none⟩ = some (.bool true) := by rw [← hd]; exact HR.out.h.cell (havs_get f hj9)
                    clear hplc HT hd HF2
                    go_wp2
                    go_quiet ((go_at_call 291; exact Calls.quiet_of (CQ2.out _)))
                    have HRN : Hid (FLoop w g L f (wr.drewN nq)) := hide (HR.out.drewN nq)
                    have hh2 : (wr.drewN nq).cell? ⟨w.heap.size + 3, j, none⟩ = some (.bool true) := hh
                    clear HR CQ2 hcell hh
                    go_upto_region 11 with fail
                    rename_i K hK
                    refine wp_copies (R1 := w.heap.size) (R2 := w.heap.size + 1) (b5 := w.heap.size + 2) (b6 := w.heap.size + 3) (x := 75) (y := 76) (b := false) (T1 := 241) (T2 := 286) (vs := vals f) (hs := havs f) (by kernel_rfl) (by kernel_rfl)
                      ⟨rfl, ⟨_, rfl, rfl, rfl, rfl⟩, ⟨_, rfl, rfl, rfl, rfl⟩, ⟨_, rfl, rfl, rfl, rfl, ⟨0, .data⟩, by simp, rfl, rfl⟩, ⟨_, rfl, rfl, rfl, rfl, ⟨1, .data⟩, by simp, rfl, rfl⟩, ⟨_, rfl, rfl, rfl, rfl⟩⟩
                      rfl rfl rfl rfl (by show 75 < 135; decide) (by show 76 < 135; decide) (by show 4 < 135; decide) (by decide) (by decide) ⟨by omega, by omega, by omega, by omega, by omega⟩
                      HRN.out.v HRN.out.h ⟨_, (vals_len _).trans (vals_len _).symm, HRN.out.r1⟩ ⟨_, (havs_len _).trans (havs_len _).symm, HRN.out.r2⟩ Tryz.underlying241 rfl (by rw [vals_len]; exact infoStr9) (vals_one _) Tryz.underlying286 rfl (by rw [havs_len]; exact infoBool9) (havs_one _) ?_
                    intro w9 q1 q2 q3
                    refine hK _ _ ?_
                    refine wp_ret ?_
                    exact fields_end (f := f) (b := false) q1 q2 (HRN.out.below.trans (q3.below HRN.out.below.size (fun k hk => by omega))) rfl rfl rfl (fun _ => HX.out) (fun h => by cases h)
                  | false =>
                    have hfj : f j = none := by cases hq : f j <;> simp_all
                    have HF3 : Hid (flds propNames 58 (innerL L) (fun _ => none) = flds propNames 58 ((innerL L).drop (k + 1 - 1)) (upd f j v)) := hide (by rw [HT.out, flds_hit HLL.out hplc hfj, show k - 1 + 1 = k + 1 - 1 by omega])
                    have hh : wr.cell? ⟨w.heap.size + 3, j, none⟩ = some (.bool false) := by rw [← hd]; exact HR.out.h.cell (havs_get f hj9)
                    have hhf : wr.frozen? ⟨w.heap.size + 3, j, none⟩ = false := HR.out.h.free
                    have hv := HR.out.v.cell (vals_get f hj9)
                    have hvf : wr.frozen? ⟨w.heap.size + 2, j, none⟩ = false := HR.out.v.free
                    rw [hfj] at hv
                    clear hplc HT hd HLL hfj
                    go_wp2
                    go_quiet ((go_at_call 291; exact Calls.quiet_of (CQ2.out _)))
                    have HRN : Hid (FLoop w g L (upd f j v) _) := hide ((HR.out.drewN nq).put v hgl hj9)
                    have hh2 : (wr.drewN nq).cell? ⟨w.heap.size + 3, j, none⟩ = some (.bool false) := hh
                    have hhf2 : (wr.drewN nq).frozen? ⟨w.heap.size + 3, j, none⟩ = false := hhf
                    have hv2 : ((wr.drewN nq).setCell ⟨w.heap.size + 3, j, none⟩ (.bool true)).cell? ⟨w.heap.size + 2, j, none⟩ = some (.string ⟨([] : List UInt8).toArray⟩) := (World.cell?_setCell_other _ _ _ _ (fun e => by have := congrArg Addr.block e; simp at this)).trans hv
                    have hvf2 : ((wr.drewN nq).setCell ⟨w.heap.size + 3, j, none⟩ (.bool true)).frozen? ⟨w.heap.size + 2, j, none⟩ = false := by rw [World.frozen?_setCell]; exact hvf
                    clear hh hhf hv hvf HR CQ2 hcell
                    go_wp2_with fail
                    go_roundw
                    case rel => exact ⟨k + 1, upd f j v, by omega, by omega, by go_num, HRN, HF3⟩
                    case measure => simp [intOf]; omega
              case neg =>
                have hkl : k + 1 = L.length := by omega
                have HFS : Hid (flds propNames 58 (innerL L) (fun _ => none) = some f) := hide (by rw [HT.out, List.drop_of_length_le (by unfold innerL; rw [List.length_take, List.length_drop]; omega)]; rfl)
                have HF3 : Hid (fieldsF s = if must f && words2 f then some f else none) := hide (by rw [HF2.out, HFS.out])
                have HVS : Hid (∀ j, (val f j).length ≤ 1048576) := hide (flds_small (fun p hp => HLB.out p (List.mem_of_mem_drop (List.mem_of_mem_take hp))) (fun j => by simp) HFS.out)
                clear HT HF2 HFS
                have d0 := HR.out.h.cell (havs_get f (show 0 < 9 by decide))
                have d1 := HR.out.h.cell (havs_get f (show 1 < 9 by decide))
                have d2 := HR.out.h.cell (havs_get f (show 2 < 9 by decide))
                have d3 := HR.out.h.cell (havs_get f (show 3 < 9 by decide))
                have d7 := HR.out.h.cell (havs_get f (show 7 < 9 by decide))
                have d8 := HR.out.h.cell (havs_get f (show 8 < 9 by decide))
                have v0 := HR.out.v.cell (vals_get f (show 0 < 9 by decide))
                have v7 := HR.out.v.cell (vals_get f (show 7 < 9 by decide))
                have v8 := HR.out.v.cell (vals_get f (show 8 < 9 by decide))
                have HM : Hid (must f = ((f 0).isSome && (f 1).isSome && !((f 2).isSome == (f 3).isSome) && nameB ⟨((f 0).getD []).toArray⟩)) := hide rfl
                have HW : Hid (words2 f = (!((f 7).isSome && (decide (wrd ((f 7).getD []) opaqL trspL [] = 0) || decide ((f 7).getD [] = []))) && !((f 8).isSome && decide (wrd ((f 8).getD []) confL tentL cancL = 0)))) := hide rfl
                have CN := Name_any ⟨((f 0).getD []).toArray⟩ wr (small_max (HVS.out 0))
                have C7 := word_any ((f 7).getD []) opaqL trspL [] wr
                have C8 := word_any ((f 8).getD []) confL tentL cancL wr
                generalize hx0 : (f 0).isSome = x0 at *
                generalize hx1 : (f 1).isSome = x1 at *
                generalize hx2 : (f 2).isSome = x2 at *
                generalize hx3 : (f 3).isSome = x3 at *
                generalize hx7 : (f 7).isSome = x7 at *
                generalize hx8 : (f 8).isSome = x8 at *
                generalize hnm : nameB ⟨((f 0).getD []).toArray⟩ = nm at *
                generalize ht7 : wrd ((f 7).getD []) opaqL trspL [] = t7 at *
                generalize ht8 : wrd ((f 8).getD []) confL tentL cancL = t8 at *
                generalize hv0 : (f 0).getD [] = y0 at *
                generalize hv7 : (f 7).getD [] = y7 at *
                generalize hv8 : (f 8).getD [] = y8 at *
                generalize hY0 : (⟨y0.toArray⟩ : ByteArray) = Y0 at *
                generalize hY7 : (⟨y7.toArray⟩ : ByteArray) = Y7 at *
                generalize hY8 : (⟨y8.toArray⟩ : ByteArray) = Y8 at *
                have HY7 := hide hY7
                have CN2 := hide CN
                have C72 := hide C7
                have C82 := hide C8
                clear hx0 hx1 hx2 hx3 hx7 hx8 hnm ht7 ht8 hv0 hv7 hv8 hY0 hY7 hY8 CN C7 C8
                go_upto_region 17 with (first
                  | (go_at_call 189; refine (CN2.out).mono ?_; rintro e w9 ⟨rfl, rfl⟩)
                  | (go_at_call_of 238 (Value.string Y7); refine (C72.out).mono ?_; rintro e w9 ⟨rfl, rfl⟩)
                  | (go_at_call_of 238 (Value.string Y8); refine (C82.out).mono ?_; rintro e w9 ⟨rfl, rfl⟩))
                clear CN2 C72 C82
                cases x0 with
                | false =>
                  have HX : Hid (fieldsF s = none) := hide (by rw [HF3.out, HM.out]; rfl)
                  go_upto_region 18 with fail
                  rename_i K hK
                  refine wp_copies (R1 := w.heap.size) (R2 := w.heap.size + 1) (b5 := w.heap.size + 2) (b6 := w.heap.size + 3) (x := 110) (y := 111) (b := false) (T1 := 241) (T2 := 286) (vs := vals f) (hs := havs f) (by kernel_rfl) (by kernel_rfl)
                    ⟨rfl, ⟨_, rfl, rfl, rfl, rfl⟩, ⟨_, rfl, rfl, rfl, rfl⟩, ⟨_, rfl, rfl, rfl, rfl, ⟨0, .data⟩, by simp, rfl, rfl⟩, ⟨_, rfl, rfl, rfl, rfl, ⟨1, .data⟩, by simp, rfl, rfl⟩, ⟨_, rfl, rfl, rfl, rfl⟩⟩
                    rfl rfl rfl rfl (by show 110 < 135; decide) (by show 111 < 135; decide) (by show 4 < 135; decide) (by decide) (by decide) ⟨by omega, by omega, by omega, by omega, by omega⟩
                    HR.out.v HR.out.h ⟨_, (vals_len _).trans (vals_len _).symm, HR.out.r1⟩ ⟨_, (havs_len _).trans (havs_len _).symm, HR.out.r2⟩ Tryz.underlying241 rfl (by rw [vals_len]; exact infoStr9) (vals_one _) Tryz.underlying286 rfl (by rw [havs_len]; exact infoBool9) (havs_one _) ?_
                  intro w9 q1 q2 q3
                  refine hK _ _ ?_
                  refine wp_ret ?_
                  exact fields_end (f := f) (b := false) q1 q2 (HR.out.below.trans (q3.below HR.out.below.size (fun k hk => by omega))) rfl rfl rfl (fun _ => HX.out) (fun h => by cases h)
                | true =>
                  cases x1 with
                  | false =>
                    have HX : Hid (fieldsF s = none) := hide (by rw [HF3.out, HM.out]; rfl)
                    go_upto_region 18 with fail
                    rename_i K hK
                    refine wp_copies (R1 := w.heap.size) (R2 := w.heap.size + 1) (b5 := w.heap.size + 2) (b6 := w.heap.size + 3) (x := 110) (y := 111) (b := false) (T1 := 241) (T2 := 286) (vs := vals f) (hs := havs f) (by kernel_rfl) (by kernel_rfl)
                      ⟨rfl, ⟨_, rfl, rfl, rfl, rfl⟩, ⟨_, rfl, rfl, rfl, rfl⟩, ⟨_, rfl, rfl, rfl, rfl, ⟨0, .data⟩, by simp, rfl, rfl⟩, ⟨_, rfl, rfl, rfl, rfl, ⟨1, .data⟩, by simp, rfl, rfl⟩, ⟨_, rfl, rfl, rfl, rfl⟩⟩
                      rfl rfl rfl rfl (by show 110 < 135; decide) (by show 111 < 135; decide) (by show 4 < 135; decide) (by decide) (by decide) ⟨by omega, by omega, by omega, by omega, by omega⟩
                      HR.out.v HR.out.h ⟨_, (vals_len _).trans (vals_len _).symm, HR.out.r1⟩ ⟨_, (havs_len _).trans (havs_len _).symm, HR.out.r2⟩ Tryz.underlying241 rfl (by rw [vals_len]; exact infoStr9) (vals_one _) Tryz.underlying286 rfl (by rw [havs_len]; exact infoBool9) (havs_one _) ?_
                    intro w9 q1 q2 q3
                    refine hK _ _ ?_
                    refine wp_ret ?_
                    exact fields_end (f := f) (b := false) q1 q2 (HR.out.below.trans (q3.below HR.out.below.size (fun k hk => by omega))) rfl rfl rfl (fun _ => HX.out) (fun h => by cases h)
                  | true =>
                    cases he : (x2 == x3) with
                    | true =>
                      have HX : Hid (fieldsF s = none) := hide (by rw [HF3.out, HM.out, he]; rfl)
                      go_upto_region 18 with fail
                      rename_i K hK
                      refine wp_copies (R1 := w.heap.size) (R2 := w.heap.size + 1) (b5 := w.heap.size + 2) (b6 := w.heap.size + 3) (x := 110) (y := 111) (b := false) (T1 := 241) (T2 := 286) (vs := vals f) (hs := havs f) (by kernel_rfl) (by kernel_rfl)
                        ⟨rfl, ⟨_, rfl, rfl, rfl, rfl⟩, ⟨_, rfl, rfl, rfl, rfl⟩, ⟨_, rfl, rfl, rfl, rfl, ⟨0, .data⟩, by simp, rfl, rfl⟩, ⟨_, rfl, rfl, rfl, rfl, ⟨1, .data⟩, by simp, rfl, rfl⟩, ⟨_, rfl, rfl, rfl, rfl⟩⟩
                        rfl rfl rfl rfl (by show 110 < 135; decide) (by show 111 < 135; decide) (by show 4 < 135; decide) (by decide) (by decide) ⟨by omega, by omega, by omega, by omega, by omega⟩
                        HR.out.v HR.out.h ⟨_, (vals_len _).trans (vals_len _).symm, HR.out.r1⟩ ⟨_, (havs_len _).trans (havs_len _).symm, HR.out.r2⟩ Tryz.underlying241 rfl (by rw [vals_len]; exact infoStr9) (vals_one _) Tryz.underlying286 rfl (by rw [havs_len]; exact infoBool9) (havs_one _) ?_
                      intro w9 q1 q2 q3
                      refine hK _ _ ?_
                      refine wp_ret ?_
                      exact fields_end (f := f) (b := false) q1 q2 (HR.out.below.trans (q3.below HR.out.below.size (fun k hk => by omega))) rfl rfl rfl (fun _ => HX.out) (fun h => by cases h)
                    | false =>
                      cases nm with
                      | false =>
                        have HX : Hid (fieldsF s = none) := hide (by rw [HF3.out, HM.out, he]; rfl)
                        go_upto_region 18 with fail
                        rename_i K hK
                        refine wp_copies (R1 := w.heap.size) (R2 := w.heap.size + 1) (b5 := w.heap.size + 2) (b6 := w.heap.size + 3) (x := 110) (y := 111) (b := false) (T1 := 241) (T2 := 286) (vs := vals f) (hs := havs f) (by kernel_rfl) (by kernel_rfl)
                          ⟨rfl, ⟨_, rfl, rfl, rfl, rfl⟩, ⟨_, rfl, rfl, rfl, rfl⟩, ⟨_, rfl, rfl, rfl, rfl, ⟨0, .data⟩, by simp, rfl, rfl⟩, ⟨_, rfl, rfl, rfl, rfl, ⟨1, .data⟩, by simp, rfl, rfl⟩, ⟨_, rfl, rfl, rfl, rfl⟩⟩
                          rfl rfl rfl rfl (by show 110 < 135; decide) (by show 111 < 135; decide) (by show 4 < 135; decide) (by decide) (by decide) ⟨by omega, by omega, by omega, by omega, by omega⟩
                          HR.out.v HR.out.h ⟨_, (vals_len _).trans (vals_len _).symm, HR.out.r1⟩ ⟨_, (havs_len _).trans (havs_len _).symm, HR.out.r2⟩ Tryz.underlying241 rfl (by rw [vals_len]; exact infoStr9) (vals_one _) Tryz.underlying286 rfl (by rw [havs_len]; exact infoBool9) (havs_one _) ?_
                        intro w9 q1 q2 q3
                        refine hK _ _ ?_
                        refine wp_ret ?_
                        exact fields_end (f := f) (b := false) q1 q2 (HR.out.below.trans (q3.below HR.out.below.size (fun k hk => by omega))) rfl rfl rfl (fun _ => HX.out) (fun h => by cases h)
                      | true =>
                        have HM2 : Hid (must f = true) := hide (by rw [HM.out, he]; rfl)
                        have HF4 : Hid (fieldsF s = if words2 f then some f else none) := hide (by rw [HF3.out, HM2.out]; rfl)
                        clear HM HM2 HF3
                        go_upto_region 19 with fail
                        cases x7 with
                        | false =>
                          cases x8 with
                          | false =>
                            have HX : Hid (fieldsF s = some f) := hide (by rw [HF4.out, HW.out]; rfl)
                            go_upto_region 21 with fail
                            rename_i K hK
                            refine wp_copies (R1 := w.heap.size) (R2 := w.heap.size + 1) (b5 := w.heap.size + 2) (b6 := w.heap.size + 3) (x := 133) (y := 134) (b := true) (T1 := 241) (T2 := 286) (vs := vals f) (hs := havs f) (by kernel_rfl) (by kernel_rfl)
                              ⟨rfl, ⟨_, rfl, rfl, rfl, rfl⟩, ⟨_, rfl, rfl, rfl, rfl⟩, ⟨_, rfl, rfl, rfl, rfl, ⟨0, .data⟩, by simp, rfl, rfl⟩, ⟨_, rfl, rfl, rfl, rfl, ⟨1, .data⟩, by simp, rfl, rfl⟩, ⟨_, rfl, rfl, rfl, rfl⟩⟩
                              rfl rfl rfl rfl (by show 133 < 135; decide) (by show 134 < 135; decide) (by show 4 < 135; decide) (by decide) (by decide) ⟨by omega, by omega, by omega, by omega, by omega⟩
                              HR.out.v HR.out.h ⟨_, (vals_len _).trans (vals_len _).symm, HR.out.r1⟩ ⟨_, (havs_len _).trans (havs_len _).symm, HR.out.r2⟩ Tryz.underlying241 rfl (by rw [vals_len]; exact infoStr9) (vals_one _) Tryz.underlying286 rfl (by rw [havs_len]; exact infoBool9) (havs_one _) ?_
                            intro w9 q1 q2 q3
                            refine hK _ _ ?_
                            refine wp_ret ?_
                            exact fields_end (f := f) (b := true) q1 q2 (HR.out.below.trans (q3.below HR.out.below.size (fun k hk => by omega))) rfl rfl rfl (fun h => by cases h) (fun _ => HX.out)
                          | true =>
                            by_cases h8 : t8 = 0
                            case pos =>
                              have HX : Hid (fieldsF s = none) := hide (by rw [HF4.out, HW.out, h8]; rfl)
                              subst h8
                              go_upto_region 20 with fail
                              rename_i K hK
                              refine wp_copies (R1 := w.heap.size) (R2 := w.heap.size + 1) (b5 := w.heap.size + 2) (b6 := w.heap.size + 3) (x := 131) (y := 132) (b := false) (T1 := 241) (T2 := 286) (vs := vals f) (hs := havs f) (by kernel_rfl) (by kernel_rfl)
                                ⟨rfl, ⟨_, rfl, rfl, rfl, rfl⟩, ⟨_, rfl, rfl, rfl, rfl⟩, ⟨_, rfl, rfl, rfl, rfl, ⟨0, .data⟩, by simp, rfl, rfl⟩, ⟨_, rfl, rfl, rfl, rfl, ⟨1, .data⟩, by simp, rfl, rfl⟩, ⟨_, rfl, rfl, rfl, rfl⟩⟩
                                rfl rfl rfl rfl (by show 131 < 135; decide) (by show 132 < 135; decide) (by show 4 < 135; decide) (by decide) (by decide) ⟨by omega, by omega, by omega, by omega, by omega⟩
                                HR.out.v HR.out.h ⟨_, (vals_len _).trans (vals_len _).symm, HR.out.r1⟩ ⟨_, (havs_len _).trans (havs_len _).symm, HR.out.r2⟩ Tryz.underlying241 rfl (by rw [vals_len]; exact infoStr9) (vals_one _) Tryz.underlying286 rfl (by rw [havs_len]; exact infoBool9) (havs_one _) ?_
                              intro w9 q1 q2 q3
                              refine hK _ _ ?_
                              refine wp_ret ?_
                              exact fields_end (f := f) (b := false) q1 q2 (HR.out.below.trans (q3.below HR.out.below.size (fun k hk => by omega))) rfl rfl rfl (fun _ => HX.out) (fun h => by cases h)
                            case neg =>
                              have HX : Hid (fieldsF s = some f) := hide (by rw [HF4.out, HW.out]; simp [h8])
                              go_upto_region 21 with fail
                              rename_i K hK
                              refine wp_copies (R1 := w.heap.size) (R2 := w.heap.size + 1) (b5 := w.heap.size + 2) (b6 := w.heap.size + 3) (x := 133) (y := 134) (b := true) (T1 := 241) (T2 := 286) (vs := vals f) (hs := havs f) (by kernel_rfl) (by kernel_rfl)
                                ⟨rfl, ⟨_, rfl, rfl, rfl, rfl⟩, ⟨_, rfl, rfl, rfl, rfl⟩, ⟨_, rfl, rfl, rfl, rfl, ⟨0, .data⟩, by simp, rfl, rfl⟩, ⟨_, rfl, rfl, rfl, rfl, ⟨1, .data⟩, by simp, rfl, rfl⟩, ⟨_, rfl, rfl, rfl, rfl⟩⟩
                                rfl rfl rfl rfl (by show 133 < 135; decide) (by show 134 < 135; decide) (by show 4 < 135; decide) (by decide) (by decide) ⟨by omega, by omega, by omega, by omega, by omega⟩
                                HR.out.v HR.out.h ⟨_, (vals_len _).trans (vals_len _).symm, HR.out.r1⟩ ⟨_, (havs_len _).trans (havs_len _).symm, HR.out.r2⟩ Tryz.underlying241 rfl (by rw [vals_len]; exact infoStr9) (vals_one _) Tryz.underlying286 rfl (by rw [havs_len]; exact infoBool9) (havs_one _) ?_
                              intro w9 q1 q2 q3
                              refine hK _ _ ?_
                              refine wp_ret ?_
                              exact fields_end (f := f) (b := true) q1 q2 (HR.out.below.trans (q3.below HR.out.below.size (fun k hk => by omega))) rfl rfl rfl (fun h => by cases h) (fun _ => HX.out)
                        | true =>
                          by_cases h7 : t7 = 0
                          case pos =>
                            have HX : Hid (fieldsF s = none) := hide (by rw [HF4.out, HW.out, h7]; rfl)
                            subst h7
                            go_upto_region 20 with fail
                            rename_i K hK
                            refine wp_copies (R1 := w.heap.size) (R2 := w.heap.size + 1) (b5 := w.heap.size + 2) (b6 := w.heap.size + 3) (x := 131) (y := 132) (b := false) (T1 := 241) (T2 := 286) (vs := vals f) (hs := havs f) (by kernel_rfl) (by kernel_rfl)
                              ⟨rfl, ⟨_, rfl, rfl, rfl, rfl⟩, ⟨_, rfl, rfl, rfl, rfl⟩, ⟨_, rfl, rfl, rfl, rfl, ⟨0, .data⟩, by simp, rfl, rfl⟩, ⟨_, rfl, rfl, rfl, rfl, ⟨1, .data⟩, by simp, rfl, rfl⟩, ⟨_, rfl, rfl, rfl, rfl⟩⟩
                              rfl rfl rfl rfl (by show 131 < 135; decide) (by show 132 < 135; decide) (by show 4 < 135; decide) (by decide) (by decide) ⟨by omega, by omega, by omega, by omega, by omega⟩
                              HR.out.v HR.out.h ⟨_, (vals_len _).trans (vals_len _).symm, HR.out.r1⟩ ⟨_, (havs_len _).trans (havs_len _).symm, HR.out.r2⟩ Tryz.underlying241 rfl (by rw [vals_len]; exact infoStr9) (vals_one _) Tryz.underlying286 rfl (by rw [havs_len]; exact infoBool9) (havs_one _) ?_
                            intro w9 q1 q2 q3
                            refine hK _ _ ?_
                            refine wp_ret ?_
                            exact fields_end (f := f) (b := false) q1 q2 (HR.out.below.trans (q3.below HR.out.below.size (fun k hk => by omega))) rfl rfl rfl (fun _ => HX.out) (fun h => by cases h)
                          case neg =>
                            by_cases e7 : Y7 = ⟨#[]⟩
                            case pos =>
                              have HX : Hid (fieldsF s = none) := hide (by
                                have hy : y7 = [] := (ba_iff y7 []).1 (HY7.out.trans e7)
                                rw [HF4.out, HW.out, hy]
                                simp)
                              subst e7
                              go_upto_region 20 with fail
                              rename_i K hK
                              refine wp_copies (R1 := w.heap.size) (R2 := w.heap.size + 1) (b5 := w.heap.size + 2) (b6 := w.heap.size + 3) (x := 131) (y := 132) (b := false) (T1 := 241) (T2 := 286) (vs := vals f) (hs := havs f) (by kernel_rfl) (by kernel_rfl)
                                ⟨rfl, ⟨_, rfl, rfl, rfl, rfl⟩, ⟨_, rfl, rfl, rfl, rfl⟩, ⟨_, rfl, rfl, rfl, rfl, ⟨0, .data⟩, by simp, rfl, rfl⟩, ⟨_, rfl, rfl, rfl, rfl, ⟨1, .data⟩, by simp, rfl, rfl⟩, ⟨_, rfl, rfl, rfl, rfl⟩⟩
                                rfl rfl rfl rfl (by show 131 < 135; decide) (by show 132 < 135; decide) (by show 4 < 135; decide) (by decide) (by decide) ⟨by omega, by omega, by omega, by omega, by omega⟩
                                HR.out.v HR.out.h ⟨_, (vals_len _).trans (vals_len _).symm, HR.out.r1⟩ ⟨_, (havs_len _).trans (havs_len _).symm, HR.out.r2⟩ Tryz.underlying241 rfl (by rw [vals_len]; exact infoStr9) (vals_one _) Tryz.underlying286 rfl (by rw [havs_len]; exact infoBool9) (havs_one _) ?_
                              intro w9 q1 q2 q3
                              refine hK _ _ ?_
                              refine wp_ret ?_
                              exact fields_end (f := f) (b := false) q1 q2 (HR.out.below.trans (q3.below HR.out.below.size (fun k hk => by omega))) rfl rfl rfl (fun _ => HX.out) (fun h => by cases h)
                            case neg =>
                              have n7 : ¬ Y7.toList = [] := by simpa using (Lib.bytes_beq_false_iff Y7 ⟨#[]⟩).2 e7
                              have g7 : (Y7.toList == []) = false := beq_eq_false_iff_ne.2 n7
                              have HYN : Hid (¬ y7 = []) := hide (fun e => e7 (by rw [← HY7.out, e]))
                              clear e7
                              cases x8 with
                              | false =>
                                have HX : Hid (fieldsF s = some f) := hide (by rw [HF4.out, HW.out]; simp [h7, HYN.out])
                                go_upto_region 21 with fail
                                rename_i K hK
                                refine wp_copies (R1 := w.heap.size) (R2 := w.heap.size + 1) (b5 := w.heap.size + 2) (b6 := w.heap.size + 3) (x := 133) (y := 134) (b := true) (T1 := 241) (T2 := 286) (vs := vals f) (hs := havs f) (by kernel_rfl) (by kernel_rfl)
                                  ⟨rfl, ⟨_, rfl, rfl, rfl, rfl⟩, ⟨_, rfl, rfl, rfl, rfl⟩, ⟨_, rfl, rfl, rfl, rfl, ⟨0, .data⟩, by simp, rfl, rfl⟩, ⟨_, rfl, rfl, rfl, rfl, ⟨1, .data⟩, by simp, rfl, rfl⟩, ⟨_, rfl, rfl, rfl, rfl⟩⟩
                                  rfl rfl rfl rfl (by show 133 < 135; decide) (by show 134 < 135; decide) (by show 4 < 135; decide) (by decide) (by decide) ⟨by omega, by omega, by omega, by omega, by omega⟩
                                  HR.out.v HR.out.h ⟨_, (vals_len _).trans (vals_len _).symm, HR.out.r1⟩ ⟨_, (havs_len _).trans (havs_len _).symm, HR.out.r2⟩ Tryz.underlying241 rfl (by rw [vals_len]; exact infoStr9) (vals_one _) Tryz.underlying286 rfl (by rw [havs_len]; exact infoBool9) (havs_one _) ?_
                                intro w9 q1 q2 q3
                                refine hK _ _ ?_
                                refine wp_ret ?_
                                exact fields_end (f := f) (b := true) q1 q2 (HR.out.below.trans (q3.below HR.out.below.size (fun k hk => by omega))) rfl rfl rfl (fun h => by cases h) (fun _ => HX.out)
                              | true =>
                                by_cases h8 : t8 = 0
                                case pos =>
                                  have HX : Hid (fieldsF s = none) := hide (by rw [HF4.out, HW.out, h8]; simp)
                                  subst h8
                                  go_upto_region 20 with fail
                                  rename_i K hK
                                  refine wp_copies (R1 := w.heap.size) (R2 := w.heap.size + 1) (b5 := w.heap.size + 2) (b6 := w.heap.size + 3) (x := 131) (y := 132) (b := false) (T1 := 241) (T2 := 286) (vs := vals f) (hs := havs f) (by kernel_rfl) (by kernel_rfl)
                                    ⟨rfl, ⟨_, rfl, rfl, rfl, rfl⟩, ⟨_, rfl, rfl, rfl, rfl⟩, ⟨_, rfl, rfl, rfl, rfl, ⟨0, .data⟩, by simp, rfl, rfl⟩, ⟨_, rfl, rfl, rfl, rfl, ⟨1, .data⟩, by simp, rfl, rfl⟩, ⟨_, rfl, rfl, rfl, rfl⟩⟩
                                    rfl rfl rfl rfl (by show 131 < 135; decide) (by show 132 < 135; decide) (by show 4 < 135; decide) (by decide) (by decide) ⟨by omega, by omega, by omega, by omega, by omega⟩
                                    HR.out.v HR.out.h ⟨_, (vals_len _).trans (vals_len _).symm, HR.out.r1⟩ ⟨_, (havs_len _).trans (havs_len _).symm, HR.out.r2⟩ Tryz.underlying241 rfl (by rw [vals_len]; exact infoStr9) (vals_one _) Tryz.underlying286 rfl (by rw [havs_len]; exact infoBool9) (havs_one _) ?_
                                  intro w9 q1 q2 q3
                                  refine hK _ _ ?_
                                  refine wp_ret ?_
                                  exact fields_end (f := f) (b := false) q1 q2 (HR.out.below.trans (q3.below HR.out.below.size (fun k hk => by omega))) rfl rfl rfl (fun _ => HX.out) (fun h => by cases h)
                                case neg =>
                                  have HX : Hid (fieldsF s = some f) := hide (by rw [HF4.out, HW.out]; simp [h7, h8, HYN.out])
                                  have h7b : (t7 == 0) = false := beq_eq_false_iff_ne.2 h7
                                  have h8b : (t8 == 0) = false := beq_eq_false_iff_ne.2 h8
                                  clear HW HF4 HVS HLB HY7 HYN d0 d1 d2 d3 v0 v8
                                  go_upto_region 21 with fail
                                  rename_i K hK
                                  refine wp_copies (R1 := w.heap.size) (R2 := w.heap.size + 1) (b5 := w.heap.size + 2) (b6 := w.heap.size + 3) (x := 133) (y := 134) (b := true) (T1 := 241) (T2 := 286) (vs := vals f) (hs := havs f) (by kernel_rfl) (by kernel_rfl)
                                    ⟨rfl, ⟨_, rfl, rfl, rfl, rfl⟩, ⟨_, rfl, rfl, rfl, rfl⟩, ⟨_, rfl, rfl, rfl, rfl, ⟨0, .data⟩, by simp, rfl, rfl⟩, ⟨_, rfl, rfl, rfl, rfl, ⟨1, .data⟩, by simp, rfl, rfl⟩, ⟨_, rfl, rfl, rfl, rfl⟩⟩
                                    rfl rfl rfl rfl (by show 133 < 135; decide) (by show 134 < 135; decide) (by show 4 < 135; decide) (by decide) (by decide) ⟨by omega, by omega, by omega, by omega, by omega⟩
                                    HR.out.v HR.out.h ⟨_, (vals_len _).trans (vals_len _).symm, HR.out.r1⟩ ⟨_, (havs_len _).trans (havs_len _).symm, HR.out.r2⟩ Tryz.underlying241 rfl (by rw [vals_len]; exact infoStr9) (vals_one _) Tryz.underlying286 rfl (by rw [havs_len]; exact infoBool9) (havs_one _) ?_
                                  intro w9 q1 q2 q3
                                  refine hK _ _ ?_
                                  refine wp_ret ?_
                                  exact fields_end (f := f) (b := true) q1 q2 (HR.out.below.trans (q3.below HR.out.below.size (fun k hk => by omega))) rfl rfl rfl (fun h => by cases h) (fun _ => HX.out)
end Go.Proofs.YthpndgcaoeokeaaGreatDoor
