/- The document's rule in the memory, by its parts; one part more (fallowref): (*Rule).part. The document's names lie in the memory when the call begins: what the rows' list gives. The document's rule (fallowref.rule): what its loop keeps. -/
import Derived.Test.YthpndgcaoeokeaaGreatDoorE2
import Derived.Test.YthpndgcaoeokeaaGreatDoorE4
import Derived.Test.YthpndgcaoeokeaaGreatDoorOpen1
import Derived.Test.YthpndgcaoeokeaaGreatDoorE1
namespace Go.Proofs.YthpndgcaoeokeaaGreatDoor
open Go.RowKit

def fqO (o : Option (List UInt8)) : Int := match o with | none => 0 | some v => frq v
def ivO (o : Option (List UInt8)) : Int := match o with | none => 1 | some v => sgn v 100
def ctO (o : Option (List UInt8)) : Int := match o with | none => 0 | some v => sgn v 1000
def unO (o : Option (List UInt8)) : Int := match o with | none => -1 | some v => if timeB (ba v) = true then timeN (ba v) else 0
def lsO (m : Int) (sg : Bool) (o : Option (List UInt8)) : List Int := match o with | none => [] | some v => (listF (ba v) m sg).getD []
def dyO (o : Option (List UInt8)) : List Int × List Int := match o with | none => ([], []) | some v => (daysF (ba v)).getD ([], [])
def wkO (o : Option (List UInt8)) : Int := match o with | none => 0 | some v => wdI v
def txO (k : Nat) (o : Option (List UInt8)) : List UInt8 := match o with | none => [] | some v => partNames.getD k [] ++ 61 :: v
/-- a list of numbers of the call's own -/
def OwnI (B : Nat) (w : World) (v : Value) (zs : List Int) : Prop := w.ownsRow B 3 1 v zs.length (zs.map (Value.int .i64)) ∧ zs.length ≤ 1048576
/-- the value of a rule's field j, of the part that gives it -/
def RC (B : Nat) (w : World) (o : Option (List UInt8)) (j : Nat) (v : Value) : Prop := match j with
  | 0 => v = .int .i64 (fqO o)
  | 1 => v = .int .i64 (ivO o)
  | 2 => v = .int .i64 (ctO o)
  | 3 => v = .int .i64 (unO o)
  | 4 => OwnI B w v (lsO 12 false o)
  | 5 => OwnI B w v (lsO 31 true o)
  | 6 => OwnI B w v (lsO 366 true o)
  | 7 => OwnI B w v (dyO o).1 ∧ (o = none → v = .slice none 0 0)
  | 8 => OwnI B w v (dyO o).2 ∧ (o = none → v = .slice none 0 0)
  | 9 => v = .int .i64 (wkO o)
  | _ => False
/-- which part gives field j -/
def pi (j : Nat) : Nat := match j with | 6 => 7 | 7 => 6 | 8 => 6 | 9 => 8 | j => j
structure RuleAt (B : Nat) (w : World) (p : Nat) (f t : Nat → Option (List UInt8)) : Prop where
  cell : ∀ j, j < 10 → ∃ v, w.cell? ⟨p, j, none⟩ = some v ∧ RC B w (f (pi j)) j v
  text : ∀ k, k < 9 → w.cell? ⟨p, 10 + k, none⟩ = some (.string ⟨(txO k (t k)).toArray⟩)
  free : ∀ j, j < 19 → w.frozen? ⟨p, j, none⟩ = false
def upd (f : Nat → Option (List UInt8)) (k : Nat) (v : List UInt8) : Nat → Option (List UInt8) := fun j => if j = k then some v else f j
/-- nineteen cells lie at p -/
def Cells19 (w : World) (p : Nat) : Prop := ∃ cs : List Value, cs.length = 19 ∧ (∀ x ∈ cs, x.oneCell' = true) ∧ w.rangeAt p 0 cs

theorem OwnI.on {B : Nat} {w w' : World} {v : Value} {zs : List Int} (h : OwnI B w v zs) (hk : ∀ g, g < w.heap.size → B ≤ g → w'.heap[g]? = w.heap[g]?) : OwnI B w' v zs := ⟨own_block h.1 hk, h.2⟩
theorem OwnI.form {B : Nat} {w : World} {v : Value} {zs : List Int} (h : OwnI B w v zs) : v.oneCell' = true := by
  obtain ⟨a, n, c, rfl⟩ := own_form h.1
  rfl
theorem RC.on {B : Nat} {w w' : World} {o : Option (List UInt8)} {j : Nat} {v : Value} (h : RC B w o j v) (hk : ∀ g, g < w.heap.size → B ≤ g → w'.heap[g]? = w.heap[g]?) : RC B w' o j v := by
  unfold RC at h ⊢
  split at h
  · exact h
  · exact h
  · exact h
  · exact h
  · exact h.on hk
  · exact h.on hk
  · exact h.on hk
  · exact ⟨h.1.on hk, h.2⟩
  · exact ⟨h.1.on hk, h.2⟩
  · exact h
  · exact h
theorem RC.one {B : Nat} {w : World} {o : Option (List UInt8)} {j : Nat} {v : Value} (h : RC B w o j v) : v.oneCell' = true := by
  unfold RC at h
  split at h
  · rw [h]; rfl
  · rw [h]; rfl
  · rw [h]; rfl
  · rw [h]; rfl
  · exact h.form
  · exact h.form
  · exact h.form
  · exact h.1.form
  · exact h.1.form
  · rw [h]; rfl
  · exact h.elim
/-- one cell each, by a function -/
theorem cells19_of {w : World} {p : Nat} (h : ∀ j, j < 19 → ∃ v, w.cell? ⟨p, j, none⟩ = some v ∧ v.oneCell' = true) : Cells19 w p := by
  have hc : ∃ c : Nat → Value, ∀ j, j < 19 → w.cell? ⟨p, j, none⟩ = some (c j) ∧ (c j).oneCell' = true := by
    refine ⟨fun j => (w.cell? ⟨p, j, none⟩).getD undef, fun j hj => ?_⟩
    obtain ⟨v, h1, h2⟩ := h j hj
    simp only [h1, Option.getD_some]
    exact ⟨trivial, h2⟩
  obtain ⟨c, hc⟩ := hc
  refine ⟨(List.range 19).map c, by simp, fun x hx => ?_, fun j v hv => ?_⟩
  · obtain ⟨j, hj, rfl⟩ := List.mem_map.1 hx
    exact (hc j (List.mem_range.1 hj)).2
  · rw [List.getElem?_map] at hv
    obtain ⟨i, hi, rfl⟩ := Option.map_eq_some_iff.1 hv
    obtain ⟨hlt, he⟩ := List.getElem?_eq_some_iff.1 hi
    rw [List.length_range] at hlt
    rw [List.getElem_range] at he
    subst he
    rw [Nat.zero_add]
    exact (hc _ hlt).1
theorem Cells19.at {w : World} {p : Nat} (h : Cells19 w p) : ∀ j, j < 19 → ∃ v, w.cell? ⟨p, j, none⟩ = some v ∧ v.oneCell' = true := fun j hj => by
  obtain ⟨cs, h1, h2, h3⟩ := h
  have := h3 j cs[j] (List.getElem?_eq_getElem (by omega))
  rw [Nat.zero_add] at this
  exact ⟨_, this, h2 _ (List.getElem_mem _)⟩
theorem RuleAt.cells {B : Nat} {w : World} {p : Nat} {f t : Nat → Option (List UInt8)} (h : RuleAt B w p f t) : Cells19 w p := cells19_of fun j hj => by
  by_cases h10 : j < 10
  · obtain ⟨v, h1, h2⟩ := h.cell j h10
    exact ⟨v, h1, h2.one⟩
  · have := h.text (j - 10) (by omega)
    rw [show 10 + (j - 10) = j from by omega] at this
    exact ⟨_, this, rfl⟩
theorem RuleAt.on {B : Nat} {w w' : World} {p : Nat} {f t : Nat → Option (List UInt8)} (h : RuleAt B w p f t) (hk : ∀ g, g < w.heap.size → (B ≤ g ∨ g = p) → w'.heap[g]? = w.heap[g]?) (hp : p < w.heap.size) : RuleAt B w' p f t := by
  have hkp := hk p hp (.inr rfl)
  refine ⟨fun j hj => ?_, fun k h9 => ?_, fun j hj => ?_⟩
  · obtain ⟨v, h1, h2⟩ := h.cell j hj
    exact ⟨v, (World.cell?_of_block (a := ⟨p, j, none⟩) hkp).trans h1, h2.on fun g hg hB => hk g hg (.inl hB)⟩
  · exact (World.cell?_of_block (a := ⟨p, 10 + k, none⟩) hkp).trans (h.text k h9)
  · exact (World.frozen?_of_block (a := ⟨p, j, none⟩) hkp).trans (h.free j hj)
theorem RuleAt.below {B : Nat} {w w' : World} {p : Nat} {f t : Nat → Option (List UInt8)} (h : RuleAt B w p f t) (hp : p < w.heap.size) (hb : Below w.heap.size w w') : RuleAt B w' p f t := h.on (fun g hg _ => hb.block g hg) hp
theorem RuleAt.other {B : Nat} {w : World} {p q k : Nat} {f t : Nat → Option (List UInt8)} {y : Value} (h : RuleAt B w p f t) (hp : p < w.heap.size) (hq : q < B) (hne : p ≠ q) : RuleAt B (w.setCell ⟨q, k, none⟩ y) p f t :=
  h.on (fun g _ ho => Below.heap_setCell _ _ _ _ (show g ≠ q by rcases ho with ho | rfl <;> omega)) hp
/-- a text is stored -/
theorem RuleAt.putText {B : Nat} {w : World} {p k : Nat} {f t : Nat → Option (List UInt8)} {v : List UInt8} (h : RuleAt B w p f t) (hp : p < B) (h9 : k < 9) :
    RuleAt B (w.setCell ⟨p, 10 + k, none⟩ (.string ⟨(partNames.getD k [] ++ 61 :: v).toArray⟩)) p f (upd t k v) := by
  refine ⟨fun j hj => ?_, fun i hi => ?_, fun j hj => by rw [World.frozen?_setCell]; exact h.free j hj⟩
  · obtain ⟨x, h1, h2⟩ := h.cell j hj
    refine ⟨x, ?_, h2.on fun g _ hB => Below.heap_setCell _ _ _ _ (show g ≠ p by omega)⟩
    rw [World.cell?_setCell_other _ _ _ _ (fun e => by cases e; omega)]
    exact h1
  · by_cases e : i = k
    · subst e
      rw [World.cell?_setCell_same _ _ _ (h.text i hi)]
      simp [upd, txO]
    · rw [World.cell?_setCell_other _ _ _ _ (fun e' => e (by have := congrArg Addr.off e'; simp at this; omega)), h.text i hi]
      simp [upd, e]

theorem PS.exc {p j : Nat} {y : Value} {w w' : World} (h : PS p j y w w') : Exc (fun k => k = p) w w' := ⟨h.sys.1, h.sys.2.1, h.sys.2.2, h.size, fun k hk hn => h.keep k hk hn⟩
theorem DS.exc {p : Nat} {w w' : World} {v7 v8 : Value} {ws os : List Int} (h : DS p w w' v7 v8 ws os) : Exc (fun k => k = p) w w' := ⟨h.sys.1, h.sys.2.1, h.sys.2.2, h.size, fun k hk hn => h.keep k hk hn⟩
theorem upd_same (f : Nat → Option (List UInt8)) (k : Nat) (v : List UInt8) : upd f k v k = some v := by simp [upd]
theorem upd_ne {f : Nat → Option (List UInt8)} {k j : Nat} {v : List UInt8} (h : j ≠ k) : upd f k v j = f j := by simp [upd, h]
/-- one field turned, by the part that gives it -/
theorem RuleAt.ps {B : Nat} {w w' : World} {p j k : Nat} {y : Value} {f t : Nat → Option (List UInt8)} {v : List UInt8} (h : RuleAt B w p f t) (hp : p < B) (hps : PS p j y w w') (hj : j < 10) (hk : pi j = k) (hne : ∀ i, i < 10 → i ≠ j → pi i ≠ k)
    (hy : RC B w' (some v) j y) : RuleAt B w' p (upd f k v) t := by
  refine ⟨fun i hi => ?_, fun i hi => ?_, fun i hi => ?_⟩
  · by_cases e : i = j
    · subst e
      exact ⟨y, hps.c, by rw [hk, upd_same]; exact hy⟩
    · obtain ⟨x, h1, h2⟩ := h.cell i hi
      exact ⟨x, (hps.rest i e).1.trans h1, by rw [upd_ne (hne i hi e)]; exact h2.on fun g hg hB => hps.keep g hg (by omega)⟩
  · exact (hps.rest _ (by omega)).1.trans (h.text i hi)
  · by_cases e : i = j
    · subst e; exact hps.fz.trans (h.free i hi)
    · exact (hps.rest i e).2.trans (h.free i hi)
theorem PS.cells {p j : Nat} {y : Value} {w w' : World} (h : PS p j y w w') (hc : Cells19 w p) (hy : y.oneCell' = true) : Cells19 w' p := cells19_of fun i hi => by
  by_cases e : i = j
  · subst e; exact ⟨y, h.c, hy⟩
  · obtain ⟨v, h1, h2⟩ := hc.at i hi
    exact ⟨v, (h.rest i e).1.trans h1, h2⟩
theorem DS.cells {p : Nat} {w w' : World} {v7 v8 : Value} {ws os : List Int} (h : DS p w w' v7 v8 ws os) (hc : Cells19 w p) : Cells19 w' p := cells19_of fun i hi => by
  by_cases e7 : i = 7
  · subst e7; obtain ⟨a, n, c, rfl⟩ := own_form h.r7; exact ⟨_, h.c7, rfl⟩
  by_cases e8 : i = 8
  · subst e8; obtain ⟨a, n, c, rfl⟩ := own_form h.r8; exact ⟨_, h.c8, rfl⟩
  · obtain ⟨v, h1, h2⟩ := hc.at i hi
    exact ⟨v, (h.rest i e7 e8).1.trans h1, h2⟩
/-- BYDAY -/
theorem RuleAt.ds {B : Nat} {w w' : World} {p : Nat} {v7 v8 : Value} {ws os : List Int} {f t : Nat → Option (List UInt8)} {v : List UInt8} (h : RuleAt B w p f t) (hp : p < B) (hB : B ≤ w.heap.size) (hd : DS p w w' v7 v8 ws os)
    (hv : daysF (ba v) = some (ws, os)) (hl : ws.length ≤ 1048576) (hl2 : os.length ≤ 1048576) : RuleAt B w' p (upd f 6 v) t := by
  refine ⟨fun i hi => ?_, fun i hi => ?_, fun i hi => ?_⟩
  · by_cases e7 : i = 7
    · subst e7
      refine ⟨v7, hd.c7, ?_⟩
      rw [show pi 7 = 6 from rfl, upd_same]
      have e : dyO (some v) = (ws, os) := by simp only [dyO, hv, Option.getD_some]
      exact ⟨by rw [e]; exact ⟨own_mono hd.r7 hB, hl⟩, fun h => by cases h⟩
    by_cases e8 : i = 8
    · subst e8
      refine ⟨v8, hd.c8, ?_⟩
      rw [show pi 8 = 6 from rfl, upd_same]
      have e : dyO (some v) = (ws, os) := by simp only [dyO, hv, Option.getD_some]
      exact ⟨by rw [e]; exact ⟨own_mono hd.r8 hB, hl2⟩, fun h => by cases h⟩
    obtain ⟨x, h1, h2⟩ := h.cell i hi
    have hne : pi i ≠ 6 := by
      have : i = 0 ∨ i = 1 ∨ i = 2 ∨ i = 3 ∨ i = 4 ∨ i = 5 ∨ i = 6 ∨ i = 9 := by omega
      rcases this with rfl | rfl | rfl | rfl | rfl | rfl | rfl | rfl <;> decide
    exact ⟨x, (hd.rest i e7 e8).1.trans h1, by rw [upd_ne hne]; exact h2.on fun g hg hB => hd.keep g hg (by omega)⟩
  · exact (hd.rest _ (by omega) (by omega)).1.trans (h.text i hi)
  · by_cases e7 : i = 7
    · subst e7; exact hd.f7
    by_cases e8 : i = 8
    · subst e8; exact hd.f8
    exact (hd.rest i e7 e8).2.trans (h.free i hi)
theorem pi_ne {j : Nat} (hj : j < 10) (h7 : j ≠ 7) (h8 : j ≠ 8) : ∀ i, i < 10 → i ≠ j → pi i ≠ pi j := by
  intro i hi hij
  have h1 : i = 0 ∨ i = 1 ∨ i = 2 ∨ i = 3 ∨ i = 4 ∨ i = 5 ∨ i = 6 ∨ i = 7 ∨ i = 8 ∨ i = 9 := by omega
  have h2 : j = 0 ∨ j = 1 ∨ j = 2 ∨ j = 3 ∨ j = 4 ∨ j = 5 ∨ j = 6 ∨ j = 9 := by omega
  rcases h1 with rfl | rfl | rfl | rfl | rfl | rfl | rfl | rfl | rfl | rfl <;> rcases h2 with rfl | rfl | rfl | rfl | rfl | rfl | rfl | rfl <;> first | exact absurd rfl hij | decide
theorem dys_len : ∀ {P : List ByteArray} {acc q : List Int × List Int}, dys P acc = some q → q.1.length = acc.1.length + P.length ∧ q.2.length = acc.2.length + P.length
  | [], acc, q, h => by cases h; simp
  | l :: r, acc, q, h => by
    rw [dys] at h
    cases hd : day1 l with
    | none => rw [hd] at h; cases h
    | some z =>
      rw [hd] at h
      have := dys_len (P := r) h
      simp at this ⊢
      omega
theorem daysF_len {s : ByteArray} {q : List Int × List Int} (h : daysF s = some q) : q.1.length ≤ 20 ∧ q.2.length ≤ 20 := by
  unfold daysF at h
  split at h
  · have := dys_len h
    simp at this
    omega
  · cases h

set_option maxRecDepth 100000 in
set_option maxHeartbeats 2000000 in
theorem part4o (p : Nat) (s : ByteArray) (u : Value) (w : World) (hs : s.size ≤ 1048575) (hp : p < w.heap.size) (hc : w.cell? ⟨p, 4, none⟩ = some u) (hf : w.frozen? ⟨p, 4, none⟩ = false) :
    Calls Tryz.prog 293 #[.pointer (some ⟨p, 0, none⟩), .int .i64 4, .string s] w fun e w' => ∃ v b, e = .returned (.bool b) ∧ PS p 4 v w w' ∧ v.oneCell' = true ∧ (b = false → listF s 12 false = none) ∧ (b = true → ∃ zs, listF s 12 false = some zs ∧ w'.ownsRow w.heap.size 3 1 v zs.length (zs.map (Value.int .i64)) ∧ zs.length ≤ 20) := by
  have CQ := hide (list_ref s 12 false w hs)
  go_enter Tryz.func293, Tryz.ntmps293
  go_wp2_with (go_at_call 332; refine (CQ.out).mono ?_; rintro e w2 ⟨va, vn, vc, b, rfl, hb2, hno, hyes⟩; have hc2 := (hb2.cell (p := ⟨p, 4, none⟩) hp).trans hc; have hf2 := (World.frozen?_of_block (a := ⟨p, 4, none⟩) (hb2.block p hp)).trans hf; have HNO := hide hno; have HYES := hide hyes; clear hno hyes)
  go_ret
  exact ⟨_, b, rfl, PS.of hp hb2 hc, rfl, HNO.out, fun h => by obtain ⟨zs, h1, h2, h3⟩ := HYES.out h; exact ⟨zs, h1, own_set h2 hp, h3⟩⟩

set_option maxRecDepth 100000 in
set_option maxHeartbeats 2000000 in
theorem part5o (p : Nat) (s : ByteArray) (u : Value) (w : World) (hs : s.size ≤ 1048575) (hp : p < w.heap.size) (hc : w.cell? ⟨p, 5, none⟩ = some u) (hf : w.frozen? ⟨p, 5, none⟩ = false) :
    Calls Tryz.prog 293 #[.pointer (some ⟨p, 0, none⟩), .int .i64 5, .string s] w fun e w' => ∃ v b, e = .returned (.bool b) ∧ PS p 5 v w w' ∧ v.oneCell' = true ∧ (b = false → listF s 31 true = none) ∧ (b = true → ∃ zs, listF s 31 true = some zs ∧ w'.ownsRow w.heap.size 3 1 v zs.length (zs.map (Value.int .i64)) ∧ zs.length ≤ 20) := by
  have CQ := hide (list_ref s 31 true w hs)
  go_enter Tryz.func293, Tryz.ntmps293
  go_wp2_with (go_at_call 332; refine (CQ.out).mono ?_; rintro e w2 ⟨va, vn, vc, b, rfl, hb2, hno, hyes⟩; have hc2 := (hb2.cell (p := ⟨p, 5, none⟩) hp).trans hc; have hf2 := (World.frozen?_of_block (a := ⟨p, 5, none⟩) (hb2.block p hp)).trans hf; have HNO := hide hno; have HYES := hide hyes; clear hno hyes)
  go_ret
  exact ⟨_, b, rfl, PS.of hp hb2 hc, rfl, HNO.out, fun h => by obtain ⟨zs, h1, h2, h3⟩ := HYES.out h; exact ⟨zs, h1, own_set h2 hp, h3⟩⟩

set_option maxRecDepth 100000 in
set_option maxHeartbeats 2000000 in
theorem part7o (p : Nat) (s : ByteArray) (u : Value) (w : World) (hs : s.size ≤ 1048575) (hp : p < w.heap.size) (hc : w.cell? ⟨p, 6, none⟩ = some u) (hf : w.frozen? ⟨p, 6, none⟩ = false) :
    Calls Tryz.prog 293 #[.pointer (some ⟨p, 0, none⟩), .int .i64 7, .string s] w fun e w' => ∃ v b, e = .returned (.bool b) ∧ PS p 6 v w w' ∧ v.oneCell' = true ∧ (b = false → listF s 366 true = none) ∧ (b = true → ∃ zs, listF s 366 true = some zs ∧ w'.ownsRow w.heap.size 3 1 v zs.length (zs.map (Value.int .i64)) ∧ zs.length ≤ 20) := by
  have CQ := hide (list_ref s 366 true w hs)
  go_enter Tryz.func293, Tryz.ntmps293
  go_wp2_with (go_at_call 332; refine (CQ.out).mono ?_; rintro e w2 ⟨va, vn, vc, b, rfl, hb2, hno, hyes⟩; have hc2 := (hb2.cell (p := ⟨p, 6, none⟩) hp).trans hc; have hf2 := (World.frozen?_of_block (a := ⟨p, 6, none⟩) (hb2.block p hp)).trans hf; have HNO := hide hno; have HYES := hide hyes; clear hno hyes)
  go_ret
  exact ⟨_, b, rfl, PS.of hp hb2 hc, rfl, HNO.out, fun h => by obtain ⟨zs, h1, h2, h3⟩ := HYES.out h; exact ⟨zs, h1, own_set h2 hp, h3⟩⟩

/-- how the reading of a part ends -/
def PartPost (B : Nat) (w : World) (p k : Nat) (f t : Nat → Option (List UInt8)) (v : List UInt8) (e : Ending) (w' : World) : Prop :=
  e = .returned (.bool (partOk k v)) ∧ Exc (fun j => j = p) w w' ∧ Cells19 w' p ∧ (partOk k v = true → RuleAt B w' p (upd f k v) t)
theorem part_any (B p k : Nat) (f t : Nat → Option (List UInt8)) (v : List UInt8) (w : World) (hv : v.length ≤ 1048575) (hB : B ≤ w.heap.size) (hp : p < B) (hk : k < 9) (hfk : f k = none) (h : RuleAt B w p f t) :
    Calls Tryz.prog 293 #[.pointer (some ⟨p, 0, none⟩), .int .i64 k, .string (ba v)] w (PartPost B w p k f t v) := by
  have hs : (ba v).size = v.length := by unfold ba; simp [ByteArray.size]
  have hs' : (ba v).size ≤ maxLen := by rw [hs]; unfold maxLen; omega
  have hs2 : (ba v).size ≤ 1048575 := by omega
  have hpw : p < w.heap.size := by omega
  have hc := h.cells
  have cell : ∀ j, j < 10 → ∃ u, w.cell? ⟨p, j, none⟩ = some u := fun j hj => by obtain ⟨u, h1, _⟩ := h.cell j hj; exact ⟨u, h1⟩
  have hcase : k = 0 ∨ k = 1 ∨ k = 2 ∨ k = 3 ∨ k = 4 ∨ k = 5 ∨ k = 6 ∨ k = 7 ∨ k = 8 := by omega
  rcases hcase with rfl | rfl | rfl | rfl | rfl | rfl | rfl | rfl | rfl
  · obtain ⟨u, hu⟩ := cell 0 (by decide)
    refine (part0 p (ba v) u w hpw hu (h.free 0 (by decide))).mono fun e w' ⟨h1, h2⟩ => ⟨h1, h2.exc, h2.cells hc rfl, fun _ => h.ps hp h2 (by decide) rfl (pi_ne (j := 0) (by decide) (by decide) (by decide)) rfl⟩
  · obtain ⟨u, hu⟩ := cell 1 (by decide)
    refine (part1 p (ba v) u w hs' hpw hu (h.free 1 (by decide))).mono fun e w' ⟨h1, h2⟩ => ⟨h1, h2.exc, h2.cells hc rfl, fun _ => h.ps hp h2 (by decide) rfl (pi_ne (j := 1) (by decide) (by decide) (by decide)) rfl⟩
  · obtain ⟨u, hu⟩ := cell 2 (by decide)
    refine (part2 p (ba v) u w hs' hpw hu (h.free 2 (by decide))).mono fun e w' ⟨h1, h2⟩ => ⟨h1, h2.exc, h2.cells hc rfl, fun _ => h.ps hp h2 (by decide) rfl (pi_ne (j := 2) (by decide) (by decide) (by decide)) rfl⟩
  · obtain ⟨u, hu⟩ := cell 3 (by decide)
    refine (part3 p (ba v) u w hs' hpw hu (h.free 3 (by decide))).mono fun e w' ⟨h1, h2⟩ => ⟨h1, h2.exc, h2.cells hc rfl, fun _ => h.ps hp h2 (by decide) rfl (pi_ne (j := 3) (by decide) (by decide) (by decide)) rfl⟩
  · obtain ⟨u, hu⟩ := cell 4 (by decide)
    refine (part4o p (ba v) u w hs2 hpw hu (h.free 4 (by decide))).mono ?_
    rintro e w' ⟨y, b, rfl, h2, hy, hno, hyes⟩
    cases b with
    | false => exact ⟨by show _ = Ending.returned (.bool (listF (ba v) 12 false).isSome); rw [hno rfl]; rfl, h2.exc, h2.cells hc hy, fun ho => by change (listF (ba v) 12 false).isSome = true at ho; rw [hno rfl] at ho; cases ho⟩
    | true =>
      obtain ⟨zs, z1, z2, z3⟩ := hyes rfl
      have ho : OwnI B w' y zs := ⟨own_mono z2 hB, by omega⟩
      exact ⟨by show _ = Ending.returned (.bool (listF (ba v) 12 false).isSome); rw [z1]; rfl, h2.exc, h2.cells hc hy, fun _ => h.ps hp h2 (by decide) rfl (pi_ne (j := 4) (by decide) (by decide) (by decide)) (by show OwnI B w' y ((listF (ba v) 12 false).getD []); rw [z1]; exact ho)⟩
  · obtain ⟨u, hu⟩ := cell 5 (by decide)
    refine (part5o p (ba v) u w hs2 hpw hu (h.free 5 (by decide))).mono ?_
    rintro e w' ⟨y, b, rfl, h2, hy, hno, hyes⟩
    cases b with
    | false => exact ⟨by show _ = Ending.returned (.bool (listF (ba v) 31 true).isSome); rw [hno rfl]; rfl, h2.exc, h2.cells hc hy, fun ho => by change (listF (ba v) 31 true).isSome = true at ho; rw [hno rfl] at ho; cases ho⟩
    | true =>
      obtain ⟨zs, z1, z2, z3⟩ := hyes rfl
      have ho : OwnI B w' y zs := ⟨own_mono z2 hB, by omega⟩
      exact ⟨by show _ = Ending.returned (.bool (listF (ba v) 31 true).isSome); rw [z1]; rfl, h2.exc, h2.cells hc hy, fun _ => h.ps hp h2 (by decide) rfl (pi_ne (j := 5) (by decide) (by decide) (by decide)) (by show OwnI B w' y ((listF (ba v) 31 true).getD []); rw [z1]; exact ho)⟩
  · obtain ⟨u7, hu7, hr7⟩ := h.cell 7 (by decide)
    obtain ⟨u8, hu8, hr8⟩ := h.cell 8 (by decide)
    obtain rfl := hr7.2 hfk
    obtain rfl := hr8.2 hfk
    refine (part6 p (ba v) w hs2 hpw hu7 hu8 (h.free 7 (by decide)) (h.free 8 (by decide))).mono ?_
    rintro e w' ⟨b, v7, v8, ws, os, rfl, hd, hno, hyes⟩
    cases b with
    | false => exact ⟨by show _ = Ending.returned (.bool (daysF (ba v)).isSome); rw [hno rfl]; rfl, hd.exc, hd.cells hc, fun ho => by change (daysF (ba v)).isSome = true at ho; rw [hno rfl] at ho; cases ho⟩
    | true =>
      have z1 := hyes rfl
      have z2 := daysF_len z1
      exact ⟨by show _ = Ending.returned (.bool (daysF (ba v)).isSome); rw [z1]; rfl, hd.exc, hd.cells hc, fun _ => h.ds hp hB hd z1 (by simp at z2; omega) (by simp at z2; omega)⟩
  · obtain ⟨u, hu⟩ := cell 6 (by decide)
    refine (part7o p (ba v) u w hs2 hpw hu (h.free 6 (by decide))).mono ?_
    rintro e w' ⟨y, b, rfl, h2, hy, hno, hyes⟩
    cases b with
    | false => exact ⟨by show _ = Ending.returned (.bool (listF (ba v) 366 true).isSome); rw [hno rfl]; rfl, h2.exc, h2.cells hc hy, fun ho => by change (listF (ba v) 366 true).isSome = true at ho; rw [hno rfl] at ho; cases ho⟩
    | true =>
      obtain ⟨zs, z1, z2, z3⟩ := hyes rfl
      have ho : OwnI B w' y zs := ⟨own_mono z2 hB, by omega⟩
      exact ⟨by show _ = Ending.returned (.bool (listF (ba v) 366 true).isSome); rw [z1]; rfl, h2.exc, h2.cells hc hy, fun _ => h.ps hp h2 (by decide) rfl (pi_ne (j := 6) (by decide) (by decide) (by decide)) (by show OwnI B w' y ((listF (ba v) 366 true).getD []); rw [z1]; exact ho)⟩
  · obtain ⟨u, hu⟩ := cell 9 (by decide)
    refine (part8 p (ba v) u w hpw hu (h.free 9 (by decide))).mono fun e w' ⟨h1, h2⟩ => ⟨h1, h2.exc, h2.cells hc rfl, fun _ => h.ps hp h2 (by decide) rfl (pi_ne (j := 9) (by decide) (by decide) (by decide)) rfl⟩
end Go.Proofs.YthpndgcaoeokeaaGreatDoor
namespace Go.Proofs.YthpndgcaoeokeaaGreatDoor
open Go.ChangeShapes Go.WideShapes Go.ChangeAt Go.RowKit

theorem laid_strings {P : Program} {W : World} {name : String} {ns : List (List UInt8)} {rest : List (String × DataW Unit)} {g : Nat} {t e : TypeId} {n : Nat}
    (hg : P.globalNamed name = some g) (hty : (P.globals[g]?).map (·.type) = some t) (ht : P.underlying t = some (.array n e)) (he : P.underlying e = some .string) (hce : P.cellsOf e = 1) (hn : ns.length = n)
    (h : laidMet P ((name, .agg (ns.map fun l => .lit (.string l))) :: rest) W) : ∀ j, j < ns.length → W.cell? ⟨g, j, none⟩ = some (.string ⟨(ns.getD j []).toArray⟩) := by
  obtain ⟨ps, ⟨g', t', cs, fuel, p, q, hg', ht', hv, hd, _, _⟩, _⟩ := h
  obtain rfl := Option.some.inj (hg.symm.trans hg')
  obtain rfl := Option.some.inj (hty.symm.trans ht')
  obtain ⟨xs, m, _, ex, _, hl, hel⟩ := DataW.trod_array ht hd
  intro r hr
  have hE := hel r (by omega)
  rw [hce, Nat.mul_one, List.getElem?_eq_getElem (by omega)] at hE
  obtain ⟨z, e1, e2, _⟩ := DataW.trod_string he hE
  have e3 : (xs.map (·.1)) = ns.map fun l => .lit (.string l) := (DataW.agg.inj (Prod.mk.inj ex).1).symm
  have e4 : (xs.map (·.1))[r]? = (ns.map fun l => (DataW.lit (.string l) : DataW Unit))[r]? := by rw [e3]
  rw [List.getElem?_map, List.getElem?_map, List.getElem?_eq_getElem (by omega : r < xs.length), List.getElem?_eq_getElem hr, e2] at e4
  have hz : z = ⟨(ns.getD r []).toArray⟩ := by
    simp only [Option.map_some, Option.some.injEq, DataW.lit.injEq, Lit.string.injEq] at e4
    apply ByteArray.ext
    apply Array.toList_inj.1
    rw [e4]
    simp [List.getD, hr]
  rw [World.var?_cell hg hv r, ← hz]
  have : cs.toList[r]? = some (.string z) := take1 e1
  simpa using this
theorem gProps : Tryz.prog.globalNamed "fallow/fallowref.properties" = some 1 := by kernel_rfl
theorem gParts : Tryz.prog.globalNamed "fallow/fallowref.parts" = some 2 := by kernel_rfl
theorem gPropsType : (Tryz.prog.globals[1]?).map (·.type) = some 241 := by kernel_rfl
theorem gPartsType : (Tryz.prog.globals[2]?).map (·.type) = some 241 := by kernel_rfl
/-- the names of the properties and of the parts lie where they were laid -/
def Names (w : World) : Prop := (∀ j, j < propNames.length → w.cell? ⟨1, j, none⟩ = some (.string ⟨(propNames.getD j []).toArray⟩)) ∧ (∀ j, j < partNames.length → w.cell? ⟨2, j, none⟩ = some (.string ⟨(partNames.getD j []).toArray⟩))
theorem names_of {W : World} {r : List (String × DataW Unit)} (h : laidMet Tryz.prog (("fallow/fallowref.properties", Rows.laid_fallow_fallowref_properties) :: ("fallow/fallowref.parts", Rows.laid_fallow_fallowref_parts) :: r) W) : Names W :=
  ⟨laid_strings gProps gPropsType Tryz.underlying241 Tryz.underlying9 cellsString rfl (show laidMet Tryz.prog (("fallow/fallowref.properties", .agg (propNames.map fun l => .lit (.string l))) :: _) W from h),
   laid_strings gParts gPartsType Tryz.underlying241 Tryz.underlying9 cellsString rfl (show laidMet Tryz.prog (("fallow/fallowref.parts", .agg (partNames.map fun l => .lit (.string l))) :: _) W from h.tail)⟩
end Go.Proofs.YthpndgcaoeokeaaGreatDoor
namespace Go.Proofs.YthpndgcaoeokeaaGreatDoor
open Go.RowKit

theorem flds_hit {ns P : List (List UInt8)} {c : UInt8} {k j : Nat} {l v : List UInt8} {f : Nat → Option (List UInt8)} (h : P[k]? = some l) (hp : plc ns c l = some (j, v)) (hf : f j = none) : flds ns c (P.drop k) f = flds ns c (P.drop (k + 1)) (upd f j v) := by
  obtain ⟨hk, he⟩ := List.getElem?_eq_some_iff.1 h
  rw [List.drop_eq_getElem_cons hk, he, flds, hp]
  simp only [hf]
  rfl
theorem flds_none {ns P : List (List UInt8)} {c : UInt8} {k : Nat} {l : List UInt8} {f : Nat → Option (List UInt8)} (h : P[k]? = some l) (hp : plc ns c l = none) : flds ns c (P.drop k) f = none := by
  obtain ⟨hk, he⟩ := List.getElem?_eq_some_iff.1 h
  rw [List.drop_eq_getElem_cons hk, he, flds, hp]
theorem flds_twice {ns P : List (List UInt8)} {c : UInt8} {k j : Nat} {l v : List UInt8} {f : Nat → Option (List UInt8)} (h : P[k]? = some l) (hp : plc ns c l = some (j, v)) (hf : (f j).isSome = true) : flds ns c (P.drop k) f = none := by
  obtain ⟨hk, he⟩ := List.getElem?_eq_some_iff.1 h
  rw [List.drop_eq_getElem_cons hk, he, flds, hp]
  simp only [hf, if_true]
theorem flds_keeps {ns : List (List UInt8)} {c : UInt8} : ∀ {P : List (List UInt8)} {f F : Nat → Option (List UInt8)} {j : Nat} {v : List UInt8}, flds ns c P f = some F → f j = some v → F j = some v
  | [], f, F, j, v, h, hf => by rw [flds] at h; cases h; exact hf
  | l :: r, f, F, j, v, h, hf => by
    rw [flds] at h
    cases hp : plc ns c l with
    | none => rw [hp] at h; cases h
    | some q =>
      obtain ⟨k, x⟩ := q
      rw [hp] at h
      simp only [] at h
      split at h
      · cases h
      · rename_i hn
        refine flds_keeps h ?_
        by_cases e : j = k
        · subst e; rw [hf] at hn; simp at hn
        · simp [e, hf]
theorem idx_get {n : List UInt8} : ∀ {ns : List (List UInt8)} {k : Nat}, idx ns n = some k → k < ns.length ∧ ns.getD k [] = n
  | [], k, h => by cases h
  | a :: r, k, h => by
    rw [idx] at h
    split at h
    · rename_i e
      cases h
      exact ⟨by simp, by simpa using e⟩
    · obtain ⟨i, hi, rfl⟩ := Option.map_eq_some_iff.1 h
      have := idx_get hi
      exact ⟨by simp; exact this.1, by simpa using this.2⟩
theorem plc_form {ns : List (List UInt8)} {c : UInt8} {l v : List UInt8} {j : Nat} (h : plc ns c l = some (j, v)) : j < ns.length ∧ l = ns.getD j [] ++ c :: v := by
  unfold plc at h
  cases hs : sp c l with
  | none => rw [hs] at h; cases h
  | some q =>
    obtain ⟨n, x⟩ := q
    rw [hs] at h
    simp only [] at h
    obtain ⟨k, hk, he⟩ := Option.map_eq_some_iff.1 h
    cases he
    have h1 := idx_get hk
    exact ⟨h1.1, by rw [h1.2]; exact (sp_some hs).1⟩
/-- which parts are there, in the memory -/
structure HaveAt (w : World) (g : Nat) (f : Nat → Option (List UInt8)) : Prop where
  cell : ∀ k, k < 9 → w.cell? ⟨g, k, none⟩ = some (.bool (f k).isSome)
  free : ∀ k, k < 9 → w.frozen? ⟨g, k, none⟩ = false
theorem HaveAt.on {w w' : World} {g : Nat} {f : Nat → Option (List UInt8)} (h : HaveAt w g f) (hk : w'.heap[g]? = w.heap[g]?) : HaveAt w' g f :=
  ⟨fun k h9 => (World.cell?_of_block (a := ⟨g, k, none⟩) hk).trans (h.cell k h9), fun k h9 => (World.frozen?_of_block (a := ⟨g, k, none⟩) hk).trans (h.free k h9)⟩
theorem HaveAt.put {w : World} {g j : Nat} {f : Nat → Option (List UInt8)} {v : List UInt8} (h : HaveAt w g f) (hj : j < 9) : HaveAt (w.setCell ⟨g, j, none⟩ (.bool true)) g (upd f j v) := by
  refine ⟨fun k h9 => ?_, fun k h9 => by rw [World.frozen?_setCell]; exact h.free k h9⟩
  by_cases e : k = j
  · subst e
    rw [World.cell?_setCell_same _ _ _ (h.cell k h9), upd_same]
    rfl
  · rw [World.cell?_setCell_other _ _ _ _ (fun e' => e (congrArg Addr.off e').symm), upd_ne e]
    exact h.cell k h9
def zero19 : List Value := [.int .i64 0, .int .i64 0, .int .i64 0, .int .i64 0, .slice none 0 0, .slice none 0 0, .slice none 0 0, .slice none 0 0, .slice none 0 0, .int .i64 0, .string ⟨#[]⟩, .string ⟨#[]⟩, .string ⟨#[]⟩, .string ⟨#[]⟩, .string ⟨#[]⟩, .string ⟨#[]⟩, .string ⟨#[]⟩, .string ⟨#[]⟩, .string ⟨#[]⟩]
def rule0 : List Value := [.int .i64 0, .int .i64 1, .int .i64 0, .int .i64 (-1), .slice none 0 0, .slice none 0 0, .slice none 0 0, .slice none 0 0, .slice none 0 0, .int .i64 0, .string ⟨#[]⟩, .string ⟨#[]⟩, .string ⟨#[]⟩, .string ⟨#[]⟩, .string ⟨#[]⟩, .string ⟨#[]⟩, .string ⟨#[]⟩, .string ⟨#[]⟩, .string ⟨#[]⟩]
def bools9 : List Value := [.bool false, .bool false, .bool false, .bool false, .bool false, .bool false, .bool false, .bool false, .bool false]
def noF : Nat → Option (List UInt8) := fun _ => none
theorem own_none (B : Nat) (w : World) : OwnI B w (.slice none 0 0) [] := ⟨World.ownsRow_nil _ _ _ _, by simp⟩
/-- at the beginning -/
theorem rule_begin {w : World} {p B : Nat} (h : RowAt w p rule0 243) : RuleAt B w p noF noF := by
  refine ⟨fun j hj => ?_, fun k hk => ?_, fun j _ => h.free⟩
  · have : j = 0 ∨ j = 1 ∨ j = 2 ∨ j = 3 ∨ j = 4 ∨ j = 5 ∨ j = 6 ∨ j = 7 ∨ j = 8 ∨ j = 9 := by omega
    rcases this with rfl | rfl | rfl | rfl | rfl | rfl | rfl | rfl | rfl | rfl
    · exact ⟨_, h.cell (k := 0) rfl, rfl⟩
    · exact ⟨_, h.cell (k := 1) rfl, rfl⟩
    · exact ⟨_, h.cell (k := 2) rfl, rfl⟩
    · exact ⟨_, h.cell (k := 3) rfl, rfl⟩
    · exact ⟨_, h.cell (k := 4) rfl, own_none _ _⟩
    · exact ⟨_, h.cell (k := 5) rfl, own_none _ _⟩
    · exact ⟨_, h.cell (k := 6) rfl, own_none _ _⟩
    · exact ⟨_, h.cell (k := 7) rfl, own_none _ _, fun _ => rfl⟩
    · exact ⟨_, h.cell (k := 8) rfl, own_none _ _, fun _ => rfl⟩
    · exact ⟨_, h.cell (k := 9) rfl, rfl⟩
  · have : k = 0 ∨ k = 1 ∨ k = 2 ∨ k = 3 ∨ k = 4 ∨ k = 5 ∨ k = 6 ∨ k = 7 ∨ k = 8 := by omega
    rcases this with rfl | rfl | rfl | rfl | rfl | rfl | rfl | rfl | rfl
    · exact h.cell (k := 10) rfl
    · exact h.cell (k := 11) rfl
    · exact h.cell (k := 12) rfl
    · exact h.cell (k := 13) rfl
    · exact h.cell (k := 14) rfl
    · exact h.cell (k := 15) rfl
    · exact h.cell (k := 16) rfl
    · exact h.cell (k := 17) rfl
    · exact h.cell (k := 18) rfl
theorem have_begin {w : World} {g : Nat} {t : TypeId} (h : RowAt w g bools9 t) : HaveAt w g noF := by
  refine ⟨fun k hk => ?_, fun k _ => h.free⟩
  have : k = 0 ∨ k = 1 ∨ k = 2 ∨ k = 3 ∨ k = 4 ∨ k = 5 ∨ k = 6 ∨ k = 7 ∨ k = 8 := by omega
  rcases this with rfl | rfl | rfl | rfl | rfl | rfl | rfl | rfl | rfl
  · exact h.cell (k := 0) rfl
  · exact h.cell (k := 1) rfl
  · exact h.cell (k := 2) rfl
  · exact h.cell (k := 3) rfl
  · exact h.cell (k := 4) rfl
  · exact h.cell (k := 5) rfl
  · exact h.cell (k := 6) rfl
  · exact h.cell (k := 7) rfl
  · exact h.cell (k := 8) rfl
/-- what the loop keeps -/
structure RuleLoop (w1 : World) (B R p hv g : Nat) (P : List ByteArray) (f : Nat → Option (List UInt8)) (wr : World) : Prop where
  rule : RuleAt B wr p f f
  have_ : HaveAt wr hv f
  res : RowAt wr R zero19 243
  strs : StrsAt wr g P
  below : Below R w1 wr
  size : B ≤ wr.heap.size
  ok : ∀ j v, f j = some v → j < 9 ∧ partOk j v = true
/-- a rule that the document has read, as a value -/
def RefRule (N : Nat) (w : World) (v : Value) (F : Nat → Option (List UInt8)) : Prop :=
  ∃ cs : List Value, v = .agg cs.toArray ∧ cs.length = 19 ∧ (∀ x ∈ cs, x.oneCell' = true) ∧ (∀ j, j < 10 → ∃ x B, N ≤ B ∧ cs[j]? = some x ∧ RC B w (F (pi j)) j x) ∧ ∀ k, k < 9 → cs[10 + k]? = some (.string ⟨(txO k (F k)).toArray⟩)
/-- how the reading of a rule ends -/
def RulPost (s : List UInt8) (w : World) (e : Ending) (w' : World) : Prop :=
  Below w.heap.size w w' ∧ ∃ (cs : List Value) (b : Bool), e = .returned (.tuple #[.agg cs.toArray, .bool b]) ∧ cs.length = 19 ∧ (∀ x ∈ cs, x.oneCell' = true) ∧ (b = false → ruleF s = none) ∧ (b = true → ∃ F, ruleF s = some F ∧ RefRule w.heap.size w' (.agg cs.toArray) F)
/-- a part that is not as it must be -/
theorem rule_bad {s : List UInt8} {P : List (List UInt8)} {f : Nat → Option (List UInt8)} {j : Nat} {v : List UInt8} (h : flds partNames 61 (piecesL 59 s) (fun _ => none) = flds partNames 61 P (upd f j v)) (hj : j < 9) (hb : partOk j v = false) : ruleF s = none := by
  unfold ruleF
  rw [h]
  cases hF : flds partNames 61 P (upd f j v) with
  | none => rfl
  | some F =>
    have hk := flds_keeps hF (upd_same f j v)
    simp only []
    rw [if_neg]
    intro hc
    rw [Bool.and_eq_true] at hc
    have := hc.1
    unfold eachOk at this
    rw [List.all_eq_true] at this
    have := this j (List.mem_range.2 hj)
    rw [hk] at this
    simp only [] at this
    rw [hb] at this
    cases this
theorem rule_none {s : List UInt8} (h : flds partNames 61 (piecesL 59 s) (fun _ => none) = none) : ruleF s = none := by
  unfold ruleF; rw [h]
theorem rule_no {s : List UInt8} {f : Nat → Option (List UInt8)} (h : flds partNames 61 (piecesL 59 s) (fun _ => none) = some f) (ha : agree f = false) : ruleF s = none := by
  unfold ruleF; rw [h]; simp only []; rw [ha, Bool.and_false]; rfl
theorem rule_yes {s : List UInt8} {f : Nat → Option (List UInt8)} (h : flds partNames 61 (piecesL 59 s) (fun _ => none) = some f) (hok : ∀ j v, f j = some v → j < 9 ∧ partOk j v = true) (ha : agree f = true) : ruleF s = some f := by
  unfold ruleF; rw [h]; simp only []
  have : eachOk f = true := by
    unfold eachOk
    rw [List.all_eq_true]
    intro k _
    cases hf : f k with
    | none => rfl
    | some v => exact (hok k v hf).2
  rw [ha, this]
  rfl
end Go.Proofs.YthpndgcaoeokeaaGreatDoor
