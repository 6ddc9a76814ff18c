/- Texts that are too long: Check and Instances of any text at all. Texts of lines, read again: of no program. What an event prints, read again: times, the length, the rule. Of no program. What an event prints is no longer than an event may be, and has no end of a line within its lines. Of no program. What an event prints is read as the same event. Of no program. Printed (fallowkeep): the walk. -/
import Derived.Test.YthpndgcaoeokeaaGreatDoorCm27
namespace Go.Proofs.YthpndgcaoeokeaaGreatDoor
open Go.RowKit Go.Sort

set_option maxHeartbeats 1000000 in
theorem instances_big (s : List UInt8) (f t : Int) (w : World) (h2k : ¬ s.length ≤ 2000) :
    Calls Tryz.prog 47 #[.string ⟨s.toArray⟩, .int .i64 f, .int .i64 t] w fun E w' => E = .panicked (rsn 2) ∧ Below w.heap.size w w' := by
  have C := hide fun W => eventsRead_big s W h2k
  clear h2k
  go_enter Tryz.func47, Tryz.ntmps47
  go_wp2_with fail
  refine (C.out _).mono ?_
  rintro e w1 ⟨rfl, hb⟩
  exact ⟨rfl, rfl, ((Below.refl _ _).alloc (Nat.le_refl _) _).trans (hb.mono (by simp))⟩
set_option maxHeartbeats 1000000 in
theorem inst1_big (s : List UInt8) (f t : Int) (p q r : Addr) (w : World) (h2k : ¬ s.length ≤ 2000) (c0 : w.cell? p = some (.string ⟨s.toArray⟩)) (c1 : w.cell? q = some (.int .i64 f)) (c2 : w.cell? r = some (.int .i64 t)) :
    Calls Tryz.prog 46 #[.pointer (some p), .pointer (some q), .pointer (some r)] w fun E w' => E = .panicked (rsn 2) ∧ Below w.heap.size w w' := by
  have C := hide (instances_big s f t w h2k)
  clear h2k
  go_enter Tryz.func46, Tryz.ntmps46
  go_wp2_with fail
  refine (C.out).mono ?_
  rintro e w1 ⟨rfl, hb⟩
  exact ⟨rfl, rfl, hb⟩
set_option maxRecDepth 100000 in
set_option maxHeartbeats 2000000 in
theorem inst_big (s : List UInt8) (f t : Int) (w : World) (h2k : ¬ s.length ≤ 2000) :
    Calls Tryz.prog 23 #[.string ⟨s.toArray⟩, .int .i64 f, .int .i64 t] w fun E w' => E = .returned (.tuple #[.slice none 0 0, .int .i64 2]) ∧ Below w.heap.size w w' := by
  have hmf : ∀ (fn : Fn) (first cap : Array Value) (w : World), (Instr.makeFunc fn first cap).run Tryz.prog w = .ok (.func fn first cap) w := fun _ _ _ _ => rfl
  obtain ⟨W0, hW0⟩ : ∃ W0, W0 = ((w.alloc (.cells #[.string ⟨s.toArray⟩] 9)).alloc (.cells #[.int .i64 f] 3)).alloc (.cells #[.int .i64 t] 3) := ⟨_, rfl⟩
  have hb00 : Below w.heap.size w W0 := by
    subst hW0
    exact (((Below.refl _ _).alloc (Nat.le_refl _) _).alloc (by simp) _).alloc (by simp; omega) _
  have k0 : W0.cell? ⟨w.heap.size, 0, none⟩ = some (.string ⟨s.toArray⟩) ∧ W0.cell? ⟨w.heap.size + 1, 0, none⟩ = some (.int .i64 f) ∧ W0.cell? ⟨w.heap.size + 1 + 1, 0, none⟩ = some (.int .i64 t) ∧ W0.heap.size = w.heap.size + 3 := by
    subst hW0
    refine ⟨?_, ?_, ?_, by simp⟩ <;> simp [go_sem]
  obtain ⟨k0, k1, k2, k3⟩ := k0
  have hcl : ∀ W, Below W0.heap.size W0 W → W.cell? ⟨w.heap.size, 0, none⟩ = some (.string ⟨s.toArray⟩) ∧ W.cell? ⟨w.heap.size + 1, 0, none⟩ = some (.int .i64 f) ∧ W.cell? ⟨w.heap.size + 1 + 1, 0, none⟩ = some (.int .i64 t) := fun W hb =>
    ⟨(hb.cell (by simp; omega)).trans k0, (hb.cell (by simp; omega)).trans k1, (hb.cell (by simp; omega)).trans k2⟩
  have C := hide (answerSpan_no ⟨w.heap.size, 0, none⟩ ⟨w.heap.size + 1, 0, none⟩ ⟨w.heap.size + 1 + 1, 0, none⟩ 2 W0 (fun W hb => inst1_big s f t _ _ _ W h2k (hcl W hb).1 (hcl W hb).2.1 (hcl W hb).2.2))
  replace hW0 := hide hW0
  clear hcl h2k k0 k1 k2 k3
  go_enter Tryz.func23, Tryz.ntmps23
  go_wp2_with fail
  rw [← hW0.out]
  refine (C.out).mono ?_
  rintro e w1 ⟨rfl, hb⟩
  go_wp2_with fail
  go_ret2
  exact ⟨rfl, hb00.trans (hb.mono hb00.size)⟩
/-- Instances of any text -/
theorem inst_all (s : List UInt8) (f t : Int) (w : World) (hm : ML w) (ht : Tab w) :
    Calls Tryz.prog 23 #[.string ⟨s.toArray⟩, .int .i64 f, .int .i64 t] w (InstP s f t w) := by
  by_cases h : s.length ≤ 2000
  · exact instAll_n s f t w hm ht (by omega)
  · have := inst_big s f t w h
    unfold InstP insE
    rw [readF_big h]
    exact this
end Go.Proofs.YthpndgcaoeokeaaGreatDoor
namespace Go.Proofs.YthpndgcaoeokeaaGreatDoor
open Go.RowKit

theorem unf_cons {a : UInt8} (h : a ≠ 13) : ∀ r : List UInt8, unf (a :: r) = a :: unf r
  | [] => rfl
  | [b] => rfl
  | b :: c :: r => by rw [unf, if_neg (fun q => h q.1)]
theorem unf_line (rest : List UInt8) (hr : rest.head? ≠ some 32) : ∀ l : List UInt8, (∀ x ∈ l, x ≠ 13) → unf (l ++ 13 :: 10 :: rest) = l ++ 13 :: 10 :: unf rest
  | [], _ => by
    cases rest with
    | nil => rfl
    | cons c r =>
      have hc : c ≠ 32 := fun q => hr (by rw [q]; rfl)
      rw [List.nil_append, List.nil_append, unf, if_neg (fun q => hc q.2.2), unf_cons (by decide)]
  | a :: l, h => by
    rw [List.cons_append, unf_cons (h a (by simp)), unf_line rest hr l (fun x hx => h x (by simp [hx]))]
    rfl
/-- a line: without an end, and not begun by a blank -/
def LineOk (l : List UInt8) : Prop := (∀ x ∈ l, x ≠ 13) ∧ l.head? ≠ some 32
theorem txl_cons (l : List UInt8) (ls : List (List UInt8)) : txl (l :: ls) = l ++ 13 :: 10 :: txl ls := by unfold txl; simp
theorem txl_head : ∀ ls : List (List UInt8), (∀ l ∈ ls, LineOk l) → (txl ls).head? ≠ some 32
  | [], _ => by simp [txl]
  | [] :: ls, _ => by rw [txl_cons]; simp
  | (a :: l) :: ls, h => by
    rw [txl_cons]
    have := (h (a :: l) (by simp)).2
    simpa using this
theorem unf_txl : ∀ ls : List (List UInt8), (∀ l ∈ ls, LineOk l) → unf (txl ls) = txl ls
  | [], _ => rfl
  | l :: ls, h => by
    rw [txl_cons, unf_line _ (txl_head ls fun x hx => h x (by simp [hx])) l (h l (by simp)).1, unf_txl ls fun x hx => h x (by simp [hx])]
theorem lns_line (rest : List UInt8) : ∀ (l acc : List UInt8), (∀ x ∈ l, x ≠ 13) → lns (l ++ 13 :: 10 :: rest) acc = ((acc ++ l) :: (lns rest []).1, (lns rest []).2)
  | [], acc, _ => by rw [List.nil_append, lns, if_pos ⟨rfl, rfl⟩, List.append_nil]
  | [a], acc, h => by
    have ha := h a (by simp)
    rw [List.cons_append, List.nil_append, lns, if_neg (fun q => ha q.1)]
    have := lns_line rest [] (acc ++ [a]) (by simp)
    rw [List.nil_append] at this
    rw [this, List.append_nil]
  | a :: b :: l, acc, h => by
    have ha := h a (by simp)
    rw [List.cons_append, List.cons_append, lns, if_neg (fun q => ha q.1)]
    have := lns_line rest (b :: l) (acc ++ [a]) (fun x hx => h x (List.mem_cons_of_mem _ hx))
    rw [List.cons_append] at this
    rw [this, List.append_assoc]
    rfl
theorem lns_txl : ∀ ls : List (List UInt8), (∀ l ∈ ls, LineOk l) → lns (txl ls) [] = (ls, true)
  | [], _ => rfl
  | l :: ls, h => by
    rw [txl_cons, lns_line _ l [] (h l (by simp)).1, lns_txl ls fun x hx => h x (by simp [hx])]
    rfl
theorem fields_txl (inner : List (List UInt8)) (h : ∀ l ∈ inner, LineOk l) (hl : (txl (beginL :: inner ++ [endL])).length ≤ 2000) :
    fieldsF (txl (beginL :: inner ++ [endL])) = match flds propNames 58 inner (fun _ => none) with
      | none => none
      | some f => if must f && words2 f then some f else none := by
  have hall : ∀ l ∈ beginL :: inner ++ [endL], LineOk l := fun l hm => by
    simp only [List.cons_append, List.mem_cons, List.mem_append, List.not_mem_nil, or_false] at hm
    rcases hm with rfl | hm | rfl
    · exact ⟨by decide, by decide⟩
    · exact h l hm
    · exact ⟨by decide, by decide⟩
  have e1 := unf_txl _ hall
  have e2 := lns_txl _ hall
  have e3 : evLs (txl (beginL :: inner ++ [endL])) = beginL :: inner ++ [endL] := by unfold evLs; rw [e1, e2]
  have e4 : framed (txl (beginL :: inner ++ [endL])) = true := by
    unfold framed
    rw [e3, e1, e2]
    simp
    exact hl
  have e5 : innerL (beginL :: inner ++ [endL]) = inner := by
    unfold innerL
    simp
  unfold fieldsF
  rw [e4, e3, e5]
  rfl

/-- fields by their places -/
def ofP : List (Nat × List UInt8) → (Nat → Option (List UInt8)) → Nat → Option (List UInt8)
  | [], f => f
  | p :: r, f => ofP r (fun j => if j = p.1 then some p.2 else f j)
theorem flds_ofP (ns : List (List UInt8)) (c : UInt8) : ∀ (ps : List (Nat × List UInt8)) (f : Nat → Option (List UInt8)), (∀ p ∈ ps, plc ns c (ns.getD p.1 [] ++ c :: p.2) = some p) → (ps.map (·.1)).Nodup → (∀ p ∈ ps, f p.1 = none) →
    flds ns c (ps.map fun p => ns.getD p.1 [] ++ c :: p.2) f = some (ofP ps f)
  | [], f, _, _, _ => rfl
  | p :: r, f, h1, h2, h3 => by
    rw [List.map_cons, flds, h1 p (by simp)]
    have h4 := h3 p (by simp)
    simp only [h4, Option.isSome_none, Bool.false_eq_true, if_false]
    rw [List.map_cons, List.nodup_cons] at h2
    rw [ofP]
    refine flds_ofP ns c r _ (fun q hq => h1 q (by simp [hq])) h2.2 (fun q hq => ?_)
    have : q.1 ≠ p.1 := fun e => h2.1 (by rw [← e]; exact List.mem_map.2 ⟨q, hq, rfl⟩)
    rw [if_neg this]
    exact h3 q (by simp [hq])
theorem plc_prop (k : Nat) (v : List UInt8) (h : k < 9) : plc propNames 58 (propNames.getD k [] ++ 58 :: v) = some (k, v) := by
  unfold plc
  have hk : k = 0 ∨ k = 1 ∨ k = 2 ∨ k = 3 ∨ k = 4 ∨ k = 5 ∨ k = 6 ∨ k = 7 ∨ k = 8 := by omega
  rcases hk with rfl | rfl | rfl | rfl | rfl | rfl | rfl | rfl | rfl <;> (rw [sp_at (by decide)]; rfl)
theorem plc_part (k : Nat) (v : List UInt8) (h : k < 9) : plc partNames 61 (partNames.getD k [] ++ 61 :: v) = some (k, v) := by
  unfold plc
  have hk : k = 0 ∨ k = 1 ∨ k = 2 ∨ k = 3 ∨ k = 4 ∨ k = 5 ∨ k = 6 ∨ k = 7 ∨ k = 8 := by omega
  rcases hk with rfl | rfl | rfl | rfl | rfl | rfl | rfl | rfl | rfl <;> (rw [sp_at (by decide)]; rfl)

/-- pieces joined and split again -/
theorem spl_join (c : UInt8) : ∀ ps : List (List UInt8), ps ≠ [] → (∀ p ∈ ps, c ∉ p) → spl c (Lib.join ps [c]) = ps
  | [p], _, h => by
    have : Lib.join [p] [c] = p := by unfold Lib.join; simp
    rw [this, spl_none (h p (by simp))]
  | p :: q :: r, _, h => by
    have e : Lib.join (p :: q :: r) [c] = p ++ c :: Lib.join (q :: r) [c] := by unfold Lib.join; simp [List.intercalate, List.intersperse]
    rw [e, spl_at (h p (by simp)), spl_join c (q :: r) (by simp) (fun x hx => h x (List.mem_cons_of_mem _ hx))]
end Go.Proofs.YthpndgcaoeokeaaGreatDoor
namespace Go.Proofs.YthpndgcaoeokeaaGreatDoor
open Go.RowKit

theorem ptx_in {t : Int} (h0 : 0 ≤ t) (h1 : t ≤ 7258118399) : ptx t = printL t := by
  unfold ptx; rw [if_pos (by unfold isTimeB; simp; omega)]
theorem tim_again {t : Int} (h0 : 0 ≤ t) (h1 : t ≤ 7258118399) : timF (ptx t) = some t := by
  obtain ⟨a, b⟩ := print_ok h0 (show t < 7258118400 by omega)
  rw [ptx_in h0 h1]
  unfold timF ofL
  rw [if_pos (timeB_iff.2 a), b]
theorem pad_dig (k : Nat) : ∀ (n : Int) (x : UInt8), x ∈ pad k n → 48 ≤ x.toNat ∧ x.toNat ≤ 57 := by
  induction k with
  | zero => intro n x h; simp [pad] at h
  | succ k ih =>
    intro n x h
    rw [pad, List.mem_append] at h
    rcases h with h | h
    · exact ih _ _ h
    · simp only [List.mem_singleton] at h
      subst h
      have := dgb n
      omega
/-- a time's letters -/
theorem ptx_ch (t : Int) (x : UInt8) (h : x ∈ ptx t) : (48 ≤ x.toNat ∧ x.toNat ≤ 57) ∨ x = 84 ∨ x = 90 := by
  unfold ptx at h
  split at h
  · unfold printL at h
    simp only [List.mem_append, List.mem_singleton] at h
    rcases h with ((((((h | h) | h) | h) | h) | h) | h) | h
    · exact .inl (pad_dig _ _ _ h)
    · exact .inl (pad_dig _ _ _ h)
    · exact .inl (pad_dig _ _ _ h)
    · exact .inr (.inl h)
    · exact .inl (pad_dig _ _ _ h)
    · exact .inl (pad_dig _ _ _ h)
    · exact .inl (pad_dig _ _ _ h)
    · exact .inr (.inr h)
  · simp at h
theorem rds_ptx : ∀ ex : List Int, (∀ t ∈ ex, 0 ≤ t ∧ t ≤ 7258118399) → rds timF (ex.map ptx) = some ex
  | [], _ => rfl
  | t :: r, h => by
    have h1 := h t (by simp)
    rw [List.map_cons, rds, tim_again h1.1 h1.2, rds_ptx r fun x hx => h x (by simp [hx])]
    rfl
theorem inc_sorted {ex : List Int} (h : Inc ex) : Lib.compact (ex.mergeSort fun x y => decide (x ≤ y)) = ex :=
  inc_eq (sortC ex).1 h (sortC ex).2
theorem tmO_again {ex : List Int} (h0 : ex ≠ []) (h1 : Inc ex) (h2 : ex.length ≤ 20) (h3 : ∀ t ∈ ex, 0 ≤ t ∧ t ≤ 7258118399) : tmO (some (Lib.join (ex.map ptx) [44])) = some ex := by
  rw [times_one]
  unfold tsF lsF
  have e : spl 44 (Lib.join (ex.map ptx) [44]) = ex.map ptx := spl_join 44 _ (by simpa using h0) (fun p hp hc => by
    obtain ⟨t, _, rfl⟩ := List.mem_map.1 hp
    rcases ptx_ch t _ hc with h | h | h <;> simp at h)
  simp only [e]
  rw [if_pos (by rw [List.length_map]; exact h2), rds_ptx ex h3, Option.map_some, inc_sorted h1]
end Go.Proofs.YthpndgcaoeokeaaGreatDoor
namespace Go.Proofs.YthpndgcaoeokeaaGreatDoor
open Go.RowKit

/-- at most n letters, none of them an end of a line -/
def Nice (n : Nat) (v : List UInt8) : Prop := v.length ≤ n ∧ 13 ∉ v
theorem Nice.to {n m : Nat} {v : List UInt8} (h : Nice n v) (hm : n ≤ m) : Nice m v := ⟨Nat.le_trans h.1 hm, h.2⟩
theorem Nice.app {n m : Nat} {u v : List UInt8} (h : Nice n u) (h' : Nice m v) : Nice (n + m) (u ++ v) :=
  ⟨by rw [List.length_append]; have := h.1; have := h'.1; omega, fun q => (List.mem_append.1 q).elim h.2 h'.2⟩

theorem num_nice {l : List UInt8} (h : numB l = true) : Nice 7 l := by
  unfold numB numShape at h
  simp only [Bool.and_eq_true, decide_eq_true_eq] at h
  refine ⟨h.1.1.2, fun hc => ?_⟩
  have h2 := h.2
  unfold digs at h2
  split at h2
  · rename_i ha
    have := List.all_eq_true.1 ha 13 hc
    exact absurd this (by decide)
  · omega
theorem ptx_nice (t : Int) : Nice 16 (ptx t) := by
  refine ⟨?_, fun hc => ?_⟩
  · unfold ptx
    split
    · unfold printL; simp [pad_length]
    · simp
  · rcases ptx_ch t _ hc with h | h | h <;> simp at h
theorem name_nice {u : List UInt8} (h : nameB (ba u) = true) : Nice 12 u := by
  unfold nameB at h
  simp only [Bool.and_eq_true, decide_eq_true_eq] at h
  have e : (ba u).size = u.length := by unfold ba; simp [ByteArray.size]
  refine ⟨by omega, fun hc => ?_⟩
  exact absurd (List.all_eq_true.1 h.1.1 13 hc) (by decide)
end Go.Proofs.YthpndgcaoeokeaaGreatDoor
namespace Go.Proofs.YthpndgcaoeokeaaGreatDoor
open Go.RowKit

/-- fields, by their numbers -/
def op1 (k : Nat) (o : Option (List UInt8)) : List (Nat × List UInt8) := match o with | none => [] | some v => [(k, v)]
theorem op1_mem (k : Nat) (o : Option (List UInt8)) (p : Nat × List UInt8) : p ∈ op1 k o ↔ p.1 = k ∧ o = some p.2 := by
  unfold op1
  cases o with
  | none => simp
  | some v =>
    simp only [List.mem_singleton, Option.some.injEq]
    constructor
    · rintro rfl; exact ⟨rfl, rfl⟩
    · rintro ⟨rfl, rfl⟩; rfl
/-- a property's line -/
def lnP (p : Nat × List UInt8) : List UInt8 := propNames.getD p.1 [] ++ 58 :: p.2
theorem lnP_ok {p : Nat × List UInt8} (h : p.1 < 9) (h2 : 13 ∉ p.2) : LineOk (lnP p) := by
  have e : ∀ k, k < 9 → 13 ∉ propNames.getD k [] ∧ ∃ a r, propNames.getD k [] = a :: r ∧ a ≠ 32 := by
    intro k hk
    have hk' : k = 0 ∨ k = 1 ∨ k = 2 ∨ k = 3 ∨ k = 4 ∨ k = 5 ∨ k = 6 ∨ k = 7 ∨ k = 8 := by omega
    rcases hk' with rfl | rfl | rfl | rfl | rfl | rfl | rfl | rfl | rfl <;> exact ⟨by decide, _, _, rfl, by decide⟩
  obtain ⟨e1, a, r, e2, e3⟩ := e p.1 h
  unfold lnP
  refine ⟨fun x hx q => ?_, ?_⟩
  · subst q
    rcases List.mem_append.1 hx with hx | hx
    · exact e1 hx
    · rcases List.mem_cons.1 hx with hx | hx
      · exact absurd hx (by decide)
      · exact h2 hx
  · rw [e2, List.cons_append, List.head?_cons]
    intro q
    exact e3 (Option.some.inj q)
/-- an event's text by its properties, read -/
theorem fields_ps (ps : List (Nat × List UInt8)) (h1 : ∀ p ∈ ps, p.1 < 9 ∧ 13 ∉ p.2) (h2 : (ps.map (·.1)).Nodup) (hl : (txl (beginL :: ps.map lnP ++ [endL])).length ≤ 2000) :
    fieldsF (txl (beginL :: ps.map lnP ++ [endL])) = if must (ofP ps fun _ => none) && words2 (ofP ps fun _ => none) then some (ofP ps fun _ => none) else none := by
  rw [fields_txl (ps.map lnP) (fun l hm => by
    obtain ⟨p, hp, rfl⟩ := List.mem_map.1 hm
    exact lnP_ok (h1 p hp).1 (h1 p hp).2) hl]
  have e : ps.map lnP = ps.map fun p => propNames.getD p.1 [] ++ 58 :: p.2 := rfl
  rw [e, flds_ofP propNames 58 ps _ (fun p hp => plc_prop p.1 p.2 (h1 p hp).1) h2 (fun _ _ => rfl)]
theorem txl_app (a b : List (List UInt8)) : txl (a ++ b) = txl a ++ txl b := by unfold txl; simp
end Go.Proofs.YthpndgcaoeokeaaGreatDoor
namespace Go.Proofs.YthpndgcaoeokeaaGreatDoor
open Go.RowKit Go.Sort

theorem flatS_get : ∀ (L : List (Int × Int)) (k : Nat) (h : k < L.length), (flatS L)[k * 2]? = some (.int .i64 (L[k]).1) ∧ (flatS L)[k * 2 + 1]? = some (.int .i64 (L[k]).2)
  | p :: r, 0, _ => ⟨rfl, rfl⟩
  | p :: r, k + 1, h => by
    have e : flatS (p :: r) = .int .i64 p.1 :: .int .i64 p.2 :: flatS r := rfl
    have := flatS_get r k (by simpa using h)
    rw [e, show (k + 1) * 2 = k * 2 + 1 + 1 by omega, List.getElem?_cons_succ, List.getElem?_cons_succ, show k * 2 + 1 + 1 + 1 = (k * 2 + 1) + 1 + 1 by omega, List.getElem?_cons_succ, List.getElem?_cons_succ]
    exact this

end Go.Proofs.YthpndgcaoeokeaaGreatDoor
