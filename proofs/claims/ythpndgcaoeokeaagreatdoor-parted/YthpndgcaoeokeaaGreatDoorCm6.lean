/- The program's own: names, choices (package words). The program's own: choices and fields (package words). The program's own: fields (package words). The program's own: the small readers of a rule's parts (package rules), and of times (package events). What the library's Split makes of a text is what the document's split makes of it. The program's own: splitting, one of BYDAY's values (packages strings, rules). The program's own: lists of values (package words). -/
import Derived.Test.YthpndgcaoeokeaaGreatDoorCm5
import Derived.Test.YthpndgcaoeokeaaGreatDoorShelfB
import Derived.Lib.Split
namespace Go.Proofs.YthpndgcaoeokeaaGreatDoor
open Go.RowKit Go.Sort

/-- how the reading of a name ends -/
def nmE (s : ByteArray) (x : Int) : Ending := if nameB s = true then .returned (.string s) else .panicked (rsn x)
theorem nmE_yes {s : ByteArray} {x : Int} (h : nameB s = true) : nmE s x = .returned (.string s) := by unfold nmE; rw [if_pos h]
theorem nmE_no {s : ByteArray} {x : Int} (h : nameB s = false) : nmE s x = .panicked (rsn x) := by unfold nmE; rw [if_neg (by rw [h]; exact Bool.false_ne_true)]

/-- strings.Clone: the same bytes -/
theorem clone_any (s : ByteArray) (w : World) (hs : s.size ≤ 281474976710656) :
    Calls Tryz.prog 132 #[.string s] w fun E w' => E = .returned (.string s) ∧ Below w.heap.size w w' := by
  have C := Tryz.stringslite_Clone s w hs
  go_enter Tryz.func132, Tryz.ntmps132
  go_wp2_with (go_at_call 205; refine C.mono ?_; rintro e w' ⟨rfl, hb⟩)
  go_ret
  exact ⟨rfl, hb⟩

set_option maxRecDepth 100000 in
set_option maxHeartbeats 2000000 in
theorem wordsName_any (s : ByteArray) (x : Int) (w : World) (hs : s.size ≤ maxLen) :
    Calls Tryz.prog 75 #[.string s, .int .i64 x] w fun E w' => E = nmE s x ∧ Below w.heap.size w w' := by
  unfold maxLen at hs
  by_cases h1 : 1 ≤ s.size
  case neg =>
    have h0 : s.size = 0 := by omega
    obtain rfl : s = ⟨#[]⟩ := by
      apply ByteArray.ext
      exact Array.eq_empty_of_size_eq_zero h0
    rw [nmE_no (by rfl)]
    clear h0 h1 hs
    go_enter Tryz.func75, Tryz.ntmps75
    go_wp2_with (go_at_call_of 65 (Value.bool false); refine (unless_no _ _).mono ?_; rintro e w' ⟨rfl, rfl⟩)
    exact ⟨rfl, rfl, Below.refl _ _⟩
  have hne : (s.toList == []) = false := by
    rw [ByteArray.toList_eq, beq_eq_false_iff_ne]
    intro e
    have h3 : s.data.toList.length = 0 := by rw [e]; rfl
    rw [Array.length_toList] at h3
    have h2 : s.data.size = s.size := rfl
    omega
  by_cases h12 : s.size ≤ 12
  case neg =>
    rw [nmE_no (by unfold nameB; simp; intros; omega)]
    have h12' : ¬ (s.size : Int) ≤ 12 := by omega
    go_enter Tryz.func75, Tryz.ntmps75
    go_wp2_with (go_at_call_of 65 (Value.bool false); refine (unless_no _ _).mono ?_; rintro e w' ⟨rfl, rfl⟩)
    exact ⟨rfl, rfl, Below.refl _ _⟩
  have h12' : (s.size : Int) ≤ 12 := by omega
  go_enter Tryz.func75, Tryz.ntmps75
  go_wp2_with (go_at_call_of 65 (Value.bool true); refine (unless_yes _ _).mono ?_; rintro e w' ⟨rfl, rfl⟩)
  go_loop [17] (fun i => ∃ k : Nat, k ≤ s.size ∧ i = .int .i64 (k : Int) ∧ Hid ((s.data.toList.take k).all nameC = true)) (fun i => s.size - (intOf i).toNat)
  case atStart => exact ⟨0, by omega, rfl, hide (by simp)⟩
  case round =>
    obtain ⟨k, hk, rfl, hall⟩ := hrel
    by_cases hlt : k < s.size
    case neg =>
      have hkl : k = s.size := by omega
      subst hkl
      have h2 := hall.out
      rw [take_all] at h2
      have E := hide (nmE_yes (x := x) (show nameB s = true by unfold nameB; rw [h2]; simp [h1, h12]))
      clear h2 hall
      have C := hide (clone_any s w (by omega))
      go_wp2_with (go_at_call 132; refine (C.out).mono ?_; rintro e w2 ⟨rfl, hb⟩)
      go_ret
      exact ⟨by rw [E.out]; rfl, hb⟩
    case pos =>
      cases hn : nameC s[k]
      case false =>
        have e : nameB s = false := by
          unfold nameB
          rw [Bool.and_eq_false_iff]; left
          rw [Bool.and_eq_false_iff]; left
          rw [List.all_eq_false]
          exact ⟨s[k], mem_bytes s k hlt, by rw [hn]; exact Bool.false_ne_true⟩
        have E := hide (nmE_no (x := x) e)
        clear hall e
        unfold nameC at hn
        rw [Bool.or_eq_false_iff] at hn
        obtain ⟨n1, n2⟩ := hn
        by_cases a : 97 ≤ (s[k].toNat : Int)
        · have b : decide ((s[k].toNat : Int) ≤ 122) = false := by rw [decide_eq_true a, Bool.true_and] at n1; exact n1
          clear n1
          go_wp2_with (first
            | (go_at_call 131; refine (isDigit_any _ _).mono ?_; rintro e w' ⟨rfl, rfl⟩; rw [n2])
            | (go_at_call_of 65 (Value.bool false); refine (unless_no _ _).mono ?_; rintro e w' ⟨rfl, rfl⟩))
          exact ⟨rfl, by rw [E.out], Below.refl _ _⟩
        · have a' : decide (97 ≤ (s[k].toNat : Int)) = false := by simpa using a
          clear n1
          go_wp2_with (first
            | (go_at_call 131; refine (isDigit_any _ _).mono ?_; rintro e w' ⟨rfl, rfl⟩; rw [n2])
            | (go_at_call_of 65 (Value.bool false); refine (unless_no _ _).mono ?_; rintro e w' ⟨rfl, rfl⟩))
          exact ⟨rfl, by rw [E.out], Below.refl _ _⟩
      case true =>
        have hall2 : Hid ((s.data.toList.take (k + 1)).all nameC = true) := hide (by rw [take_snoc s k hlt]; simp [hall.out, hn])
        clear hall
        unfold nameC at hn
        cases n2 : (decide (48 ≤ (s[k].toNat : Int)) && decide ((s[k].toNat : Int) ≤ 57))
        · rw [n2, Bool.or_false, Bool.and_eq_true, decide_eq_true_eq, decide_eq_true_eq] at hn
          obtain ⟨a, b⟩ := hn
          go_wp2_with (first
            | (go_at_call 131; refine (isDigit_any _ _).mono ?_; rintro e w' ⟨rfl, rfl⟩; rw [n2])
            | (go_at_call_of 65 (Value.bool true); refine (unless_yes _ _).mono ?_; rintro e w' ⟨rfl, rfl⟩))
          exact ⟨⟨k + 1, by omega, by go_num, hall2⟩, by simp [intOf]; omega⟩
        · clear hn
          go_wp2_with (first
            | (go_at_call 131; refine (isDigit_any _ _).mono ?_; rintro e w' ⟨rfl, rfl⟩; rw [n2])
            | (go_at_call_of 65 (Value.bool true); refine (unless_yes _ _).mono ?_; rintro e w' ⟨rfl, rfl⟩))
          exact ⟨⟨k + 1, by omega, by go_num, hall2⟩, by simp [intOf]; omega⟩

theorem or_yes (v o : ByteArray) (w : World) : Calls Tryz.prog 134 #[.agg #[.string v, .bool true], .string o] w fun E w' => E = .returned (.string v) ∧ Below w.heap.size w w' := by
  go_enter Tryz.func134, Tryz.ntmps134
  go_wp2
  go_ret
  exact ⟨rfl, (Below.refl _ _).alloc (Nat.le_refl _) _⟩
theorem or_no (v o : ByteArray) (w : World) : Calls Tryz.prog 134 #[.agg #[.string v, .bool false], .string o] w fun E w' => E = .returned (.string o) ∧ Below w.heap.size w w' := by
  go_enter Tryz.func134, Tryz.ntmps134
  go_wp2
  go_ret
  exact ⟨rfl, (Below.refl _ _).alloc (Nat.le_refl _) _⟩
end Go.Proofs.YthpndgcaoeokeaaGreatDoor
namespace Go.Proofs.YthpndgcaoeokeaaGreatDoor
open Go.RowKit Go.Sort

/-- names lie in the memory -/
def NamesAt (w : World) (b off : Nat) (ns : List (List UInt8)) : Prop := ∀ j, j < ns.length → w.cell? ⟨b, off + j, none⟩ = some (.string ⟨(ns.getD j []).toArray⟩)
def ofL (l : List UInt8) : ByteArray := ⟨l.toArray⟩
theorem ofL_inj {a b : List UInt8} : ofL a = ofL b ↔ a = b := ba_iff a b
theorem idx_from (l : List UInt8) : ∀ (ns : List (List UInt8)) (i : Nat), Lib.idxFromS (ns.map ofL) (ofL l) i = match idx ns l with | none => -1 | some k => ((i + k : Nat) : Int)
  | [], i => rfl
  | a :: r, i => by
    rw [List.map_cons, Lib.idxFromS, idx]
    by_cases h : a = l
    · rw [if_pos h, if_pos (ofL_inj.2 h)]; rfl
    · rw [if_neg h, if_neg (fun e => h (ofL_inj.1 e)), idx_from l r (i + 1)]
      cases idx r l with
      | none => rfl
      | some k => show ((i + 1 + k : Nat) : Int) = ((i + (k + 1) : Nat) : Int); congr 1; omega
theorem idx_lib (ns : List (List UInt8)) (l : List UInt8) : Lib.idxOfS (ns.map ofL) (ofL l) = match idx ns l with | none => -1 | some k => (k : Int) := by
  unfold Lib.idxOfS; rw [idx_from]
  cases idx ns l with
  | none => rfl
  | some k => simp
theorem getD_ofL (ns : List (List UInt8)) (j : Nat) (h : j < ns.length) : (ns.map ofL).getD j ByteArray.empty = ⟨(ns.getD j []).toArray⟩ := by
  simp [List.getD, h, ofL]
/-- how a choice ends -/
def chE (ns : List (List UInt8)) (l : List UInt8) (x : Int) : Ending := match idx ns l with | none => .panicked (rsn x) | some k => .returned (.int .i64 k)
theorem chE_no {ns : List (List UInt8)} {l : List UInt8} {x : Int} (h : idx ns l = none) : chE ns l x = .panicked (rsn x) := by unfold chE; rw [h]
theorem chE_yes {ns : List (List UInt8)} {l : List UInt8} {x : Int} {k : Nat} (h : idx ns l = some k) : chE ns l x = .returned (.int .i64 k) := by unfold chE; rw [h]

theorem choice_any (b off cap : Nat) (ns : List (List UInt8)) (l : List UInt8) (x : Int) (w : World) (hn : ns.length ≤ 100) (hc : NamesAt w b off ns) :
    Calls Tryz.prog 133 #[.string ⟨l.toArray⟩, .slice (some ⟨b, off, none⟩) ns.length cap, .int .i64 x] w fun E w' => E = chE ns l x ∧ w = w' := by
  have k := Tryz.slices_Index_string b off ns.length cap (ns.map ofL) (ofL l) w (by simp) (by omega) (fun j hj => by rw [List.length_map] at hj; rw [getD_ofL ns j hj]; exact hc j hj)
  rw [List.take_of_length_le (by simp), idx_lib] at k
  cases hi : idx ns l with
  | none =>
    rw [chE_no hi]
    rw [hi] at k
    have K := hide k
    clear k hi hc hn
    go_enter Tryz.func133, Tryz.ntmps133
    go_wp2_with (first
      | (go_at_call 206; refine (K.out).mono ?_; rintro e w' ⟨rfl, rfl⟩)
      | (go_at_call_of 65 (Value.bool false); refine (unless_no _ _).mono ?_; rintro e w' ⟨rfl, rfl⟩))
    exact ⟨rfl, rfl, rfl⟩
  | some i =>
    rw [chE_yes hi]
    rw [hi] at k
    have K := hide k
    clear k hi hc hn
    go_enter Tryz.func133, Tryz.ntmps133
    go_wp2_with (first
      | (go_at_call 206; refine (K.out).mono ?_; rintro e w' ⟨rfl, rfl⟩)
      | (go_at_call_of 65 (Value.bool true); refine (unless_yes _ _).mono ?_; rintro e w' ⟨rfl, rfl⟩))
    go_ret
    exact ⟨rfl, rfl⟩
end Go.Proofs.YthpndgcaoeokeaaGreatDoor
namespace Go.Proofs.YthpndgcaoeokeaaGreatDoor
open Go.RowKit Go.Sort

/-- fields lie in a block: value and whether it is there, for each name -/
structure FieldsAt (w : World) (g : Nat) (f : Nat → Option (List UInt8)) : Prop where
  lt : g < w.heap.size
  val : ∀ k, k < 9 → w.cell? ⟨g, k * 2, none⟩ = some (.string ⟨((f k).getD []).toArray⟩)
  there : ∀ k, k < 9 → w.cell? ⟨g, k * 2 + 1, none⟩ = some (.bool (f k).isSome)
  fv : ∀ k, k < 9 → w.frozen? ⟨g, k * 2, none⟩ = false
  ft : ∀ k, k < 9 → w.frozen? ⟨g, k * 2 + 1, none⟩ = false
/-- how the reading of fields ends -/
def FdPost (ns : List (List UInt8)) (c : UInt8) (ps : List (List UInt8)) (x : Int) (w : World) (E : Ending) (w' : World) : Prop :=
  (match flds ns c ps (fun _ => none) with
  | none => E = .panicked (rsn x)
  | some F => ∃ g, E = .returned (.slice (some ⟨g, 0, none⟩) 9 9) ∧ w.heap.size ≤ g ∧ FieldsAt w' g F) ∧ Below w.heap.size w w'

def row9 : Array Value := #[.string ⟨#[]⟩, .bool false, .string ⟨#[]⟩, .bool false, .string ⟨#[]⟩, .bool false, .string ⟨#[]⟩, .bool false, .string ⟨#[]⟩, .bool false, .string ⟨#[]⟩, .bool false, .string ⟨#[]⟩, .bool false, .string ⟨#[]⟩, .bool false, .string ⟨#[]⟩, .bool false]
theorem make9 (w : World) : (Instr.makeSlice 118 (.int .i64 9) (.int .i64 9)).run Tryz.prog w = .ok (.slice (some ⟨w.heap.size, 0, none⟩) 9 9) (w.alloc (.cells row9 122)) := by
  kernel_rfl

theorem fields0 (w : World) : FieldsAt (w.alloc (.cells row9 122)) w.heap.size (fun _ => none) := by
  refine ⟨by simp, fun k hk => ?_, fun k hk => ?_, fun k hk => by simp [go_sem], fun k hk => by simp [go_sem]⟩
  · have : k = 0 ∨ k = 1 ∨ k = 2 ∨ k = 3 ∨ k = 4 ∨ k = 5 ∨ k = 6 ∨ k = 7 ∨ k = 8 := by omega
    rcases this with rfl | rfl | rfl | rfl | rfl | rfl | rfl | rfl | rfl <;> simp [go_sem, row9]
  · have : k = 0 ∨ k = 1 ∨ k = 2 ∨ k = 3 ∨ k = 4 ∨ k = 5 ∨ k = 6 ∨ k = 7 ∨ k = 8 := by omega
    rcases this with rfl | rfl | rfl | rfl | rfl | rfl | rfl | rfl | rfl <;> simp [go_sem, row9]
theorem names_on {w w' : World} {b off : Nat} {ns : List (List UInt8)} (h : NamesAt w b off ns) (hb : b < w.heap.size) (hx : Below w.heap.size w w') : NamesAt w' b off ns := fun j hj => by
  rw [hx.cell (p := ⟨b, off + j, none⟩) hb]; exact h j hj
theorem idx_lt : ∀ {ns : List (List UInt8)} {n : List UInt8} {k : Nat}, idx ns n = some k → k < ns.length
  | [], n, k, h => by simp [idx] at h
  | a :: r, n, k, h => by
    rw [idx] at h
    by_cases e : a = n
    · rw [if_pos e] at h; cases h; simp
    · rw [if_neg e] at h
      obtain ⟨j, hj, rfl⟩ := Option.map_eq_some_iff.1 h
      have := idx_lt hj
      simp; omega
theorem choice9 (b off cap : Nat) (ns : List (List UInt8)) (l : List UInt8) (x : Int) (w : World) (hn : ns.length = 9) (hc : NamesAt w b off ns) :
    Calls Tryz.prog 133 #[.string ⟨l.toArray⟩, .slice (some ⟨b, off, none⟩) 9 cap, .int .i64 x] w fun E w' => E = chE ns l x ∧ w = w' := by
  have := choice_any b off cap ns l x w (by omega) hc
  rw [hn] at this; exact this
theorem FieldsAt.on {w w' : World} {g : Nat} {f : Nat → Option (List UInt8)} (h : FieldsAt w g f) (hb : Below w.heap.size w w') : FieldsAt w' g f :=
  ⟨Nat.lt_of_lt_of_le h.lt hb.size, fun k hk => by rw [hb.cell (p := ⟨g, k * 2, none⟩) h.lt]; exact h.val k hk, fun k hk => by rw [hb.cell (p := ⟨g, k * 2 + 1, none⟩) h.lt]; exact h.there k hk,
   fun k hk => by rw [hb.frozen (p := ⟨g, k * 2, none⟩) h.lt]; exact h.fv k hk, fun k hk => by rw [hb.frozen (p := ⟨g, k * 2 + 1, none⟩) h.lt]; exact h.ft k hk⟩

theorem addr_ne {g i k : Nat} (h : i ≠ k) : (⟨g, i, none⟩ : Addr) ≠ ⟨g, k, none⟩ := fun e => h (congrArg Addr.off e)
theorem FieldsAt.put {w : World} {g j : Nat} {f : Nat → Option (List UInt8)} (h : FieldsAt w g f) (hj : j < 9) (v : List UInt8) :
    FieldsAt ((w.setCell ⟨g, j * 2, none⟩ (.string ⟨v.toArray⟩)).setCell ⟨g, j * 2 + 1, none⟩ (.bool true)) g (fun i => if i = j then some v else f i) := by
  refine ⟨by rw [setCell_size, setCell_size]; exact h.lt, fun k hk => ?_, fun k hk => ?_, fun k hk => by rw [World.frozen?_setCell, World.frozen?_setCell]; exact h.fv k hk, fun k hk => by rw [World.frozen?_setCell, World.frozen?_setCell]; exact h.ft k hk⟩
  · rw [World.cell?_setCell_other _ _ _ _ (addr_ne (by omega))]
    by_cases e : k = j
    · subst e
      rw [World.cell?_setCell_same _ _ _ (h.val k hk), if_pos rfl]; rfl
    · rw [World.cell?_setCell_other _ _ _ _ (addr_ne (by omega)), if_neg e]; exact h.val k hk
  · by_cases e : k = j
    · subst e
      rw [World.cell?_setCell_same _ _ _ ((World.cell?_setCell_other _ _ _ _ (addr_ne (by omega))).trans (h.there k hk)), if_pos rfl]; rfl
    · rw [World.cell?_setCell_other _ _ _ _ (addr_ne (by omega)), World.cell?_setCell_other _ _ _ _ (addr_ne (by omega)), if_neg e]; exact h.there k hk

set_option maxRecDepth 100000 in
set_option maxHeartbeats 2000000 in
theorem fields_any (b off cap nb noff ncap : Nat) (ns ps : List (List UInt8)) (c : UInt8) (x : Int) (w : World) (hn : ns.length = 9) (hp : ps.length ≤ 1048576) (hs : ∀ l ∈ ps, l.length ≤ 1048576)
    (hb : b < w.heap.size) (hnb : nb < w.heap.size) (hc : NamesAt w b off ps) (hnc : NamesAt w nb noff ns) :
    Calls Tryz.prog 129 #[.slice (some ⟨b, off, none⟩) ps.length cap, .string ⟨#[c]⟩, .slice (some ⟨nb, noff, none⟩) 9 ncap, .int .i64 x] w (FdPost ns c ps x w) := by
  have HC := hide hc
  have HN := hide hnc
  have HS := hide hs
  have HL := hide hn
  clear hc hnc hs hn
  have mk := make9
  go_enter Tryz.func129, Tryz.ntmps129
  go_wp2
  have hf0 : FieldsAt (w.alloc (.cells row9 122)) w.heap.size (fun _ => none) := fields0 w
  go_loopw [21] (fun i wr => ∃ (k : Nat) (f : Nat → Option (List UInt8)), k ≤ ps.length ∧ i = .int .i64 k ∧ FieldsAt wr w.heap.size f ∧ Below w.heap.size w wr ∧ Hid (flds ns c ps (fun _ => none) = flds ns c (ps.drop k) f)) (fun i _ => ps.length - (intOf i).toNat)
  case atStart => exact ⟨0, _, Nat.zero_le _, rfl, hf0, (Below.refl _ _).alloc (Nat.le_refl _) _, hide (by simp)⟩
  case round =>
    obtain ⟨k, f, hk, rfl, hf, hnx, HT⟩ := hrel
    have hB := hnx.size
    clear hf0 mk
    by_cases hlt : k < ps.length
    case neg =>
      have hkl : k = ps.length := by omega
      subst hkl
      have HE : Hid (flds ns c ps (fun _ => none) = some f) := hide (by rw [HT.out, List.drop_length]; rfl)
      clear HT
      go_wp2
      go_ret
      unfold FdPost
      rw [HE.out]
      exact ⟨⟨_, rfl, Nat.le_refl _, hf⟩, hnx⟩
    case pos =>
      obtain ⟨l, hl⟩ : ∃ l, ps[k]? = some l := ⟨_, List.getElem?_eq_getElem hlt⟩
      have hcell : wr.cell? ⟨b, off + k, none⟩ = some (.string ⟨l.toArray⟩) := by
        rw [hnx.cell (p := ⟨b, off + k, none⟩) hb, HC.out k hlt]; simp [List.getD, hl]
      have hll : l.length ≤ maxLen := by have := HS.out l (List.mem_of_getElem? hl); unfold maxLen; omega
      have hd : ps.drop k = l :: ps.drop (k + 1) := by
        obtain ⟨hk', he⟩ := List.getElem?_eq_some_iff.1 hl
        rw [List.drop_eq_getElem_cons hk', he]
      have CC := strCut_any l c wr hll
      unfold cutV at CC
      cases hsp : sp c l with
      | none =>
        have HE : Hid (flds ns c ps (fun _ => none) = none) := hide (by rw [HT.out, hd, flds]; unfold plc; rw [hsp])
        rw [hsp] at CC
        have C := hide CC
        clear HT CC hsp hd hl
        go_wp2_with (first
          | (go_at_call 72; refine (C.out).mono ?_; rintro e w1 ⟨rfl, hb1⟩)
          | (go_at_call_of 65 (Value.bool false); refine (unless_no _ _).mono ?_; rintro e w' ⟨rfl, rfl⟩))
        refine ⟨rfl, ?_⟩
        unfold FdPost
        rw [HE.out]
        exact ⟨rfl, hnx.trans (hb1.mono hB)⟩
      | some q =>
        obtain ⟨n, v⟩ := q
        rw [hsp] at CC
        have C := hide CC
        cases hi : idx ns n with
        | none =>
          have HE : Hid (flds ns c ps (fun _ => none) = none) := hide (by rw [HT.out, hd, flds]; unfold plc; rw [hsp]; simp only []; rw [hi]; rfl)
          have HX := hide (chE_no (x := x) hi)
          clear HT CC hsp hd hl hi
          go_wp2_with (first
            | (go_at_call 72; refine (C.out).mono ?_; rintro e w1 ⟨rfl, hb1⟩)
            | (go_at_call_of 65 (Value.bool true); refine (unless_yes _ _).mono ?_; rintro e w' ⟨rfl, rfl⟩)
            | (go_at_call 133; refine (choice9 nb noff ncap ns n x _ HL.out (names_on HN.out hnb (hnx.trans (hb1.mono hB)))).mono ?_; rw [HX.out]; rintro e w' ⟨rfl, rfl⟩))
          refine ⟨rfl, ?_⟩
          unfold FdPost
          rw [HE.out]
          exact ⟨rfl, hnx.trans (hb1.mono hB)⟩
        | some j =>
          have hj : j < 9 := by have := idx_lt hi; rw [HL.out] at this; exact this
          have HX := hide (chE_yes (x := x) hi)
          cases hfj : (f j).isSome
          case true =>
            have HE : Hid (flds ns c ps (fun _ => none) = none) := hide (by rw [HT.out, hd, flds]; unfold plc; rw [hsp]; simp only []; rw [hi]; simp only [Option.map_some]; rw [if_pos hfj])
            clear HT CC hsp hd hl hi
            go_wp2_with (first
              | (go_at_call 72; refine (C.out).mono ?_; rintro e w1 ⟨rfl, hb1⟩; have ct := (hf.on hb1).there j hj; rw [hfj] at ct)
              | (go_at_call_of 65 (Value.bool true); refine (unless_yes _ _).mono ?_; rintro e w' ⟨rfl, rfl⟩)
              | (go_at_call_of 65 (Value.bool false); refine (unless_no _ _).mono ?_; rintro e w' ⟨rfl, rfl⟩)
              | (go_at_call 133; refine (choice9 nb noff ncap ns n x _ HL.out (names_on HN.out hnb (hnx.trans (hb1.mono hB)))).mono ?_; rw [HX.out]; rintro e w' ⟨rfl, rfl⟩))
            refine ⟨rfl, ?_⟩
            unfold FdPost
            rw [HE.out]
            exact ⟨rfl, hnx.trans (hb1.mono hB)⟩
          case false =>
            have HE : Hid (flds ns c ps (fun _ => none) = flds ns c (ps.drop (k + 1)) (fun i => if i = j then some v else f i)) := hide (by rw [HT.out, hd, flds]; unfold plc; rw [hsp]; simp only []; rw [hi]; simp only [Option.map_some]; rw [if_neg (by rw [hfj]; exact Bool.false_ne_true)])
            clear HT CC hsp hd hl hi
            go_wp2_with (first
              | (go_at_call 72; refine (C.out).mono ?_; rintro e w1 ⟨rfl, hb1⟩; have hf1 := hf.on hb1; have ct := hf1.there j hj; rw [hfj] at ct; have cv := hf1.val j hj; have fv := hf1.fv j hj; have ft := hf1.ft j hj)
              | (go_at_call_of 65 (Value.bool true); refine (unless_yes _ _).mono ?_; rintro e w' ⟨rfl, rfl⟩)
              | (go_at_call 133; refine (choice9 nb noff ncap ns n x _ HL.out (names_on HN.out hnb (hnx.trans (hb1.mono hB)))).mono ?_; rw [HX.out]; rintro e w' ⟨rfl, rfl⟩))
            go_roundw
            case rel => exact ⟨k + 1, _, by omega, by go_num, hf1.put hj v, ((hnx.trans (hb1.mono hB)).setCell (Nat.le_refl _) _).setCell (Nat.le_refl _) _, HE⟩
            case measure => simp [intOf]; omega
end Go.Proofs.YthpndgcaoeokeaaGreatDoor
namespace Go.Proofs.YthpndgcaoeokeaaGreatDoor
open Go.RowKit Go.Sort

/-- a field as a value -/
def fldV (f : Option (List UInt8)) : Value := .agg #[.string ⟨(f.getD []).toArray⟩, .bool f.isSome]
theorem names_new (w : World) (ns : List (List UInt8)) (t : TypeId) : NamesAt (w.alloc (.cells (strs ns).toArray t)) w.heap.size 0 ns := fun j hj => by
  rw [Nat.zero_add]
  simp [go_sem, strs, List.getD, hj]
def freqNames : List (List UInt8) := [[68, 65, 73, 76, 89], [87, 69, 69, 75, 76, 89], [77, 79, 78, 84, 72, 76, 89], [89, 69, 65, 82, 76, 89]]

theorem readFrequency_any (v : List UInt8) (b : Bool) (w : World) :
    Calls Tryz.prog 141 #[.agg #[.string ⟨v.toArray⟩, .bool b]] w fun E w' => E = chE freqNames v 3 ∧ Below w.heap.size w w' := by
  have hsz : (w.alloc (.cells #[.string ⟨v.toArray⟩, .bool b] 122)).heap.size = w.heap.size + 1 := by simp
  have C := hide (choice_any (w.heap.size + 1) 0 4 freqNames v 3 ((w.alloc (.cells #[.string ⟨v.toArray⟩, .bool b] 122)).alloc (.cells (strs freqNames).toArray 9)) (by decide)
    (by have := names_new (w.alloc (.cells #[.string ⟨v.toArray⟩, .bool b] 122)) freqNames 9; rw [hsz] at this; exact this))
  clear hsz
  cases hi : idx freqNames v with
  | none =>
    have HX := hide (chE_no (x := 3) hi)
    rw [HX.out]
    clear hi
    go_enter Tryz.func141, Tryz.ntmps141
    go_wp2_with (go_at_call 133; refine (C.out).mono ?_; rw [HX.out]; rintro e w' ⟨rfl, rfl⟩)
    exact ⟨rfl, rfl, ((Below.refl _ _).alloc (Nat.le_refl _) _).alloc (by simp) _⟩
  | some k =>
    have HX := hide (chE_yes (x := 3) hi)
    rw [HX.out]
    clear hi
    go_enter Tryz.func141, Tryz.ntmps141
    go_wp2_with (go_at_call 133; refine (C.out).mono ?_; rw [HX.out]; rintro e w' ⟨rfl, rfl⟩)
    go_ret
    exact ⟨rfl, ((Below.refl _ _).alloc (Nat.le_refl _) _).alloc (by simp) _⟩

theorem readDayName_any (v : List UInt8) (w : World) :
    Calls Tryz.prog 150 #[.string ⟨v.toArray⟩] w fun E w' => E = chE wdays v 3 ∧ Below w.heap.size w w' := by
  have C := hide fun W => choice_any W.heap.size 0 7 wdays v 3 (W.alloc (.cells (strs wdays).toArray 9)) (by decide) (names_new W wdays 9)
  cases hi : idx wdays v with
  | none =>
    have HX := hide (chE_no (x := 3) hi)
    rw [HX.out]
    clear hi
    go_enter Tryz.func150, Tryz.ntmps150
    go_wp2_with (go_at_call 133; refine (C.out _).mono ?_; rw [HX.out]; rintro e w' ⟨rfl, rfl⟩)
    exact ⟨rfl, rfl, (Below.refl _ _).alloc (Nat.le_refl _) _⟩
  | some k =>
    have HX := hide (chE_yes (x := 3) hi)
    rw [HX.out]
    clear hi
    go_enter Tryz.func150, Tryz.ntmps150
    go_wp2_with (go_at_call 133; refine (C.out _).mono ?_; rw [HX.out]; rintro e w' ⟨rfl, rfl⟩)
    go_ret
    exact ⟨rfl, (Below.refl _ _).alloc (Nat.le_refl _) _⟩

def cntE (f : Option (List UInt8)) : Ending := match f with | none => .returned (.int .i64 0) | some v => wiE v 1 1000 3
theorem readCount_any (f : Option (List UInt8)) (w : World) (hf : (f.getD []).length ≤ maxLen) :
    Calls Tryz.prog 143 #[fldV f] w fun E w' => E = cntE f ∧ Below w.heap.size w w' := by
  cases f with
  | none =>
    unfold fldV cntE
    go_enter Tryz.func143, Tryz.ntmps143
    go_wp2
    go_ret
    exact ⟨rfl, (Below.refl _ _).alloc (Nat.le_refl _) _⟩
  | some v =>
    have k := fun W => numberWithin_any v 1 1000 3 W hf
    unfold fldV cntE
    cases hw : wiB v 1 1000
    · have HX := hide (wiE_no (x := 3) hw)
      simp only []
      rw [HX.out]
      rw [HX.out] at k
      have C := hide k
      clear k hw hf HX
      go_enter Tryz.func143, Tryz.ntmps143
      go_wp2_with (go_at_call 142; refine (C.out _).mono ?_; rintro e w' ⟨rfl, rfl⟩)
      exact ⟨rfl, rfl, (Below.refl _ _).alloc (Nat.le_refl _) _⟩
    · have HX := hide (wiE_yes (x := 3) hw)
      simp only []
      rw [HX.out]
      rw [HX.out] at k
      have C := hide k
      clear k hw hf HX
      go_enter Tryz.func143, Tryz.ntmps143
      go_wp2_with (go_at_call 142; refine (C.out _).mono ?_; rintro e w' ⟨rfl, rfl⟩)
      go_ret
      exact ⟨rfl, (Below.refl _ _).alloc (Nat.le_refl _) _⟩

def untE (f : Option (List UInt8)) : Ending := match f with
  | none => .returned (.int .i64 9223372036854775807)
  | some v => if timeB (ofL v) = true then .returned (.int .i64 (timeN (ofL v))) else .panicked (rsn 3)
theorem readUntil_any (f : Option (List UInt8)) (w : World) :
    Calls Tryz.prog 144 #[fldV f] w fun E w' => E = untE f ∧ Below w.heap.size w w' := by
  cases f with
  | none =>
    unfold fldV untE
    go_enter Tryz.func144, Tryz.ntmps144
    go_wp2
    go_ret
    exact ⟨rfl, (Below.refl _ _).alloc (Nat.le_refl _) _⟩
  | some v =>
    have k := fun W => parse_any (ofL v) W
    unfold fldV untE
    simp only []
    by_cases ht : timeB (ofL v) = true
    · rw [parseV_yes (timeB_iff.1 ht)] at k
      rw [if_pos ht]
      have C := hide k
      clear k ht
      go_enter Tryz.func144, Tryz.ntmps144
      go_wp2_with (first
        | (go_at_call 19; refine (C.out _).mono ?_; rintro e w1 ⟨rfl, hb1⟩)
        | (go_at_call_of 65 (Value.bool true); refine (unless_yes _ _).mono ?_; rintro e w' ⟨rfl, rfl⟩))
      go_ret
      exact ⟨rfl, ((Below.refl _ _).alloc (Nat.le_refl _) _).trans (hb1.mono (by simp))⟩
    · rw [parseV_no (fun h => ht (timeB_iff.2 h))] at k
      rw [if_neg ht]
      have C := hide k
      clear k ht
      go_enter Tryz.func144, Tryz.ntmps144
      go_wp2_with (first
        | (go_at_call 19; refine (C.out _).mono ?_; rintro e w1 ⟨rfl, hb1⟩)
        | (go_at_call_of 65 (Value.bool false); refine (unless_no _ _).mono ?_; rintro e w' ⟨rfl, rfl⟩))
      exact ⟨rfl, rfl, ((Below.refl _ _).alloc (Nat.le_refl _) _).trans (hb1.mono (by simp))⟩

theorem readMonth_any (v : List UInt8) (w : World) (hl : v.length ≤ maxLen) :
    Calls Tryz.prog 145 #[.string ⟨v.toArray⟩] w fun E w' => E = wiE v 1 12 3 ∧ Below w.heap.size w w' := by
  have k := fun W => numberWithin_any v 1 12 3 W hl
  cases hw : wiB v 1 12
  · rw [wiE_no hw] at k ⊢
    have C := hide k
    clear k hw hl
    go_enter Tryz.func145, Tryz.ntmps145
    go_wp2_with (go_at_call 142; refine (C.out _).mono ?_; rintro e w' ⟨rfl, rfl⟩)
    exact ⟨rfl, rfl, Below.refl _ _⟩
  · rw [wiE_yes hw] at k ⊢
    have C := hide k
    clear k hw hl
    go_enter Tryz.func145, Tryz.ntmps145
    go_wp2_with (go_at_call 142; refine (C.out _).mono ?_; rintro e w' ⟨rfl, rfl⟩)
    go_ret
    exact ⟨rfl, Below.refl _ _⟩
theorem readMonthDay_any (v : List UInt8) (w : World) (hl : v.length ≤ maxLen) :
    Calls Tryz.prog 146 #[.string ⟨v.toArray⟩] w fun E w' => E = sgE v 31 3 ∧ Below w.heap.size w w' := by
  have k := fun W => wordsSigned_any v 31 3 W hl
  by_cases hw : sgn v 31 = 0
  · rw [sgE_no hw] at k ⊢
    have C := hide k
    clear k hw hl
    go_enter Tryz.func146, Tryz.ntmps146
    go_wp2_with (go_at_call 210; refine (C.out _).mono ?_; rintro e w' ⟨rfl, rfl⟩)
    exact ⟨rfl, rfl, Below.refl _ _⟩
  · rw [sgE_yes hw] at k ⊢
    have C := hide k
    clear k hw hl
    go_enter Tryz.func146, Tryz.ntmps146
    go_wp2_with (go_at_call 210; refine (C.out _).mono ?_; rintro e w' ⟨rfl, rfl⟩)
    go_ret
    exact ⟨rfl, Below.refl _ _⟩
theorem readPlace_any (v : List UInt8) (w : World) (hl : v.length ≤ maxLen) :
    Calls Tryz.prog 149 #[.string ⟨v.toArray⟩] w fun E w' => E = sgE v 366 3 ∧ Below w.heap.size w w' := by
  have k := fun W => wordsSigned_any v 366 3 W hl
  by_cases hw : sgn v 366 = 0
  · rw [sgE_no hw] at k ⊢
    have C := hide k
    clear k hw hl
    go_enter Tryz.func149, Tryz.ntmps149
    go_wp2_with (go_at_call 210; refine (C.out _).mono ?_; rintro e w' ⟨rfl, rfl⟩)
    exact ⟨rfl, rfl, Below.refl _ _⟩
  · rw [sgE_yes hw] at k ⊢
    have C := hide k
    clear k hw hl
    go_enter Tryz.func149, Tryz.ntmps149
    go_wp2_with (go_at_call 210; refine (C.out _).mono ?_; rintro e w' ⟨rfl, rfl⟩)
    go_ret
    exact ⟨rfl, Below.refl _ _⟩
theorem eventsTime_any (s : ByteArray) (w : World) :
    Calls Tryz.prog 78 #[.string s] w fun E w' => E = timeE s ∧ Below w.heap.size w w' := by
  have k := fun W => parse_any s W
  by_cases ht : timeB s = true
  · rw [parseV_yes (timeB_iff.1 ht)] at k
    rw [timeE_yes (timeB_iff.1 ht)]
    have C := hide k
    clear k ht
    go_enter Tryz.func78, Tryz.ntmps78
    go_wp2_with (first
      | (go_at_call 19; refine (C.out _).mono ?_; rintro e w1 ⟨rfl, hb1⟩)
      | (go_at_call_of 65 (Value.bool true); refine (unless_yes _ _).mono ?_; rintro e w' ⟨rfl, rfl⟩))
    go_ret
    exact ⟨rfl, hb1⟩
  · rw [parseV_no (fun h => ht (timeB_iff.2 h))] at k
    rw [timeE_no (fun h => ht (timeB_iff.2 h))]
    have C := hide k
    clear k ht
    go_enter Tryz.func78, Tryz.ntmps78
    go_wp2_with (first
      | (go_at_call 19; refine (C.out _).mono ?_; rintro e w1 ⟨rfl, hb1⟩)
      | (go_at_call_of 65 (Value.bool false); refine (unless_no _ _).mono ?_; rintro e w' ⟨rfl, rfl⟩))
    exact ⟨rfl, rfl, hb1⟩
end Go.Proofs.YthpndgcaoeokeaaGreatDoor
namespace Go.Proofs.YthpndgcaoeokeaaGreatDoor
open Go.Lib

/-- the pieces between the bytes c -/
def spl (c : UInt8) : List UInt8 → List (List UInt8)
  | [] => [[]]
  | a :: r => if a = c then [] :: spl c r else match spl c r with | [] => [[a]] | h :: t => (a :: h) :: t
theorem spl_ne (c : UInt8) (l : List UInt8) : spl c l ≠ [] := by
  cases l with
  | nil => simp [spl]
  | cons a r =>
    rw [spl]
    split
    · simp
    · split <;> simp
/-- the first piece grows at its head -/
def glue (acc : List UInt8) : List (List UInt8) → List (List UInt8)
  | [] => [acc]
  | h :: t => (acc ++ h) :: t
theorem glue_nil {l : List (List UInt8)} (h : l ≠ []) : glue [] l = l := by
  cases l with
  | nil => exact absurd rfl h
  | cons a t => rfl
theorem glue_hit {c a : UInt8} {acc r : List UInt8} (h : a = c) : glue acc (spl c (a :: r)) = acc :: spl c r := by
  rw [spl, if_pos h]; simp [glue]
theorem glue_miss {c a : UInt8} {acc r : List UInt8} (h : ¬ a = c) : glue acc (spl c (a :: r)) = glue (acc ++ [a]) (spl c r) := by
  rw [spl, if_neg h]
  cases hs : spl c r with
  | nil => exact absurd hs (spl_ne c r)
  | cons x t => simp [glue]
theorem spf_spl (s : ByteArray) (c : UInt8) : ∀ k, k ≤ s.size → (spf s c.toNat k).2.map (·.data.toList) ++ glue (cut s (spf s c.toNat k).1 (k - (spf s c.toNat k).1)) (spl c (s.data.toList.drop k)) = spl c s.data.toList
  | 0, _ => by simp [spf, cut, glue_nil (spl_ne c _)]
  | k + 1, hk => by
    have ih := spf_spl s c k (by omega)
    have hf := (spf_le s c.toNat k).1
    rw [drop_cons s k (by omega)] at ih
    by_cases h : s[k]'(by omega) = c
    · have h' : at0 s k = (c.toNat : Int) := by rw [← at0_get s k (by omega), h]
      rw [glue_hit h] at ih
      rw [spf_hit h', ← ih]
      simp only [Nat.sub_self, List.map_append, List.map_cons, List.map_nil, extract_cut, List.append_assoc, List.singleton_append]
      rw [show cut s (k + 1) 0 = [] from by simp [cut], glue_nil (spl_ne c _)]
    · have h' : ¬ at0 s k = (c.toNat : Int) := fun e => by
        rw [← at0_get s k (by omega)] at e
        exact h (UInt8.toNat_inj.1 (by omega))
      rw [glue_miss h] at ih
      rw [spf_miss h', ← ih, show k + 1 - (spf s c.toNat k).1 = (k - (spf s c.toNat k).1) + 1 from by omega, cut_snoc s _ _ (by omega)]
      have : s[(spf s c.toNat k).1 + (k - (spf s c.toNat k).1)]'(by omega) = s[k]'(by omega) := by congr 1; omega
      rw [this]
theorem splitF_spl (s : ByteArray) (c : UInt8) : (splitF s c.toNat).map (·.data.toList) = spl c s.data.toList := by
  have h := spf_spl s c s.size (Nat.le_refl _)
  rw [dropE] at h
  rw [← h]
  unfold splitF
  simp [spl, glue, cut]

theorem spl_none {c : UInt8} : ∀ {l : List UInt8}, c ∉ l → spl c l = [l]
  | [], _ => rfl
  | a :: r, h => by
    rw [List.mem_cons] at h
    rw [spl, if_neg (fun e => h (.inl e.symm)), spl_none (fun m => h (.inr m))]
theorem spl_at {c : UInt8} : ∀ {x y : List UInt8}, c ∉ x → spl c (x ++ c :: y) = x :: spl c y
  | [], y, _ => by rw [List.nil_append, spl, if_pos rfl]
  | a :: r, y, h => by
    rw [List.mem_cons] at h
    rw [List.cons_append, spl, if_neg (fun e => h (.inl e.symm)), spl_at (fun m => h (.inr m))]
theorem splitK_spl (c : UInt8) : ∀ (n : Nat) (l : List UInt8), l.length ≤ n → splitK [c] 0 (count l [c]) l = spl c l
  | n, l, hn => by
    have hge := indexByte_ge l c
    by_cases hm : indexByte l c = -1
    · have h1 : index l [c] = -1 := (index_one l c).trans hm
      rw [count_miss h1, spl_none]
      · rfl
      · intro m
        obtain ⟨k, hk⟩ := List.getElem?_of_mem m
        exact indexByte_none hm k hk
    · obtain ⟨o, ho⟩ : ∃ o : Nat, indexByte l c = o := ⟨(indexByte l c).toNat, by omega⟩
      have h1 : index l [c] = o := (index_one l c).trans ho
      obtain ⟨g1, g2⟩ := indexByte_some ho
      have hlt : o < l.length := (List.getElem?_eq_some_iff.1 g1).1
      have e : l = l.take o ++ c :: l.drop (o + 1) := by
        conv => lhs; rw [← List.take_append_drop o l]
        rw [List.drop_eq_getElem_cons hlt]
        rw [List.getElem?_eq_getElem hlt] at g1
        rw [Option.some.inj g1]
      have hnm : c ∉ l.take o := by
        intro m
        obtain ⟨k, hk⟩ := List.getElem?_of_mem m
        rw [List.getElem?_take] at hk
        by_cases q : k < o
        · rw [if_pos q] at hk; exact g2 k q hk
        · rw [if_neg q] at hk; cases hk
      have hm' : ¬ (index l [c] == -1) = true := fun e => by have := beq_iff_eq.1 e; omega
      have et : (index l [c]).toNat = o := by omega
      have hr : spl c l = l.take o :: spl c (l.drop (o + 1)) := by
        conv => lhs; rw [e]
        exact spl_at hnm
      rw [count_hit (by simp) h1, Nat.add_comm, splitK, if_neg hm', et, hr]
      cases n with
      | zero => omega
      | succ n =>
        have := splitK_spl c n (l.drop (o + 1)) (by rw [List.length_drop]; omega)
        simpa using this
end Go.Proofs.YthpndgcaoeokeaaGreatDoor
namespace Go.Proofs.YthpndgcaoeokeaaGreatDoor
open Go.RowKit Go.Sort

/-- the library's own variable holds a number -/
def ML (w : World) : Prop := 0 < w.heap.size ∧ ∃ m : Int, w.cell? ⟨0, 0, none⟩ = some (.int .i64 m)
theorem ML.on {w w' : World} (h : ML w) (hb : Below w.heap.size w w') : ML w' := by
  obtain ⟨h1, m, h2⟩ := h
  exact ⟨Nat.lt_of_lt_of_le h1 hb.size, m, by rw [hb.cell (p := ⟨0, 0, none⟩) h1]; exact h2⟩
theorem split_strs (l : List UInt8) (c : UInt8) : (Lib.splitB ⟨#[c]⟩ 0 (Lib.countB ⟨l.toArray⟩ ⟨#[c]⟩) ⟨l.toArray⟩).map Value.string = strs (spl c l) := by
  have h1 := Lib.splitB_data ⟨#[c]⟩ 0 (Lib.countB ⟨l.toArray⟩ ⟨#[c]⟩) ⟨l.toArray⟩
  have h2 : Lib.splitK [c] 0 (Lib.count l [c]) l = spl c l := splitK_spl c l.length l (Nat.le_refl _)
  have h3 : (Lib.splitB ⟨#[c]⟩ 0 (Lib.countB ⟨l.toArray⟩ ⟨#[c]⟩) ⟨l.toArray⟩).map (·.data.toList) = spl c l := h1.trans h2
  rw [← h3]
  unfold strs
  rw [List.map_map]
  apply List.map_congr_left
  intro a _
  simp
theorem split_count (l : List UInt8) (c : UInt8) : Lib.countB ⟨l.toArray⟩ ⟨#[c]⟩ + 1 = (spl c l).length := by
  have h1 := Lib.splitB_all ⟨#[c]⟩ (Nat.le_refl 1) 0 _ ⟨l.toArray⟩ rfl
  have h2 := congrArg List.length (split_strs l c)
  rw [List.length_map, strs_length] at h2
  omega
theorem strSplit_any (l : List UInt8) (c : UInt8) (w : World) (hm : ML w) (hl : l.length ≤ 1048576) :
    Calls Tryz.prog 139 #[.string ⟨l.toArray⟩, .string ⟨#[c]⟩] w fun e w' => e = .returned (.slice (some ⟨w.heap.size, 0, none⟩) (spl c l).length (spl c l).length) ∧ w' = w.alloc (.cells (strs (spl c l)).toArray 9) := by
  obtain ⟨_, m, hm⟩ := hm
  have k := Tryz.strings_Split ⟨l.toArray⟩ ⟨#[c]⟩ m w (by show l.length < 4294967281; omega) hm (Nat.le_refl 1)
  rw [split_strs, split_count] at k
  exact k

theorem split_len (l : List UInt8) (c : UInt8) : (spl c l).length ≤ l.length + 1 := by
  induction l with
  | nil => simp [spl]
  | cons a r ih =>
    rw [spl]
    split
    · simp; omega
    · cases hs : spl c r with
      | nil => simp
      | cons x t => rw [hs] at ih; simp at ih ⊢; omega

/-- one of BYDAY's values: its ordinal, its weekday -/
def wkF (v : List UInt8) : Option (Int × Int) := match idx wdays (v.drop (v.length - 2)) with
  | none => none
  | some k => if v.length ≤ 2 then some (0, k) else if sgn (v.take (v.length - 2)) 53 = 0 then none else some (sgn (v.take (v.length - 2)) 53, k)
def wkE (v : List UInt8) : Ending := match wkF v with
  | none => .panicked (rsn 3)
  | some q => .returned (.agg #[.int .i64 q.1, .int .i64 q.2])

theorem cells2_on {w w1 : World} {x y : Value} {t : TypeId} (hb : Below (w.alloc (.cells #[x, y] t)).heap.size (w.alloc (.cells #[x, y] t)) w1) :
    w1.cell? ⟨w.heap.size, 0, none⟩ = some x ∧ w1.cell? ⟨w.heap.size, 1, none⟩ = some y ∧ w1.frozen? ⟨w.heap.size, 0, none⟩ = false ∧ w1.frozen? ⟨w.heap.size, 1, none⟩ = false ∧ w.heap.size < w1.heap.size := by
  have hs := hb.size
  simp at hs
  exact ⟨by rw [hb.cell (p := ⟨w.heap.size, 0, none⟩) (by simp)]; simp [go_sem], by rw [hb.cell (p := ⟨w.heap.size, 1, none⟩) (by simp)]; simp [go_sem],
    by rw [hb.frozen (p := ⟨w.heap.size, 0, none⟩) (by simp)]; simp [go_sem], by rw [hb.frozen (p := ⟨w.heap.size, 1, none⟩) (by simp)]; simp [go_sem], by omega⟩

set_option maxRecDepth 100000 in
set_option maxHeartbeats 2000000 in
theorem readWeekday_any (v : List UInt8) (w : World) (hl : v.length ≤ 1048576) :
    Calls Tryz.prog 148 #[.string ⟨v.toArray⟩] w fun E w' => E = wkE v ∧ Below w.heap.size w w' := by
  by_cases h2 : v.length ≤ 2
  · have hd : v.drop (v.length - 2) = v := by rw [Nat.sub_eq_zero_of_le h2]; rfl
    have k := fun W => readDayName_any v W
    have hx : (⟨v.toArray⟩ : ByteArray).extract 0 v.length = ⟨v.toArray⟩ := by have := extract_drop v 0; simpa using this
    have hmx : max ((v.length : Int) - 2) 0 = 0 := by omega
    cases hi : idx wdays v with
    | none =>
      rw [show wkE v = .panicked (rsn 3) from by unfold wkE wkF; rw [hd, hi]]
      rw [chE_no hi] at k
      have C := hide k
      clear k hi hd h2
      go_enter Tryz.func148, Tryz.ntmps148
      go_wp2_with (go_at_call 150; refine (C.out _).mono ?_; rintro e w1 ⟨rfl, hb1⟩)
      exact ⟨rfl, rfl, ((Below.refl _ _).alloc (Nat.le_refl _) _).trans (hb1.mono (by simp))⟩
    | some j =>
      rw [show wkE v = .returned (.agg #[.int .i64 0, .int .i64 j]) from by unfold wkE wkF; rw [hd, hi]; simp only []; rw [if_pos h2]]
      rw [chE_yes hi] at k
      have C := hide k
      clear k hi hd h2
      go_enter Tryz.func148, Tryz.ntmps148
      go_wp2_with (go_at_call 150; refine (C.out _).mono ?_; rintro e w1 ⟨rfl, hb1⟩; obtain ⟨c0, c1, f0, f1, hsz⟩ := cells2_on hb1)
      have hbw : Below w.heap.size w w1 := ((Below.refl _ _).alloc (Nat.le_refl _) _).trans (hb1.mono (by simp))
      exact bodyPost_ret (v := .agg #[.int .i64 0, .int .i64 j]) (by simp [results, Tryz.results148, go_sem, c0, c1, hsz]) rfl ⟨rfl, ((hbw.setCell (Nat.le_refl _) _).setCell (Nat.le_refl _) _).alloc (by rw [setCell_size, setCell_size]; omega) _⟩
  · obtain ⟨n, hn⟩ : ∃ n, n = v.length - 2 := ⟨_, rfl⟩
    have hmx : max ((v.length : Int) - 2) 0 = (n : Int) := by omega
    have hx : (⟨v.toArray⟩ : ByteArray).extract n v.length = ⟨(v.drop n).toArray⟩ := extract_drop v n
    have hx2 : (⟨v.toArray⟩ : ByteArray).extract 0 n = ⟨(v.take n).toArray⟩ := extract_take v n
    have k := fun W => readDayName_any (v.drop n) W
    have q := fun W => wordsSigned_any (v.take n) 53 3 W (by rw [List.length_take]; unfold maxLen; omega)
    have hnl : (n : Int) ≤ v.length := by omega
    have hpos : (0 : Int) < n := by omega
    cases hi : idx wdays (v.drop n) with
    | none =>
      rw [show wkE v = .panicked (rsn 3) from by unfold wkE wkF; rw [← hn, hi]]
      rw [chE_no hi] at k
      have C := hide k
      clear k hi q h2 hn
      go_enter Tryz.func148, Tryz.ntmps148
      go_wp2_with (go_at_call 150; refine (C.out _).mono ?_; rintro e w1 ⟨rfl, hb1⟩)
      exact ⟨rfl, rfl, ((Below.refl _ _).alloc (Nat.le_refl _) _).trans (hb1.mono (by simp))⟩
    | some j =>
      rw [chE_yes hi] at k
      have C := hide k
      by_cases hz : sgn (v.take n) 53 = 0
      · rw [show wkE v = .panicked (rsn 3) from by unfold wkE wkF; rw [← hn, hi]; simp only []; rw [if_neg h2, if_pos hz]]
        rw [sgE_no hz] at q
        have D := hide q
        clear k hi q h2 hn hz
        go_enter Tryz.func148, Tryz.ntmps148
        go_wp2_with (first
          | (go_at_call 150; refine (C.out _).mono ?_; rintro e w1 ⟨rfl, hb1⟩; obtain ⟨c0, c1, f0, f1, hsz⟩ := cells2_on hb1)
          | (go_at_call 210; refine (D.out _).mono ?_; rintro e w' ⟨rfl, rfl⟩))
        have hbw : Below w.heap.size w w1 := ((Below.refl _ _).alloc (Nat.le_refl _) _).trans (hb1.mono (by simp))
        exact ⟨rfl, rfl, hbw.alloc (by omega) _⟩
      · rw [show wkE v = .returned (.agg #[.int .i64 (sgn (v.take n) 53), .int .i64 j]) from by unfold wkE wkF; rw [← hn, hi]; simp only []; rw [if_neg h2, if_neg hz]]
        rw [sgE_yes hz] at q
        have D := hide q
        clear k hi q h2 hn hz
        go_enter Tryz.func148, Tryz.ntmps148
        go_wp2_with (first
          | (go_at_call 150; refine (C.out _).mono ?_; rintro e w1 ⟨rfl, hb1⟩; obtain ⟨c0, c1, f0, f1, hsz⟩ := cells2_on hb1)
          | (go_at_call 210; refine (D.out _).mono ?_; rintro e w' ⟨rfl, rfl⟩))
        have hbw : Below w.heap.size w w1 := ((Below.refl _ _).alloc (Nat.le_refl _) _).trans (hb1.mono (by simp))
        exact bodyPost_ret (v := .agg #[.int .i64 (sgn (v.take n) 53), .int .i64 j]) (by simp [results, Tryz.results148, go_sem, c0, c1, hsz]) rfl ⟨rfl, ((hbw.setCell (Nat.le_refl _) _).setCell (Nat.le_refl _) _).alloc (by rw [setCell_size, setCell_size]; omega) _⟩
end Go.Proofs.YthpndgcaoeokeaaGreatDoor
namespace Go.Proofs.YthpndgcaoeokeaaGreatDoor
open Go.RowKit Go.Sort

/-- all of some pieces read, or none -/
def rds {α : Type} (rd : List UInt8 → Option α) : List (List UInt8) → Option (List α)
  | [] => some []
  | l :: r => match rd l with | none => none | some z => (rds rd r).map (z :: ·)
/-- a list's values: of a field that is not there none -/
def lsF {α : Type} (rd : List UInt8 → Option α) (f : Option (List UInt8)) : Option (List α) := match f with
  | none => some []
  | some v => if (spl 44 v).length ≤ 20 then rds rd (spl 44 v) else none
/-- a block's row -/
def RowAt (w : World) (g : Nat) (cs : List Value) (t : TypeId) : Prop := w.heap[g]? = some (.cells cs.toArray t)
theorem rds_len {α : Type} {rd : List UInt8 → Option α} : ∀ {ps : List (List UInt8)} {zs : List α}, rds rd ps = some zs → zs.length = ps.length
  | [], zs, h => by cases h; rfl
  | l :: r, zs, h => by
    rw [rds] at h
    cases hl : rd l with
    | none => rw [hl] at h; cases h
    | some z =>
      rw [hl] at h
      obtain ⟨y, hy, rfl⟩ := Option.map_eq_some_iff.1 h
      rw [List.length_cons, List.length_cons, rds_len hy]

theorem RowAt.cell {w : World} {g k : Nat} {cs : List Value} {t : TypeId} {y : Value} (h : RowAt w g cs t) (hk : cs[k]? = some y) : w.cell? ⟨g, k, none⟩ = some y := by
  unfold RowAt at h
  simp [World.cell?, h, hk]
theorem RowAt.free {w : World} {g k : Nat} {cs : List Value} {t : TypeId} (h : RowAt w g cs t) : w.frozen? ⟨g, k, none⟩ = false := by
  unfold RowAt at h
  simp [World.frozen?, h]
theorem RowAt.lt {w : World} {g : Nat} {cs : List Value} {t : TypeId} (h : RowAt w g cs t) : g < w.heap.size := (Array.getElem?_eq_some_iff.1 h).1
theorem RowAt.on {w w' : World} {g : Nat} {cs : List Value} {t : TypeId} (h : RowAt w g cs t) (hb : Below w.heap.size w w') : RowAt w' g cs t := by
  have hl := h.lt
  unfold RowAt at *
  rw [hb.block g hl]; exact h
theorem RowAt.set {w : World} {g k : Nat} {cs : List Value} {t : TypeId} (h : RowAt w g cs t) (v : Value) : RowAt (w.setCell ⟨g, k, none⟩ v) g (cs.set k v) t := by
  unfold RowAt at *
  simp [World.setCell, Array.getElem?_modify, h]
theorem RowAt.other {w : World} {g b k : Nat} {cs : List Value} {t : TypeId} (h : RowAt w g cs t) (hne : g ≠ b) (v : Value) : RowAt (w.setCell ⟨b, k, none⟩ v) g cs t := by
  unfold RowAt at *
  rw [Below.heap_setCell _ _ _ _ hne]; exact h
theorem RowAt.new (w : World) (cs : List Value) (t : TypeId) : RowAt (w.alloc (.cells cs.toArray t)) w.heap.size cs t := by
  show (w.heap.push (Obj.cells cs.toArray t))[w.heap.size]? = some _
  exact Array.getElem?_push_size
theorem made_eq (z : Value) (n : Nat) : madeCells #[z] n = (List.replicate n z).toArray := by
  unfold madeCells
  apply Array.ext
  · simp
  · intro i h1 h2; simp [Nat.mod_one]

/-- how the reading of a list of numbers ends -/
def LsPost (rd : List UInt8 → Option Int) (v : List UInt8) (x : Int) (w : World) (E : Ending) (w' : World) : Prop :=
  match lsF rd (some v) with
  | none => E = .panicked (rsn x)
  | some zs => ∃ g, E = .returned (.slice (some ⟨g, 0, none⟩) zs.length zs.length) ∧ w.heap.size ≤ g ∧ RowAt w' g (zs.map (Value.int .i64)) 3
/-- the row while it is filled -/
def rowZ (zs : List Int) (n : Nat) : List Value := zs.map (Value.int .i64) ++ List.replicate (n - zs.length) (.int .i64 0)
theorem rowZ_get {zs : List Int} {n k : Nat} (hz : zs.length = k) (hk : k < n) : (rowZ zs n)[k]? = some (.int .i64 0) := by
  unfold rowZ
  rw [List.getElem?_append_right (by simp; omega)]
  simp [hz, List.getElem?_replicate]; omega
theorem rowZ_set {zs : List Int} {n k : Nat} (hz : zs.length = k) (hk : k < n) (z : Int) : (rowZ zs n).set k (.int .i64 z) = rowZ (zs ++ [z]) n := by
  unfold rowZ
  rw [List.set_append_right _ _ (by simp; omega)]
  have : n - zs.length = (n - (zs ++ [z]).length) + 1 := by simp; omega
  rw [this, List.replicate_succ]
  simp [hz]
theorem rowZ_full {zs : List Int} {n : Nat} (hz : zs.length = n) : rowZ zs n = zs.map (Value.int .i64) := by
  unfold rowZ; rw [hz]; simp
theorem rds_hit {α : Type} {rd : List UInt8 → Option α} {ps : List (List UInt8)} {l : List UInt8} {k : Nat} {z : α} {zs : List α} (hl : ps[k]? = some l) (hz : rd l = some z) (h : rds rd ps = (rds rd (ps.drop k)).map (zs ++ ·)) :
    rds rd ps = (rds rd (ps.drop (k + 1))).map ((zs ++ [z]) ++ ·) := by
  obtain ⟨hk, he⟩ := List.getElem?_eq_some_iff.1 hl
  rw [h, List.drop_eq_getElem_cons hk, he, rds, hz, Option.map_map]
  congr 1
  funext y
  simp
theorem rds_miss {α : Type} {rd : List UInt8 → Option α} {ps : List (List UInt8)} {l : List UInt8} {k : Nat} {zs : List α} (hl : ps[k]? = some l) (hz : rd l = none) (h : rds rd ps = (rds rd (ps.drop k)).map (zs ++ ·)) :
    rds rd ps = none := by
  obtain ⟨hk, he⟩ := List.getElem?_eq_some_iff.1 hl
  rw [h, List.drop_eq_getElem_cons hk, he, rds, hz]; rfl
theorem spl_small (c : UInt8) : ∀ (l : List UInt8), ∀ p ∈ spl c l, p.length ≤ l.length
  | [], p, hp => by simp [spl] at hp; subst hp; simp
  | a :: r, p, hp => by
    rw [spl] at hp
    by_cases h : a = c
    · rw [if_pos h, List.mem_cons] at hp
      rcases hp with rfl | hp
      · simp
      · have := spl_small c r p hp; simp; omega
    · rw [if_neg h] at hp
      cases hs : spl c r with
      | nil => exact absurd hs (spl_ne c r)
      | cons x t =>
        rw [hs] at hp
        rw [List.mem_cons] at hp
        have hx := spl_small c r
        rw [hs] at hx
        rcases hp with rfl | hp
        · have := hx x (by simp); simp; omega
        · have := hx p (by simp [hp]); simp; omega

set_option maxRecDepth 100000 in
set_option maxHeartbeats 2000000 in
theorem listInt_some (rd : List UInt8 → Option Int) (fn : FuncId) (v : List UInt8) (x : Int) (w : World) (hm : ML w) (hl : v.length ≤ 1048576)
    (hen : ∀ args w, (callFunc fn args).run Tryz.prog w = .ok (.enter fn args) w)
    (hr : ∀ (t : List UInt8) (W : World), t.length ≤ 1048576 → Calls Tryz.prog fn #[.string ⟨t.toArray⟩] W fun E w' => E = (match rd t with | none => Ending.panicked (rsn x) | some z => .returned (.int .i64 z)) ∧ Below W.heap.size W w') :
    Calls Tryz.prog 136 #[.agg #[.string ⟨v.toArray⟩, .bool true], .int .i64 x, .func (.func fn) #[] #[]] w fun E w' =>
      LsPost rd v x w E w' ∧ Below w.heap.size w w' := by
  have CS := hide fun W (h : ML W) => strSplit_any v 44 W h hl
  have HM : Hid (ML (w.alloc (.cells #[.string ⟨v.toArray⟩, .bool true] 122))) := hide (hm.on ((Below.refl _ _).alloc (Nat.le_refl _) _))
  have HR := hide hr
  have HS : Hid (∀ p ∈ spl 44 v, p.length ≤ 1048576) := hide (fun p hp => Nat.le_trans (spl_small 44 v p hp) hl)
  have HF : Hid (lsF rd (some v) = if (spl 44 v).length ≤ 20 then rds rd (spl 44 v) else none) := hide rfl
  clear hr hm
  obtain ⟨ps, hps⟩ : ∃ ps, ps = spl 44 v := ⟨_, rfl⟩
  rw [← hps] at CS HS HF
  clear hps
  by_cases h20 : ps.length ≤ 20
  case neg =>
    have HE : Hid (lsF rd (some v) = none) := hide (by rw [HF.out, if_neg h20])
    have h20' : decide ((ps.length : Int) ≤ 20) = false := by simp; omega
    go_enter Tryz.func136, Tryz.ntmps136
    go_wp2_with (first
      | (go_at_call 139; refine (CS.out _ HM.out).mono ?_; rintro e w1 ⟨rfl, rfl⟩)
      | (go_at_call_of 65 (Value.bool false); refine (unless_no _ _).mono ?_; rintro e w' ⟨rfl, rfl⟩))
    exact ⟨rfl, by unfold LsPost; rw [HE.out], ((Below.refl _ _).alloc (Nat.le_refl _) _).alloc (by simp) _⟩
  case pos =>
    have h20' : (ps.length : Int) ≤ 20 := by omega
    have HE : Hid (lsF rd (some v) = rds rd ps) := hide (by rw [HF.out, if_pos h20])
    have mk := run_make_row' (P := Tryz.prog) 54 3 (.int .i64 0) 8 Tryz.underlying54 infoInt rfl .i64 .i64 ps.length (by omega) (by omega)
    rw [made_eq] at mk
    have hps : NamesAt ((w.alloc (.cells #[.string ⟨v.toArray⟩, .bool true] 122)).alloc (.cells (strs ps).toArray 9)) (w.heap.size + 1) 0 ps := by
      have := names_new (w.alloc (.cells #[.string ⟨v.toArray⟩, .bool true] 122)) ps 9
      rw [show (w.alloc (.cells #[.string ⟨v.toArray⟩, .bool true] 122)).heap.size = w.heap.size + 1 from by simp] at this
      exact this
    have hsz : ((w.alloc (.cells #[.string ⟨v.toArray⟩, .bool true] 122)).alloc (.cells (strs ps).toArray 9)).heap.size = w.heap.size + 1 + 1 := by simp
    have hrow := RowAt.new ((w.alloc (.cells #[.string ⟨v.toArray⟩, .bool true] 122)).alloc (.cells (strs ps).toArray 9)) (List.replicate ps.length (.int .i64 0)) 3
    rw [hsz] at hrow
    have hb2 : Below w.heap.size w ((w.alloc (.cells #[.string ⟨v.toArray⟩, .bool true] 122)).alloc (.cells (strs ps).toArray 9)) := ((Below.refl _ _).alloc (Nat.le_refl _) _).alloc (by simp) _
    go_enter Tryz.func136, Tryz.ntmps136
    go_wp2_with (first
      | (go_at_call 139; refine (CS.out _ HM.out).mono ?_; rintro e w1 ⟨rfl, rfl⟩)
      | (go_at_call_of 65 (Value.bool true); refine (unless_yes _ _).mono ?_; rintro e w' ⟨rfl, rfl⟩))
    generalize (w.alloc (.cells #[.string ⟨v.toArray⟩, .bool true] 122)).alloc (.cells (strs ps).toArray 9) = W at *
    clear mk HM CS HF
    go_loopw [27] (fun i wr => ∃ (k : Nat) (zs : List Int), k ≤ ps.length ∧ i = .int .i64 k ∧ zs.length = k ∧ RowAt wr (w.heap.size + 1 + 1) (rowZ zs ps.length) 3 ∧ Below W.heap.size W wr ∧ Hid (rds rd ps = (rds rd (ps.drop k)).map (zs ++ ·))) (fun i _ => ps.length - (intOf i).toNat)
    case atStart => exact ⟨0, [], Nat.zero_le _, rfl, rfl, hrow, (Below.refl _ _).alloc (Nat.le_refl _) _, hide (by simp)⟩
    case round =>
      obtain ⟨k, zs, hk, rfl, hz, hrw, hnx, HT⟩ := hrel
      have hB := hnx.size
      by_cases hlt : k < ps.length
      case neg =>
        have hkl : k = ps.length := by omega
        subst hkl
        have HG : Hid (lsF rd (some v) = some zs) := hide (by rw [HE.out, HT.out, List.drop_length]; simp [rds])
        have HZ := hide hz
        clear HT HE hz
        go_wp2
        go_ret
        refine ⟨?_, hb2.trans (hnx.mono (by omega))⟩
        unfold LsPost
        rw [HG.out]
        refine ⟨w.heap.size + 1 + 1, by rw [HZ.out]; rfl, by omega, ?_⟩
        rw [← rowZ_full HZ.out]; exact hrw
      case pos =>
        obtain ⟨l, hlk⟩ : ∃ l, ps[k]? = some l := ⟨_, List.getElem?_eq_getElem hlt⟩
        have hcell : wr.cell? ⟨w.heap.size + 1, k, none⟩ = some (.string ⟨l.toArray⟩) := by
          rw [hnx.cell (p := ⟨w.heap.size + 1, k, none⟩) (by show w.heap.size + 1 < W.heap.size; omega)]
          have := hps k hlt
          rw [Nat.zero_add] at this
          rw [this]; simp [List.getD, hlk]
        have CR := HR.out l wr (HS.out l (List.mem_of_getElem? hlk))
        cases hq : rd l with
        | none =>
          have HG : Hid (lsF rd (some v) = none) := hide (by rw [HE.out, rds_miss hlk hq HT.out])
          rw [hq] at CR
          have C := hide CR
          clear HT HE CR hq hlk
          go_wp2_with (refine (C.out).mono ?_; rintro e w1 ⟨rfl, hb1⟩)
          refine ⟨rfl, ?_, hb2.trans ((hnx.trans (hb1.mono hB)).mono (by omega))⟩
          unfold LsPost
          rw [HG.out]
        | some z =>
          have HG : Hid (rds rd ps = (rds rd (ps.drop (k + 1))).map ((zs ++ [z]) ++ ·)) := hide (rds_hit hlk hq HT.out)
          rw [hq] at CR
          have C := hide CR
          clear HT CR hq hlk
          go_wp2_with (refine (C.out).mono ?_; rintro e w1 ⟨rfl, hb1⟩; have hr1 := hrw.on hb1; have c1 := hr1.cell (rowZ_get hz hlt); have f1 := hr1.free (k := k))
          go_roundw
          case rel => exact ⟨k + 1, zs ++ [z], by omega, by go_num, by simp [hz], by rw [← rowZ_set hz hlt z]; exact hr1.set _, (hnx.trans (hb1.mono hB)).setCell (by show W.heap.size ≤ w.heap.size + 1 + 1; omega) _, HG⟩
          case measure => simp [intOf]; omega
end Go.Proofs.YthpndgcaoeokeaaGreatDoor
