/- The document's pieces of a text (fallowref.split). The document's names, unfolding and lines (fallowref). The document's unfolding (fallowref). The document's lines (fallowref). The document's places (fallowref). The document's words, weekdays and signed numbers (fallowref). The document's lists in order (fallowref.with). The document's lists of times (fallowref). The document's lists of times and of numbers (fallowref.times, fallowref.list). The document's lists of numbers (fallowref.list). The document's numbers and lists of times, as they are written (fallowref.plain, fallowref.printed). Two lists in the fields of a rule that grow: what the document's BYDAY does to the memory. The document's BYDAY (fallowref): (*Rule).days. The document's parts of a rule (fallowref): (*Rule).part. The document's parts of a rule: FREQ and BYDAY (fallowref). The document's printed lists of times, whole (fallowref.printed). -/
import Derived.Test.YthpndgcaoeokeaaGreatDoorRef7
import Derived.WalkKit
import Derived.Test.YthpndgcaoeokeaaGreatDoorLenEq
import Derived.Lib.SlicesS
import Derived.Deep.AppendLies
namespace Go.Proofs.YthpndgcaoeokeaaGreatDoor
open Go.RowKit

theorem infoString : (Tryz.prog.info? 9).map (fun i => (i.zero, i.size, i.bytes)) = some (some (.string ⟨#[]⟩), 1, 16) := by kernel_rfl
theorem infoInt : (Tryz.prog.info? 3).map (fun i => (i.zero, i.size, i.bytes)) = some (some (.int .i64 0), 1, 8) := by kernel_rfl

/-- the pieces ahead of place k, and where the last one begins -/
def spf (s : ByteArray) (c : Int) : Nat → Nat × List ByteArray
  | 0 => (0, [])
  | k + 1 => if at0 s k = c then (k + 1, (spf s c k).2 ++ [s.extract (spf s c k).1 k]) else spf s c k
def splitF (s : ByteArray) (c : Int) : List ByteArray := (spf s c s.size).2 ++ [s.extract (spf s c s.size).1 s.size]
theorem spf_hit {s : ByteArray} {c : Int} {k : Nat} (h : at0 s k = c) : spf s c (k + 1) = (k + 1, (spf s c k).2 ++ [s.extract (spf s c k).1 k]) := by rw [spf, if_pos h]
theorem spf_miss {s : ByteArray} {c : Int} {k : Nat} (h : ¬ at0 s k = c) : spf s c (k + 1) = spf s c k := by rw [spf, if_neg h]
theorem spf_le (s : ByteArray) (c : Int) (k : Nat) : (spf s c k).1 ≤ k ∧ (spf s c k).2.length ≤ k := by
  induction k with
  | zero => simp [spf]
  | succ k ih =>
    by_cases h : at0 s k = c
    · rw [spf_hit h]; simp; omega
    · rw [spf_miss h]; omega

/-- one cell more behind an append: what the relation keeps -/
theorem own_append {B : Nat} {e : TypeId} {w wr w1 : World} {v v' : Value} {n : Nat} {xs : List Value} {x : Value} {o : Obj} (hB : B ≤ wr.heap.size)
    (hown : wr.ownsRow B e 1 v n xs) (hb : Below B w wr) (hown' : w1.ownsRow B e 1 v' (n + 1) (xs ++ [x])) (hgrow : (wr.alloc o).grownBy w1 v.ownBlock) :
    w1.ownsRow B e 1 v' (n + 1) (xs ++ [x]) ∧ Below B w w1 :=
  ⟨hown', (hb.alloc hB o).grown hgrow (by simp; omega) (fun j hj => (hown.lt j hj).1)⟩

set_option maxRecDepth 100000 in
set_option maxHeartbeats 2000000 in
theorem split_any (s : ByteArray) (c : Int) (w : World) (hs : s.size ≤ 1048576) :
    Calls Tryz.prog 292 #[.string s, .int .u8 c] w fun e w' => ∃ v, e = .returned v ∧ w'.ownsRow w.heap.size 9 1 v (splitF s c).length ((splitF s c).map Value.string) ∧ Below w.heap.size w w' := by
  obtain ⟨i0, hi, hz0, hz1, hz2⟩ := info_parts infoString
  go_enter Tryz.func292, Tryz.ntmps292
  go_wp2
  go_loopw [5, 6, 7] (fun v f i wr => ∃ k : Nat, k ≤ s.size ∧ i = .int .i64 k ∧ f = .int .i64 (spf s c k).1 ∧ wr.ownsRow w.heap.size 9 1 v (spf s c k).2.length ((spf s c k).2.map Value.string) ∧ Below w.heap.size w wr)
    (fun _ _ i _ => s.size - (intOf i).toNat)
  case atStart => exact ⟨0, Nat.zero_le _, rfl, rfl, World.ownsRow_nil _ _ _ _, Below.refl _ _⟩
  case round =>
    obtain ⟨k, hk, rfl, rfl, hown, hnx⟩ := hrel
    have hle := spf_le s c k
    have hsz := hnx.size
    by_cases hlt : k < s.size
    case neg =>
      have hkl : k = s.size := by omega
      subst hkl
      go_wp2_with (at_builtin; refine wpList_append_own _ rfl _ _ 52 rfl w.heap.size 9 i0 (.string ⟨#[]⟩) 1 16 Tryz.underlying52 hi hz0 hz1 hz2 rfl (by decide) _ _ _ rfl (hown.alloc _) ⟨wr.heap.size, 0, none⟩ 1 1 [.string (s.extract (spf s c s.size).1 s.size)] rfl rfl ?c1 ?c2 ?c3 ?c4 ?c5 ?_)
      case c1 =>
        intro j u hj
        match j, hj with
        | 0, hj => simp at hj; subst hj; simp [Addr.add]
      case c2 => intro u hu; simp at hu; subst hu; rfl
      case c3 => unfold maxLen; omega
      case c4 => omega
      case c5 => simp; omega
      · intro v' w1 hown' hgrow _
        have R := own_append hsz hown hnx hown' hgrow
        clear hown' hgrow hown
        go_wp2
        go_ret
        exact ⟨_, rfl, by simpa [splitF] using R.1, R.2⟩
    case pos =>
      by_cases hc : at0 s k = c
      case pos =>
        have hc' : (((s[k]'hlt).toNat : Int) == c) = true := by rw [at0_get s k hlt]; simpa using hc
        go_wp2_with (at_builtin; refine wpList_append_own _ rfl _ _ 52 rfl w.heap.size 9 i0 (.string ⟨#[]⟩) 1 16 Tryz.underlying52 hi hz0 hz1 hz2 rfl (by decide) _ _ _ rfl (hown.alloc _) ⟨wr.heap.size, 0, none⟩ 1 1 [.string (s.extract (spf s c k).1 k)] rfl rfl ?c1 ?c2 ?c3 ?c4 ?c5 ?_)
        case c1 =>
          intro j u hj
          match j, hj with
          | 0, hj => simp at hj; subst hj; simp [Addr.add]
        case c2 => intro u hu; simp at hu; subst hu; rfl
        case c3 => unfold maxLen; omega
        case c4 => omega
        case c5 => simp; omega
        · intro v' w1 hown' hgrow _
          have R := own_append hsz hown hnx hown' hgrow
          clear hown' hgrow hown
          go_wp2
          go_roundw
          case rel => exact ⟨k + 1, by omega, by go_num, by rw [spf_hit hc]; go_num, by rw [spf_hit hc]; simpa using R.1, R.2⟩
          case measure => simp [intOf]; omega
      case neg =>
        have hc' : (((s[k]'hlt).toNat : Int) == c) = false := by rw [at0_get s k hlt]; simpa using hc
        go_wp2
        go_roundw
        case rel => exact ⟨k + 1, by omega, by go_num, by rw [spf_miss hc], by rw [spf_miss hc]; exact hown, hnx⟩
        case measure => simp [intOf]; omega
end Go.Proofs.YthpndgcaoeokeaaGreatDoor
namespace Go.Proofs.YthpndgcaoeokeaaGreatDoor
open Go.RowKit

/-- a name's byte -/
def nameC (c : UInt8) : Bool := (decide (97 ≤ (c.toNat : Int)) && decide ((c.toNat : Int) ≤ 122)) || (decide (48 ≤ (c.toNat : Int)) && decide ((c.toNat : Int) ≤ 57))
def nameB (s : ByteArray) : Bool := s.data.toList.all nameC && decide (1 ≤ s.size) && decide (s.size ≤ 12)

theorem take_snoc (s : ByteArray) (k : Nat) (h : k < s.size) : s.data.toList.take (k + 1) = s.data.toList.take k ++ [s[k]] := by
  rw [List.take_succ_eq_append_getElem (by simpa using h)]
  rfl
theorem take_all (s : ByteArray) : s.data.toList.take s.size = s.data.toList := List.take_of_length_le (Nat.le_of_eq (show s.data.toList.length = s.size by simp))
theorem mem_bytes (s : ByteArray) (k : Nat) (h : k < s.size) : s[k] ∈ s.data.toList := by
  have : s[k] = s.data[k] := rfl
  rw [this]; exact Array.mem_def.1 (Array.getElem_mem _)

set_option maxRecDepth 100000 in
set_option maxHeartbeats 2000000 in
theorem Name_any (s : ByteArray) (w : World) (hs : s.size ≤ maxLen) :
    Calls Tryz.prog 189 #[.string s] w fun e w' => e = .returned (.bool (nameB s)) ∧ w = w' := by
  unfold maxLen at hs
  go_enter Tryz.func189, Tryz.ntmps189
  go_wp2
  go_loop [3] (fun i => ∃ k : Nat, k ≤ s.size ∧ i = .int .i64 k ∧ Hid ((s.data.toList.take k).all nameC = true)) (fun i => s.size - (intOf i).toNat)
  case atStart => exact ⟨0, Nat.zero_le _, rfl, hide (by simp)⟩
  case round =>
    obtain ⟨k, hk, rfl, hall⟩ := hrel
    by_cases hlt : k < s.size
    case neg =>
      have hkl : k = s.size := by omega
      subst hkl
      have h1 := hall.out
      rw [take_all] at h1
      have e : nameB s = (decide (1 ≤ s.size) && decide (s.size ≤ 12)) := by unfold nameB; rw [h1, Bool.true_and]
      have E := hide e
      clear h1 hall e
      by_cases a : 1 ≤ s.size
      · by_cases b : s.size ≤ 12
        · go_wp2
          go_ret
          exact ⟨by rw [E.out]; simp [a, b]; omega, rfl⟩
        · go_wp2
          go_ret
          exact ⟨by rw [E.out]; simp [a, b]; omega, rfl⟩
      · go_wp2
        go_ret
        exact ⟨by rw [E.out]; simp [a], rfl⟩
    case pos =>
      cases hn : nameC s[k]
      case false =>
        have e : nameB s = false := by
          unfold nameB
          rw [Bool.and_eq_false_iff]; left
          rw [Bool.and_eq_false_iff]; left
          rw [List.all_eq_false]
          exact ⟨s[k], mem_bytes s k hlt, by rw [hn]; exact Bool.false_ne_true⟩
        have E := hide e
        clear hall e
        unfold nameC at hn
        simp only [Bool.or_eq_false_iff, Bool.and_eq_false_iff, decide_eq_false_iff_not] at hn
        obtain ⟨h1, h2⟩ := hn
        rcases h1 with h1 | h1 <;> rcases h2 with h2 | h2 <;> (go_wp2; all_goals go_ret; all_goals exact ⟨by rw [E.out]; rfl, rfl⟩)
      case true =>
        have H : Hid ((s.data.toList.take (k + 1)).all nameC = true) := hide (by rw [take_snoc s k hlt, List.all_append, hall.out]; simp [hn])
        clear hall
        unfold nameC at hn
        simp only [Bool.or_eq_true, Bool.and_eq_true, decide_eq_true_eq] at hn
        rcases hn with ⟨h1, h2⟩ | ⟨h1, h2⟩
        · go_wp2
          all_goals exact ⟨⟨k + 1, by omega, by go_num, H⟩, by simp [intOf]; omega⟩
        · go_wp2
          all_goals exact ⟨⟨k + 1, by omega, by go_num, H⟩, by simp [intOf]; omega⟩
end Go.Proofs.YthpndgcaoeokeaaGreatDoor
namespace Go.Proofs.YthpndgcaoeokeaaGreatDoor
open Go.RowKit

/-- a text without its folds -/
def unf : List UInt8 → List UInt8
  | [] => []
  | [a] => [a]
  | [a, b] => [a, b]
  | a :: b :: c :: r => if a = 13 ∧ b = 10 ∧ c = 32 then unf r else a :: unf (b :: c :: r)

theorem dropC (s : ByteArray) (k : Nat) (h : k < s.size) : s.data.toList.drop k = s[k] :: s.data.toList.drop (k + 1) := by
  rw [List.drop_eq_getElem_cons (by simpa using h)]
  rfl
theorem dropE (s : ByteArray) : s.data.toList.drop s.size = [] := List.drop_of_length_le (Nat.le_of_eq (show s.data.toList.length = s.size by simp))
theorem byte_eq {c : UInt8} {n : Nat} (hn : n < 256) : (c.toNat : Int) = (n : Int) ↔ c = UInt8.ofNat n := by
  constructor
  · intro h
    apply UInt8.toNat_inj.1
    rw [UInt8.toNat_ofNat', Nat.mod_eq_of_lt hn]
    omega
  · rintro rfl
    rw [UInt8.toNat_ofNat', Nat.mod_eq_of_lt hn]
/-- a fold begins at a place -/
def foldAt (s : ByteArray) (k : Nat) : Prop := k + 2 < s.size ∧ at0 s k = 13 ∧ at0 s (k + 1) = 10 ∧ at0 s (k + 2) = 32
theorem unf_fold {s : ByteArray} {k : Nat} (h : foldAt s k) : unf (s.data.toList.drop k) = unf (s.data.toList.drop (k + 3)) := by
  obtain ⟨h0, h1, h2, h3⟩ := h
  rw [← at0_get s _ (by omega)] at h1 h2 h3
  rw [dropC s k (by omega), dropC s (k + 1) (by omega), dropC s (k + 2) (by omega), (byte_eq (n := 13) (by decide)).1 h1, (byte_eq (n := 10) (by decide)).1 h2, (byte_eq (n := 32) (by decide)).1 h3]
  rw [unf]
  exact if_pos ⟨rfl, rfl, rfl⟩
theorem unf_keep {s : ByteArray} {k : Nat} (hk : k < s.size) (h : ¬ foldAt s k) : unf (s.data.toList.drop k) = s[k] :: unf (s.data.toList.drop (k + 1)) := by
  rw [dropC s k hk]
  by_cases h1 : k + 1 < s.size
  · rw [dropC s (k + 1) h1]
    by_cases h2 : k + 2 < s.size
    · rw [dropC s (k + 2) h2, unf, if_neg]
      rintro ⟨a, b, c⟩
      refine h ⟨h2, ?_, ?_, ?_⟩
      · rw [← at0_get s _ (by omega)]; exact (byte_eq (n := 13) (by decide)).2 a
      · rw [← at0_get s _ (by omega)]; exact (byte_eq (n := 10) (by decide)).2 b
      · rw [← at0_get s _ (by omega)]; exact (byte_eq (n := 32) (by decide)).2 c
    · have e : k + 2 = s.size := by omega
      rw [e, dropE]
      rfl
  · have e : k + 1 = s.size := by omega
    rw [e, dropE]
    rfl
theorem add_one (l : List UInt8) (s : ByteArray) (k : Nat) (h : k < s.size) : (⟨l.toArray⟩ : ByteArray) ++ s.extract k (k + 1) = ⟨(l ++ [s[k]]).toArray⟩ := by
  have e : s.extract k (k + 1) = ⟨[s[k]].toArray⟩ := by
    apply ByteArray.ext
    apply Array.toList_inj.1
    have := extract_cut s k (k + 1)
    rw [this, show k + 1 - k = 0 + 1 from by omega, cut_snoc s k 0 (by omega)]
    simp [cut]
  rw [e]
  exact ba_app l [s[k]]

set_option maxRecDepth 100000 in
set_option maxHeartbeats 2000000 in
theorem unfolded_any (s : ByteArray) (w : World) (hs : s.size ≤ 1048576) :
    Calls Tryz.prog 290 #[.string s] w fun e w' => e = .returned (.string ⟨(unf s.data.toList).toArray⟩) ∧ w = w' := by
  go_enter Tryz.func290, Tryz.ntmps290
  go_wp2
  go_loop [3, 4] (fun o i => ∃ (k : Nat) (l : List UInt8), k ≤ s.size ∧ i = .int .i64 k ∧ o = .string ⟨l.toArray⟩ ∧ l.length ≤ k ∧ Hid (l ++ unf (s.data.toList.drop k) = unf s.data.toList)) (fun _ i => s.size - (intOf i).toNat)
  case atStart => exact ⟨0, [], Nat.zero_le _, rfl, rfl, by simp, hide (by simp)⟩
  case round =>
    obtain ⟨k, l, hk, rfl, rfl, hl, HP⟩ := hrel
    by_cases hlt : k < s.size
    case neg =>
      have hkl : k = s.size := by omega
      subst hkl
      have HQ : Hid (l = unf s.data.toList) := hide (by have := HP.out; rw [dropE] at this; simpa [unf] using this)
      clear HP
      go_wp2
      go_ret
      exact ⟨ret_str (by rw [HQ.out]), rfl⟩
    case pos =>
      by_cases hf : foldAt s k
      case pos =>
        have HN : Hid (l ++ unf (s.data.toList.drop (k + 3)) = unf s.data.toList) := hide (by rw [← unf_fold hf]; exact HP.out)
        obtain ⟨f0, f1, f2, f3⟩ := hf
        clear HP
        have g1 : (((s[k]'hlt).toNat : Int) == 13) = true := by rw [at0_get s k hlt, f1]; rfl
        have g2 : (((s[k + 1]'(by omega)).toNat : Int) == 10) = true := by rw [at0_get s (k + 1) (by omega), f2]; rfl
        have g3 : (((s[k + 2]'(by omega)).toNat : Int) == 32) = true := by rw [at0_get s (k + 2) (by omega), f3]; rfl
        clear f1 f2 f3
        go_wp2
        exact ⟨⟨k + 3, l, by omega, by go_num, rfl, by omega, HN⟩, by simp [intOf]; omega⟩
      case neg =>
        have HN : Hid ((l ++ [s[k]]) ++ unf (s.data.toList.drop (k + 1)) = unf s.data.toList) := hide (by have := HP.out; rw [unf_keep hlt hf] at this; simpa using this)
        clear HP
        by_cases h0 : k + 2 < s.size
        case neg =>
          clear hf
          go_wp2
          exact ⟨⟨k + 1, l ++ [s[k]], by omega, by go_num, str_eq (add_one l s k hlt), by simp; omega, HN⟩, by simp [intOf]; omega⟩
        case pos =>
        by_cases h1 : at0 s k = 13
        case neg =>
          have g1 : (((s[k]'hlt).toNat : Int) == 13) = false := by rw [at0_get s k hlt]; simpa using h1
          clear hf h1
          go_wp2
          exact ⟨⟨k + 1, l ++ [s[k]], by omega, by go_num, str_eq (add_one l s k hlt), by simp; omega, HN⟩, by simp [intOf]; omega⟩
        case pos =>
        have g1 : (((s[k]'hlt).toNat : Int) == 13) = true := by rw [at0_get s k hlt, h1]; rfl
        by_cases h2 : at0 s (k + 1) = 10
        case neg =>
          have g2 : (((s[k + 1]'(by omega)).toNat : Int) == 10) = false := by rw [at0_get s (k + 1) (by omega)]; simpa using h2
          clear hf h1 h2
          go_wp2
          exact ⟨⟨k + 1, l ++ [s[k]], by omega, by go_num, str_eq (add_one l s k hlt), by simp; omega, HN⟩, by simp [intOf]; omega⟩
        case pos =>
        have g2 : (((s[k + 1]'(by omega)).toNat : Int) == 10) = true := by rw [at0_get s (k + 1) (by omega), h2]; rfl
        have h3 : ¬ at0 s (k + 2) = 32 := fun h3 => hf ⟨h0, h1, h2, h3⟩
        have g3 : (((s[k + 2]'h0).toNat : Int) == 32) = false := by rw [at0_get s (k + 2) h0]; simpa using h3
        clear hf h1 h2 h3
        go_wp2
        exact ⟨⟨k + 1, l ++ [s[k]], by omega, by go_num, str_eq (add_one l s k hlt), by simp; omega, HN⟩, by simp [intOf]; omega⟩
end Go.Proofs.YthpndgcaoeokeaaGreatDoor
namespace Go.Proofs.YthpndgcaoeokeaaGreatDoor
open Go.RowKit

/-- texts as values -/
def strs (ls : List (List UInt8)) : List Value := ls.map fun l => Value.string ⟨l.toArray⟩
theorem strs_length (ls : List (List UInt8)) : (strs ls).length = ls.length := List.length_map _
theorem strs_snoc (ls : List (List UInt8)) (l : List UInt8) : strs (ls ++ [l]) = strs ls ++ [Value.string ⟨l.toArray⟩] := by simp [strs]

/-- the lines of what is left, behind what of the first one is read; is the last one's end there? -/
def lns : List UInt8 → List UInt8 → List (List UInt8) × Bool
  | [], acc => ([], acc.isEmpty)
  | [_], _ => ([], false)
  | a :: b :: r, acc => if a = 13 ∧ b = 10 then (acc :: (lns r []).1, (lns r []).2) else lns (b :: r) (acc ++ [a])
def lineAt (s : ByteArray) (k : Nat) : Prop := at0 s k = 13 ∧ at0 s (k + 1) = 10
theorem lns_hit {s : ByteArray} {k : Nat} {acc : List UInt8} (hk : k + 1 < s.size) (h : lineAt s k) :
    lns (s.data.toList.drop k) acc = (acc :: (lns (s.data.toList.drop (k + 2)) []).1, (lns (s.data.toList.drop (k + 2)) []).2) := by
  obtain ⟨h1, h2⟩ := h
  rw [← at0_get s _ (by omega)] at h1 h2
  rw [drop_cons s k (by omega), drop_cons s (k + 1) (by omega), (byte_eq (n := 13) (by decide)).1 h1, (byte_eq (n := 10) (by decide)).1 h2]
  rw [lns]
  exact if_pos ⟨rfl, rfl⟩
theorem lns_miss {s : ByteArray} {k : Nat} {acc : List UInt8} (hk : k + 1 < s.size) (h : ¬ lineAt s k) :
    lns (s.data.toList.drop k) acc = lns (s.data.toList.drop (k + 1)) (acc ++ [s[k]]) := by
  rw [drop_cons s k (by omega), drop_cons s (k + 1) (by omega), lns, if_neg]
  rintro ⟨a, b⟩
  refine h ⟨?_, ?_⟩
  · rw [← at0_get s _ (by omega)]; exact (byte_eq (n := 13) (by decide)).2 a
  · rw [← at0_get s _ (by omega)]; exact (byte_eq (n := 10) (by decide)).2 b
theorem lns_end {s : ByteArray} {k f : Nat} (hk : ¬ k + 1 < s.size) (hks : k ≤ s.size) (hf : f ≤ k) :
    lns (s.data.toList.drop k) (cut s f (k - f)) = ([], (f : Int) == s.size) := by
  by_cases h : k = s.size
  · subst h
    rw [dropE, lns]
    by_cases hfk : f = s.size
    · subst hfk; simp [cut]
    · have : cut s f (s.size - f) ≠ [] := fun e => by
        have := congrArg List.length e
        rw [cut_length s f (s.size - f) (by omega)] at this
        simp at this; omega
      have e1 : ((f : Int) == s.size) = false := by simp; omega
      rw [e1]
      cases hc : cut s f (s.size - f) with
      | nil => exact absurd hc this
      | cons a l => rfl
  · have e : k + 1 = s.size := by omega
    rw [drop_cons s k (by omega), e, dropE, lns]
    have e1 : ((f : Int) == s.size) = false := by simp; omega
    rw [e1]
theorem str_cut (s : ByteArray) (a b : Nat) : Value.string (s.extract a b) = .string ⟨(cut s a (b - a)).toArray⟩ := by
  apply str_eq
  apply ByteArray.ext
  apply Array.toList_inj.1
  rw [extract_cut]

set_option maxRecDepth 100000 in
set_option maxHeartbeats 2000000 in
theorem lines_any (s : ByteArray) (w : World) (hs : s.size ≤ 1048576) :
    Calls Tryz.prog 289 #[.string s] w fun e w' => ∃ v, e = .returned (.tuple #[v, .bool (lns s.data.toList []).2]) ∧ w'.ownsRow w.heap.size 9 1 v (lns s.data.toList []).1.length (strs (lns s.data.toList []).1) ∧ Below w.heap.size w w' := by
  obtain ⟨i0, hi, hz0, hz1, hz2⟩ := info_parts infoString
  go_enter Tryz.func289, Tryz.ntmps289
  go_wp2
  go_loopw [4, 5, 6] (fun v f i wr => ∃ (k f' : Nat) (ys : List (List UInt8)), f' ≤ k ∧ k ≤ s.size ∧ i = .int .i64 k ∧ f = .int .i64 f' ∧ ys.length ≤ k ∧ wr.ownsRow w.heap.size 9 1 v ys.length (strs ys) ∧ Below w.heap.size w wr ∧
      Hid (lns s.data.toList [] = (ys ++ (lns (s.data.toList.drop k) (cut s f' (k - f'))).1, (lns (s.data.toList.drop k) (cut s f' (k - f'))).2)))
    (fun _ _ i _ => s.size - (intOf i).toNat)
  case atStart => exact ⟨0, 0, [], Nat.le_refl _, Nat.zero_le _, rfl, rfl, by simp, World.ownsRow_nil _ _ _ _, Below.refl _ _, hide (by simp [cut])⟩
  case round =>
    obtain ⟨k, f, ys, hfk, hk, rfl, rfl, hyl, hown, hnx, HP⟩ := hrel
    have hsz := hnx.size
    by_cases hlt : k + 1 < s.size
    case neg =>
      have HE : Hid (lns s.data.toList [] = (ys, (f : Int) == s.size)) := hide (by rw [HP.out, lns_end hlt hk hfk]; simp)
      clear HP
      go_wp2
      go_ret2
      exact ⟨u4, by rw [HE.out]; rfl, by rw [HE.out]; exact hown, hnx⟩
    case pos =>
      by_cases hc : lineAt s k
      case pos =>
        have HN : Hid (lns s.data.toList [] = ((ys ++ [cut s f (k - f)]) ++ (lns (s.data.toList.drop (k + 2)) (cut s (k + 2) (k + 2 - (k + 2)))).1, (lns (s.data.toList.drop (k + 2)) (cut s (k + 2) (k + 2 - (k + 2)))).2)) :=
          hide (by rw [HP.out, lns_hit hlt hc]; simp [cut])
        obtain ⟨h1, h2⟩ := hc
        have g1 : (((s[k]'(by omega)).toNat : Int) == 13) = true := by rw [at0_get s k (by omega), h1]; rfl
        have g2 : (((s[k + 1]'hlt).toNat : Int) == 10) = true := by rw [at0_get s (k + 1) hlt, h2]; rfl
        clear HP h1 h2
        go_wp2_with (at_builtin; refine wpList_append_own _ rfl _ _ 52 rfl w.heap.size 9 i0 (.string ⟨#[]⟩) 1 16 Tryz.underlying52 hi hz0 hz1 hz2 rfl (by decide) _ _ _ rfl (hown.alloc _) ⟨wr.heap.size, 0, none⟩ 1 1 [.string (s.extract f k)] rfl rfl ?c1 ?c2 ?c3 ?c4 ?c5 ?_)
        case c1 =>
          intro j u hj
          match j, hj with
          | 0, hj => simp at hj; subst hj; simp [Addr.add]
        case c2 => intro u hu; simp at hu; subst hu; rfl
        case c3 => unfold maxLen; omega
        case c4 => omega
        case c5 => simp; omega
        · intro v' w1 hown' hgrow _
          have R := own_append hsz hown hnx hown' hgrow
          clear hown' hgrow hown
          go_wp2
          go_roundw
          case rel => exact ⟨k + 2, k + 2, ys ++ [cut s f (k - f)], by omega, by omega, by go_num, by go_num, by simp; omega, by rw [strs_snoc, ← str_cut]; simpa using R.1, R.2, HN⟩
          case measure => simp [intOf]; omega
      case neg =>
        have HN : Hid (lns s.data.toList [] = (ys ++ (lns (s.data.toList.drop (k + 1)) (cut s f (k + 1 - f))).1, (lns (s.data.toList.drop (k + 1)) (cut s f (k + 1 - f))).2)) := by
          have hcs := cut_snoc s f (k - f) (by omega)
          have hge : s[f + (k - f)]'(by omega) = s[k]'(by omega) := by congr 1; omega
          refine hide ?_
          rw [HP.out, lns_miss hlt hc, show k + 1 - f = (k - f) + 1 from by omega, hcs, hge]
        clear HP
        by_cases h1 : at0 s k = 13
        case neg =>
          have g1 : (((s[k]'(by omega)).toNat : Int) == 13) = false := by rw [at0_get s k (by omega)]; simpa using h1
          clear hc h1
          go_wp2
          go_roundw
          case rel => exact ⟨k + 1, f, ys, by omega, by omega, by go_num, rfl, by omega, hown, hnx, HN⟩
          case measure => simp [intOf]; omega
        case pos =>
          have g1 : (((s[k]'(by omega)).toNat : Int) == 13) = true := by rw [at0_get s k (by omega), h1]; rfl
          have h2 : ¬ at0 s (k + 1) = 10 := fun h2 => hc ⟨h1, h2⟩
          have g2 : (((s[k + 1]'hlt).toNat : Int) == 10) = false := by rw [at0_get s (k + 1) hlt]; simpa using h2
          clear hc h1 h2
          go_wp2
          go_roundw
          case rel => exact ⟨k + 1, f, ys, by omega, by omega, by go_num, rfl, by omega, hown, hnx, HN⟩
          case measure => simp [intOf]; omega
end Go.Proofs.YthpndgcaoeokeaaGreatDoor
namespace Go.Proofs.YthpndgcaoeokeaaGreatDoor
open Go.RowKit

/-- the place of a name -/
def idx : List (List UInt8) → List UInt8 → Option Nat
  | [], _ => none
  | a :: r, n => if a = n then some 0 else (idx r n).map (· + 1)
theorem idx_none {n : List UInt8} : ∀ {ns : List (List UInt8)}, (∀ j, j < ns.length → ns.getD j [] ≠ n) → idx ns n = none
  | [], _ => rfl
  | a :: r, h => by
    have h0 : a ≠ n := h 0 (by simp)
    have hr : idx r n = none := idx_none fun j hj => h (j + 1) (by simpa using hj)
    rw [idx, if_neg h0, hr]; rfl
theorem idx_some {n : List UInt8} : ∀ {ns : List (List UInt8)} {k : Nat}, k < ns.length → (∀ j, j < k → ns.getD j [] ≠ n) → ns.getD k [] = n → idx ns n = some k
  | [], k, hk, _, _ => by simp at hk
  | a :: r, 0, _, _, h => by rw [idx, if_pos (by simpa using h)]
  | a :: r, k + 1, hk, hj, h => by
    have h0 : a ≠ n := hj 0 (by omega)
    have hr : idx r n = some k := idx_some (by simpa using hk) (fun j hlt => hj (j + 1) (by omega)) (by simpa using h)
    rw [idx, if_neg h0, hr]; rfl
def plc (ns : List (List UInt8)) (c : UInt8) (l : List UInt8) : Option (Nat × List UInt8) :=
  match sp c l with
  | none => none
  | some (n, v) => (idx ns n).map fun k => (k, v)
def plcV : Option (Nat × List UInt8) → Value
  | none => .tuple #[.int .i64 0, .string ⟨#[]⟩, .bool false]
  | some (k, v) => .tuple #[.int .i64 k, .string ⟨v.toArray⟩, .bool true]

theorem sp_take {s : ByteArray} {c : UInt8} {k : Nat} (hk : k < s.size) (hn : c ∉ s.data.toList.take k) (h : s[k] = c) : sp c s.data.toList = some (s.data.toList.take k, s.data.toList.drop (k + 1)) := by
  have e : s.data.toList = s.data.toList.take k ++ c :: s.data.toList.drop (k + 1) := by
    rw [← h, ← drop_cons s k hk, List.take_append_drop]
  have := sp_at (b := s.data.toList.drop (k + 1)) hn
  rw [← e] at this
  exact this
theorem cut_take (s : ByteArray) (k : Nat) : cut s 0 k = s.data.toList.take k := by simp [cut]
theorem cut_drop (s : ByteArray) (k : Nat) : cut s k (s.size - k) = s.data.toList.drop k := by
  unfold cut
  apply List.take_of_length_le
  rw [List.length_drop, Array.length_toList]
  exact Nat.le_refl _
theorem ext_eq (l : List UInt8) (s : ByteArray) (k : Nat) : (⟨l.toArray⟩ : ByteArray) = s.extract 0 k ↔ l = s.data.toList.take k := by
  constructor
  · intro h
    have := congrArg (fun x => x.data.toList) h
    rw [extract_cut, Nat.sub_zero, cut_take] at this
    simpa using this
  · intro h
    apply ByteArray.ext
    apply Array.toList_inj.1
    rw [extract_cut, Nat.sub_zero, cut_take, h]

theorem ret_plc {j : Nat} {v : Value} {l l' : List UInt8} (h : v = .string ⟨l.toArray⟩) (hl : l = l') : Ending.returned (.tuple #[.int .i64 j, v, .bool true]) = .returned (plcV (some (j, l'))) := by rw [h, hl]; rfl
set_option maxRecDepth 100000 in
set_option maxHeartbeats 2000000 in
theorem place_any (b off cap : Nat) (ns : List (List UInt8)) (s : ByteArray) (c : UInt8) (w : World) (hs : s.size ≤ 1048576) (hns : ns.length ≤ 100) (hc : ∀ j, j < ns.length → w.cell? ⟨b, off + j, none⟩ = some (.string ⟨(ns.getD j []).toArray⟩)) :
    Calls Tryz.prog 291 #[.slice (some ⟨b, off, none⟩) ns.length cap, .string s, .int .u8 c.toNat] w fun e w' => e = .returned (plcV (plc ns c s.data.toList)) ∧ ∃ q, w' = w.drewN q := by
  have HC := hide hc
  clear hc
  go_enter Tryz.func291, Tryz.ntmps291
  go_wp2
  go_loop [9] (fun i => ∃ k : Nat, k ≤ s.size ∧ i = .int .i64 k ∧ Hid (c ∉ s.data.toList.take k)) (fun i => s.size - (intOf i).toNat)
  case atStart => exact ⟨0, Nat.zero_le _, rfl, hide (by simp)⟩
  case round =>
    obtain ⟨k, hk, rfl, HN⟩ := hrel
    by_cases hlt : k < s.size
    case neg =>
      have hkl : k = s.size := by omega
      subst hkl
      have HE : Hid (plc ns c s.data.toList = none) := hide (by have := HN.out; rw [take_all] at this; unfold plc; rw [sp_none this])
      clear HN
      go_wp2
      go_ret3
      exact ⟨by rw [HE.out]; rfl, 0, (World.drewN_zero w).symm⟩
    case pos =>
      by_cases he : s[k] = c
      case neg =>
        have g : (((s[k]'hlt).toNat : Int) == c.toNat) = false := by
          rw [beq_eq_false_iff_ne]; intro h; exact he (UInt8.toNat_inj.1 (by omega))
        have HM : Hid (c ∉ s.data.toList.take (k + 1)) := hide (by rw [take_snoc s k hlt, List.mem_append, List.mem_singleton]; intro h; rcases h with h | h; (exact HN.out h); (exact he h.symm))
        clear HN he
        go_wp2
        exact ⟨⟨k + 1, by omega, by go_num, HM⟩, by simp [intOf]; omega⟩
      case pos =>
        have g : (((s[k]'hlt).toNat : Int) == c.toNat) = true := by rw [he]; simp
        have HS : Hid (sp c s.data.toList = some (s.data.toList.take k, s.data.toList.drop (k + 1))) := hide (sp_take hlt HN.out he)
        clear HN he
        go_wp2
        go_loopw [10] (fun t wr => ∃ j q : Nat, j ≤ ns.length ∧ t = .int .i64 j ∧ wr = w.drewN q ∧ Hid (∀ j', j' < j → ns.getD j' [] ≠ s.data.toList.take k)) (fun t _ => ns.length - (intOf t).toNat)
        case atStart => exact ⟨0, 0, Nat.zero_le _, rfl, (World.drewN_zero w).symm, hide (fun j' h => by omega)⟩
        case round =>
          obtain ⟨j, q, hj, rfl, rfl, HJ⟩ := hrel
          by_cases hjl : j < ns.length
          case neg =>
            have hjn : j = ns.length := by omega
            subst hjn
            have HE : Hid (plc ns c s.data.toList = none) := hide (by unfold plc; rw [HS.out]; show (idx ns _).map _ = _; rw [idx_none HJ.out]; rfl)
            clear HS HJ
            go_wp2
            go_ret3
            exact ⟨by rw [HE.out]; rfl, q, rfl⟩
          case pos =>
            obtain ⟨N, hN⟩ : ∃ N : ByteArray, N = ⟨(ns.getD j []).toArray⟩ := ⟨_, rfl⟩
            have hcell : w.cell? ⟨b, off + j, none⟩ = some (.string N) := by rw [hN]; exact HC.out j hjl
            by_cases heq : ns.getD j [] = s.data.toList.take k
            case pos =>
              have g2 : (N.toList == (s.extract 0 k).toList) = true := by rw [Lib.bytes_beq_iff, hN, (ext_eq _ s k).2 heq]
              have HE : Hid (plc ns c s.data.toList = some (j, s.data.toList.drop (k + 1))) := hide (by unfold plc; rw [HS.out]; show (idx ns _).map _ = _; rw [idx_some hjl HJ.out heq]; rfl)
              clear HS HJ heq hN
              go_wp2
              go_quiet (fail)
              go_wp2
              go_quiet (fail)
              go_wp2
              go_ret3
              exact ⟨by rw [HE.out]; exact ret_plc (str_cut s (k + 1) s.size) (cut_drop s (k + 1)), _, by rw [World.drewN_drewN, World.drewN_drewN]⟩
            case neg =>
              have g2 : (N.toList == (s.extract 0 k).toList) = false := by rw [Lib.bytes_beq_false_iff, hN]; intro h; exact heq ((ext_eq _ s k).1 h)
              have HM : Hid (∀ j', j' < j + 1 → ns.getD j' [] ≠ s.data.toList.take k) := hide (fun j' h => by
                by_cases e : j' = j
                · subst e; exact heq
                · exact HJ.out j' (by omega))
              clear HJ heq hN
              go_wp2
              go_quiet (fail)
              go_wp2
              exact ⟨⟨j + 1, q + nq, by omega, by go_num, rfl, HM⟩, by simp [intOf]; omega⟩
end Go.Proofs.YthpndgcaoeokeaaGreatDoor
namespace Go.Proofs.YthpndgcaoeokeaaGreatDoor
open Go.RowKit

/-- which of three words -/
def wrd (s a b c : List UInt8) : Int := if s = a then 1 else if s = b then 2 else if s = c then 3 else 0
theorem toA_eq (a b : List UInt8) : ((⟨a.toArray⟩ : ByteArray).toList == (⟨b.toArray⟩ : ByteArray).toList) = true ↔ a = b := by
  rw [Lib.bytes_beq_iff]
  exact ⟨fun h => by have := congrArg (fun x => x.data.toList) h; simpa using this, fun h => by rw [h]⟩
theorem toA_ne (a b : List UInt8) : ((⟨a.toArray⟩ : ByteArray).toList == (⟨b.toArray⟩ : ByteArray).toList) = false ↔ ¬ a = b := by
  rw [← toA_eq a b, Bool.not_eq_true]
theorem word_B (s a b c : ByteArray) (w : World) :
    Calls Tryz.prog 238 #[.string s, .string a, .string b, .string c] w fun e w' => e = .returned (.int .i64 (if s = a then 1 else if s = b then 2 else if s = c then 3 else 0)) ∧ w = w' := by
  by_cases h1 : s = a
  · have g1 := (Lib.bytes_beq_iff s a).2 h1
    rw [if_pos h1]
    clear h1
    go_enter Tryz.func238, Tryz.ntmps238
    go_wp2
    go_ret
    exact ⟨rfl, rfl⟩
  · have g1 := (Lib.bytes_beq_false_iff s a).2 h1
    rw [if_neg h1]
    clear h1
    by_cases h2 : s = b
    · have g2 := (Lib.bytes_beq_iff s b).2 h2
      rw [if_pos h2]
      clear h2
      go_enter Tryz.func238, Tryz.ntmps238
      go_wp2
      go_ret
      exact ⟨rfl, rfl⟩
    · have g2 := (Lib.bytes_beq_false_iff s b).2 h2
      rw [if_neg h2]
      clear h2
      by_cases h3 : s = c
      · have g3 := (Lib.bytes_beq_iff s c).2 h3
        rw [if_pos h3]
        clear h3
        go_enter Tryz.func238, Tryz.ntmps238
        go_wp2
        go_ret
        exact ⟨rfl, rfl⟩
      · have g3 := (Lib.bytes_beq_false_iff s c).2 h3
        rw [if_neg h3]
        clear h3
        go_enter Tryz.func238, Tryz.ntmps238
        go_wp2
        go_ret
        exact ⟨rfl, rfl⟩
theorem ba_iff (a b : List UInt8) : (⟨a.toArray⟩ : ByteArray) = ⟨b.toArray⟩ ↔ a = b :=
  ⟨fun h => by have := congrArg (fun x => x.data.toList) h; simpa using this, fun h => by rw [h]⟩
theorem word_any (s a b c : List UInt8) (w : World) :
    Calls Tryz.prog 238 #[.string ⟨s.toArray⟩, .string ⟨a.toArray⟩, .string ⟨b.toArray⟩, .string ⟨c.toArray⟩] w fun e w' => e = .returned (.int .i64 (wrd s a b c)) ∧ w = w' := by
  have := word_B ⟨s.toArray⟩ ⟨a.toArray⟩ ⟨b.toArray⟩ ⟨c.toArray⟩ w
  simp only [ba_iff] at this
  exact this

def wdays : List (List UInt8) := [[77, 79], [84, 85], [87, 69], [84, 72], [70, 82], [83, 65], [83, 85]]
def wdI (l : List UInt8) : Int := match idx wdays l with | some k => k | none => -1

theorem less_snoc {n : List UInt8} {ns : List (List UInt8)} {k : Nat} (h : ∀ j, j < k → ns.getD j [] ≠ n) (he : ¬ ns.getD k [] = n) : ∀ j, j < k + 1 → ns.getD j [] ≠ n := fun j hj => by
  by_cases e : j = k
  · subst e; exact he
  · exact h j (by omega)
set_option maxRecDepth 100000 in
set_option maxHeartbeats 2000000 in
theorem weekday_any (s : ByteArray) (w : World) :
    Calls Tryz.prog 334 #[.string s] w fun e w' => e = .returned (.int .i64 (wdI s.data.toList)) ∧ Below w.heap.size w w' := by
  go_enter Tryz.func334, Tryz.ntmps334
  go_wp2
  go_loop [4] (fun i => ∃ k : Nat, k ≤ 7 ∧ i = .int .i64 k ∧ Hid (∀ j, j < k → wdays.getD j [] ≠ s.data.toList)) (fun i => 7 - (intOf i).toNat)
  case atStart => exact ⟨0, Nat.zero_le _, rfl, hide (fun j h => by omega)⟩
  case round =>
    obtain ⟨k, hk, rfl, HN⟩ := hrel
    have hk8 : k = 0 ∨ k = 1 ∨ k = 2 ∨ k = 3 ∨ k = 4 ∨ k = 5 ∨ k = 6 ∨ k = 7 := by omega
    rcases hk8 with rfl | rfl | rfl | rfl | rfl | rfl | rfl | rfl
    · by_cases he : wdays.getD 0 [] = s.data.toList
      · have g : ([77, 79] == s.toList) = true := by rw [ByteArray.toList_eq, beq_iff_eq]; exact he
        have HE : Hid (wdI s.data.toList = 0) := hide (by unfold wdI; rw [idx_some (k := 0) (by decide) HN.out he]; rfl)
        clear HN he
        go_wp2
        go_ret
        exact ⟨by rw [HE.out]; rfl, (Below.refl _ _).alloc (Nat.le_refl _) _⟩
      · have g : ([77, 79] == s.toList) = false := by rw [ByteArray.toList_eq, beq_eq_false_iff_ne]; exact he
        have HM : Hid (∀ j, j < 0 + 1 → wdays.getD j [] ≠ s.data.toList) := hide (less_snoc HN.out he)
        clear HN he
        go_wp2
        exact ⟨⟨1, by omega, rfl, HM⟩, by simp [intOf]⟩
    · by_cases he : wdays.getD 1 [] = s.data.toList
      · have g : ([84, 85] == s.toList) = true := by rw [ByteArray.toList_eq, beq_iff_eq]; exact he
        have HE : Hid (wdI s.data.toList = 1) := hide (by unfold wdI; rw [idx_some (k := 1) (by decide) HN.out he]; rfl)
        clear HN he
        go_wp2
        go_ret
        exact ⟨by rw [HE.out]; rfl, (Below.refl _ _).alloc (Nat.le_refl _) _⟩
      · have g : ([84, 85] == s.toList) = false := by rw [ByteArray.toList_eq, beq_eq_false_iff_ne]; exact he
        have HM : Hid (∀ j, j < 1 + 1 → wdays.getD j [] ≠ s.data.toList) := hide (less_snoc HN.out he)
        clear HN he
        go_wp2
        exact ⟨⟨2, by omega, rfl, HM⟩, by simp [intOf]⟩
    · by_cases he : wdays.getD 2 [] = s.data.toList
      · have g : ([87, 69] == s.toList) = true := by rw [ByteArray.toList_eq, beq_iff_eq]; exact he
        have HE : Hid (wdI s.data.toList = 2) := hide (by unfold wdI; rw [idx_some (k := 2) (by decide) HN.out he]; rfl)
        clear HN he
        go_wp2
        go_ret
        exact ⟨by rw [HE.out]; rfl, (Below.refl _ _).alloc (Nat.le_refl _) _⟩
      · have g : ([87, 69] == s.toList) = false := by rw [ByteArray.toList_eq, beq_eq_false_iff_ne]; exact he
        have HM : Hid (∀ j, j < 2 + 1 → wdays.getD j [] ≠ s.data.toList) := hide (less_snoc HN.out he)
        clear HN he
        go_wp2
        exact ⟨⟨3, by omega, rfl, HM⟩, by simp [intOf]⟩
    · by_cases he : wdays.getD 3 [] = s.data.toList
      · have g : ([84, 72] == s.toList) = true := by rw [ByteArray.toList_eq, beq_iff_eq]; exact he
        have HE : Hid (wdI s.data.toList = 3) := hide (by unfold wdI; rw [idx_some (k := 3) (by decide) HN.out he]; rfl)
        clear HN he
        go_wp2
        go_ret
        exact ⟨by rw [HE.out]; rfl, (Below.refl _ _).alloc (Nat.le_refl _) _⟩
      · have g : ([84, 72] == s.toList) = false := by rw [ByteArray.toList_eq, beq_eq_false_iff_ne]; exact he
        have HM : Hid (∀ j, j < 3 + 1 → wdays.getD j [] ≠ s.data.toList) := hide (less_snoc HN.out he)
        clear HN he
        go_wp2
        exact ⟨⟨4, by omega, rfl, HM⟩, by simp [intOf]⟩
    · by_cases he : wdays.getD 4 [] = s.data.toList
      · have g : ([70, 82] == s.toList) = true := by rw [ByteArray.toList_eq, beq_iff_eq]; exact he
        have HE : Hid (wdI s.data.toList = 4) := hide (by unfold wdI; rw [idx_some (k := 4) (by decide) HN.out he]; rfl)
        clear HN he
        go_wp2
        go_ret
        exact ⟨by rw [HE.out]; rfl, (Below.refl _ _).alloc (Nat.le_refl _) _⟩
      · have g : ([70, 82] == s.toList) = false := by rw [ByteArray.toList_eq, beq_eq_false_iff_ne]; exact he
        have HM : Hid (∀ j, j < 4 + 1 → wdays.getD j [] ≠ s.data.toList) := hide (less_snoc HN.out he)
        clear HN he
        go_wp2
        exact ⟨⟨5, by omega, rfl, HM⟩, by simp [intOf]⟩
    · by_cases he : wdays.getD 5 [] = s.data.toList
      · have g : ([83, 65] == s.toList) = true := by rw [ByteArray.toList_eq, beq_iff_eq]; exact he
        have HE : Hid (wdI s.data.toList = 5) := hide (by unfold wdI; rw [idx_some (k := 5) (by decide) HN.out he]; rfl)
        clear HN he
        go_wp2
        go_ret
        exact ⟨by rw [HE.out]; rfl, (Below.refl _ _).alloc (Nat.le_refl _) _⟩
      · have g : ([83, 65] == s.toList) = false := by rw [ByteArray.toList_eq, beq_eq_false_iff_ne]; exact he
        have HM : Hid (∀ j, j < 5 + 1 → wdays.getD j [] ≠ s.data.toList) := hide (less_snoc HN.out he)
        clear HN he
        go_wp2
        exact ⟨⟨6, by omega, rfl, HM⟩, by simp [intOf]⟩
    · by_cases he : wdays.getD 6 [] = s.data.toList
      · have g : ([83, 85] == s.toList) = true := by rw [ByteArray.toList_eq, beq_iff_eq]; exact he
        have HE : Hid (wdI s.data.toList = 6) := hide (by unfold wdI; rw [idx_some (k := 6) (by decide) HN.out he]; rfl)
        clear HN he
        go_wp2
        go_ret
        exact ⟨by rw [HE.out]; rfl, (Below.refl _ _).alloc (Nat.le_refl _) _⟩
      · have g : ([83, 85] == s.toList) = false := by rw [ByteArray.toList_eq, beq_eq_false_iff_ne]; exact he
        have HM : Hid (∀ j, j < 6 + 1 → wdays.getD j [] ≠ s.data.toList) := hide (less_snoc HN.out he)
        clear HN he
        go_wp2
        exact ⟨⟨7, by omega, rfl, HM⟩, by simp [intOf]⟩
    · have HE : Hid (wdI s.data.toList = -1) := hide (by unfold wdI; rw [idx_none (ns := wdays) HN.out])
      clear HN
      go_wp2
      go_ret
      exact ⟨by rw [HE.out]; rfl, (Below.refl _ _).alloc (Nat.le_refl _) _⟩

/-- a number from 1 to most -/
def within (l : List UInt8) (most : Int) : Bool := numB l && decide (1 ≤ numN l) && decide (numN l ≤ most)
def sgn (l : List UInt8) (most : Int) : Int := if l.head? = some 45 then (if within l.tail most then -(numN l.tail) else 0) else (if within l most then numN l else 0)
theorem numN_lim (l : List UInt8) : -1 ≤ numN l ∧ numN l ≤ 9999999 := by
  unfold numN
  split
  · rename_i h
    have hl : l.length ≤ 7 := by
      unfold numShape at h
      simp only [Bool.and_eq_true, decide_eq_true_eq] at h
      exact h.1.2
    have := digs_bd l 7 hl
    omega
  · omega
theorem tail_ext (s : ByteArray) : (s.extract 1 s.size).data.toList = s.data.toList.tail := by
  rw [extract_cut, cut_drop s 1, List.drop_one]
theorem head_byte (s : ByteArray) (h : 0 < s.size) : s.data.toList.head? = some (s[0]'h) := by
  have := drop_cons s 0 h
  rw [List.drop_zero] at this
  rw [this]; rfl
theorem one_mul_neg (x : Int) : -1 * x = -x := by omega

set_option maxRecDepth 100000 in
set_option maxHeartbeats 2000000 in
/-- behind the sign -/
theorem signed_any (s : ByteArray) (most : Int) (w : World) (hs : s.size ≤ maxLen) :
    Calls Tryz.prog 331 #[.string s, .int .i64 most] w fun e w' => e = .returned (.int .i64 (sgn s.data.toList most)) ∧ w = w' := by
  have fin : ∀ (l : List UInt8), within l most = true ∨ numB l = false ∨ (numB l = true ∧ numN l < 1) ∨ (numB l = true ∧ 1 ≤ numN l ∧ most < numN l) := fun l => by
    cases hb : numB l
    · exact .inr (.inl rfl)
    · by_cases h1 : 1 ≤ numN l
      · by_cases h2 : numN l ≤ most
        · exact .inl (by unfold within; rw [hb]; simp [h1, h2])
        · exact .inr (.inr (.inr ⟨rfl, h1, by omega⟩))
      · exact .inr (.inr (.inl ⟨rfl, by omega⟩))
  have no : ∀ (l : List UInt8), numB l = false ∨ (numB l = true ∧ numN l < 1) ∨ (numB l = true ∧ 1 ≤ numN l ∧ most < numN l) → within l most = false := fun l h => by
    unfold within
    rcases h with h | ⟨h, h1⟩ | ⟨h, h1, h2⟩
    · rw [h]; rfl
    · have : decide (1 ≤ numN l) = false := by simp; omega
      rw [this]; simp
    · have : decide (numN l ≤ most) = false := by simp; omega
      rw [this]; simp
  by_cases hd : 0 < s.size ∧ at0 s 0 = 45
  case pos =>
    obtain ⟨h0, h1⟩ := hd
    have hh : s.data.toList.head? = some 45 := by
      rw [head_byte s h0]
      rw [← at0_get s 0 h0] at h1
      rw [(byte_eq (n := 45) (by decide)).1 h1]; rfl
    have g1 : (((s[0]'h0).toNat : Int) == 45) = true := by rw [at0_get s 0 h0, h1]; rfl
    obtain ⟨T, hT⟩ : ∃ T, T = s.data.toList.tail := ⟨_, rfl⟩
    have CN := refNumber_any (s.extract 1 s.size)
    rw [tail_ext s, ← hT] at CN
    have hes : (s.extract 1 s.size).size ≤ maxLen := by
      have := ByteArray.size_extract (a := s) (b := 1) (e := s.size)
      omega
    have HC := hide CN
    have hS : sgn s.data.toList most = if within T most then -(numN T) else 0 := by unfold sgn; rw [if_pos hh, hT]
    have HS := hide hS
    have hl := numN_lim T
    have hF := fin T
    have HNo := hide (no T)
    clear CN hS hh hT h1 fin no
    rcases hF with hF | hF
    case inl =>
      have HR : Hid (sgn s.data.toList most = -(numN T)) := hide (by rw [HS.out, if_pos hF])
      unfold within at hF
      simp only [Bool.and_eq_true, decide_eq_true_eq] at hF
      obtain ⟨⟨f1, f2⟩, f3⟩ := hF
      clear HS HNo
      go_enter Tryz.func331, Tryz.ntmps331
      go_wp2_with (go_at_call 185; refine (HC.out _ hes).mono ?_; rintro e w' ⟨rfl, rfl⟩)
      go_ret
      exact ⟨by rw [HR.out]; exact ret_int (by omega), rfl⟩
    case inr =>
      have HR : Hid (sgn s.data.toList most = 0) := hide (by rw [HS.out, if_neg (by rw [HNo.out hF]; exact Bool.false_ne_true)])
      clear HS HNo
      rcases hF with f1 | ⟨f1, f2⟩ | ⟨f1, f2, f3⟩
      all_goals
        go_enter Tryz.func331, Tryz.ntmps331
        go_wp2_with (go_at_call 185; refine (HC.out _ hes).mono ?_; rintro e w' ⟨rfl, rfl⟩)
        go_ret
        exact ⟨by rw [HR.out]; rfl, rfl⟩
  case neg =>
    have hh : ¬ s.data.toList.head? = some 45 := fun hh => by
      by_cases h0 : 0 < s.size
      · rw [head_byte s h0] at hh
        refine hd ⟨h0, ?_⟩
        rw [← at0_get s 0 h0]
        rw [Option.some.inj hh]; rfl
      · have : s.data.toList = [] := List.eq_nil_of_length_eq_zero (by rw [Array.length_toList]; show s.size = 0; omega)
        rw [this] at hh; cases hh
    obtain ⟨T, hT⟩ : ∃ T, T = s.data.toList := ⟨_, rfl⟩
    have CN := refNumber_any s w hs
    rw [← hT] at CN
    have HC := hide CN
    have hS : sgn s.data.toList most = if within T most then numN T else 0 := by unfold sgn; rw [if_neg hh, hT]
    have HS := hide hS
    have hl := numN_lim T
    have hF := fin T
    have HNo := hide (no T)
    clear CN hS hh hT fin no
    have hq : (s.size = 0) ∨ (0 < s.size ∧ ¬ at0 s 0 = 45) := by
      by_cases h0 : 0 < s.size
      · exact .inr ⟨h0, fun h => hd ⟨h0, h⟩⟩
      · exact .inl (by omega)
    clear hd
    rcases hF with hF | hF
    case inl =>
      have HR : Hid (sgn s.data.toList most = numN T) := hide (by rw [HS.out, if_pos hF])
      unfold within at hF
      simp only [Bool.and_eq_true, decide_eq_true_eq] at hF
      obtain ⟨⟨f1, f2⟩, f3⟩ := hF
      clear HS HNo
      rcases hq with h0 | ⟨h0, h1⟩
      case inl =>
        go_enter Tryz.func331, Tryz.ntmps331
        go_wp2_with (go_at_call 185; refine (HC.out).mono ?_; rintro e w' ⟨rfl, rfl⟩)
        go_ret
        exact ⟨by rw [HR.out]; exact ret_int (by omega), rfl⟩
      case inr =>
        have g1 : (((s[0]'h0).toNat : Int) == 45) = false := by rw [at0_get s 0 h0]; simpa using h1
        clear h1
        go_enter Tryz.func331, Tryz.ntmps331
        go_wp2_with (go_at_call 185; refine (HC.out).mono ?_; rintro e w' ⟨rfl, rfl⟩)
        go_ret
        exact ⟨by rw [HR.out]; exact ret_int (by omega), rfl⟩
    case inr =>
      have HR : Hid (sgn s.data.toList most = 0) := hide (by rw [HS.out, if_neg (by rw [HNo.out hF]; exact Bool.false_ne_true)])
      clear HS HNo
      rcases hq with h0 | ⟨h0, h1⟩
      case inl =>
        rcases hF with f1 | ⟨f1, f2⟩ | ⟨f1, f2, f3⟩
        all_goals
          go_enter Tryz.func331, Tryz.ntmps331
          go_wp2_with (go_at_call 185; refine (HC.out).mono ?_; rintro e w' ⟨rfl, rfl⟩)
          go_ret
          exact ⟨by rw [HR.out]; rfl, rfl⟩
      case inr =>
        have g1 : (((s[0]'h0).toNat : Int) == 45) = false := by rw [at0_get s 0 h0]; simpa using h1
        clear h1
        rcases hF with f1 | ⟨f1, f2⟩ | ⟨f1, f2, f3⟩
        all_goals
          go_enter Tryz.func331, Tryz.ntmps331
          go_wp2_with (go_at_call 185; refine (HC.out).mono ?_; rintro e w' ⟨rfl, rfl⟩)
          go_ret
          exact ⟨by rw [HR.out]; rfl, rfl⟩
end Go.Proofs.YthpndgcaoeokeaaGreatDoor
namespace Go.Proofs.YthpndgcaoeokeaaGreatDoor
open Go.RowKit

/-- one element more on a slice of the call's own: the element lies in a new block of its own -/
theorem app_one {P : Program} {ops : Array Oper} {rest : List Oper} {o : Oper} {a : Act} {Q : Exit → Act → World → Prop} {w wr : World} {obj : Obj} (hgd : o.guard = none) (s x : Operand) (t e : TypeId) (z : Value) (bytes : Nat)
    (ho : o.op = .call { callee := .builtin .append, args := #[s, x], argTypes := #[t, t] }) (hu : P.underlying t = some (.slice e))
    (hinfo : (P.info? e).map (fun i => (i.zero, i.size, i.bytes)) = some (some z, 1, bytes)) (hz : z.cells.size = 1) (B : Nat) (v : Value) (n : Nat) (xs : List Value) (hs : a.eval s = v)
    (hown : wr.ownsRow B e 1 v n xs) (hnx : Below B w wr) (hB : B ≤ wr.heap.size) (y : Value) (hy : y.oneCell' = true) (hx : a.eval x = .slice (some ⟨wr.heap.size, 0, none⟩) 1 1)
    (hc : (wr.alloc obj).cell? ⟨wr.heap.size, 0, none⟩ = some y) (hn : n ≤ 4194304) (hbytes : bytes ≤ 64)
    (h : ∀ v' w1, w1.ownsRow B e 1 v' (n + 1) (xs ++ [y]) → Below B w w1 → B ≤ w1.heap.size → wpList P ops Q rest (a.put o.dst v') w1) : wpList P ops Q (o :: rest) a (wr.alloc obj) := by
  obtain ⟨i0, hi, hz0, hz1, hz2⟩ := info_parts hinfo
  refine wpList_append_own _ hgd s x t ho B e i0 z 1 bytes hu hi hz0 hz1 hz2 hz (by decide) v n xs hs (hown.alloc _) ⟨wr.heap.size, 0, none⟩ 1 1 [y] hx rfl ?_ ?_ ?_ ?_ ?_ ?_
  · intro j u hj
    match j, hj with
    | 0, hj => simp at hj; subst hj; exact hc
  · intro u hu; simp at hu; subst hu; exact hy
  · unfold maxLen; omega
  · have : (n + 1) * bytes ≤ 4194305 * 64 := Nat.mul_le_mul (by omega) hbytes
    omega
  · simp; omega
  · intro v' w1 hown' hgrow _
    have R := own_append hB hown hnx hown' hgrow
    exact h v' w1 R.1 R.2 (by have := hgrow.size; simp at this; omega)

/-- a list in order, each once, and one more number: what is left -/
def wth (n : Int) : Bool → List Int → List Int
  | d, [] => if d = true then [] else [n]
  | d, a :: r => (if d = false ∧ n ≤ a then [n] else []) ++ (if a = n then [] else [a]) ++ wth n (d || decide (n ≤ a)) r
/-- a slice of numbers lies in the memory -/
def IntsAt (w : World) (v : Value) (zs : List Int) : Prop :=
  zs.length ≤ 1048576 ∧ ((v = .slice none 0 0 ∧ zs = []) ∨ ∃ g off cap, v = .slice (some ⟨g, off, none⟩) zs.length cap ∧ g < w.heap.size ∧ ∀ j, j < zs.length → w.cell? ⟨g, off + j, none⟩ = some (.int .i64 (zs.getD j 0)))

theorem wth_step (n : Int) (d : Bool) (zs : List Int) (k : Nat) (h : k < zs.length) :
    wth n d (zs.drop k) = (if d = false ∧ n ≤ zs.getD k 0 then [n] else []) ++ (if zs.getD k 0 = n then [] else [zs.getD k 0]) ++ wth n (d || decide (n ≤ zs.getD k 0)) (zs.drop (k + 1)) := by
  rw [List.drop_eq_getElem_cons h, wth]
  simp [List.getD, h]
theorem ints_len (l : List Int) : (l.map (Value.int .i64)).length = l.length := List.length_map _

set_option maxRecDepth 100000 in
set_option maxHeartbeats 4000000 in
theorem with_some (g off cap : Nat) (zs : List Int) (n : Int) (w : World) (hz : zs.length ≤ 1048576) (hg : g < w.heap.size) (hc : ∀ j, j < zs.length → w.cell? ⟨g, off + j, none⟩ = some (.int .i64 (zs.getD j 0))) :
    Calls Tryz.prog 248 #[.slice (some ⟨g, off, none⟩) zs.length cap, .int .i64 n] w fun e w' => ∃ v, e = .returned v ∧ w'.ownsRow w.heap.size 3 1 v (wth n false zs).length ((wth n false zs).map (Value.int .i64)) ∧ Below w.heap.size w w' := by
  have HC := hide hc
  clear hc
  go_enter Tryz.func248, Tryz.ntmps248
  go_wp2
  go_loopw [5, 6, 7] (fun v d i wr => ∃ (k : Nat) (b : Bool) (ys : List Int), k ≤ zs.length ∧ i = .int .i64 k ∧ d = .bool b ∧ ys.length ≤ 2 * k ∧ wr.ownsRow w.heap.size 3 1 v ys.length (ys.map (Value.int .i64)) ∧ Below w.heap.size w wr ∧ Hid (wth n false zs = ys ++ wth n b (zs.drop k)))
    (fun _ _ i _ => zs.length - (intOf i).toNat)
  case atStart => exact ⟨0, false, [], Nat.zero_le _, rfl, rfl, by simp, World.ownsRow_nil _ _ _ _, Below.refl _ _, hide (by simp)⟩
  case round =>
    obtain ⟨k, b, ys, hk, rfl, rfl, hyl, hown, hnx, HP⟩ := hrel
    have hB := hnx.size
    by_cases hlt : k < zs.length
    case neg =>
      have hkl : k = zs.length := by omega
      subst hkl
      cases b
      case true =>
        have HE : Hid (wth n false zs = ys) := hide (by have := HP.out; rw [List.drop_length] at this; simpa [wth] using this)
        clear HP
        go_wp2
        go_ret
        exact ⟨_, rfl, by rw [HE.out]; exact hown, hnx⟩
      case false =>
        have HE : Hid (wth n false zs = ys ++ [n]) := hide (by have := HP.out; rw [List.drop_length] at this; simpa [wth] using this)
        clear HP
        go_wp2_with (at_builtin; refine app_one rfl (.tmp 43) (.tmp 45) 54 3 _ 8 rfl Tryz.underlying54 infoInt rfl w.heap.size _ _ _ rfl hown hnx hB (.int .i64 n) rfl rfl (by simp) (by omega) (by decide) ?_; intro v' w1 hown1 hnx1 _)
        go_ret
        exact ⟨_, rfl, by rw [HE.out]; simpa using hown1, hnx1⟩
    case pos =>
      have hcell : wr.cell? ⟨g, off + k, none⟩ = some (.int .i64 (zs.getD k 0)) := by rw [hnx.cell (p := ⟨g, off + k, none⟩) hg]; exact HC.out k hlt
      obtain ⟨z, hze⟩ : ∃ z, z = zs.getD k 0 := ⟨_, rfl⟩
      have hst := wth_step n b zs k hlt
      rw [← hze] at hcell hst
      clear hze
      by_cases hbn : b = false ∧ n ≤ z
      case pos =>
        obtain ⟨rfl, hn⟩ := hbn
        by_cases he : z = n
        case pos =>
          have HN : Hid (wth n false zs = (ys ++ [n]) ++ wth n true (zs.drop (k + 1))) := hide (by rw [HP.out, hst, if_pos ⟨rfl, hn⟩, if_pos he]; simp [hn])
          have g1 : (z != n) = false := by simp [he]
          clear HP hst he
          go_wp2_with (at_builtin; refine app_one rfl (.tmp 24) (.tmp 26) 54 3 _ 8 rfl Tryz.underlying54 infoInt rfl w.heap.size _ _ _ rfl hown hnx hB (.int .i64 n) rfl rfl (by simp) (by omega) (by decide) ?_; intro v' w1 hown1 hnx1 hB1; have hcell1 : w1.cell? ⟨g, off + k, none⟩ = some (.int .i64 z) := (hnx1.cell (p := ⟨g, off + k, none⟩) hg).trans ((hnx.cell (p := ⟨g, off + k, none⟩) hg).symm.trans hcell))
          go_roundw
          case rel => exact ⟨k + 1, true, ys ++ [n], by omega, by go_num, rfl, by simp; omega, by simpa using hown1, hnx1, HN⟩
          case measure => simp [intOf]; omega
        case neg =>
          have HN : Hid (wth n false zs = ((ys ++ [n]) ++ [z]) ++ wth n true (zs.drop (k + 1))) := hide (by rw [HP.out, hst, if_pos ⟨rfl, hn⟩, if_neg he]; simp [hn])
          have g1 : (z != n) = true := by simpa using he
          clear HP hst he
          go_wp2_with (first
            | (at_builtin; refine app_one rfl (.tmp 24) (.tmp 26) 54 3 _ 8 rfl Tryz.underlying54 infoInt rfl w.heap.size _ _ _ rfl hown hnx hB (.int .i64 n) rfl rfl (by simp) (by omega) (by decide) ?_; intro v' w1 hown1 hnx1 hB1; have hcell1 : w1.cell? ⟨g, off + k, none⟩ = some (.int .i64 z) := (hnx1.cell (p := ⟨g, off + k, none⟩) hg).trans ((hnx.cell (p := ⟨g, off + k, none⟩) hg).symm.trans hcell))
            | (at_builtin; refine app_one rfl (.tmp 34) (.tmp 39) 54 3 _ 8 rfl Tryz.underlying54 infoInt rfl w.heap.size _ _ _ rfl hown1 hnx1 hB1 (.int .i64 z) rfl rfl (by simp) (by omega) (by decide) ?_; intro v2 w2 hown2 hnx2 _))
          go_roundw
          case rel => exact ⟨k + 1, true, (ys ++ [n]) ++ [z], by omega, by go_num, rfl, by simp; omega, by simpa using hown2, hnx2, HN⟩
          case measure => simp [intOf]; omega
      case neg =>
        have hb' : (b || decide (n ≤ z)) = b := by
          cases b
          · have : ¬ n ≤ z := fun h => hbn ⟨rfl, h⟩
            simp [this]
          · rfl
        by_cases he : z = n
        case pos =>
          have HN : Hid (wth n false zs = ys ++ wth n b (zs.drop (k + 1))) := hide (by rw [HP.out, hst, if_neg hbn, if_pos he, hb']; simp)
          have g1 : (z != n) = false := by simp [he]
          clear HP hst hb'
          cases b
          · exact absurd ⟨rfl, by omega⟩ hbn
          · clear hbn he
            go_wp2
            go_roundw
            case rel => exact ⟨k + 1, true, ys, by omega, by go_num, rfl, by omega, hown, hnx, HN⟩
            case measure => simp [intOf]; omega
        case neg =>
          have HN : Hid (wth n false zs = (ys ++ [z]) ++ wth n b (zs.drop (k + 1))) := hide (by rw [HP.out, hst, if_neg hbn, if_neg he, hb']; simp)
          have g1 : (z != n) = true := by simpa using he
          clear HP hst hb'
          cases b
          · have hn : z < n := by have : ¬ n ≤ z := fun h => hbn ⟨rfl, h⟩; omega
            clear hbn he
            go_wp2_with (at_builtin; refine app_one rfl (.tmp 34) (.tmp 39) 54 3 _ 8 rfl Tryz.underlying54 infoInt rfl w.heap.size _ _ _ rfl hown hnx hB (.int .i64 z) rfl rfl (by simp) (by omega) (by decide) ?_; intro v2 w2 hown2 hnx2 _)
            go_roundw
            case rel => exact ⟨k + 1, false, ys ++ [z], by omega, by go_num, rfl, by simp; omega, by simpa using hown2, hnx2, HN⟩
            case measure => simp [intOf]; omega
          · clear hbn he
            go_wp2_with (at_builtin; refine app_one rfl (.tmp 34) (.tmp 39) 54 3 _ 8 rfl Tryz.underlying54 infoInt rfl w.heap.size _ _ _ rfl hown hnx hB (.int .i64 z) rfl rfl (by simp) (by omega) (by decide) ?_; intro v2 w2 hown2 hnx2 _)
            go_roundw
            case rel => exact ⟨k + 1, true, ys ++ [z], by omega, by go_num, rfl, by simp; omega, by simpa using hown2, hnx2, HN⟩
            case measure => simp [intOf]; omega
end Go.Proofs.YthpndgcaoeokeaaGreatDoor
namespace Go.Proofs.YthpndgcaoeokeaaGreatDoor
open Go.RowKit

theorem wth_len (n : Int) (zs : List Int) : ∀ d : Bool, (wth n d zs).length + (if d = true then 1 else 0) ≤ zs.length + 1 := by
  induction zs with
  | nil => intro d; cases d <;> simp [wth]
  | cons a r ih =>
    intro d
    rw [wth]
    have h1 := ih true
    have h2 := ih false
    cases d
    · by_cases hn : n ≤ a
      · by_cases he : a = n <;> simp [hn, he] at * <;> omega
      · by_cases he : a = n <;> simp [hn, he] at * <;> omega
    · by_cases he : a = n <;> simp [he] at * <;> omega

theorem own_mono {w : World} {B B' : Nat} {e : TypeId} {v : Value} {n : Nat} {xs : List Value} (h : w.ownsRow B e 1 v n xs) (hB : B' ≤ B) : w.ownsRow B' e 1 v n xs :=
  ⟨h.1, h.2.elim .inl fun ⟨g, cap, cur, h1, h2, h3⟩ => .inr ⟨g, cap, cur, h1, Nat.le_trans hB h2, h3⟩⟩
theorem own_block {w w' : World} {B : Nat} {e : TypeId} {v : Value} {n : Nat} {xs : List Value} (h : w.ownsRow B e 1 v n xs) (hk : ∀ g, g < w.heap.size → B ≤ g → w'.heap[g]? = w.heap[g]?) : w'.ownsRow B e 1 v n xs :=
  ⟨h.1, h.2.elim .inl fun ⟨g, cap, cur, h1, h2, h3, h4⟩ => .inr ⟨g, cap, cur, h1, h2, (hk g (Array.getElem?_eq_some_iff.1 h3).1 h2).trans h3, h4⟩⟩
theorem own_set {w : World} {B p k : Nat} {e : TypeId} {v y : Value} {n : Nat} {xs : List Value} (h : w.ownsRow B e 1 v n xs) (hp : p < B) : (w.setCell ⟨p, k, none⟩ y).ownsRow B e 1 v n xs :=
  own_block h fun g _ hg => Below.heap_setCell _ _ _ _ (show g ≠ p by omega)
/-- what a call owns lies in the memory -/
theorem own_cells {w : World} {B : Nat} {e : TypeId} {v : Value} {n : Nat} {xs : List Value} (h : w.ownsRow B e 1 v n xs) :
    (v = .slice none 0 0 ∧ xs = []) ∨ ∃ g cap, v = .slice (some ⟨g, 0, none⟩) n cap ∧ B ≤ g ∧ g < w.heap.size ∧ ∀ j y, xs[j]? = some y → w.cell? ⟨g, j, none⟩ = some y := by
  obtain ⟨hl, h | ⟨g, cap, cur, hv, hb, hh, hc1, hc2, hsz, ht⟩⟩ := h
  · exact .inl ⟨h.1, List.eq_nil_of_length_eq_zero (by rw [hl, h.2])⟩
  · refine .inr ⟨g, cap, hv, hb, ?_, fun j y hj => ?_⟩
    · exact (Array.getElem?_eq_some_iff.1 hh).1
    · rw [← ht] at hj
      have h2 := List.getElem?_eq_some_iff.1 hj
      obtain ⟨hlt, he⟩ := h2
      rw [List.length_take] at hlt
      rw [List.getElem_take] at he
      unfold World.cell?
      rw [hh]
      simp only [Option.isSome_none, Bool.false_eq_true, if_false]
      rw [Array.getElem?_eq_getElem (by have := Nat.min_le_right (n * 1) cur.toList.length; rw [Array.length_toList] at this; omega)]
      rw [← he]; rfl
theorem own_ints {w : World} {B : Nat} {v : Value} {zs : List Int} {e : TypeId} (h : w.ownsRow B e 1 v zs.length (zs.map (Value.int .i64))) (hz : zs.length ≤ 1048576) : IntsAt w v zs := by
  refine ⟨hz, ?_⟩
  rcases own_cells h with ⟨hv, hn⟩ | ⟨g, cap, hv, _, hg, hc⟩
  · exact .inl ⟨hv, by simpa using hn⟩
  · refine .inr ⟨g, 0, cap, hv, hg, fun j hj => ?_⟩
    rw [Nat.zero_add]
    refine hc j _ ?_
    rw [List.getElem?_map, List.getElem?_eq_getElem hj]
    simp [List.getD, hj]
theorem IntsAt.on {w w' : World} {v : Value} {zs : List Int} (h : IntsAt w v zs) (hb : Below w.heap.size w w') : IntsAt w' v zs := by
  refine ⟨h.1, ?_⟩
  rcases h.2 with h | ⟨g, off, cap, hv, hg, hc⟩
  · exact .inl h
  · exact .inr ⟨g, off, cap, hv, Nat.lt_of_lt_of_le hg hb.size, fun j hj => by rw [hb.cell (p := ⟨g, off + j, none⟩) hg]; exact hc j hj⟩

set_option maxRecDepth 100000 in
theorem with_nil (n : Int) (w : World) :
    Calls Tryz.prog 248 #[.slice none 0 0, .int .i64 n] w fun e w' => ∃ v, e = .returned v ∧ w'.ownsRow w.heap.size 3 1 v 1 [.int .i64 n] ∧ Below w.heap.size w w' := by
  go_enter Tryz.func248, Tryz.ntmps248
  go_wp2
  go_loopw [5, 6, 7] (fun v d i wr => v = .slice none 0 0 ∧ d = .bool false ∧ i = .int .i64 0 ∧ wr = w) (fun _ _ _ _ => 0)
  case atStart => exact ⟨rfl, rfl, rfl, rfl⟩
  case round =>
    obtain ⟨rfl, rfl, rfl, rfl⟩ := hrel
    have hown := World.ownsRow_nil wr wr.heap.size 3 1
    have hnx := Below.refl wr.heap.size wr
    go_wp2_with (at_builtin; refine app_one rfl (.tmp 43) (.tmp 45) 54 3 _ 8 rfl Tryz.underlying54 infoInt rfl wr.heap.size _ _ _ rfl hown hnx (Nat.le_refl _) (.int .i64 n) rfl rfl (by simp) (by omega) (by decide) ?_; intro v' w1 hown1 hnx1 _)
    go_ret
    exact ⟨_, rfl, hown1, hnx1⟩
theorem with_any (v : Value) (zs : List Int) (n : Int) (w : World) (h : IntsAt w v zs) :
    Calls Tryz.prog 248 #[v, .int .i64 n] w fun e w' => ∃ v', e = .returned v' ∧ w'.ownsRow w.heap.size 3 1 v' (wth n false zs).length ((wth n false zs).map (Value.int .i64)) ∧ Below w.heap.size w w' := by
  obtain ⟨hz, ⟨rfl, rfl⟩ | ⟨g, off, cap, rfl, hg, hc⟩⟩ := h
  · exact with_nil n w
  · exact with_some g off cap zs n w hz hg hc
end Go.Proofs.YthpndgcaoeokeaaGreatDoor
namespace Go.Proofs.YthpndgcaoeokeaaGreatDoor
open Go.RowKit

/-- the times of pieces, in order, each once -/
def tms : List ByteArray → List Int → Option (List Int)
  | [], acc => some acc
  | l :: r, acc => if timeB l = true then tms r (wth (timeN l) false acc) else none
def timesF (s : ByteArray) : Option (List Int) := if (splitF s 44).length ≤ 20 then tms (splitF s 44) [] else none
theorem tms_hit {P : List ByteArray} {k : Nat} {l : ByteArray} {acc : List Int} (h : P[k]? = some l) (ht : timeB l = true) : tms (P.drop k) acc = tms (P.drop (k + 1)) (wth (timeN l) false acc) := by
  obtain ⟨hk, he⟩ := List.getElem?_eq_some_iff.1 h
  rw [List.drop_eq_getElem_cons hk, he, tms, if_pos ht]
theorem tms_miss {P : List ByteArray} {k : Nat} {l : ByteArray} {acc : List Int} (h : P[k]? = some l) (ht : ¬ timeB l = true) : tms (P.drop k) acc = none := by
  obtain ⟨hk, he⟩ := List.getElem?_eq_some_iff.1 h
  rw [List.drop_eq_getElem_cons hk, he, tms, if_neg ht]
theorem splitF_pos (s : ByteArray) (c : Int) : 0 < (splitF s c).length := by unfold splitF; simp
theorem splitF_le (s : ByteArray) (c : Int) : (splitF s c).length ≤ s.size + 1 := by unfold splitF; have := spf_le s c s.size; simp; omega
theorem spf_small (s : ByteArray) (c : Int) (k : Nat) : ∀ l ∈ (spf s c k).2, l.size ≤ s.size := by
  induction k with
  | zero => simp [spf]
  | succ k ih =>
    by_cases h : at0 s k = c
    · rw [spf_hit h]
      intro l hl
      rw [List.mem_append, List.mem_singleton] at hl
      rcases hl with hl | rfl
      · exact ih l hl
      · rw [ByteArray.size_extract]; omega
    · rw [spf_miss h]; exact ih
theorem splitF_small (s : ByteArray) (c : Int) : ∀ l ∈ splitF s c, l.size ≤ s.size := by
  intro l hl
  unfold splitF at hl
  rw [List.mem_append, List.mem_singleton] at hl
  rcases hl with hl | rfl
  · exact spf_small s c _ l hl
  · rw [ByteArray.size_extract]; omega
/-- the pieces lie in the memory -/
def StrsAt (w : World) (g : Nat) (ls : List ByteArray) : Prop := g < w.heap.size ∧ ∀ j l, ls[j]? = some l → w.cell? ⟨g, j, none⟩ = some (.string l)
theorem StrsAt.on {w w' : World} {g : Nat} {ls : List ByteArray} (h : StrsAt w g ls) (hb : Below w.heap.size w w') : StrsAt w' g ls :=
  ⟨Nat.lt_of_lt_of_le h.1 hb.size, fun j l hj => by rw [hb.cell (p := ⟨g, j, none⟩) h.1]; exact h.2 j l hj⟩
theorem own_strs {w : World} {B : Nat} {v : Value} {ls : List ByteArray} {e : TypeId} (h : w.ownsRow B e 1 v ls.length (ls.map Value.string)) (hp : 0 < ls.length) : ∃ g cap, v = .slice (some ⟨g, 0, none⟩) ls.length cap ∧ B ≤ g ∧ StrsAt w g ls := by
  rcases own_cells h with ⟨_, hn⟩ | ⟨g, cap, hv, hb, hg, hc⟩
  · have := congrArg List.length hn
    rw [List.length_map, List.length_nil] at this; omega
  · exact ⟨g, cap, hv, hb, hg, fun j l hj => hc j _ (by rw [List.getElem?_map, hj]; rfl)⟩

theorem IntsAt.form {w : World} {v : Value} {zs : List Int} (h : IntsAt w v zs) : ∃ a n c, v = .slice a n c := by
  rcases h.2 with ⟨h, _⟩ | ⟨g, off, cap, h, _⟩
  · exact ⟨_, _, _, h⟩
  · exact ⟨_, _, _, h⟩
theorem own_form {w : World} {B : Nat} {e : TypeId} {v : Value} {n : Nat} {xs : List Value} (h : w.ownsRow B e 1 v n xs) : ∃ a n c, v = .slice a n c := by
  rcases own_cells h with ⟨h, _⟩ | ⟨g, cap, h, _⟩
  · exact ⟨_, _, _, h⟩
  · exact ⟨_, _, _, h⟩
set_option maxRecDepth 100000 in
set_option maxHeartbeats 4000000 in
theorem times_ref (s : ByteArray) (w : World) (hs : s.size ≤ 1048575) :
    Calls Tryz.prog 236 #[.string s] w fun e w' => ∃ a n c b, e = .returned (.tuple #[.slice a n c, .bool b]) ∧ Below w.heap.size w w' ∧ (b = false → timesF s = none) ∧ (b = true → ∃ zs, timesF s = some zs ∧ w'.ownsRow w.heap.size 3 1 (.slice a n c) zs.length (zs.map (Value.int .i64)) ∧ zs.length ≤ 20) := by
  have CS := hide (split_any s 44 w (by omega))
  have HP := hide (splitF_pos s 44)
  have HL := hide (splitF_le s 44)
  have HM := hide (splitF_small s 44)
  have HF : Hid (timesF s = if (splitF s 44).length ≤ 20 then tms (splitF s 44) [] else none) := hide rfl
  obtain ⟨P, hP⟩ : ∃ P, P = splitF s 44 := ⟨_, rfl⟩
  rw [← hP] at CS HP HL HM HF
  clear hP
  go_enter Tryz.func236, Tryz.ntmps236
  go_wp2_with (go_at_call 292; refine (CS.out).mono ?_; rintro e w1 ⟨v, rfl, hown, hb1⟩; obtain ⟨g, cap, rfl, _, hat⟩ := own_strs hown HP.out; clear hown)
  have hz1 := hb1.size
  have hPl : P.length ≤ 1048576 := by have := HL.out; omega
  have HA := hide hat
  clear hat
  go_loopw [5, 6] (fun v i wr => ∃ (k : Nat) (zs : List Int), k ≤ P.length ∧ i = .int .i64 k ∧ zs.length ≤ k ∧ wr.ownsRow w1.heap.size 3 1 v zs.length (zs.map (Value.int .i64)) ∧ Below w1.heap.size w1 wr ∧ Hid (tms P [] = tms (P.drop k) zs)) (fun _ i _ => P.length - (intOf i).toNat)
  case atStart => exact ⟨0, [], Nat.zero_le _, rfl, by simp, World.ownsRow_nil _ _ _ _, Below.refl _ _, hide (by simp)⟩
  case round =>
    obtain ⟨k, zs, hk, rfl, hzl, hint, hnx, HT⟩ := hrel
    have hB := hnx.size
    by_cases hlt : k < P.length
    case neg =>
      have hkl : k = P.length := by omega
      subst hkl
      have HE : Hid (tms P [] = some zs) := hide (by rw [HT.out, List.drop_length]; rfl)
      clear HT
      obtain ⟨a5, n5, c5, rfl⟩ := own_form hint
      go_wp2
      go_ret2
      refine ⟨a5, n5, c5, decide ((P.length : Int) ≤ 20), rfl, hb1.trans (hnx.mono hz1), fun h => ?_, fun h => ?_⟩
      · rw [HF.out, if_neg (by simp at h; omega)]
      · exact ⟨zs, by rw [HF.out, if_pos (by simp at h; omega), HE.out], own_mono hint hz1, by simp at h; omega⟩
    case pos =>
      obtain ⟨l, hl⟩ : ∃ l, P[k]? = some l := ⟨_, List.getElem?_eq_getElem hlt⟩
      have hcell := (HA.out.on hnx).2 k l hl
      have hls : l.size ≤ maxLen := by have := HM.out l (List.mem_of_getElem? hl); unfold maxLen; omega
      have CP := hide (refParse_any l wr hls)
      by_cases ht : timeB l = true
      case pos =>
        have HN : Hid (tms P [] = tms (P.drop (k + 1)) (wth (timeN l) false zs)) := hide (by rw [HT.out, tms_hit hl ht])
        have CQ : Hid (Calls Tryz.prog 107 #[.string l] wr fun e w' => e = .returned (.tuple #[.int .i64 (timeN l), .int .i64 0]) ∧ wr = w') := by
          have := CP.out
          rw [parseV_yes (timeB_iff.1 ht)] at this
          exact this
        clear HT CP ht hl
        have hwl := wth_len (timeN l) zs false
        simp only [Bool.false_eq_true, if_false, Nat.add_zero] at hwl
        go_wp2_with (first
          | (go_at_call 107; refine (CQ.out).mono ?_; rintro e w' ⟨rfl, rfl⟩)
          | (go_at_call 248; refine (with_any _ zs (timeN l) wr (own_ints hint (by omega))).mono ?_; rintro e w2 ⟨v2, rfl, hown2, hb2⟩))
        go_roundw
        case rel => exact ⟨k + 1, wth (timeN l) false zs, by omega, by go_num, by omega, own_mono hown2 hB, hnx.trans (hb2.mono hB), HN⟩
        case measure => simp [intOf]; omega
      case neg =>
        have HN : Hid (tms P [] = none) := hide (by rw [HT.out, tms_miss hl ht])
        have CQ : Hid (Calls Tryz.prog 107 #[.string l] wr fun e w' => e = .returned (.tuple #[.int .i64 0, .int .i64 1]) ∧ wr = w') := by
          have := CP.out
          rw [parseV_no (fun h => ht (timeB_iff.2 h))] at this
          exact this
        clear HT CP ht hl
        go_wp2_with (first
          | (go_at_call 107; refine (CQ.out).mono ?_; rintro e w' ⟨rfl, rfl⟩))
        go_ret2
        exact ⟨none, 0, 0, false, rfl, hb1.trans (hnx.mono hz1), fun _ => by rw [HF.out, HN.out]; simp, fun h => (by cases h)⟩
end Go.Proofs.YthpndgcaoeokeaaGreatDoor
namespace Go.Proofs.YthpndgcaoeokeaaGreatDoor
open Go.RowKit

/-- one of a list's numbers -/
def lst1 (most : Int) (signs : Bool) (l : ByteArray) : Option Int :=
  if sgn l.data.toList most = 0 then none else if sgn l.data.toList most < 0 ∧ signs = false then none else some (sgn l.data.toList most)
def lst (most : Int) (signs : Bool) : List ByteArray → List Int → Option (List Int)
  | [], acc => some acc
  | l :: r, acc => match lst1 most signs l with | none => none | some z => lst most signs r (acc ++ [z])
def listF (s : ByteArray) (most : Int) (signs : Bool) : Option (List Int) := if (splitF s 44).length ≤ 20 then lst most signs (splitF s 44) [] else none
theorem lst_hit {most : Int} {signs : Bool} {P : List ByteArray} {k : Nat} {l : ByteArray} {acc : List Int} {z : Int} (h : P[k]? = some l) (ht : lst1 most signs l = some z) : lst most signs (P.drop k) acc = lst most signs (P.drop (k + 1)) (acc ++ [z]) := by
  obtain ⟨hk, he⟩ := List.getElem?_eq_some_iff.1 h
  rw [List.drop_eq_getElem_cons hk, he, lst, ht]
theorem lst_miss {most : Int} {signs : Bool} {P : List ByteArray} {k : Nat} {l : ByteArray} {acc : List Int} (h : P[k]? = some l) (ht : lst1 most signs l = none) : lst most signs (P.drop k) acc = none := by
  obtain ⟨hk, he⟩ := List.getElem?_eq_some_iff.1 h
  rw [List.drop_eq_getElem_cons hk, he, lst, ht]

set_option maxRecDepth 100000 in
set_option maxHeartbeats 4000000 in
theorem list_ref (s : ByteArray) (most : Int) (signs : Bool) (w : World) (hs : s.size ≤ 1048575) :
    Calls Tryz.prog 332 #[.string s, .int .i64 most, .bool signs] w fun e w' => ∃ a n c b, e = .returned (.tuple #[.slice a n c, .bool b]) ∧ Below w.heap.size w w' ∧ (b = false → listF s most signs = none) ∧ (b = true → ∃ zs, listF s most signs = some zs ∧ w'.ownsRow w.heap.size 3 1 (.slice a n c) zs.length (zs.map (Value.int .i64)) ∧ zs.length ≤ 20) := by
  have CS := hide (split_any s 44 w (by omega))
  have HP := hide (splitF_pos s 44)
  have HL := hide (splitF_le s 44)
  have HM := hide (splitF_small s 44)
  have HF : Hid (listF s most signs = if (splitF s 44).length ≤ 20 then lst most signs (splitF s 44) [] else none) := hide rfl
  obtain ⟨P, hP⟩ : ∃ P, P = splitF s 44 := ⟨_, rfl⟩
  rw [← hP] at CS HP HL HM HF
  clear hP
  go_enter Tryz.func332, Tryz.ntmps332
  go_wp2_with (go_at_call 292; refine (CS.out).mono ?_; rintro e w1 ⟨v, rfl, hown, hb1⟩; obtain ⟨g, cap, rfl, _, hat⟩ := own_strs hown HP.out; clear hown)
  have hz1 := hb1.size
  have hPl : P.length ≤ 1048576 := by have := HL.out; omega
  have HA := hide hat
  clear hat
  go_loopw [9, 10] (fun v i wr => ∃ (k : Nat) (zs : List Int), k ≤ P.length ∧ i = .int .i64 k ∧ zs.length ≤ k ∧ wr.ownsRow w1.heap.size 3 1 v zs.length (zs.map (Value.int .i64)) ∧ Below w1.heap.size w1 wr ∧ Hid (lst most signs P [] = lst most signs (P.drop k) zs)) (fun _ i _ => P.length - (intOf i).toNat)
  case atStart => exact ⟨0, [], Nat.zero_le _, rfl, by simp, World.ownsRow_nil _ _ _ _, Below.refl _ _, hide (by simp)⟩
  case round =>
    obtain ⟨k, zs, hk, rfl, hzl, hown, hnx, HT⟩ := hrel
    have hB := hnx.size
    by_cases hlt : k < P.length
    case neg =>
      have hkl : k = P.length := by omega
      subst hkl
      have HE : Hid (lst most signs P [] = some zs) := hide (by rw [HT.out, List.drop_length]; rfl)
      clear HT
      obtain ⟨a9, n9, c9, rfl⟩ := own_form hown
      go_wp2
      go_ret2
      refine ⟨a9, n9, c9, decide ((P.length : Int) ≤ 20), rfl, hb1.trans (hnx.mono hz1), fun h => ?_, fun h => ?_⟩
      · rw [HF.out, if_neg (by simp at h; omega)]
      · exact ⟨zs, by rw [HF.out, if_pos (by simp at h; omega), HE.out], own_mono hown hz1, by simp at h; omega⟩
    case pos =>
      obtain ⟨l, hl⟩ : ∃ l, P[k]? = some l := ⟨_, List.getElem?_eq_getElem hlt⟩
      have hcell := (HA.out.on hnx).2 k l hl
      have hls : l.size ≤ maxLen := by have := HM.out l (List.mem_of_getElem? hl); unfold maxLen; omega
      have CQ := signed_any l most wr hls
      obtain ⟨z, hz⟩ : ∃ z, z = sgn l.data.toList most := ⟨_, rfl⟩
      have h1 : lst1 most signs l = if z = 0 then none else if z < 0 ∧ signs = false then none else some z := by unfold lst1; rw [← hz]
      rw [← hz] at CQ
      have CQ := hide CQ
      clear hz
      by_cases z0 : z = 0
      case pos =>
        have HN : Hid (lst most signs P [] = none) := hide (by rw [HT.out, lst_miss hl (by rw [h1, if_pos z0])])
        clear HT hl h1
        subst z0
        go_wp2_with (go_at_call 331; refine (CQ.out).mono ?_; rintro e w' ⟨rfl, rfl⟩)
        go_ret2
        exact ⟨none, 0, 0, false, rfl, hb1.trans (hnx.mono hz1), fun _ => by rw [HF.out, HN.out]; simp, fun h => (by cases h)⟩
      case neg =>
      by_cases z1 : z < 0 ∧ signs = false
      case pos =>
        have HN : Hid (lst most signs P [] = none) := hide (by rw [HT.out, lst_miss hl (by rw [h1, if_neg z0, if_pos z1])])
        clear HT hl h1
        obtain ⟨z1, rfl⟩ := z1
        have g0 : (z == 0) = false := by simpa using z0
        clear z0
        go_wp2_with (go_at_call 331; refine (CQ.out).mono ?_; rintro e w' ⟨rfl, rfl⟩)
        go_ret2
        exact ⟨none, 0, 0, false, rfl, hb1.trans (hnx.mono hz1), fun _ => by rw [HF.out, HN.out]; simp, fun h => (by cases h)⟩
      case neg =>
        have HN : Hid (lst most signs P [] = lst most signs (P.drop (k + 1)) (zs ++ [z])) := hide (by rw [HT.out, lst_hit hl (by rw [h1, if_neg z0, if_neg z1])])
        clear HT hl h1
        have g0 : (z == 0) = false := by simpa using z0
        have z2 : 0 ≤ z ∨ signs = true := by
          by_cases h : z < 0
          · right; cases hsg : signs
            · exact absurd ⟨h, hsg⟩ z1
            · rfl
          · left; omega
        clear z0 z1
        rcases z2 with z2 | rfl
        · go_wp2_with (first
            | (go_at_call 331; refine (CQ.out).mono ?_; rintro e w' ⟨rfl, rfl⟩)
            | (at_builtin; refine app_one rfl (.tmp 36) (.tmp 38) 54 3 _ 8 rfl Tryz.underlying54 infoInt rfl w1.heap.size _ _ _ rfl hown hnx hB (.int .i64 z) rfl rfl (by simp) (by omega) (by decide) ?_; intro v' w2 hown1 hnx1 _))
          go_roundw
          case rel => exact ⟨k + 1, zs ++ [z], by omega, by go_num, by simp; omega, by simpa using hown1, hnx1, HN⟩
          case measure => simp [intOf]; omega
        · by_cases z3 : z < 0
          all_goals
            go_wp2_with (first
              | (go_at_call 331; refine (CQ.out).mono ?_; rintro e w' ⟨rfl, rfl⟩)
              | (at_builtin; refine app_one rfl (.tmp 36) (.tmp 38) 54 3 _ 8 rfl Tryz.underlying54 infoInt rfl w1.heap.size _ _ _ rfl hown hnx hB (.int .i64 z) rfl rfl (by simp) (by omega) (by decide) ?_; intro v' w2 hown1 hnx1 _))
            go_roundw
            case rel => exact ⟨k + 1, zs ++ [z], by omega, by go_num, by simp; omega, by simpa using hown1, hnx1, HN⟩
            case measure => simp [intOf]; omega
end Go.Proofs.YthpndgcaoeokeaaGreatDoor
namespace Go.Proofs.YthpndgcaoeokeaaGreatDoor
open Go.RowKit

/-- how many digits -/
def dsz (n : Int) : Nat := if n < 10 then 1 else if n < 100 then 2 else if n < 1000 then 3 else if n < 10000 then 4 else if n < 100000 then 5 else if n < 1000000 then 6 else 7
theorem dsz_step (q : Int) (h : 10 ≤ q) (h1 : q < 10000000) : dsz q = dsz (q / 10) + 1 := by
  unfold dsz
  repeat' split
  all_goals omega
theorem dsz_le (n : Int) : 1 ≤ dsz n ∧ dsz n ≤ 7 := by
  unfold dsz
  repeat' split
  all_goals omega
theorem dsz_one (n : Int) (h : n < 10) : dsz n = 1 := by unfold dsz; rw [if_pos h]

set_option maxRecDepth 100000 in
theorem plain_any (n : Int) (w : World) (h0 : 0 ≤ n) (h1 : n < 10000000) :
    Calls Tryz.prog 239 #[.int .i64 n] w fun e w' => e = .returned (.string ⟨(pad (dsz n) n).toArray⟩) ∧ Below w.heap.size w w' := by
  have hle := dsz_le n
  go_enter Tryz.func239, Tryz.ntmps239
  go_wp2
  go_loop [3, 4] (fun t m => ∃ (k : Nat) (q : Int), 0 ≤ q ∧ q < 10000000 ∧ t = .int .i64 k ∧ m = .int .i64 q ∧ k ≤ 7 ∧ Hid (dsz n + 1 = k + dsz q)) (fun _ m => (intOf m).toNat)
  case atStart => exact ⟨1, n, h0, h1, rfl, rfl, by omega, hide (by omega)⟩
  case round =>
    obtain ⟨k, q, q0, q1, rfl, rfl, hk, HD⟩ := hrel
    by_cases hq : 10 ≤ q
    case pos =>
      have hs := dsz_step q hq q1
      have HN : Hid (dsz n + 1 = (k + 1) + dsz (q / 10)) := hide (by rw [HD.out, hs]; omega)
      have hk7 : k + 1 ≤ 7 := by have := HD.out; have := dsz_le (q / 10); omega
      clear HD hs
      go_wp2
      exact ⟨⟨k + 1, q / 10, by omega, by omega, by go_num, rfl, hk7, HN⟩, by simp [intOf]; omega⟩
    case neg =>
      have hs := dsz_one q (by omega)
      have HN : Hid (k = dsz n) := hide (by have := HD.out; omega)
      clear HD hs
      go_wp2_with (go_at_call 184; refine (padded_any n k _ h0 (by omega) (by omega)).mono ?_; rintro e w' ⟨rfl, hb⟩)
      go_ret
      exact ⟨ret_str (by rw [HN.out]), hb⟩

/-- a time as it is printed, or nothing -/
def ptx (z : Int) : List UInt8 := if isTimeB z = true then printL z else []
theorem ptx_len (z : Int) : (ptx z).length ≤ 16 := by
  unfold ptx
  split
  · unfold printL; simp [pad_length]
  · simp
theorem printV_ptx (z : Int) : ∃ x, printV z = .tuple #[.string ⟨(ptx z).toArray⟩, .int .i64 x] := by
  unfold printV ptx
  cases isTimeB z
  · exact ⟨1, rfl⟩
  · exact ⟨0, rfl⟩
/-- the first k of a list's times, with ',' between -/
def prk (zs : List Int) : Nat → List UInt8
  | 0 => []
  | k + 1 => prk zs k ++ (if k = 0 then [] else [44]) ++ ptx (zs.getD k 0)
theorem prk_len (zs : List Int) (k : Nat) : (prk zs k).length ≤ 17 * k := by
  induction k with
  | zero => simp [prk]
  | succ k ih =>
    rw [prk]
    have := ptx_len (zs.getD k 0)
    rw [List.length_append, List.length_append]
    by_cases h : k = 0
    · rw [if_pos h, List.length_nil]; omega
    · rw [if_neg h, List.length_singleton]; omega

set_option maxRecDepth 100000 in
set_option maxHeartbeats 2000000 in
theorem printed_some (g off cap : Nat) (zs : List Int) (w : World) (hz : zs.length ≤ 1048576) (hg : g < w.heap.size) (hc : ∀ j, j < zs.length → w.cell? ⟨g, off + j, none⟩ = some (.int .i64 (zs.getD j 0))) :
    Calls Tryz.prog 240 #[.slice (some ⟨g, off, none⟩) zs.length cap] w fun e w' => e = .returned (.string ⟨(prk zs zs.length).toArray⟩) ∧ Below w.heap.size w w' := by
  have HC := hide hc
  clear hc
  go_enter Tryz.func240, Tryz.ntmps240
  go_wp2
  go_loopw [3, 4] (fun o i wr => ∃ (k : Nat) (l : List UInt8), k ≤ zs.length ∧ i = .int .i64 k ∧ o = .string ⟨l.toArray⟩ ∧ l.length ≤ 17 * k ∧ Below w.heap.size w wr ∧ Hid (l = prk zs k)) (fun _ i _ => zs.length - (intOf i).toNat)
  case atStart => exact ⟨0, [], Nat.zero_le _, rfl, rfl, by simp, Below.refl _ _, hide rfl⟩
  case round =>
    obtain ⟨k, l, hk, rfl, rfl, hll, hnx, HP⟩ := hrel
    by_cases hlt : k < zs.length
    case neg =>
      have hkl : k = zs.length := by omega
      subst hkl
      go_wp2
      go_ret
      exact ⟨ret_str (by rw [HP.out]), hnx⟩
    case pos =>
      have hcell : wr.cell? ⟨g, off + k, none⟩ = some (.int .i64 (zs.getD k 0)) := by rw [hnx.cell (p := ⟨g, off + k, none⟩) hg]; exact HC.out k hlt
      obtain ⟨z, hze⟩ : ∃ z, z = zs.getD k 0 := ⟨_, rfl⟩
      have hst : prk zs (k + 1) = prk zs k ++ (if k = 0 then [] else [44]) ++ ptx (zs.getD k 0) := rfl
      rw [← hze] at hcell hst
      clear hze
      obtain ⟨x, hx⟩ := printV_ptx z
      have CP := refPrint_any z wr
      rw [hx] at CP
      have CP := hide CP
      have hpl := ptx_len z
      obtain ⟨T, hT⟩ : ∃ T, T = ptx z := ⟨_, rfl⟩
      rw [← hT] at CP hst hpl
      clear hT hx
      by_cases hk0 : k = 0
      case pos =>
        subst hk0
        have hcell : wr.cell? ⟨g, off, none⟩ = some (.int .i64 z) := hcell
        have HN : Hid (l ++ T = prk zs (0 + 1)) := hide (by rw [hst, HP.out]; simp)
        clear HP hst
        go_wp2_with (go_at_call 109; refine (CP.out).mono ?_; rintro e w2 ⟨rfl, hb2⟩)
        go_roundw
        case rel => exact ⟨1, l ++ T, by omega, rfl, str_eq (ba_app l T), by simp; omega, hnx.trans (hb2.mono hnx.size), HN⟩
        case measure => simp [intOf]; omega
      case neg =>
        have HN : Hid ((l ++ [44]) ++ T = prk zs (k + 1)) := hide (by rw [hst, HP.out, if_neg hk0])
        clear HP hst
        go_wp2_with (go_at_call 109; refine (CP.out).mono ?_; rintro e w2 ⟨rfl, hb2⟩)
        go_roundw
        case rel => exact ⟨k + 1, (l ++ [44]) ++ T, by omega, by go_num, str_eq (by rw [show (⟨#[44]⟩ : ByteArray) = ⟨[44].toArray⟩ from rfl, ba_app, ba_app]), by simp; omega, hnx.trans (hb2.mono hnx.size), HN⟩
        case measure => simp [intOf]; omega
end Go.Proofs.YthpndgcaoeokeaaGreatDoor
namespace Go.Proofs.YthpndgcaoeokeaaGreatDoor
open Go.RowKit

/-- one element more, and where the new slice lies -/
theorem app_lies {P : Program} {ops : Array Oper} {rest : List Oper} {o : Oper} {a : Act} {Q : Exit → Act → World → Prop} {wr : World} {obj : Obj} (hgd : o.guard = none) (s x : Operand) (t e : TypeId) (z : Value) (bytes : Nat)
    (ho : o.op = .call { callee := .builtin .append, args := #[s, x], argTypes := #[t, t] }) (hu : P.underlying t = some (.slice e))
    (hinfo : (P.info? e).map (fun i => (i.zero, i.size, i.bytes)) = some (some z, 1, bytes)) (hz : z.cells.size = 1) (B : Nat) (v : Value) (n : Nat) (xs : List Value) (hs : a.eval s = v)
    (hown : wr.ownsRow B e 1 v n xs) (hB : B ≤ wr.heap.size) (y : Value) (hy : y.oneCell' = true) (hx : a.eval x = .slice (some ⟨wr.heap.size, 0, none⟩) 1 1)
    (hc : (wr.alloc obj).cell? ⟨wr.heap.size, 0, none⟩ = some y) (hn : n ≤ 4194304) (hbytes : bytes ≤ 64)
    (h : ∀ g cap w1, w1.ownsRow B e 1 (.slice (some ⟨g, 0, none⟩) (n + 1) cap) (n + 1) (xs ++ [y]) → (wr.alloc obj).grownBy w1 v.ownBlock → (v.ownBlock = some g ∨ wr.heap.size < g) → wpList P ops Q rest (a.put o.dst (.slice (some ⟨g, 0, none⟩) (n + 1) cap)) w1) : wpList P ops Q (o :: rest) a (wr.alloc obj) := by
  obtain ⟨i0, hi, hz0, hz1, hz2⟩ := info_parts hinfo
  refine wpList_append_lies _ hgd s x t ho B e i0 z 1 bytes hu hi hz0 hz1 hz2 hz (by decide) v n xs hs (hown.alloc _) ⟨wr.heap.size, 0, none⟩ 1 1 [y] hx rfl ?_ ?_ (by decide) ?_ ?_ ?_ (wr.heap.size + 1) (by simp) ?_
  · intro j u hj
    match j, hj with
    | 0, hj => simp at hj; subst hj; exact hc
  · intro u hu; simp at hu; subst hu; exact hy
  · unfold maxLen; omega
  · have : (n + 1) * bytes ≤ 4194305 * 64 := Nat.mul_le_mul (by omega) hbytes
    omega
  · simp; omega
  · intro g cap w1 hown' hgrow hat _
    exact h g cap w1 hown' hgrow (hat.elim .inl (fun e => .inr (by omega)))

/-- fields 7 and 8 of the rule at p hold two lists of the call's own, and nothing else has turned since w1 -/
structure DS (p : Nat) (w1 wr : World) (v7 v8 : Value) (ws os : List Int) : Prop where
  c7 : wr.cell? ⟨p, 7, none⟩ = some v7
  c8 : wr.cell? ⟨p, 8, none⟩ = some v8
  f7 : wr.frozen? ⟨p, 7, none⟩ = false
  f8 : wr.frozen? ⟨p, 8, none⟩ = false
  r7 : wr.ownsRow w1.heap.size 3 1 v7 ws.length (ws.map (Value.int .i64))
  r8 : wr.ownsRow w1.heap.size 3 1 v8 os.length (os.map (Value.int .i64))
  ap : ∀ g, v7.ownBlock = some g → v8.ownBlock ≠ some g
  size : w1.heap.size ≤ wr.heap.size
  sys : wr.os = w1.os ∧ wr.tape = w1.tape ∧ wr.output = w1.output
  keep : ∀ k, k < w1.heap.size → k ≠ p → wr.heap[k]? = w1.heap[k]?
  rest : ∀ j, j ≠ 7 → j ≠ 8 → wr.cell? ⟨p, j, none⟩ = w1.cell? ⟨p, j, none⟩ ∧ wr.frozen? ⟨p, j, none⟩ = w1.frozen? ⟨p, j, none⟩

theorem DS.below {p : Nat} {w1 wr w2 : World} {v7 v8 : Value} {ws os : List Int} (h : DS p w1 wr v7 v8 ws os) (hp : p < w1.heap.size) (hb : Below wr.heap.size wr w2) : DS p w1 w2 v7 v8 ws os := by
  have hlt : p < wr.heap.size := Nat.lt_of_lt_of_le hp h.size
  have hk := hb.block p hlt
  have hg : wr.grownBy w2 none := ⟨hb.os, hb.tape, hb.output, hb.size, fun k hk _ => hb.block k hk⟩
  have hn : ∀ v : Value, v.ownBlock = none ∨ v.ownBlock ≠ none := fun v => by cases v.ownBlock <;> simp
  exact ⟨(World.cell?_of_block (a := ⟨p, 7, none⟩) hk).trans h.c7, (World.cell?_of_block (a := ⟨p, 8, none⟩) hk).trans h.c8, (World.frozen?_of_block (a := ⟨p, 7, none⟩) hk).trans h.f7, (World.frozen?_of_block (a := ⟨p, 8, none⟩) hk).trans h.f8,
    h.r7.kept hg (hn v7), h.r8.kept hg (hn v8), h.ap, Nat.le_trans h.size hb.size, ⟨hb.os.trans h.sys.1, hb.tape.trans h.sys.2.1, hb.output.trans h.sys.2.2⟩,
    fun k hk1 hk2 => (hb.block k (Nat.lt_of_lt_of_le hk1 h.size)).trans (h.keep k hk1 hk2),
    fun j h1 h2 => ⟨(World.cell?_of_block (a := ⟨p, j, none⟩) hk).trans (h.rest j h1 h2).1, (World.frozen?_of_block (a := ⟨p, j, none⟩) hk).trans (h.rest j h1 h2).2⟩⟩

section
variable {p : Nat} {w1 wr w3 : World} {v7 v8 v' : Value} {ws os : List Int} {obj : Obj} {x : Int} {g cap : Nat}
theorem DS.same (h : DS p w1 wr v7 v8 ws os) {v : Value} {n : Nat} {xs : List Value} (hv : wr.ownsRow w1.heap.size 3 1 v n xs) (hg : (wr.alloc obj).grownBy w3 v.ownBlock) :
    (∀ k, k < w1.heap.size → w3.heap[k]? = wr.heap[k]?) ∧ wr.heap.size < w3.heap.size := by
  have hs := hg.size
  simp at hs
  refine ⟨fun k hk => ?_, by omega⟩
  have hk' : k < wr.heap.size := Nat.lt_of_lt_of_le hk h.size
  rw [hg.block k (by simp; omega) (fun e => by have := (hv.lt k e.symm).1; omega)]
  exact heap_alloc_old wr obj hk'
/-- behind the first append, ahead of its store -/
theorem DS.mid7 (h : DS p w1 wr v7 v8 ws os) (hp : p < w1.heap.size) (hg : (wr.alloc obj).grownBy w3 v7.ownBlock) : w3.cell? ⟨p, 7, none⟩ = some v7 ∧ w3.frozen? ⟨p, 7, none⟩ = false := by
  have hk := (h.same h.r7 hg).1 p hp
  exact ⟨(World.cell?_of_block (a := ⟨p, 7, none⟩) hk).trans h.c7, (World.frozen?_of_block (a := ⟨p, 7, none⟩) hk).trans h.f7⟩
theorem DS.mid8 (h : DS p w1 wr v7 v8 ws os) (hp : p < w1.heap.size) (hg : (wr.alloc obj).grownBy w3 v8.ownBlock) : w3.cell? ⟨p, 8, none⟩ = some v8 ∧ w3.frozen? ⟨p, 8, none⟩ = false := by
  have hk := (h.same h.r8 hg).1 p hp
  exact ⟨(World.cell?_of_block (a := ⟨p, 8, none⟩) hk).trans h.c8, (World.frozen?_of_block (a := ⟨p, 8, none⟩) hk).trans h.f8⟩
theorem DS.step7 (h : DS p w1 wr v7 v8 ws os) (hp : p < w1.heap.size) (hv : v' = .slice (some ⟨g, 0, none⟩) (ws.length + 1) cap)
    (hown : w3.ownsRow w1.heap.size 3 1 v' (ws.length + 1) (ws.map (Value.int .i64) ++ [.int .i64 x])) (hg : (wr.alloc obj).grownBy w3 v7.ownBlock) (hat : v7.ownBlock = some g ∨ wr.heap.size < g) :
    DS p w1 (w3.setCell ⟨p, 7, none⟩ v') v' v8 (ws ++ [x]) os := by
  obtain ⟨hsm, hsz⟩ := h.same h.r7 hg
  have hk := hsm p hp
  have hm := h.mid7 hp hg
  have c8 := (World.cell?_of_block (a := ⟨p, 8, none⟩) hk).trans h.c8
  have f8 := (World.frozen?_of_block (a := ⟨p, 8, none⟩) hk).trans h.f8
  have r8 : w3.ownsRow w1.heap.size 3 1 v8 os.length (os.map (Value.int .i64)) := (h.r8.alloc obj).kept hg (by
    cases h8 : v8.ownBlock with
    | none => exact .inl rfl
    | some g8 => exact .inr (fun e => h.ap g8 e.symm h8))
  refine ⟨World.cell?_setCell_same _ _ _ hm.1, (World.cell?_setCell_other _ _ _ _ (by simp)).trans c8, (World.frozen?_setCell _ _ _ _).trans hm.2, (World.frozen?_setCell _ _ _ _).trans f8, ?_, ownsRow_setCell_below r8 (by exact hp) _, ?_, ?_, ?_, ?_, ?_⟩
  · have := ownsRow_setCell_below hown (a := ⟨p, 7, none⟩) (by exact hp) v'
    simpa using this
  · intro g' hg' h8
    rw [hv] at hg'
    obtain rfl : g = g' := by simpa [Value.ownBlock] using hg'
    rcases hat with hat | hat
    · exact h.ap g hat h8
    · have := (h.r8.lt g h8).2; omega
  · have := h.size
    rw [show (w3.setCell ⟨p, 7, none⟩ v').heap.size = w3.heap.size from by simp [World.setCell]]
    omega
  · have e1 := hg.os; have e2 := hg.tape; have e3 := hg.output
    exact ⟨(show (w3.setCell ⟨p, 7, none⟩ v').os = w3.os from by simp [World.setCell]).trans (e1.trans h.sys.1), (show (w3.setCell ⟨p, 7, none⟩ v').tape = w3.tape from by simp [World.setCell]).trans (e2.trans h.sys.2.1), (show (w3.setCell ⟨p, 7, none⟩ v').output = w3.output from by simp [World.setCell]).trans (e3.trans h.sys.2.2)⟩
  · intro k hk1 hk2
    rw [Below.heap_setCell _ _ _ _ (by exact hk2), hsm k hk1]
    exact h.keep k hk1 hk2
  · intro j h1 h2
    rw [World.cell?_setCell_other _ _ _ _ (fun e => by cases e; omega), World.frozen?_setCell, World.cell?_of_block (a := ⟨p, j, none⟩) hk, World.frozen?_of_block (a := ⟨p, j, none⟩) hk]
    exact h.rest j h1 h2
theorem DS.step8 (h : DS p w1 wr v7 v8 ws os) (hp : p < w1.heap.size) (hv : v' = .slice (some ⟨g, 0, none⟩) (os.length + 1) cap)
    (hown : w3.ownsRow w1.heap.size 3 1 v' (os.length + 1) (os.map (Value.int .i64) ++ [.int .i64 x])) (hg : (wr.alloc obj).grownBy w3 v8.ownBlock) (hat : v8.ownBlock = some g ∨ wr.heap.size < g) :
    DS p w1 (w3.setCell ⟨p, 8, none⟩ v') v7 v' ws (os ++ [x]) := by
  obtain ⟨hsm, hsz⟩ := h.same h.r8 hg
  have hk := hsm p hp
  have hm := h.mid8 hp hg
  have c7 := (World.cell?_of_block (a := ⟨p, 7, none⟩) hk).trans h.c7
  have f7 := (World.frozen?_of_block (a := ⟨p, 7, none⟩) hk).trans h.f7
  have r7 : w3.ownsRow w1.heap.size 3 1 v7 ws.length (ws.map (Value.int .i64)) := (h.r7.alloc obj).kept hg (by
    cases h7 : v7.ownBlock with
    | none => exact .inl rfl
    | some g7 => exact .inr (fun e => h.ap g7 h7 e.symm))
  refine ⟨(World.cell?_setCell_other _ _ _ _ (by simp)).trans c7, World.cell?_setCell_same _ _ _ hm.1, (World.frozen?_setCell _ _ _ _).trans f7, (World.frozen?_setCell _ _ _ _).trans hm.2, ownsRow_setCell_below r7 (by exact hp) _, ?_, ?_, ?_, ?_, ?_, ?_⟩
  · have := ownsRow_setCell_below hown (a := ⟨p, 8, none⟩) (by exact hp) v'
    simpa using this
  · intro g' hg' h8
    rw [hv] at h8
    obtain rfl : g = g' := by simpa [Value.ownBlock] using h8
    rcases hat with hat | hat
    · exact h.ap g hg' hat
    · have := (h.r7.lt g hg').2; omega
  · have := h.size
    rw [show (w3.setCell ⟨p, 8, none⟩ v').heap.size = w3.heap.size from by simp [World.setCell]]
    omega
  · have e1 := hg.os; have e2 := hg.tape; have e3 := hg.output
    exact ⟨(show (w3.setCell ⟨p, 8, none⟩ v').os = w3.os from by simp [World.setCell]).trans (e1.trans h.sys.1), (show (w3.setCell ⟨p, 8, none⟩ v').tape = w3.tape from by simp [World.setCell]).trans (e2.trans h.sys.2.1), (show (w3.setCell ⟨p, 8, none⟩ v').output = w3.output from by simp [World.setCell]).trans (e3.trans h.sys.2.2)⟩
  · intro k hk1 hk2
    rw [Below.heap_setCell _ _ _ _ (by exact hk2), hsm k hk1]
    exact h.keep k hk1 hk2
  · intro j h1 h2
    rw [World.cell?_setCell_other _ _ _ _ (fun e => by cases e; omega), World.frozen?_setCell, World.cell?_of_block (a := ⟨p, j, none⟩) hk, World.frozen?_of_block (a := ⟨p, j, none⟩) hk]
    exact h.rest j h1 h2
end
end Go.Proofs.YthpndgcaoeokeaaGreatDoor
namespace Go.Proofs.YthpndgcaoeokeaaGreatDoor
open Go.RowKit

/-- one of BYDAY's values: its weekday and its ordinal -/
def day1 (l : ByteArray) : Option (Int × Int) :=
  if l.size < 2 then none
  else if wdI (cut l (l.size - 2) 2) < 0 then none
  else if l.size = 2 then some (wdI (cut l (l.size - 2) 2), 0)
  else if sgn (cut l 0 (l.size - 2)) 53 = 0 then none
  else some (wdI (cut l (l.size - 2) 2), sgn (cut l 0 (l.size - 2)) 53)
def dys : List ByteArray → List Int × List Int → Option (List Int × List Int)
  | [], acc => some acc
  | l :: r, acc => match day1 l with | none => none | some q => dys r (acc.1 ++ [q.1], acc.2 ++ [q.2])
def daysF (s : ByteArray) : Option (List Int × List Int) := if (splitF s 44).length ≤ 20 then dys (splitF s 44) ([], []) else none
theorem dys_hit {P : List ByteArray} {k : Nat} {l : ByteArray} {acc : List Int × List Int} {q : Int × Int} (h : P[k]? = some l) (ht : day1 l = some q) : dys (P.drop k) acc = dys (P.drop (k + 1)) (acc.1 ++ [q.1], acc.2 ++ [q.2]) := by
  obtain ⟨hk, he⟩ := List.getElem?_eq_some_iff.1 h
  rw [List.drop_eq_getElem_cons hk, he, dys, ht]
theorem dys_miss {P : List ByteArray} {k : Nat} {l : ByteArray} {acc : List Int × List Int} (h : P[k]? = some l) (ht : day1 l = none) : dys (P.drop k) acc = none := by
  obtain ⟨hk, he⟩ := List.getElem?_eq_some_iff.1 h
  rw [List.drop_eq_getElem_cons hk, he, dys, ht]
theorem ext_list (s : ByteArray) (a b : Nat) : (s.extract a b).data.toList = cut s a (b - a) := extract_cut s a b

theorem cell_new (w : World) (y : Value) (e : TypeId) : (w.alloc (.cells #[y] e)).cell? ⟨w.heap.size, 0, none⟩ = some y := by simp
/-- the same, the new block's number as it stands -/
theorem app_lies2 {P : Program} {ops : Array Oper} {rest : List Oper} {o : Oper} {a : Act} {Q : Exit → Act → World → Prop} {wr : World} {obj : Obj} (hgd : o.guard = none) (s x : Operand) (t e : TypeId) (z : Value) (bytes : Nat)
    (ho : o.op = .call { callee := .builtin .append, args := #[s, x], argTypes := #[t, t] }) (hu : P.underlying t = some (.slice e))
    (hinfo : (P.info? e).map (fun i => (i.zero, i.size, i.bytes)) = some (some z, 1, bytes)) (hz : z.cells.size = 1) (B : Nat) (v : Value) (n : Nat) (xs : List Value) (hs : a.eval s = v)
    (hown : wr.ownsRow B e 1 v n xs) (hB : B ≤ wr.heap.size) (y : Value) (hy : y.oneCell' = true) (N : Nat) (hN : wr.heap.size = N) (hx : a.eval x = .slice (some ⟨N, 0, none⟩) 1 1)
    (hc : (wr.alloc obj).cell? ⟨wr.heap.size, 0, none⟩ = some y) (hn : n ≤ 4194304) (hbytes : bytes ≤ 64)
    (h : ∀ g cap w1, w1.ownsRow B e 1 (.slice (some ⟨g, 0, none⟩) (n + 1) cap) (n + 1) (xs ++ [y]) → (wr.alloc obj).grownBy w1 v.ownBlock → (v.ownBlock = some g ∨ wr.heap.size < g) → wpList P ops Q rest (a.put o.dst (.slice (some ⟨g, 0, none⟩) (n + 1) cap)) w1) : wpList P ops Q (o :: rest) a (wr.alloc obj) := by
  subst hN
  exact app_lies hgd s x t e z bytes ho hu hinfo hz B v n xs hs hown hB y hy hx hc hn hbytes h
theorem DS.lift {p : Nat} {w w1 wr : World} {v7 v8 : Value} {ws os : List Int} (h : DS p w1 wr v7 v8 ws os) (hp : p < w.heap.size) (hb : Below w.heap.size w w1) : DS p w wr v7 v8 ws os := by
  have hk := hb.block p hp
  have mono : ∀ {v : Value} {n : Nat} {xs : List Value}, wr.ownsRow w1.heap.size 3 1 v n xs → wr.ownsRow w.heap.size 3 1 v n xs := fun h => ⟨h.1, h.2.elim .inl fun ⟨g, cap, cur, h1, h2, h3⟩ => .inr ⟨g, cap, cur, h1, Nat.le_trans hb.size h2, h3⟩⟩
  exact ⟨h.c7, h.c8, h.f7, h.f8, mono h.r7, mono h.r8, h.ap, Nat.le_trans hb.size h.size, ⟨h.sys.1.trans hb.os, h.sys.2.1.trans hb.tape, h.sys.2.2.trans hb.output⟩,
    fun k h1 h2 => (h.keep k (Nat.lt_of_lt_of_le h1 hb.size) h2).trans (hb.block k h1),
    fun j h1 h2 => ⟨(h.rest j h1 h2).1.trans (World.cell?_of_block (a := ⟨p, j, none⟩) hk), (h.rest j h1 h2).2.trans (World.frozen?_of_block (a := ⟨p, j, none⟩) hk)⟩⟩
theorem DS.cell {p g k : Nat} {w1 wr : World} {v7 v8 : Value} {ws os : List Int} {y : Value} (h : DS p w1 wr v7 v8 ws os) (hg : g < w1.heap.size) (hne : g ≠ p) (hc : w1.cell? ⟨g, k, none⟩ = some y) : wr.cell? ⟨g, k, none⟩ = some y :=
  (World.cell?_of_block (a := ⟨g, k, none⟩) (h.keep g hg hne)).trans hc

set_option maxRecDepth 100000 in
set_option maxHeartbeats 8000000 in
theorem days_ref (p : Nat) (s : ByteArray) (w : World) (hs : s.size ≤ 1048575) (hp : p < w.heap.size) (h7 : w.cell? ⟨p, 7, none⟩ = some (.slice none 0 0)) (h8 : w.cell? ⟨p, 8, none⟩ = some (.slice none 0 0)) (hf7 : w.frozen? ⟨p, 7, none⟩ = false) (hf8 : w.frozen? ⟨p, 8, none⟩ = false) :
    Calls Tryz.prog 333 #[.pointer (some ⟨p, 0, none⟩), .string s] w fun e w' => ∃ b v7 v8 ws os, e = .returned (.bool b) ∧ DS p w w' v7 v8 ws os ∧ (b = false → daysF s = none) ∧ (b = true → daysF s = some (ws, os)) := by
  have CS := hide (split_any s 44 w (by omega))
  have HP := hide (splitF_pos s 44)
  have HL := hide (splitF_le s 44)
  have HM := hide (splitF_small s 44)
  have HF : Hid (daysF s = if (splitF s 44).length ≤ 20 then dys (splitF s 44) ([], []) else none) := hide rfl
  obtain ⟨P, hP⟩ : ∃ P, P = splitF s 44 := ⟨_, rfl⟩
  rw [← hP] at CS HP HL HM HF
  clear hP
  go_enter Tryz.func333, Tryz.ntmps333
  go_wp2_with (go_at_call 292; refine (CS.out).mono ?_; rintro e w1 ⟨v, rfl, hown, hb1⟩; obtain ⟨g, cap, rfl, hgB, hat⟩ := own_strs hown HP.out; clear hown)
  have hz1 := hb1.size
  have hPl : P.length ≤ 1048576 := by have := HL.out; omega
  have HA := hide hat
  have hp1 : p < w1.heap.size := Nat.lt_of_lt_of_le hp hz1
  have hgs : g < w1.heap.size := hat.1
  have hgp : g ≠ p := by omega
  have hk1 := hb1.block p hp
  have H1 : DS p w1 w1 (.slice none 0 0) (.slice none 0 0) [] [] :=
    ⟨(World.cell?_of_block (a := ⟨p, 7, none⟩) hk1).trans h7, (World.cell?_of_block (a := ⟨p, 8, none⟩) hk1).trans h8, (World.frozen?_of_block (a := ⟨p, 7, none⟩) hk1).trans hf7, (World.frozen?_of_block (a := ⟨p, 8, none⟩) hk1).trans hf8,
      World.ownsRow_nil _ _ _ _, World.ownsRow_nil _ _ _ _, fun g hg => by simp [Value.ownBlock] at hg, Nat.le_refl _, ⟨rfl, rfl, rfl⟩, fun _ _ _ => rfl, fun _ _ _ => ⟨rfl, rfl⟩⟩
  clear hat hk1 h7 h8 hf7 hf8
  go_loopw [6] (fun i wr => ∃ (k : Nat) (v7 v8 : Value) (ws os : List Int), k ≤ P.length ∧ i = .int .i64 k ∧ ws.length = k ∧ os.length = k ∧ DS p w1 wr v7 v8 ws os ∧ Hid (dys P ([], []) = dys (P.drop k) (ws, os))) (fun i _ => P.length - (intOf i).toNat)
  case atStart => exact ⟨0, _, _, [], [], Nat.zero_le _, rfl, rfl, rfl, H1, hide (by simp)⟩
  case round =>
    obtain ⟨k, v7, v8, ws, os, hk, rfl, hws, hos, hD, HT⟩ := hrel
    clear H1
    have HWS := hide hws
    have HOS := hide hos
    clear hws hos
    by_cases hlt : k < P.length
    case neg =>
      have hkl : k = P.length := by omega
      have HE : Hid (dys P ([], []) = some (ws, os)) := hide (by rw [HT.out, hkl, List.drop_length]; rfl)
      clear HT
      go_wp2
      go_ret
      refine ⟨decide ((P.length : Int) ≤ 20), v7, v8, ws, os, rfl, hD.lift hp hb1, fun h => ?_, fun h => ?_⟩
      · rw [HF.out, if_neg (by simp at h; omega)]
      · rw [HF.out, if_pos (by simp at h; omega), HE.out]
    case pos =>
      obtain ⟨l, hl⟩ : ∃ l, P[k]? = some l := ⟨_, List.getElem?_eq_getElem hlt⟩
      have hcell1 := HA.out.2 k l hl
      have hcell := hD.cell hgs hgp hcell1
      have hls : l.size ≤ 1048576 := by have := HM.out l (List.mem_of_getElem? hl); omega
      by_cases h2 : l.size < 2
      case pos =>
        have HN : Hid (dys P ([], []) = none) := hide (by rw [HT.out, dys_miss hl (by unfold day1; rw [if_pos h2])])
        clear HT hl hcell1
        go_wp2
        go_ret
        exact ⟨false, v7, v8, ws, os, rfl, hD.lift hp hb1, fun _ => by rw [HF.out, HN.out]; simp, fun h => (by cases h)⟩
      case neg =>
        obtain ⟨m, hm⟩ : ∃ m, l.size = m + 2 := ⟨l.size - 2, by omega⟩
        have hd1 : day1 l = if wdI (cut l m 2) < 0 then none else if m = 0 then some (wdI (cut l m 2), 0) else if sgn (cut l 0 m) 53 = 0 then none else some (wdI (cut l m 2), sgn (cut l 0 m) 53) := by
          unfold day1; rw [if_neg h2, hm, show m + 2 - 2 = m from by omega]; simp
        have CW : ∀ (x : ByteArray) (w' : World), x.data.toList = cut l m 2 → Calls Tryz.prog 334 #[.string x] w' fun e w2 => e = .returned (.int .i64 (wdI (cut l m 2))) ∧ Below w'.heap.size w' w2 := fun x w' hx => by
          have := weekday_any x w'; rw [hx] at this; exact this
        have CG : ∀ (x : ByteArray) (w' : World), x.size ≤ maxLen → x.data.toList = cut l 0 m → Calls Tryz.prog 331 #[.string x, .int .i64 53] w' fun e w2 => e = .returned (.int .i64 (sgn (cut l 0 m) 53)) ∧ w' = w2 := fun x w' h1 hx => by
          have := signed_any x 53 w' h1; rw [hx] at this; exact this
        obtain ⟨W, hW⟩ : ∃ W, W = wdI (cut l m 2) := ⟨_, rfl⟩
        obtain ⟨O, hO⟩ : ∃ O, O = sgn (cut l 0 m) 53 := ⟨_, rfl⟩
        rw [← hW] at CW
        rw [← hO] at CG
        rw [← hW, ← hO] at hd1
        have CW := hide CW
        have CG := hide CG
        clear hW hO h2
        have bad : day1 l = none → Hid (dys P ([], []) = none) := fun h => hide (by rw [HT.out, dys_miss hl h])
        have good : ∀ q, day1 l = some q → Hid (dys P ([], []) = dys (P.drop (k + 1)) (ws ++ [q.1], os ++ [q.2])) := fun q h => hide (by rw [HT.out, dys_hit hl h])
        clear HT hl
        rcases Nat.eq_zero_or_pos m with hm0 | hm0
        case inl =>
          have hd1 : day1 l = if W < 0 then none else some (W, 0) := by rw [hd1, if_pos hm0]
          have hmi : (m : Int) ≤ 0 := by omega
          clear hm0
          by_cases hW : W < 0
          case pos =>
            have HN := bad (by rw [hd1, if_pos hW])
            clear bad good hd1
            go_wp2_with (go_at_call 334; refine (CW.out _ _ (by rw [extract_cut]; first | rfl | (congr 1; omega))).mono ?_; rintro e w2 ⟨rfl, hb2⟩; have hD2 := hD.below hp1 hb2; have hcell2 := hD2.cell hgs hgp hcell1; have hc72 := hD2.c7)
            go_ret
            exact ⟨false, v7, v8, ws, os, rfl, hD2.lift hp hb1, fun _ => by rw [HF.out, HN.out]; simp, fun h => (by cases h)⟩
          case neg =>
            have HN := good (W, 0) (by rw [hd1, if_neg hW])
            clear bad good hd1
            go_wp2_with (first
              | (go_at_call 334; refine (CW.out _ _ (by rw [extract_cut]; first | rfl | (congr 1; omega))).mono ?_; rintro e w2 ⟨rfl, hb2⟩; have hD2 := hD.below hp1 hb2; have hcell2 := hD2.cell hgs hgp hcell1; have hc72 := hD2.c7)
              | (at_builtin; refine app_lies2 rfl (.tmp 56) (.tmp 58) 54 3 _ 8 rfl Tryz.underlying54 infoInt rfl w1.heap.size _ _ _ rfl hD2.r7 hD2.size (.int .i64 W) rfl _ rfl rfl (by simp) (by have := HWS.out; omega) (by decide) ?_; intro g7 cap7 w3 hown3 hg3 hat3; obtain ⟨hc7, hf7⟩ := hD2.mid7 hp1 hg3; have hD3 := hD2.step7 hp1 rfl hown3 hg3 hat3; have hc8 : w3.cell? ⟨p, 8, none⟩ = some v8 := (World.cell?_setCell_other _ _ _ _ (by simp)).symm.trans hD3.c8; have hf8 : w3.frozen? ⟨p, 8, none⟩ = false := (World.frozen?_setCell _ _ _ _).symm.trans hD3.f8)
              | (at_builtin; refine app_lies2 rfl (.tmp 66) (.tmp 68) 54 3 _ 8 rfl Tryz.underlying54 infoInt rfl w1.heap.size _ _ _ rfl hD3.r8 hD3.size (.int .i64 0) rfl _ (by simp) rfl (cell_new _ _ _) (by have := HOS.out; omega) (by decide) ?_; intro g8 cap8 w4 hown4 hg4 hat4; obtain ⟨hc8b, hf8b⟩ := hD3.mid8 hp1 hg4; have hD4 := hD3.step8 hp1 rfl hown4 hg4 hat4))
            go_roundw
            case rel => exact ⟨k + 1, _, _, ws ++ [W], os ++ [0], by omega, by go_num, by have := HWS.out; simp; omega, by have := HOS.out; simp; omega, hD4, HN⟩
            case measure => simp [intOf]; omega
        case inr =>
          by_cases hW : W < 0
          case pos =>
            have HN := bad (by rw [hd1, if_pos hW])
            clear bad good hd1
            go_wp2_with (first
              | (go_at_call 334; refine (CW.out _ _ (by rw [extract_cut]; first | rfl | (congr 1; omega))).mono ?_; rintro e w2 ⟨rfl, hb2⟩; have hD2 := hD.below hp1 hb2; have hcell2 := hD2.cell hgs hgp hcell1; have hc72 := hD2.c7)
              | (go_at_call 331; refine (CG.out _ _ (by rw [ByteArray.size_extract]; unfold maxLen; omega) (by rw [extract_cut]; first | rfl | (congr 1; omega))).mono ?_; rintro e w' ⟨rfl, rfl⟩))
            go_ret
            exact ⟨false, v7, v8, ws, os, rfl, hD2.lift hp hb1, fun _ => by rw [HF.out, HN.out]; simp, fun h => (by cases h)⟩
          case neg =>
          by_cases hO : O = 0
          case pos =>
            have HN := bad (by rw [hd1, if_neg hW, if_neg (by omega), if_pos hO])
            clear bad good hd1
            subst hO
            go_wp2_with (first
              | (go_at_call 334; refine (CW.out _ _ (by rw [extract_cut]; first | rfl | (congr 1; omega))).mono ?_; rintro e w2 ⟨rfl, hb2⟩; have hD2 := hD.below hp1 hb2; have hcell2 := hD2.cell hgs hgp hcell1; have hc72 := hD2.c7)
              | (go_at_call 331; refine (CG.out _ _ (by rw [ByteArray.size_extract]; unfold maxLen; omega) (by rw [extract_cut]; first | rfl | (congr 1; omega))).mono ?_; rintro e w' ⟨rfl, rfl⟩))
            go_ret
            exact ⟨false, v7, v8, ws, os, rfl, hD2.lift hp hb1, fun _ => by rw [HF.out, HN.out]; simp, fun h => (by cases h)⟩
          case neg =>
            have HN := good (W, O) (by rw [hd1, if_neg hW, if_neg (by omega), if_neg hO])
            have gO : (O == 0) = false := by simpa using hO
            clear bad good hd1 hO
            go_wp2_with (first
              | (go_at_call 334; refine (CW.out _ _ (by rw [extract_cut]; first | rfl | (congr 1; omega))).mono ?_; rintro e w2 ⟨rfl, hb2⟩; have hD2 := hD.below hp1 hb2; have hcell2 := hD2.cell hgs hgp hcell1; have hc72 := hD2.c7)
              | (go_at_call 331; refine (CG.out _ _ (by rw [ByteArray.size_extract]; unfold maxLen; omega) (by rw [extract_cut]; first | rfl | (congr 1; omega))).mono ?_; rintro e w' ⟨rfl, rfl⟩)
              | (at_builtin; refine app_lies2 rfl (.tmp 56) (.tmp 58) 54 3 _ 8 rfl Tryz.underlying54 infoInt rfl w1.heap.size _ _ _ rfl hD2.r7 hD2.size (.int .i64 W) rfl _ rfl rfl (by simp) (by have := HWS.out; omega) (by decide) ?_; intro g7 cap7 w3 hown3 hg3 hat3; obtain ⟨hc7, hf7⟩ := hD2.mid7 hp1 hg3; have hD3 := hD2.step7 hp1 rfl hown3 hg3 hat3; have hc8 : w3.cell? ⟨p, 8, none⟩ = some v8 := (World.cell?_setCell_other _ _ _ _ (by simp)).symm.trans hD3.c8; have hf8 : w3.frozen? ⟨p, 8, none⟩ = false := (World.frozen?_setCell _ _ _ _).symm.trans hD3.f8)
              | (at_builtin; refine app_lies2 rfl (.tmp 66) (.tmp 68) 54 3 _ 8 rfl Tryz.underlying54 infoInt rfl w1.heap.size _ _ _ rfl hD3.r8 hD3.size (.int .i64 O) rfl _ (by simp) rfl (cell_new _ _ _) (by have := HOS.out; omega) (by decide) ?_; intro g8 cap8 w4 hown4 hg4 hat4; obtain ⟨hc8b, hf8b⟩ := hD3.mid8 hp1 hg4; have hD4 := hD3.step8 hp1 rfl hown4 hg4 hat4))
            go_roundw
            case rel => exact ⟨k + 1, _, _, ws ++ [W], os ++ [O], by omega, by go_num, by have := HWS.out; simp; omega, by have := HOS.out; simp; omega, hD4, HN⟩
            case measure => simp [intOf]; omega
end Go.Proofs.YthpndgcaoeokeaaGreatDoor
namespace Go.Proofs.YthpndgcaoeokeaaGreatDoor
open Go.RowKit

/-- field j of the rule at p has turned to y, and of what was there nothing else -/
structure PS (p j : Nat) (y : Value) (w w' : World) : Prop where
  c : w'.cell? ⟨p, j, none⟩ = some y
  fz : w'.frozen? ⟨p, j, none⟩ = w.frozen? ⟨p, j, none⟩
  size : w.heap.size ≤ w'.heap.size
  sys : w'.os = w.os ∧ w'.tape = w.tape ∧ w'.output = w.output
  keep : ∀ k, k < w.heap.size → k ≠ p → w'.heap[k]? = w.heap[k]?
  rest : ∀ i, i ≠ j → w'.cell? ⟨p, i, none⟩ = w.cell? ⟨p, i, none⟩ ∧ w'.frozen? ⟨p, i, none⟩ = w.frozen? ⟨p, i, none⟩
theorem setCell_size (w : World) (a : Addr) (v : Value) : (w.setCell a v).heap.size = w.heap.size := by simp [World.setCell]
theorem PS.of {p j : Nat} {y u : Value} {w w2 : World} (hp : p < w.heap.size) (hb : Below w.heap.size w w2) (hc : w.cell? ⟨p, j, none⟩ = some u) : PS p j y w (w2.setCell ⟨p, j, none⟩ y) := by
  have hk := hb.block p hp
  refine ⟨World.cell?_setCell_same _ _ _ ((World.cell?_of_block (a := ⟨p, j, none⟩) hk).trans hc), (World.frozen?_setCell _ _ _ _).trans (World.frozen?_of_block (a := ⟨p, j, none⟩) hk), by rw [setCell_size]; exact hb.size, ?_, ?_, ?_⟩
  · exact ⟨(show (w2.setCell ⟨p, j, none⟩ y).os = w2.os from by simp [World.setCell]).trans hb.os, (show (w2.setCell ⟨p, j, none⟩ y).tape = w2.tape from by simp [World.setCell]).trans hb.tape, (show (w2.setCell ⟨p, j, none⟩ y).output = w2.output from by simp [World.setCell]).trans hb.output⟩
  · intro k h1 h2
    rw [Below.heap_setCell _ _ _ _ (by exact h2)]
    exact hb.block k h1
  · intro i hi
    rw [World.cell?_setCell_other _ _ _ _ (fun e => by cases e; omega), World.frozen?_setCell]
    exact ⟨World.cell?_of_block (a := ⟨p, i, none⟩) hk, World.frozen?_of_block (a := ⟨p, i, none⟩) hk⟩
theorem PS.again {p j : Nat} {y y' : Value} {w w2 : World} (h : PS p j y w w2) : PS p j y' w (w2.setCell ⟨p, j, none⟩ y') := by
  refine ⟨World.cell?_setCell_same _ _ _ h.c, (World.frozen?_setCell _ _ _ _).trans h.fz, by rw [setCell_size]; exact h.size, ?_, ?_, ?_⟩
  · exact ⟨(show (w2.setCell ⟨p, j, none⟩ y').os = w2.os from by simp [World.setCell]).trans h.sys.1, (show (w2.setCell ⟨p, j, none⟩ y').tape = w2.tape from by simp [World.setCell]).trans h.sys.2.1, (show (w2.setCell ⟨p, j, none⟩ y').output = w2.output from by simp [World.setCell]).trans h.sys.2.2⟩
  · intro k h1 h2
    rw [Below.heap_setCell _ _ _ _ (by exact h2)]
    exact h.keep k h1 h2
  · intro i hi
    rw [World.cell?_setCell_other _ _ _ _ (fun e => by cases e; omega), World.frozen?_setCell]
    exact h.rest i hi

set_option maxRecDepth 100000 in
set_option maxHeartbeats 2000000 in
theorem part1 (p : Nat) (s : ByteArray) (u : Value) (w : World) (hs : s.size ≤ maxLen) (hp : p < w.heap.size) (hc : w.cell? ⟨p, 1, none⟩ = some u) (hf : w.frozen? ⟨p, 1, none⟩ = false) :
    Calls Tryz.prog 293 #[.pointer (some ⟨p, 0, none⟩), .int .i64 1, .string s] w fun e w' => e = .returned (.bool (decide (0 < sgn s.data.toList 100))) ∧ PS p 1 (.int .i64 (sgn s.data.toList 100)) w w' := by
  have CQ := signed_any s 100 w hs
  obtain ⟨z, hz⟩ : ∃ z, z = sgn s.data.toList 100 := ⟨_, rfl⟩
  rw [← hz] at CQ ⊢
  have CQ := hide CQ
  clear hz
  go_enter Tryz.func293, Tryz.ntmps293
  go_wp2_with (go_at_call 331; refine (CQ.out).mono ?_; rintro e w' ⟨rfl, rfl⟩)
  go_ret
  exact ⟨rfl, PS.of hp (Below.refl _ _) hc⟩

set_option maxRecDepth 100000 in
set_option maxHeartbeats 2000000 in
theorem part2 (p : Nat) (s : ByteArray) (u : Value) (w : World) (hs : s.size ≤ maxLen) (hp : p < w.heap.size) (hc : w.cell? ⟨p, 2, none⟩ = some u) (hf : w.frozen? ⟨p, 2, none⟩ = false) :
    Calls Tryz.prog 293 #[.pointer (some ⟨p, 0, none⟩), .int .i64 2, .string s] w fun e w' => e = .returned (.bool (decide (0 < sgn s.data.toList 1000))) ∧ PS p 2 (.int .i64 (sgn s.data.toList 1000)) w w' := by
  have CQ := signed_any s 1000 w hs
  obtain ⟨z, hz⟩ : ∃ z, z = sgn s.data.toList 1000 := ⟨_, rfl⟩
  rw [← hz] at CQ ⊢
  have CQ := hide CQ
  clear hz
  go_enter Tryz.func293, Tryz.ntmps293
  go_wp2_with (go_at_call 331; refine (CQ.out).mono ?_; rintro e w' ⟨rfl, rfl⟩)
  go_ret
  exact ⟨rfl, PS.of hp (Below.refl _ _) hc⟩

set_option maxRecDepth 100000 in
set_option maxHeartbeats 2000000 in
theorem part8 (p : Nat) (s : ByteArray) (u : Value) (w : World) (hp : p < w.heap.size) (hc : w.cell? ⟨p, 9, none⟩ = some u) (hf : w.frozen? ⟨p, 9, none⟩ = false) :
    Calls Tryz.prog 293 #[.pointer (some ⟨p, 0, none⟩), .int .i64 8, .string s] w fun e w' => e = .returned (.bool (decide (0 ≤ wdI s.data.toList))) ∧ PS p 9 (.int .i64 (wdI s.data.toList)) w w' := by
  have CQ := weekday_any s w
  obtain ⟨z, hz⟩ : ∃ z, z = wdI s.data.toList := ⟨_, rfl⟩
  rw [← hz] at CQ ⊢
  have CQ := hide CQ
  clear hz
  go_enter Tryz.func293, Tryz.ntmps293
  go_wp2_with (go_at_call 334; refine (CQ.out).mono ?_; rintro e w2 ⟨rfl, hb2⟩; have hc2 := (hb2.cell (p := ⟨p, 9, none⟩) hp).trans hc; have hf2 := (World.frozen?_of_block (a := ⟨p, 9, none⟩) (hb2.block p hp)).trans hf)
  go_ret
  exact ⟨rfl, PS.of hp hb2 hc⟩

set_option maxRecDepth 100000 in
set_option maxHeartbeats 2000000 in
theorem part3 (p : Nat) (s : ByteArray) (u : Value) (w : World) (hs : s.size ≤ maxLen) (hp : p < w.heap.size) (hc : w.cell? ⟨p, 3, none⟩ = some u) (hf : w.frozen? ⟨p, 3, none⟩ = false) :
    Calls Tryz.prog 293 #[.pointer (some ⟨p, 0, none⟩), .int .i64 3, .string s] w fun e w' => e = .returned (.bool (timeB s)) ∧ PS p 3 (.int .i64 (if timeB s = true then timeN s else 0)) w w' := by
  have CQ := refParse_any s w hs
  cases ht : timeB s
  case true =>
    rw [parseV_yes (timeB_iff.1 ht)] at CQ
    have CQ := hide CQ
    clear ht
    go_enter Tryz.func293, Tryz.ntmps293
    go_wp2_with (go_at_call 107; refine (CQ.out).mono ?_; rintro e w' ⟨rfl, rfl⟩)
    go_ret
    exact ⟨rfl, PS.of hp (Below.refl _ _) hc⟩
  case false =>
    rw [parseV_no (fun h => by rw [timeB_iff.2 h] at ht; cases ht)] at CQ
    have CQ := hide CQ
    clear ht
    go_enter Tryz.func293, Tryz.ntmps293
    go_wp2_with (go_at_call 107; refine (CQ.out).mono ?_; rintro e w' ⟨rfl, rfl⟩)
    go_ret
    exact ⟨rfl, PS.of hp (Below.refl _ _) hc⟩

set_option maxRecDepth 100000 in
set_option maxHeartbeats 2000000 in
theorem part4 (p : Nat) (s : ByteArray) (u : Value) (w : World) (hs : s.size ≤ 1048575) (hp : p < w.heap.size) (hc : w.cell? ⟨p, 4, none⟩ = some u) (hf : w.frozen? ⟨p, 4, none⟩ = false) :
    Calls Tryz.prog 293 #[.pointer (some ⟨p, 0, none⟩), .int .i64 4, .string s] w fun e w' => ∃ v b, e = .returned (.bool b) ∧ PS p 4 v w w' ∧ (b = false → listF s 12 false = none) ∧ (b = true → ∃ zs, listF s 12 false = some zs ∧ w'.ownsRow w.heap.size 3 1 v zs.length (zs.map (Value.int .i64)) ∧ zs.length ≤ 20) := by
  have CQ := hide (list_ref s 12 false w hs)
  go_enter Tryz.func293, Tryz.ntmps293
  go_wp2_with (go_at_call 332; refine (CQ.out).mono ?_; rintro e w2 ⟨va, vn, vc, b, rfl, hb2, hno, hyes⟩; have hc2 := (hb2.cell (p := ⟨p, 4, none⟩) hp).trans hc; have hf2 := (World.frozen?_of_block (a := ⟨p, 4, none⟩) (hb2.block p hp)).trans hf; have HNO := hide hno; have HYES := hide hyes; clear hno hyes)
  go_ret
  exact ⟨_, b, rfl, PS.of hp hb2 hc, HNO.out, fun h => by obtain ⟨zs, h1, h2, h3⟩ := HYES.out h; exact ⟨zs, h1, own_set h2 hp, h3⟩⟩

set_option maxRecDepth 100000 in
set_option maxHeartbeats 2000000 in
theorem part5 (p : Nat) (s : ByteArray) (u : Value) (w : World) (hs : s.size ≤ 1048575) (hp : p < w.heap.size) (hc : w.cell? ⟨p, 5, none⟩ = some u) (hf : w.frozen? ⟨p, 5, none⟩ = false) :
    Calls Tryz.prog 293 #[.pointer (some ⟨p, 0, none⟩), .int .i64 5, .string s] w fun e w' => ∃ v b, e = .returned (.bool b) ∧ PS p 5 v w w' ∧ (b = false → listF s 31 true = none) ∧ (b = true → ∃ zs, listF s 31 true = some zs ∧ w'.ownsRow w.heap.size 3 1 v zs.length (zs.map (Value.int .i64)) ∧ zs.length ≤ 20) := by
  have CQ := hide (list_ref s 31 true w hs)
  go_enter Tryz.func293, Tryz.ntmps293
  go_wp2_with (go_at_call 332; refine (CQ.out).mono ?_; rintro e w2 ⟨va, vn, vc, b, rfl, hb2, hno, hyes⟩; have hc2 := (hb2.cell (p := ⟨p, 5, none⟩) hp).trans hc; have hf2 := (World.frozen?_of_block (a := ⟨p, 5, none⟩) (hb2.block p hp)).trans hf; have HNO := hide hno; have HYES := hide hyes; clear hno hyes)
  go_ret
  exact ⟨_, b, rfl, PS.of hp hb2 hc, HNO.out, fun h => by obtain ⟨zs, h1, h2, h3⟩ := HYES.out h; exact ⟨zs, h1, own_set h2 hp, h3⟩⟩

set_option maxRecDepth 100000 in
set_option maxHeartbeats 2000000 in
theorem part7 (p : Nat) (s : ByteArray) (u : Value) (w : World) (hs : s.size ≤ 1048575) (hp : p < w.heap.size) (hc : w.cell? ⟨p, 6, none⟩ = some u) (hf : w.frozen? ⟨p, 6, none⟩ = false) :
    Calls Tryz.prog 293 #[.pointer (some ⟨p, 0, none⟩), .int .i64 7, .string s] w fun e w' => ∃ v b, e = .returned (.bool b) ∧ PS p 6 v w w' ∧ (b = false → listF s 366 true = none) ∧ (b = true → ∃ zs, listF s 366 true = some zs ∧ w'.ownsRow w.heap.size 3 1 v zs.length (zs.map (Value.int .i64)) ∧ zs.length ≤ 20) := by
  have CQ := hide (list_ref s 366 true w hs)
  go_enter Tryz.func293, Tryz.ntmps293
  go_wp2_with (go_at_call 332; refine (CQ.out).mono ?_; rintro e w2 ⟨va, vn, vc, b, rfl, hb2, hno, hyes⟩; have hc2 := (hb2.cell (p := ⟨p, 6, none⟩) hp).trans hc; have hf2 := (World.frozen?_of_block (a := ⟨p, 6, none⟩) (hb2.block p hp)).trans hf; have HNO := hide hno; have HYES := hide hyes; clear hno hyes)
  go_ret
  exact ⟨_, b, rfl, PS.of hp hb2 hc, HNO.out, fun h => by obtain ⟨zs, h1, h2, h3⟩ := HYES.out h; exact ⟨zs, h1, own_set h2 hp, h3⟩⟩

end Go.Proofs.YthpndgcaoeokeaaGreatDoor
namespace Go.Proofs.YthpndgcaoeokeaaGreatDoor
open Go.RowKit

/-- which period -/
def frq (l : List UInt8) : Int := if l = [89, 69, 65, 82, 76, 89] then 4 else wrd l [68, 65, 73, 76, 89] [87, 69, 69, 75, 76, 89] [77, 79, 78, 84, 72, 76, 89]

set_option maxRecDepth 100000 in
set_option maxHeartbeats 2000000 in
theorem part0 (p : Nat) (s : ByteArray) (u : Value) (w : World) (hp : p < w.heap.size) (hc : w.cell? ⟨p, 0, none⟩ = some u) (hf : w.frozen? ⟨p, 0, none⟩ = false) :
    Calls Tryz.prog 293 #[.pointer (some ⟨p, 0, none⟩), .int .i64 0, .string s] w fun e w' => e = .returned (.bool (decide (0 < frq s.data.toList))) ∧ PS p 0 (.int .i64 (frq s.data.toList)) w w' := by
  have CQ : Calls Tryz.prog 238 #[.string s, .string ⟨#[68, 65, 73, 76, 89]⟩, .string ⟨#[87, 69, 69, 75, 76, 89]⟩, .string ⟨#[77, 79, 78, 84, 72, 76, 89]⟩] w fun e w' => e = .returned (.int .i64 (wrd s.data.toList [68, 65, 73, 76, 89] [87, 69, 69, 75, 76, 89] [77, 79, 78, 84, 72, 76, 89])) ∧ w = w' :=
    word_any s.data.toList [68, 65, 73, 76, 89] [87, 69, 69, 75, 76, 89] [77, 79, 78, 84, 72, 76, 89] w
  have hfr : frq s.data.toList = if s.data.toList = [89, 69, 65, 82, 76, 89] then 4 else wrd s.data.toList [68, 65, 73, 76, 89] [87, 69, 69, 75, 76, 89] [77, 79, 78, 84, 72, 76, 89] := rfl
  obtain ⟨z, hz⟩ : ∃ z, z = wrd s.data.toList [68, 65, 73, 76, 89] [87, 69, 69, 75, 76, 89] [77, 79, 78, 84, 72, 76, 89] := ⟨_, rfl⟩
  rw [← hz] at CQ hfr
  have CQ := hide CQ
  clear hz
  by_cases hy : s.data.toList = [89, 69, 65, 82, 76, 89]
  case pos =>
    have g : (s.toList == [89, 69, 65, 82, 76, 89]) = true := by rw [ByteArray.toList_eq, beq_iff_eq]; exact hy
    rw [hfr, if_pos hy]
    clear hy hfr
    go_enter Tryz.func293, Tryz.ntmps293
    go_wp2_with (go_at_call 238; refine (CQ.out).mono ?_; rintro e w' ⟨rfl, rfl⟩)
    go_ret
    exact ⟨rfl, (PS.of hp (Below.refl _ _) hc).again⟩
  case neg =>
    have g : (s.toList == [89, 69, 65, 82, 76, 89]) = false := by rw [ByteArray.toList_eq, beq_eq_false_iff_ne]; exact hy
    rw [hfr, if_neg hy]
    clear hy hfr
    go_enter Tryz.func293, Tryz.ntmps293
    go_wp2_with (go_at_call 238; refine (CQ.out).mono ?_; rintro e w' ⟨rfl, rfl⟩)
    go_ret
    exact ⟨rfl, PS.of hp (Below.refl _ _) hc⟩

set_option maxRecDepth 100000 in
set_option maxHeartbeats 2000000 in
theorem part6 (p : Nat) (s : ByteArray) (w : World) (hs : s.size ≤ 1048575) (hp : p < w.heap.size) (h7 : w.cell? ⟨p, 7, none⟩ = some (.slice none 0 0)) (h8 : w.cell? ⟨p, 8, none⟩ = some (.slice none 0 0)) (hf7 : w.frozen? ⟨p, 7, none⟩ = false) (hf8 : w.frozen? ⟨p, 8, none⟩ = false) :
    Calls Tryz.prog 293 #[.pointer (some ⟨p, 0, none⟩), .int .i64 6, .string s] w fun e w' => ∃ b v7 v8 ws os, e = .returned (.bool b) ∧ DS p w w' v7 v8 ws os ∧ (b = false → daysF s = none) ∧ (b = true → daysF s = some (ws, os)) := by
  have CQ := hide (days_ref p s w hs hp h7 h8 hf7 hf8)
  clear h7 h8 hf7 hf8
  go_enter Tryz.func293, Tryz.ntmps293
  go_wp2_with (go_at_call 333; refine (CQ.out).mono ?_; rintro e w2 ⟨b, v7, v8, ws, os, rfl, hD, hno, hyes⟩; have HNO := hide hno; have HYES := hide hyes; clear hno hyes)
  go_ret
  exact ⟨b, v7, v8, ws, os, rfl, hD, HNO.out, HYES.out⟩
end Go.Proofs.YthpndgcaoeokeaaGreatDoor
namespace Go.Proofs.YthpndgcaoeokeaaGreatDoor
open Go.RowKit

set_option maxRecDepth 100000 in
theorem printed_nil (w : World) :
    Calls Tryz.prog 240 #[.slice none 0 0] w fun e w' => e = .returned (.string ⟨#[]⟩) ∧ Below w.heap.size w w' := by
  go_enter Tryz.func240, Tryz.ntmps240
  go_wp2
  go_loopw [3, 4] (fun o i wr => o = .string ⟨#[]⟩ ∧ i = .int .i64 0 ∧ wr = w) (fun _ _ _ => 0)
  case atStart => exact ⟨rfl, rfl, rfl⟩
  case round =>
    obtain ⟨rfl, rfl, rfl⟩ := hrel
    go_wp2
    go_ret
    exact ⟨rfl, Below.refl _ _⟩
theorem printed_any (v : Value) (zs : List Int) (w : World) (h : IntsAt w v zs) :
    Calls Tryz.prog 240 #[v] w fun e w' => e = .returned (.string ⟨(prk zs zs.length).toArray⟩) ∧ Below w.heap.size w w' := by
  obtain ⟨hz, ⟨rfl, rfl⟩ | ⟨g, off, cap, rfl, hg, hc⟩⟩ := h
  · exact printed_nil w
  · exact printed_some g off cap zs w hz hg hc

/-- the names of the properties and of the parts -/
def propNames : List (List UInt8) := [[85, 73, 68], [68, 84, 83, 84, 65, 82, 84], [68, 85, 82, 65, 84, 73, 79, 78], [68, 84, 69, 78, 68], [82, 82, 85, 76, 69], [69, 88, 68, 65, 84, 69], [82, 68, 65, 84, 69], [84, 82, 65, 78, 83, 80], [83, 84, 65, 84, 85, 83]]
def partNames : List (List UInt8) := [[70, 82, 69, 81], [73, 78, 84, 69, 82, 86, 65, 76], [67, 79, 85, 78, 84], [85, 78, 84, 73, 76], [66, 89, 77, 79, 78, 84, 72], [66, 89, 77, 79, 78, 84, 72, 68, 65, 89], [66, 89, 68, 65, 89], [66, 89, 83, 69, 84, 80, 79, 83], [87, 75, 83, 84]]
/-- the fields of pieces, by their names' places: none of them twice, none of another name -/
def flds (ns : List (List UInt8)) (c : UInt8) : List (List UInt8) → (Nat → Option (List UInt8)) → Option (Nat → Option (List UInt8))
  | [], f => some f
  | l :: r, f => match plc ns c l with
    | none => none
    | some (k, v) => if (f k).isSome then none else flds ns c r (fun j => if j = k then some v else f j)
end Go.Proofs.YthpndgcaoeokeaaGreatDoor
