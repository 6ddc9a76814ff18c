/- The program's own: strings.Cut at one byte, words.Number, when.cutUnit. -/
import Derived.Test.YthpndgcaoeokeaaGreatDoorProg11
import Derived.Test.YthpndgcaoeokeaaGreatDoorLenEq2
import Derived.Lib.IndexLaws
namespace Go.Proofs.YthpndgcaoeokeaaGreatDoor
open Go.RowKit Go.Sort

theorem sp_index_no {c : UInt8} {l : List UInt8} (h : Lib.indexByte l c = -1) : sp c l = none := by
  refine sp_none fun m => ?_
  obtain ⟨k, hk⟩ := List.getElem?_of_mem m
  exact Lib.indexByte_none h k hk
theorem sp_index_yes {c : UInt8} {l : List UInt8} {o : Nat} (h : Lib.indexByte l c = o) : sp c l = some (l.take o, l.drop (o + 1)) ∧ o < l.length := by
  obtain ⟨h1, h2⟩ := Lib.indexByte_some h
  have hlt : o < l.length := by
    rw [List.getElem?_eq_some_iff] at h1; exact h1.1
  have e : l = l.take o ++ c :: l.drop (o + 1) := by
    conv => lhs; rw [← List.take_append_drop o l]
    rw [List.drop_eq_getElem_cons hlt]
    rw [List.getElem?_eq_getElem hlt] at h1
    rw [Option.some.inj h1]
  have hn : c ∉ l.take o := by
    intro m
    obtain ⟨k, hk⟩ := List.getElem?_of_mem m
    rw [List.getElem?_take] at hk
    by_cases q : k < o
    · rw [if_pos q] at hk; exact h2 k q hk
    · rw [if_neg q] at hk; cases hk
  refine ⟨?_, hlt⟩
  conv => lhs; rw [e]
  exact sp_at hn

/-- Cut's three answers -/
def cutV (c : UInt8) (l : List UInt8) : Value := match sp c l with
  | none => .tuple #[.string ⟨l.toArray⟩, .string ⟨#[]⟩, .bool false]
  | some (a, b) => .tuple #[.string ⟨a.toArray⟩, .string ⟨b.toArray⟩, .bool true]

theorem ba_eta (s : ByteArray) (l : List UInt8) (h : s.data.toList = l) : s = ⟨l.toArray⟩ := by
  cases s with | mk d => subst h; simp
theorem extract_take (l : List UInt8) (o : Nat) : (⟨l.toArray⟩ : ByteArray).extract 0 o = ⟨(l.take o).toArray⟩ := by
  apply ba_eta; rw [extract_cut]; simp [cut]
theorem extract_drop (l : List UInt8) (o : Nat) : (⟨l.toArray⟩ : ByteArray).extract o l.length = ⟨(l.drop o).toArray⟩ := by
  apply ba_eta; rw [extract_cut]; simp [cut]; exact List.take_of_length_le (by simp)

theorem ret_cut {a a' b b' : ByteArray} {f : Bool} (h1 : a = a') (h2 : b = b') : Ending.returned (.tuple #[.string a, .string b, .bool f]) = .returned (.tuple #[.string a', .string b', .bool f]) := by rw [h1, h2]

set_option maxRecDepth 100000 in
set_option maxHeartbeats 1000000 in
theorem cut1_any (l : List UInt8) (c : UInt8) (w : World) (hl : l.length ≤ maxLen) :
    Calls Tryz.prog 126 #[.string ⟨l.toArray⟩, .string ⟨#[c]⟩] w fun e w' => e = .returned (cutV c l) ∧ Below w.heap.size w w' := by
  have ci := Tryz.stringslite_Index_one ⟨l.toArray⟩ c w
  have CI := hide ci
  have hge := Lib.indexByte_ge l c
  unfold maxLen at hl
  clear ci
  by_cases h : Lib.indexByte l c = -1
  · have hv : cutV c l = .tuple #[.string ⟨l.toArray⟩, .string ⟨#[]⟩, .bool false] := by unfold cutV; rw [sp_index_no h]
    rw [hv]
    have CJ : Hid (Calls Tryz.prog 202 #[.string ⟨l.toArray⟩, .string ⟨#[c]⟩] w fun e w' => e = .returned (.int .i64 (-1)) ∧ w' = w) := by
      have := CI.out; rw [show (⟨l.toArray⟩ : ByteArray).data.toList = l from rfl, h] at this; exact this
    clear h hv CI hge
    go_enter Tryz.func126, Tryz.ntmps126
    go_wp2_with (go_at_call 202; refine (CJ.out).mono ?_; rintro e w' ⟨rfl, rfl⟩)
    go_ret3
    exact ⟨rfl, Below.refl _ _⟩
  · obtain ⟨o, ho⟩ := Int.eq_ofNat_of_zero_le (show 0 ≤ Lib.indexByte l c by omega)
    obtain ⟨hs, hlt⟩ := sp_index_yes ho
    have hv : cutV c l = .tuple #[.string ⟨(l.take o).toArray⟩, .string ⟨(l.drop (o + 1)).toArray⟩, .bool true] := by unfold cutV; rw [hs]
    rw [hv]
    have CJ : Hid (Calls Tryz.prog 202 #[.string ⟨l.toArray⟩, .string ⟨#[c]⟩] w fun e w' => e = .returned (.int .i64 (o : Int)) ∧ w' = w) := by
      have := CI.out; rw [show (⟨l.toArray⟩ : ByteArray).data.toList = l from rfl, ho] at this; exact this
    have E1 := hide (extract_take l o)
    have E2 := hide (extract_drop l (o + 1))
    clear h hv CI hge ho hs
    go_enter Tryz.func126, Tryz.ntmps126
    go_wp2_with (go_at_call 202; refine (CJ.out).mono ?_; rintro e w' ⟨rfl, rfl⟩)
    go_quiet (fail)
    go_wp2
    go_ret3
    exact ⟨ret_cut E1.out E2.out, below_drewN (Below.refl _ _) _⟩

theorem cutV_form (c : UInt8) (l : List UInt8) : ∃ a b f, cutV c l = .tuple #[.string a, .string b, .bool f] := by
  unfold cutV; cases sp c l with
  | none => exact ⟨_, _, _, rfl⟩
  | some y => exact ⟨_, _, _, rfl⟩

theorem strCut_any (l : List UInt8) (c : UInt8) (w : World) (hl : l.length ≤ maxLen) :
    Calls Tryz.prog 72 #[.string ⟨l.toArray⟩, .string ⟨#[c]⟩] w fun e w' => e = .returned (cutV c l) ∧ Below w.heap.size w w' := by
  have k := cut1_any l c w hl
  obtain ⟨a, b, f, hf⟩ := cutV_form c l
  rw [hf] at k ⊢
  have C := hide k
  clear k hf hl
  go_enter Tryz.func72, Tryz.ntmps72
  go_wp2_with (go_at_call 126; refine (C.out).mono ?_; rintro e w1 ⟨rfl, hb⟩)
  go_ret3
  exact ⟨rfl, hb⟩

/-- how the reading of a number ends -/
def numE (l : List UInt8) (x : Int) : Ending := if numB l = true then .returned (.int .i64 (numN l)) else .panicked (rsn x)
theorem numE_yes {l : List UInt8} {x : Int} (h : numB l = true) : numE l x = .returned (.int .i64 (numN l)) := by unfold numE; rw [if_pos h]
theorem numE_no {l : List UInt8} {x : Int} (h : numB l = false) : numE l x = .panicked (rsn x) := by unfold numE; rw [if_neg (by rw [h]; exact Bool.false_ne_true)]

theorem head_pos (c : UInt8) (r : List UInt8) : 0 < (⟨(c :: r).toArray⟩ : ByteArray).size := by show 0 < (c :: r).length; simp
theorem head_ne {c : UInt8} (r : List UInt8) (q : ¬ c = 48) : ((((⟨(c :: r).toArray⟩ : ByteArray)[0]'(head_pos c r)).toNat : Int) != 48) = true := by
  show ((c.toNat : Int) != 48) = true
  rw [bne_iff_ne]; intro e; apply q; apply UInt8.toNat_inj.1; show _ = 48; omega
theorem head_eq (r : List UInt8) : ((((⟨((48 : UInt8) :: r).toArray⟩ : ByteArray)[0]'(head_pos 48 r)).toNat : Int) != 48) = false := rfl

set_option maxRecDepth 100000 in
set_option maxHeartbeats 1000000 in
theorem wordsNumber_any (l : List UInt8) (x : Int) (w : World) (hl : l.length ≤ maxLen) :
    Calls Tryz.prog 127 #[.string ⟨l.toArray⟩, .int .i64 x] w fun E w' => E = numE l x ∧ w = w' := by
  unfold maxLen at hl
  match l with
  | [] =>
    rw [numE_no (by rfl)]
    go_enter Tryz.func127, Tryz.ntmps127
    go_wp2_with (go_at_call_of 65 (Value.bool false); refine (unless_no _ _).mono ?_; rintro e w' ⟨rfl, rfl⟩)
    exact ⟨rfl, rfl, rfl⟩
  | c :: r =>
    by_cases h7 : r.length + 1 ≤ 7
    case neg =>
      rw [numE_no (by simp [numB, numShape]; intro q; omega)]
      have h7' : decide ((r.length : Int) + 1 ≤ 7) = false := by simp; omega
      go_enter Tryz.func127, Tryz.ntmps127
      go_wp2_with (go_at_call_of 65 (Value.bool false); refine (unless_no _ _).mono ?_; rintro e w' ⟨rfl, rfl⟩)
      exact ⟨rfl, rfl, rfl⟩
    case pos =>
      have h7' : (r.length : Int) + 1 ≤ 7 := by omega
      have cy := words_digits_yes ⟨(c :: r).toArray⟩ x w (by show (c :: r).length ≤ 7; simp; omega)
      have cn := words_digits_no ⟨(c :: r).toArray⟩ x w (by show (c :: r).length ≤ 7; simp; omega)
      by_cases hs : c = 48 ∧ r ≠ []
      case pos =>
        obtain ⟨rfl, hr⟩ := hs
        obtain ⟨r0, r1, rfl⟩ := List.exists_cons_of_ne_nil hr
        rw [numE_no (by simp [numB, numShape])]
        have h9 : (r1.length : Int) + 1 + 1 ≤ 7 := by simp at h7; omega
        have q2 := head_eq (r0 :: r1)
        clear cy cn hr h7 h7'
        go_enter Tryz.func127, Tryz.ntmps127
        go_wp2_with (first
          | (go_at_call_of 65 (Value.bool true); refine (unless_yes _ _).mono ?_; rintro e w' ⟨rfl, rfl⟩)
          | (go_at_call_of 65 (Value.bool false); refine (unless_no _ _).mono ?_; rintro e w' ⟨rfl, rfl⟩))
        exact ⟨rfl, rfl, rfl⟩
      case neg =>
        have hsh : numShape (c :: r) = true := by
          simp [numShape]
          refine ⟨by omega, ?_⟩
          by_cases q : c = 48
          · right; by_cases e : r = []
            · rw [e]
            · exact absurd ⟨q, e⟩ hs
          · exact .inl q
        have hlen : (c :: r).length ≤ 7 := by simp; omega
        cases ha : allDig ⟨(c :: r).toArray⟩
        case false =>
          have hb : numB (c :: r) = false := by
            unfold numB
            rw [digs_no (l := c :: r) ha]; simp
          rw [numE_no hb]
          have C := hide (cn ha)
          clear cy cn ha hb hsh hlen
          rcases r with _ | ⟨r0, r1⟩
          case nil =>
            by_cases q : c = 48
            · subst q
              go_enter Tryz.func127, Tryz.ntmps127
              go_wp2_with (first
                | (go_at_call_of 65 (Value.bool true); refine (unless_yes _ _).mono ?_; rintro e w' ⟨rfl, rfl⟩)
                | (go_at_call 123; refine (C.out).mono ?_; rintro e w' ⟨rfl, rfl⟩))
              exact ⟨rfl, rfl, rfl⟩
            · have q' : (c == 48) = false := by simp [q]
              have q2 := head_ne [] q
              go_enter Tryz.func127, Tryz.ntmps127
              go_wp2_with (first
                | (go_at_call_of 65 (Value.bool true); refine (unless_yes _ _).mono ?_; rintro e w' ⟨rfl, rfl⟩)
                | (go_at_call 123; refine (C.out).mono ?_; rintro e w' ⟨rfl, rfl⟩))
              exact ⟨rfl, rfl, rfl⟩
          case cons =>
            have q : ¬ c = 48 := fun e => hs ⟨e, by simp⟩
            have q2 := head_ne (r0 :: r1) q
            have h9 : (r1.length : Int) + 1 + 1 ≤ 7 := by simp at h7; omega
            clear h7 h7' hs
            go_enter Tryz.func127, Tryz.ntmps127
            go_wp2_with (first
              | (go_at_call_of 65 (Value.bool true); refine (unless_yes _ _).mono ?_; rintro e w' ⟨rfl, rfl⟩)
              | (go_at_call 123; refine (C.out).mono ?_; rintro e w' ⟨rfl, rfl⟩))
            exact ⟨rfl, rfl, rfl⟩
        case true =>
          have hd := dval_le (c :: r) 7 hlen ha
          have hb : numB (c :: r) = true := by
            unfold numB
            rw [hsh, digs_yes (l := c :: r) ha]; simp; exact hd.1
          have hN : numN (c :: r) = dval (c :: r) := by
            unfold numN
            rw [if_pos hsh, digs_yes (l := c :: r) ha]
          rw [numE_yes hb, hN]
          have C := hide (cy ha)
          clear cy cn ha hb hsh hlen hd hN
          rcases r with _ | ⟨r0, r1⟩
          case nil =>
            by_cases q : c = 48
            · subst q
              go_enter Tryz.func127, Tryz.ntmps127
              go_wp2_with (first
                | (go_at_call_of 65 (Value.bool true); refine (unless_yes _ _).mono ?_; rintro e w' ⟨rfl, rfl⟩)
                | (go_at_call 123; refine (C.out).mono ?_; rintro e w' ⟨rfl, rfl⟩))
              go_ret
              exact ⟨rfl, rfl⟩
            · have q' : (c == 48) = false := by simp [q]
              have q2 := head_ne [] q
              go_enter Tryz.func127, Tryz.ntmps127
              go_wp2_with (first
                | (go_at_call_of 65 (Value.bool true); refine (unless_yes _ _).mono ?_; rintro e w' ⟨rfl, rfl⟩)
                | (go_at_call 123; refine (C.out).mono ?_; rintro e w' ⟨rfl, rfl⟩))
              go_ret
              exact ⟨rfl, rfl⟩
          case cons =>
            have q : ¬ c = 48 := fun e => hs ⟨e, by simp⟩
            have q2 := head_ne (r0 :: r1) q
            have h9 : (r1.length : Int) + 1 + 1 ≤ 7 := by simp at h7; omega
            clear h7 h7' hs
            go_enter Tryz.func127, Tryz.ntmps127
            go_wp2_with (first
              | (go_at_call_of 65 (Value.bool true); refine (unless_yes _ _).mono ?_; rintro e w' ⟨rfl, rfl⟩)
              | (go_at_call 123; refine (C.out).mono ?_; rintro e w' ⟨rfl, rfl⟩))
            go_ret
            exact ⟨rfl, rfl⟩
end Go.Proofs.YthpndgcaoeokeaaGreatDoor
