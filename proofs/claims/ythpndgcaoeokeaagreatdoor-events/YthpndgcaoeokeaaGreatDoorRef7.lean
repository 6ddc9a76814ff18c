/- The document's Length (fallowref): a walk over the text, byte by byte. -/
import Derived.Test.YthpndgcaoeokeaaGreatDoorRef6
namespace Go.Proofs.YthpndgcaoeokeaaGreatDoor
open Go.RowKit

def sizeU (u : Nat) : Int := match u with | 0 => 86400 | 1 => 3600 | 2 => 60 | _ => 1
/-- the next unit from u on that this mark names; 4: none -/
def nextU (u : Nat) (c : UInt8) : Nat :=
  if u ≤ 0 ∧ c.toNat = 68 then 0 else if u ≤ 1 ∧ c.toNat = 72 then 1 else if u ≤ 2 ∧ c.toNat = 77 then 2 else if u ≤ 3 ∧ c.toNat = 83 then 3 else 4

def lenGo : List UInt8 → List UInt8 → Nat → Bool → Int → Nat → Option Int
  | [], cur, _, _, sum, parts => if parts = 0 ∨ cur ≠ [] then none else some sum
  | c :: rest, cur, u, times, sum, parts =>
    if dig c = true then lenGo rest (cur ++ [c]) u times sum parts
    else if c.toNat = 84 then (if times = true ∨ cur ≠ [] ∨ rest = [] then none else lenGo rest [] 1 true sum parts)
    else if numB cur = false ∨ nextU u c = 4 ∨ decide (0 < nextU u c) ≠ times then none
    else lenGo rest [] (nextU u c + 1) times (sum + numN cur * sizeU (nextU u c)) (parts + 1)

/-- a length's seconds -/
def lenL : List UInt8 → Option Int
  | c :: rest => if c.toNat = 80 then lenGo rest [] 0 false 0 0 else none
  | [] => none
def lenV (o : Option Int) : Value := match o with | some n => .tuple #[.int .i64 n, .int .i64 0] | none => .tuple #[.int .i64 0, .int .i64 1]

theorem numN_bd (l : List UInt8) (h : numB l = true) : 0 ≤ numN l ∧ numN l ≤ 9999999 := by
  simp only [numB, Bool.and_eq_true, decide_eq_true_eq] at h
  have hs := h.1
  unfold numN
  rw [if_pos hs]
  simp only [numShape, Bool.and_eq_true, decide_eq_true_eq] at hs
  have := digs_bd l 7 hs.1.2
  exact ⟨h.2, by omega⟩

theorem extract_cut (s : ByteArray) (a b : Nat) : (s.extract a b).data.toList = cut s a (b - a) := by
  unfold cut
  simp [ByteArray.data_extract]

theorem drop_cons (s : ByteArray) (i : Nat) (h : i < s.size) : s.data.toList.drop i = (s[i]'h) :: s.data.toList.drop (i + 1) := by
  have e : s.data.size = s.size := rfl
  rw [List.drop_eq_getElem_cons (by rw [Array.length_toList]; omega)]
  rfl

theorem nextU_ge (u : Nat) (c : UInt8) (h : u ≤ 4) : u ≤ nextU u c ∧ nextU u c ≤ 4 := by
  unfold nextU; repeat' split
  all_goals omega
def markI (u : Nat) : Int := match u with | 0 => 68 | 1 => 72 | 2 => 77 | _ => 83
theorem nextU_step (u : Nat) (c : UInt8) (h : u < 4) (hc : ¬ (markI u = (c.toNat : Int))) : nextU (u + 1) c = nextU u c := by
  have : u = 0 ∨ u = 1 ∨ u = 2 ∨ u = 3 := by omega
  rcases this with r | r | r | r <;> subst r <;> simp [markI] at hc <;> unfold nextU <;> (repeat' split) <;> omega
theorem nextU_here (u : Nat) (c : UInt8) (h : u < 4) (hc : markI u = (c.toNat : Int)) : nextU u c = u := by
  have : u = 0 ∨ u = 1 ∨ u = 2 ∨ u = 3 := by omega
  rcases this with r | r | r | r <;> subst r <;> simp [markI] at hc <;> unfold nextU <;> (repeat' split) <;> omega
theorem nextU_four (c : UInt8) : nextU 4 c = 4 := by simp [nextU]

theorem cut_nil_iff (s : ByteArray) (f i : Nat) (h1 : f ≤ i) (h2 : i ≤ s.size) : (cut s f (i - f) = []) ↔ f = i := by
  have := cut_length s f (i - f) (by omega)
  constructor
  · intro q; rw [q] at this; simp at this; omega
  · intro q; apply List.eq_nil_of_length_eq_zero; omega
theorem drop_nil_iff (s : ByteArray) (i : Nat) : (s.data.toList.drop i = []) ↔ s.size ≤ i := by
  rw [List.drop_eq_nil_iff, Array.length_toList]; exact Iff.rfl

theorem len_end (s : ByteArray) (f i u parts : Nat) (times : Bool) (sum : Int) (h1 : f ≤ i) (h2 : i = s.size) :
    lenGo (s.data.toList.drop i) (cut s f (i - f)) u times sum parts = if parts = 0 ∨ f ≠ i then none else some sum := by
  rw [(drop_nil_iff s i).2 (by omega)]
  unfold lenGo
  simp only [ne_eq, cut_nil_iff s f i h1 (by omega)]
theorem len_dig (s : ByteArray) (f i u parts : Nat) (times : Bool) (sum : Int) (h1 : f ≤ i) (h2 : i < s.size) (h : dig s[i] = true) :
    lenGo (s.data.toList.drop i) (cut s f (i - f)) u times sum parts = lenGo (s.data.toList.drop (i + 1)) (cut s f (i + 1 - f)) u times sum parts := by
  rw [drop_cons s i h2]
  have e := cut_snoc s f (i - f) (by omega)
  have e2 : f + (i - f) = i := by omega
  rw [show i + 1 - f = i - f + 1 from by omega, e]
  simp only [e2]
  conv => lhs; unfold lenGo
  rw [if_pos h]
theorem len_T (s : ByteArray) (f i u parts : Nat) (times : Bool) (sum : Int) (h1 : f ≤ i) (h2 : i < s.size) (h : dig s[i] = false) (hT : s[i].toNat = 84) :
    lenGo (s.data.toList.drop i) (cut s f (i - f)) u times sum parts = if times = true ∨ f ≠ i ∨ i + 1 = s.size then none else lenGo (s.data.toList.drop (i + 1)) [] 1 true sum parts := by
  rw [drop_cons s i h2]
  conv => lhs; unfold lenGo
  rw [if_neg (by rw [h]; exact Bool.false_ne_true), if_pos hT]
  have e : (s.data.toList.drop (i + 1) = []) ↔ i + 1 = s.size := by rw [drop_nil_iff]; omega
  simp only [ne_eq, cut_nil_iff s f i h1 (by omega), e]
theorem len_U (s : ByteArray) (f i u parts : Nat) (times : Bool) (sum : Int) (h2 : i < s.size) (h : dig s[i] = false) (hT : ¬ s[i].toNat = 84) :
    lenGo (s.data.toList.drop i) (cut s f (i - f)) u times sum parts = if numB (cut s f (i - f)) = false ∨ nextU u s[i] = 4 ∨ decide (0 < nextU u s[i]) ≠ times then none
      else lenGo (s.data.toList.drop (i + 1)) [] (nextU u s[i] + 1) times (sum + numN (cut s f (i - f)) * sizeU (nextU u s[i])) (parts + 1) := by
  rw [drop_cons s i h2]
  conv => lhs; unfold lenGo
  rw [if_neg (by rw [h]; exact Bool.false_ne_true), if_neg hT]
theorem below_close (w : World) (o : Obj) (q : Nat) : Below w.heap.size w ((w.alloc o).drewN q) := by
  have h := (Below.refl w.heap.size w).alloc (Nat.le_refl _) o
  exact ⟨h.os, h.tape, h.output, h.size, h.block⟩
theorem below_close2 (w : World) (o : Obj) (q q2 : Nat) : Below w.heap.size w (((w.alloc o).drewN q).drewN q2) := by
  rw [World.drewN_drewN]; exact below_close w o _
theorem cut_zero (s : ByteArray) (a : Nat) : cut s a (a - a) = [] := by simp [cut]

set_option maxRecDepth 100000 in
set_option maxHeartbeats 4000000 in
theorem refLength_any (s : ByteArray) (w : World) (hs : s.size ≤ maxLen) :
    Calls Tryz.prog 110 #[.string s] w fun e w' => e = .returned (lenV (lenL s.data.toList)) ∧ Below w.heap.size w w' := by
  have hs' := hs
  unfold maxLen at hs
  have e : s.data.size = s.size := rfl
  by_cases hz : s.size = 0
  · have hv : lenL s.data.toList = none := by
      have : s.data.toList = [] := by apply List.eq_nil_of_length_eq_zero; rw [Array.length_toList]; omega
      rw [this]; rfl
    rw [hv]
    have hz' : ((s.size : Int) == 0) = true := by simp [hz]
    clear hz hv e
    go_enter Tryz.func110, Tryz.ntmps110
    go_wp2
    go_ret2
    exact ⟨rfl, Below.refl _ _⟩
  have hz' : ((s.size : Int) == 0) = false := by simp [hz]
  have z0 : 0 < s.size := by omega
  have hd := drop_cons s 0 z0
  rw [List.drop_zero] at hd
  clear hz e
  by_cases hp : ((s[0]'z0).toNat : Int) = 80
  case neg =>
    have hv : lenL s.data.toList = none := by rw [hd]; show (if _ then _ else _) = _; rw [if_neg (by omega)]
    rw [hv]
    have hp' : (((s[0]'z0).toNat : Int) != 80) = true := by rw [bne_iff_ne]; exact hp
    clear hp hv hd
    go_enter Tryz.func110, Tryz.ntmps110
    go_wp2
    go_ret2
    exact ⟨rfl, Below.refl _ _⟩
  case pos =>
    have hv : lenL s.data.toList = lenGo (s.data.toList.drop 1) [] 0 false 0 0 := by rw [hd]; show (if _ then _ else _) = _; rw [if_pos (by omega)]; simp
    rw [hv]
    have hp' : (((s[0]'z0).toNat : Int) != 80) = false := by simp [hp]
    clear hp hv hd
    generalize hG : lenGo (s.data.toList.drop 1) [] 0 false 0 0 = G
    have HG := hide hG
    clear hG
    go_enter Tryz.func110, Tryz.ntmps110
    go_wp2
    go_loopw [6, 7, 8, 9, 10, 11] (fun t6 t7 t8 t9 t10 t11 wr => ∃ (i f u parts : Nat) (times : Bool) (sum : Int) (q : Nat), 1 ≤ f ∧ f ≤ i ∧ i ≤ s.size ∧ u ≤ 4 ∧ parts ≤ u ∧ Hid (times = false → u ≤ 1) ∧ 0 ≤ sum ∧ sum ≤ parts * 864000000000 ∧
      t6 = .int .i64 sum ∧ t7 = .int .i64 parts ∧ t8 = .int .i64 u ∧ t9 = .bool times ∧ t10 = .int .i64 f ∧ t11 = .int .i64 i ∧ Hid (lenGo (s.data.toList.drop i) (cut s f (i - f)) u times sum parts = G) ∧
      wr = (w.alloc (.cells #[.int .i64 86400, .int .i64 3600, .int .i64 60, .int .i64 1] 238)).drewN q) (fun _ _ _ _ _ t11 _ => s.size - (intOf t11).toNat)
    case atStart => exact ⟨1, 1, 0, 0, false, 0, 0, by omega, by omega, by omega, by omega, by omega, (fun _ => by omega), by omega, by omega, rfl, rfl, rfl, rfl, rfl, rfl, HG.out, rfl⟩
    case round =>
      obtain ⟨i, f, u, parts, times, sum, q, f0, f1, i0, u0, p0, HT, s0, s1, rfl, rfl, rfl, rfl, rfl, rfl, HL, rfl⟩ := hrel
      by_cases hlt : i < s.size
      case neg =>
        have hi : i = s.size := by omega
        have hE := len_end s f i u parts times sum f1 hi
        rw [HL.out] at hE
        by_cases hp0 : parts = 0
        · have hG : Hid (G = none) := by rw [if_pos (.inl hp0)] at hE; exact hE
          have hp1 : ((parts : Int) == 0) = true := by simp [hp0]
          clear hE HL HG hp0 HT hi
          go_wp2
          go_ret2
          exact ⟨by rw [hG.out]; rfl, below_close w _ q⟩
        · have hp1 : ((parts : Int) == 0) = false := by simp [hp0]
          by_cases hf : f = i
          · have hG : Hid (G = some sum) := by rw [if_neg (by omega)] at hE; exact hE
            have hf1 : ((f : Int) != (s.size : Int)) = false := by simp; omega
            clear hE HL HG hp0 HT hi hf
            go_wp2
            go_ret2
            exact ⟨by rw [hG.out]; rfl, below_close w _ q⟩
          · have hG : Hid (G = none) := by rw [if_pos (.inr hf)] at hE; exact hE
            have hf1 : ((f : Int) != (s.size : Int)) = true := by rw [bne_iff_ne]; omega
            clear hE HL HG hp0 HT hi hf
            go_wp2
            go_ret2
            exact ⟨by rw [hG.out]; rfl, below_close w _ q⟩
      case pos =>
        by_cases hd : dig s[i] = true
        case pos =>
          have hd2 := (dig_iff _).1 hd
          have hE := len_dig s f i u parts times sum f1 hlt hd
          rw [HL.out] at hE
          have HE := hide hE.symm
          clear hE HL HG hd
          go_wp2
          exact ⟨⟨i + 1, f, u, parts, times, sum, q, f0, by omega, by omega, u0, p0, HT, s0, s1, rfl, rfl, rfl, rfl, rfl, by go_num, HE, rfl⟩, by simp [intOf]; omega⟩
        case neg =>
          have hd' : dig s[i] = false := by simpa using hd
          have hc : (s[i].toNat : Int) < 48 ∨ 57 < (s[i].toNat : Int) := by
            have := mt (dig_iff s[i]).2 hd
            omega
          by_cases hT : s[i].toNat = 84
          case pos =>
            have hE := len_T s f i u parts times sum f1 hlt hd' hT
            rw [HL.out] at hE
            have c1 : (48 : Int) ≤ s[i].toNat := by omega
            have c2 : ¬ (s[i].toNat : Int) ≤ 57 := by omega
            have c3 : ((s[i].toNat : Int) == 84) = true := by rw [hT]; rfl
            clear hc hd hd' hT HL HG
            cases times
            case true =>
              have hG : Hid (G = none) := by rw [if_pos (.inl rfl)] at hE; exact hE
              clear hE HT
              go_wp2
              go_ret2
              exact ⟨by rw [hG.out]; rfl, below_close w _ q⟩
            case false =>
              by_cases hf : f = i
              case neg =>
                have hG : Hid (G = none) := by rw [if_pos (.inr (.inl hf))] at hE; exact hE
                have hf1 : ((f : Int) != (i : Int)) = true := by rw [bne_iff_ne]; omega
                clear hE HT hf
                go_wp2
                go_ret2
                exact ⟨by rw [hG.out]; rfl, below_close w _ q⟩
              case pos =>
                have hf1 : ((f : Int) != (i : Int)) = false := by simp [hf]
                by_cases hl : i + 1 = s.size
                case pos =>
                  have hG : Hid (G = none) := by rw [if_pos (.inr (.inr hl))] at hE; exact hE
                  have hl1 : ((i : Int) == (s.size : Int) - 1) = true := by rw [beq_iff_eq]; omega
                  clear hE HT hf hl
                  go_wp2
                  go_ret2
                  exact ⟨by rw [hG.out]; rfl, below_close w _ q⟩
                case neg =>
                  have HE : Hid (lenGo (s.data.toList.drop (i + 1)) (cut s (i + 1) (i + 1 - (i + 1))) 1 true sum parts = G) := by
                    rw [if_neg (by rintro (q | q | q) <;> simp_all)] at hE
                    rw [cut_zero]; exact hE.symm
                  have hl1 : ((i : Int) == (s.size : Int) - 1) = false := by rw [beq_eq_false_iff_ne]; omega
                  have hu := HT.out rfl
                  clear hE HT hf hl
                  go_wp2
                  exact ⟨⟨i + 1, i + 1, 1, parts, true, sum, q, by omega, by omega, by omega, by omega, by omega, (fun h => by cases h), s0, s1, rfl, rfl, rfl, rfl, by go_num, by go_num, HE, rfl⟩, by simp [intOf]; omega⟩
          case neg =>
            have hE := len_U s f i u parts times sum hlt hd' hT
            rw [HL.out] at hE
            have c3 : ((s[i].toNat : Int) == 84) = false := by rw [beq_eq_false_iff_ne]; omega
            have hnb := numN_bd (cut s f (i - f))
            have hx := extract_cut s f i
            have hxs : (s.extract f i).size ≤ maxLen := by
              have : (s.extract f i).size ≤ s.size := by simp [ByteArray.size_extract]; omega
              omega
            clear hd hd' hT HL HG
            generalize hN : numN (cut s f (i - f)) = nn at *
            generalize hB : numB (cut s f (i - f)) = b at *
            have HX := hide hx
            have HN := hide hN
            have HB := hide hB
            have HE := hide hE
            have HM := hide hnb
            clear hx hE hnb hN hB
            rcases hc with hc | hc
            all_goals
              go_wp2_with (go_at_call 185; refine (refNumber_any _ _ hxs).mono ?_; rintro e w' ⟨rfl, rfl⟩; rw [HX.out, HN.out, HB.out])
              go_loopw [8] (fun t wr => ∃ (k q' : Nat), u ≤ k ∧ k ≤ 4 ∧ t = .int .i64 k ∧ Hid (nextU k s[i] = nextU u s[i]) ∧ wr = (w.alloc (.cells #[.int .i64 86400, .int .i64 3600, .int .i64 60, .int .i64 1] 238)).drewN q') (fun t _ => 4 - (intOf t).toNat)
              case atStart => exact ⟨u, q, by omega, u0, rfl, rfl, rfl⟩
              case round =>
                obtain ⟨k, q', k0, k1, rfl, HK, rfl⟩ := hrel
                have hk : k = 4 ∨ k = 0 ∨ k = 1 ∨ k = 2 ∨ k = 3 := by omega
                rcases hk with rfl | rfl | rfl | rfl | rfl
                · have hG : Hid (G = none) := by
                    have hn : nextU u s[i] = 4 := by rw [← HK.out]; exact nextU_four _
                    have hE := HE.out
                    rw [if_pos (.inr (.inl hn))] at hE; exact hE
                  clear HK HE HM HT
                  cases b
                  all_goals
                    go_wp2
                    go_quiet (fail)
                    go_wp2
                    go_ret2
                    exact ⟨by rw [hG.out]; rfl, below_close w _ _⟩
                · by_cases hm : ((s[i].toNat : Int)) = 68
                  case neg =>
                    have hm' : ((((⟨#[68, 72, 77, 83]⟩ : ByteArray)[0]'(by decide)).toNat : Int) != (s[i].toNat : Int)) = true := by show ((68 : Int) != (s[i].toNat : Int)) = true; rw [bne_iff_ne]; omega
                    have HK2 : Hid (nextU 1 s[i] = nextU u s[i]) := (nextU_step 0 s[i] (by omega) (by simp only [markI]; omega)).trans HK.out
                    clear HK hm
                    go_wp2
                    go_quiet (fail)
                    go_wp2
                    exact ⟨⟨1, q' + nq, by omega, by omega, rfl, HK2, rfl⟩, by simp [intOf]⟩
                  case pos =>
                    by_cases hcc : 57 < (s[i].toNat : Int)
                    case neg => exfalso; omega
                    case pos =>
                      have hm' : ((((⟨#[68, 72, 77, 83]⟩ : ByteArray)[0]'(by decide)).toNat : Int) != (s[i].toNat : Int)) = false := by rw [hm]; rfl
                      have hn : nextU u s[i] = 0 := by rw [← HK.out]; exact nextU_here 0 s[i] (by omega) (by simp only [markI]; omega)
                      have hE := HE.out
                      rw [hn] at hE
                      clear hn HK hm HE
                      cases b
                      case false =>
                        have hG : Hid (G = none) := by rw [if_pos (.inl rfl)] at hE; exact hE
                        clear hE HT HM
                        go_wp2
                        go_quiet (fail)
                        go_wp2
                        go_ret2
                        exact ⟨by rw [hG.out]; rfl, below_close w _ _⟩
                      case true =>
                        have hnn := HM.out rfl
                        cases times
                        case true =>
                          have hG : Hid (G = none) := by rw [if_pos (.inr (.inr (by decide)))] at hE; exact hE
                          clear hE HT HM
                          go_wp2
                          go_quiet (fail)
                          go_wp2
                          go_ret2
                          exact ⟨by rw [hG.out]; rfl, below_close w _ _⟩
                        case false =>
                          have HE2 : Hid (lenGo (s.data.toList.drop (i + 1)) (cut s (i + 1) (i + 1 - (i + 1))) 1 false (sum + nn * 86400) (parts + 1) = G) := by
                            rw [if_neg (by decide)] at hE
                            rw [cut_zero]; exact hE.symm
                          clear hE HT HM
                          go_wp2
                          go_quiet (fail)
                          go_wp2
                          exact ⟨⟨i + 1, i + 1, 1, parts + 1, false, sum + nn * 86400, q' + nq, by omega, by omega, by omega, by omega, by omega, (fun _ => by omega), by omega, by omega, rfl, by go_num, rfl, rfl, by go_num, by go_num, HE2, rfl⟩, by simp [intOf]; omega⟩
                · by_cases hm : ((s[i].toNat : Int)) = 72
                  case neg =>
                    have hm' : ((((⟨#[68, 72, 77, 83]⟩ : ByteArray)[1]'(by decide)).toNat : Int) != (s[i].toNat : Int)) = true := by show ((72 : Int) != (s[i].toNat : Int)) = true; rw [bne_iff_ne]; omega
                    have HK2 : Hid (nextU 2 s[i] = nextU u s[i]) := (nextU_step 1 s[i] (by omega) (by simp only [markI]; omega)).trans HK.out
                    clear HK hm
                    go_wp2
                    go_quiet (fail)
                    go_wp2
                    exact ⟨⟨2, q' + nq, by omega, by omega, rfl, HK2, rfl⟩, by simp [intOf]⟩
                  case pos =>
                    by_cases hcc : 57 < (s[i].toNat : Int)
                    case neg => exfalso; omega
                    case pos =>
                      have hm' : ((((⟨#[68, 72, 77, 83]⟩ : ByteArray)[1]'(by decide)).toNat : Int) != (s[i].toNat : Int)) = false := by rw [hm]; rfl
                      have hn : nextU u s[i] = 1 := by rw [← HK.out]; exact nextU_here 1 s[i] (by omega) (by simp only [markI]; omega)
                      have hE := HE.out
                      rw [hn] at hE
                      clear hn HK hm HE
                      cases b
                      case false =>
                        have hG : Hid (G = none) := by rw [if_pos (.inl rfl)] at hE; exact hE
                        clear hE HT HM
                        go_wp2
                        go_quiet (fail)
                        go_wp2
                        go_ret2
                        exact ⟨by rw [hG.out]; rfl, below_close w _ _⟩
                      case true =>
                        have hnn := HM.out rfl
                        cases times
                        case false =>
                          have hG : Hid (G = none) := by rw [if_pos (.inr (.inr (by decide)))] at hE; exact hE
                          clear hE HT HM
                          go_wp2
                          go_quiet (fail)
                          go_wp2
                          go_ret2
                          exact ⟨by rw [hG.out]; rfl, below_close w _ _⟩
                        case true =>
                          have HE2 : Hid (lenGo (s.data.toList.drop (i + 1)) (cut s (i + 1) (i + 1 - (i + 1))) 2 true (sum + nn * 3600) (parts + 1) = G) := by
                            rw [if_neg (by decide)] at hE
                            rw [cut_zero]; exact hE.symm
                          clear hE HT HM
                          go_wp2
                          go_quiet (fail)
                          go_wp2
                          exact ⟨⟨i + 1, i + 1, 2, parts + 1, true, sum + nn * 3600, q' + nq, by omega, by omega, by omega, by omega, by omega, (fun h => by cases h), by omega, by omega, rfl, by go_num, rfl, rfl, by go_num, by go_num, HE2, rfl⟩, by simp [intOf]; omega⟩
                · by_cases hm : ((s[i].toNat : Int)) = 77
                  case neg =>
                    have hm' : ((((⟨#[68, 72, 77, 83]⟩ : ByteArray)[2]'(by decide)).toNat : Int) != (s[i].toNat : Int)) = true := by show ((77 : Int) != (s[i].toNat : Int)) = true; rw [bne_iff_ne]; omega
                    have HK2 : Hid (nextU 3 s[i] = nextU u s[i]) := (nextU_step 2 s[i] (by omega) (by simp only [markI]; omega)).trans HK.out
                    clear HK hm
                    go_wp2
                    go_quiet (fail)
                    go_wp2
                    exact ⟨⟨3, q' + nq, by omega, by omega, rfl, HK2, rfl⟩, by simp [intOf]⟩
                  case pos =>
                    by_cases hcc : 57 < (s[i].toNat : Int)
                    case neg => exfalso; omega
                    case pos =>
                      have hm' : ((((⟨#[68, 72, 77, 83]⟩ : ByteArray)[2]'(by decide)).toNat : Int) != (s[i].toNat : Int)) = false := by rw [hm]; rfl
                      have hn : nextU u s[i] = 2 := by rw [← HK.out]; exact nextU_here 2 s[i] (by omega) (by simp only [markI]; omega)
                      have hE := HE.out
                      rw [hn] at hE
                      clear hn HK hm HE
                      cases b
                      case false =>
                        have hG : Hid (G = none) := by rw [if_pos (.inl rfl)] at hE; exact hE
                        clear hE HT HM
                        go_wp2
                        go_quiet (fail)
                        go_wp2
                        go_ret2
                        exact ⟨by rw [hG.out]; rfl, below_close w _ _⟩
                      case true =>
                        have hnn := HM.out rfl
                        cases times
                        case false =>
                          have hG : Hid (G = none) := by rw [if_pos (.inr (.inr (by decide)))] at hE; exact hE
                          clear hE HT HM
                          go_wp2
                          go_quiet (fail)
                          go_wp2
                          go_ret2
                          exact ⟨by rw [hG.out]; rfl, below_close w _ _⟩
                        case true =>
                          have HE2 : Hid (lenGo (s.data.toList.drop (i + 1)) (cut s (i + 1) (i + 1 - (i + 1))) 3 true (sum + nn * 60) (parts + 1) = G) := by
                            rw [if_neg (by decide)] at hE
                            rw [cut_zero]; exact hE.symm
                          clear hE HT HM
                          go_wp2
                          go_quiet (fail)
                          go_wp2
                          exact ⟨⟨i + 1, i + 1, 3, parts + 1, true, sum + nn * 60, q' + nq, by omega, by omega, by omega, by omega, by omega, (fun h => by cases h), by omega, by omega, rfl, by go_num, rfl, rfl, by go_num, by go_num, HE2, rfl⟩, by simp [intOf]; omega⟩
                · by_cases hm : ((s[i].toNat : Int)) = 83
                  case neg =>
                    have hm' : ((((⟨#[68, 72, 77, 83]⟩ : ByteArray)[3]'(by decide)).toNat : Int) != (s[i].toNat : Int)) = true := by show ((83 : Int) != (s[i].toNat : Int)) = true; rw [bne_iff_ne]; omega
                    have HK2 : Hid (nextU 4 s[i] = nextU u s[i]) := (nextU_step 3 s[i] (by omega) (by simp only [markI]; omega)).trans HK.out
                    clear HK hm
                    go_wp2
                    go_quiet (fail)
                    go_wp2
                    exact ⟨⟨4, q' + nq, by omega, by omega, rfl, HK2, rfl⟩, by simp [intOf]⟩
                  case pos =>
                    by_cases hcc : 57 < (s[i].toNat : Int)
                    case neg => exfalso; omega
                    case pos =>
                      have hm' : ((((⟨#[68, 72, 77, 83]⟩ : ByteArray)[3]'(by decide)).toNat : Int) != (s[i].toNat : Int)) = false := by rw [hm]; rfl
                      have hn : nextU u s[i] = 3 := by rw [← HK.out]; exact nextU_here 3 s[i] (by omega) (by simp only [markI]; omega)
                      have hE := HE.out
                      rw [hn] at hE
                      clear hn HK hm HE
                      cases b
                      case false =>
                        have hG : Hid (G = none) := by rw [if_pos (.inl rfl)] at hE; exact hE
                        clear hE HT HM
                        go_wp2
                        go_quiet (fail)
                        go_wp2
                        go_ret2
                        exact ⟨by rw [hG.out]; rfl, below_close w _ _⟩
                      case true =>
                        have hnn := HM.out rfl
                        cases times
                        case false =>
                          have hG : Hid (G = none) := by rw [if_pos (.inr (.inr (by decide)))] at hE; exact hE
                          clear hE HT HM
                          go_wp2
                          go_quiet (fail)
                          go_wp2
                          go_ret2
                          exact ⟨by rw [hG.out]; rfl, below_close w _ _⟩
                        case true =>
                          have HE2 : Hid (lenGo (s.data.toList.drop (i + 1)) (cut s (i + 1) (i + 1 - (i + 1))) 4 true (sum + nn * 1) (parts + 1) = G) := by
                            rw [if_neg (by decide)] at hE
                            rw [cut_zero]; exact hE.symm
                          clear hE HT HM
                          go_wp2
                          go_quiet (fail)
                          go_wp2
                          exact ⟨⟨i + 1, i + 1, 4, parts + 1, true, sum + nn * 1, q' + nq, by omega, by omega, by omega, by omega, by omega, (fun h => by cases h), by omega, by omega, by rw [Int.mul_one], by go_num, rfl, rfl, by go_num, by go_num, HE2, rfl⟩, by simp [intOf]; omega⟩
end Go.Proofs.YthpndgcaoeokeaaGreatDoor
