/- The program's own: do a rule's parts agree (package rules)? -/
import Derived.Test.YthpndgcaoeokeaaGreatDoorCm7
namespace Go.Proofs.YthpndgcaoeokeaaGreatDoor
open Go.RowKit Go.Sort

/-- a slice of numbers of the call's own: none, or a row -/
def IntsV (w : World) (v : Value) (zs : List Int) : Prop := (v = .slice none 0 0 ∧ zs = []) ∨ ∃ g, v = .slice (some ⟨g, 0, none⟩) zs.length zs.length ∧ RowAt w g (zs.map (Value.int .i64)) 3
def WksV (w : World) (v : Value) (zs : List (Int × Int)) : Prop := (v = .slice none 0 0 ∧ zs = []) ∨ ∃ g, v = .slice (some ⟨g, 0, none⟩) zs.length zs.length ∧ RowAt w g (flat zs) 183
theorem IntsV.form {w : World} {v : Value} {zs : List Int} (h : IntsV w v zs) : ∃ a, v = .slice a zs.length zs.length := by
  rcases h with ⟨rfl, rfl⟩ | ⟨g, rfl, _⟩ <;> exact ⟨_, rfl⟩
theorem WksV.form {w : World} {v : Value} {zs : List (Int × Int)} (h : WksV w v zs) : ∃ a, v = .slice a zs.length zs.length := by
  rcases h with ⟨rfl, rfl⟩ | ⟨g, rfl, _⟩ <;> exact ⟨_, rfl⟩
theorem IntsV.on {w w' : World} {v : Value} {zs : List Int} (h : IntsV w v zs) (hb : Below w.heap.size w w') : IntsV w' v zs :=
  h.imp id fun ⟨g, h1, h2⟩ => ⟨g, h1, h2.on hb⟩
theorem WksV.on {w w' : World} {v : Value} {zs : List (Int × Int)} (h : WksV w v zs) (hb : Below w.heap.size w w') : WksV w' v zs :=
  h.imp id fun ⟨g, h1, h2⟩ => ⟨g, h1, h2.on hb⟩
theorem flat_get0 (zs : List (Int × Int)) (k : Nat) (q : Int × Int) (h : zs[k]? = some q) : (flat zs)[k * 2]? = some (.int .i64 q.1) := by
  induction zs generalizing k with
  | nil => simp at h
  | cons a r ih =>
    cases k with
    | zero => simp at h; subst h; simp [flat]
    | succ k =>
      have := ih k (by simpa using h)
      rw [show (k + 1) * 2 = k * 2 + 2 from by omega]
      simpa [flat] using this
theorem flat_get1 (zs : List (Int × Int)) (k : Nat) (q : Int × Int) (h : zs[k]? = some q) : (flat zs)[k * 2 + 1]? = some (.int .i64 q.2) := by
  induction zs generalizing k with
  | nil => simp at h
  | cons a r ih =>
    cases k with
    | zero => simp at h; subst h; simp [flat]
    | succ k =>
      have := ih k (by simpa using h)
      rw [show (k + 1) * 2 + 1 = k * 2 + 1 + 2 from by omega]
      simpa [flat] using this
/-- has one an ordinal? -/
def hasOrd (zs : List (Int × Int)) : Bool := zs.any fun q => decide (q.1 ≠ 0)

/-- a rule as a value -/
def ruleV (fq iv ct un : Int) (m md wk pl : Value) (ws : Int) (tx : ByteArray) : Value := .agg #[.int .i64 fq, .int .i64 iv, .int .i64 ct, .int .i64 un, m, md, wk, pl, .int .i64 ws, .string tx]

set_option maxRecDepth 100000 in
set_option maxHeartbeats 2000000 in
theorem hasOrdinal_any (fq iv ct un ws : Int) (m md wk pl : Value) (tx : ByteArray) (zs : List (Int × Int)) (w : World) (hz : zs.length ≤ 20) (h : WksV w wk zs) (h1 : ∃ a n c, m = .slice a n c) (h2 : ∃ a n c, md = .slice a n c) (h3 : ∃ a n c, pl = .slice a n c) :
    Calls Tryz.prog 211 #[ruleV fq iv ct un m md wk pl ws tx] w fun E w' => E = .returned (.bool (hasOrd zs)) ∧ Below w.heap.size w w' := by
  unfold ruleV
  obtain ⟨a1, n1, c1, rfl⟩ := h1
  obtain ⟨a2, n2, c2, rfl⟩ := h2
  obtain ⟨a3, n3, c3, rfl⟩ := h3
  rcases h with ⟨rfl, rfl⟩ | ⟨g, rfl, hrow⟩
  · go_enter Tryz.func211, Tryz.ntmps211
    go_wp2
    go_loop [8] (fun i => i = .int .i64 0) (fun _ => 0)
    case atStart => rfl
    case round =>
      subst hrel
      go_wp2
      go_ret
      exact ⟨rfl, (Below.refl _ _).alloc (Nat.le_refl _) _⟩
  · have hl := hrow.lt
    go_enter Tryz.func211, Tryz.ntmps211
    go_wp2
    have hb0 : Below w.heap.size w (w.alloc (.cells #[.int .i64 fq, .int .i64 iv, .int .i64 ct, .int .i64 un, .slice a1 n1 c1, .slice a2 n2 c2, .slice (some ⟨g, 0, none⟩) zs.length zs.length, .slice a3 n3 c3, .int .i64 ws, .string tx] 76)) := (Below.refl _ _).alloc (Nat.le_refl _) _
    generalize w.alloc (.cells #[.int .i64 fq, .int .i64 iv, .int .i64 ct, .int .i64 un, .slice a1 n1 c1, .slice a2 n2 c2, .slice (some ⟨g, 0, none⟩) zs.length zs.length, .slice a3 n3 c3, .int .i64 ws, .string tx] 76) = W at *
    go_loopw [8] (fun i wr => ∃ k : Nat, k ≤ zs.length ∧ i = .int .i64 k ∧ Below w.heap.size w wr ∧ Hid (hasOrd zs = hasOrd (zs.drop k))) (fun i _ => zs.length - (intOf i).toNat)
    case atStart => exact ⟨0, Nat.zero_le _, rfl, hb0, hide (by simp)⟩
    case round =>
      obtain ⟨k, hk, rfl, hnx, HT⟩ := hrel
      by_cases hlt : k < zs.length
      case neg =>
        have hkl : k = zs.length := by omega
        subst hkl
        have HE : Hid (hasOrd zs = false) := hide (by rw [HT.out, List.drop_length]; rfl)
        clear HT
        go_wp2
        go_ret
        exact ⟨by rw [HE.out]; rfl, hnx⟩
      case pos =>
        obtain ⟨q, hq⟩ : ∃ q, zs[k]? = some q := ⟨_, List.getElem?_eq_getElem hlt⟩
        have hr := hrow.on hnx
        have d0 := hr.cell (flat_get0 zs k q hq)
        have d1 := hr.cell (flat_get1 zs k q hq)
        have hd : zs.drop k = q :: zs.drop (k + 1) := by
          obtain ⟨hk', he⟩ := List.getElem?_eq_some_iff.1 hq
          rw [List.drop_eq_getElem_cons hk', he]
        have hB := hnx.size
        by_cases hz0 : q.1 = 0
        · have HE : Hid (hasOrd zs = hasOrd (zs.drop (k + 1))) := hide (by rw [HT.out, hd]; unfold hasOrd; rw [List.any_cons]; simp [hz0])
          have g1 : (q.1 != 0) = false := by simp [hz0]
          clear HT hd hz0 hq
          go_wp2
          go_roundw
          case rel => exact ⟨k + 1, by omega, by go_num, hnx.alloc hB _, HE⟩
          case measure => simp [intOf]; omega
        · have HE : Hid (hasOrd zs = true) := hide (by rw [HT.out, hd]; unfold hasOrd; rw [List.any_cons]; simp [hz0])
          have g1 : (q.1 != 0) = true := by simpa using hz0
          clear HT hd hz0 hq
          go_wp2
          go_ret
          exact ⟨by rw [HE.out]; rfl, hnx.alloc hB _⟩

/-- do they agree? -/
def agreeP (fq : Int) (nm nd nw np : Nat) (ord : Bool) : Bool :=
  let ordinals := (decide (fq = 2) || decide (fq = 3)) && decide (nd = 0)
  if !ordinals && ord then false else if decide (fq = 1) && decide (0 < nd) then false else decide (0 < nm) || decide (0 < nd) || decide (0 < nw) || decide (np = 0)

theorem box_on {w w1 : World} {cs : Array Value} {t : TypeId} (hb : Below (w.alloc (.cells cs t)).heap.size (w.alloc (.cells cs t)) w1) (i : Nat) (v : Value) (h : cs[i]? = some v) : w1.cell? ⟨w.heap.size, i, none⟩ = some v := by
  rw [hb.cell (p := ⟨w.heap.size, i, none⟩) (by simp)]
  simp [h]

set_option maxRecDepth 100000 in
set_option maxHeartbeats 1000000 in
theorem agree0 (iv ct un ws : Int) (m md pl wa : Option Addr) (nm nd np nw cm cd cp cw : Nat) (tx : ByteArray) (ord : Bool) (w : World) (ho : ord = true)
    (co : ∀ W, Below w.heap.size w W → Calls Tryz.prog 211 #[.agg #[.int .i64 0, .int .i64 iv, .int .i64 ct, .int .i64 un, .slice m nm cm, .slice md nd cd, .slice wa nw cw, .slice pl np cp, .int .i64 ws, .string tx]] W fun E w' => E = .returned (.bool ord) ∧ Below W.heap.size W w') :
    Calls Tryz.prog 152 #[.agg #[.int .i64 0, .int .i64 iv, .int .i64 ct, .int .i64 un, .slice m nm cm, .slice md nd cd, .slice wa nw cw, .slice pl np cp, .int .i64 ws, .string tx]] w fun E w' => E = .returned (.bool false) ∧ Below w.heap.size w w' := by
  have CO := hide co
  clear co
  subst ho
  have hb0 : Below w.heap.size w (w.alloc (.cells #[.int .i64 0, .int .i64 iv, .int .i64 ct, .int .i64 un, .slice m nm cm, .slice md nd cd, .slice wa nw cw, .slice pl np cp, .int .i64 ws, .string tx] 76)) := (Below.refl _ _).alloc (Nat.le_refl _) _
  go_enter Tryz.func152, Tryz.ntmps152
  go_wp2_with (go_at_call 211; refine (CO.out _ hb0).mono ?_; rintro e w1 ⟨rfl, hb1⟩; have q0 := box_on hb1 0 _ rfl; have q4 := box_on hb1 4 _ rfl; have q5 := box_on hb1 5 _ rfl; have q6 := box_on hb1 6 _ rfl; have q7 := box_on hb1 7 _ rfl)
  go_ret
  exact ⟨rfl, hb0.trans (hb1.mono hb0.size)⟩

set_option maxRecDepth 100000 in
set_option maxHeartbeats 1000000 in
theorem agree1 (iv ct un ws : Int) (m md pl wa : Option Addr) (nm nd np nw cm cd cp cw : Nat) (tx : ByteArray) (ord : Bool) (w : World) (hnd : nd = 0) (hnm : 0 < nm) (ho : ord = false)
    (co : ∀ W, Below w.heap.size w W → Calls Tryz.prog 211 #[.agg #[.int .i64 0, .int .i64 iv, .int .i64 ct, .int .i64 un, .slice m nm cm, .slice md nd cd, .slice wa nw cw, .slice pl np cp, .int .i64 ws, .string tx]] W fun E w' => E = .returned (.bool ord) ∧ Below W.heap.size W w') :
    Calls Tryz.prog 152 #[.agg #[.int .i64 0, .int .i64 iv, .int .i64 ct, .int .i64 un, .slice m nm cm, .slice md nd cd, .slice wa nw cw, .slice pl np cp, .int .i64 ws, .string tx]] w fun E w' => E = .returned (.bool true) ∧ Below w.heap.size w w' := by
  have CO := hide co
  clear co
  subst hnd
  have m2 : (0 : Int) < nm := by omega
  subst ho
  have hb0 : Below w.heap.size w (w.alloc (.cells #[.int .i64 0, .int .i64 iv, .int .i64 ct, .int .i64 un, .slice m nm cm, .slice md 0 cd, .slice wa nw cw, .slice pl np cp, .int .i64 ws, .string tx] 76)) := (Below.refl _ _).alloc (Nat.le_refl _) _
  go_enter Tryz.func152, Tryz.ntmps152
  go_wp2_with (go_at_call 211; refine (CO.out _ hb0).mono ?_; rintro e w1 ⟨rfl, hb1⟩; have q0 := box_on hb1 0 _ rfl; have q4 := box_on hb1 4 _ rfl; have q5 := box_on hb1 5 _ rfl; have q6 := box_on hb1 6 _ rfl; have q7 := box_on hb1 7 _ rfl)
  go_ret
  exact ⟨rfl, hb0.trans (hb1.mono hb0.size)⟩

set_option maxRecDepth 100000 in
set_option maxHeartbeats 1000000 in
theorem agree2 (iv ct un ws : Int) (m md pl wa : Option Addr) (nm nd np nw cm cd cp cw : Nat) (tx : ByteArray) (ord : Bool) (w : World) (hnd : nd = 0) (hnm : nm = 0) (hnw : 0 < nw) (ho : ord = false)
    (co : ∀ W, Below w.heap.size w W → Calls Tryz.prog 211 #[.agg #[.int .i64 0, .int .i64 iv, .int .i64 ct, .int .i64 un, .slice m nm cm, .slice md nd cd, .slice wa nw cw, .slice pl np cp, .int .i64 ws, .string tx]] W fun E w' => E = .returned (.bool ord) ∧ Below W.heap.size W w') :
    Calls Tryz.prog 152 #[.agg #[.int .i64 0, .int .i64 iv, .int .i64 ct, .int .i64 un, .slice m nm cm, .slice md nd cd, .slice wa nw cw, .slice pl np cp, .int .i64 ws, .string tx]] w fun E w' => E = .returned (.bool true) ∧ Below w.heap.size w w' := by
  have CO := hide co
  clear co
  subst hnd
  subst hnm
  have w2 : (0 : Int) < nw := by omega
  subst ho
  have hb0 : Below w.heap.size w (w.alloc (.cells #[.int .i64 0, .int .i64 iv, .int .i64 ct, .int .i64 un, .slice m 0 cm, .slice md 0 cd, .slice wa nw cw, .slice pl np cp, .int .i64 ws, .string tx] 76)) := (Below.refl _ _).alloc (Nat.le_refl _) _
  go_enter Tryz.func152, Tryz.ntmps152
  go_wp2_with (go_at_call 211; refine (CO.out _ hb0).mono ?_; rintro e w1 ⟨rfl, hb1⟩; have q0 := box_on hb1 0 _ rfl; have q4 := box_on hb1 4 _ rfl; have q5 := box_on hb1 5 _ rfl; have q6 := box_on hb1 6 _ rfl; have q7 := box_on hb1 7 _ rfl)
  go_ret
  exact ⟨rfl, hb0.trans (hb1.mono hb0.size)⟩

set_option maxRecDepth 100000 in
set_option maxHeartbeats 1000000 in
theorem agree3 (iv ct un ws : Int) (m md pl wa : Option Addr) (nm nd np nw cm cd cp cw : Nat) (tx : ByteArray) (ord : Bool) (w : World) (hnd : nd = 0) (hnm : nm = 0) (hnw : nw = 0) (hnp : 0 < np) (ho : ord = false)
    (co : ∀ W, Below w.heap.size w W → Calls Tryz.prog 211 #[.agg #[.int .i64 0, .int .i64 iv, .int .i64 ct, .int .i64 un, .slice m nm cm, .slice md nd cd, .slice wa nw cw, .slice pl np cp, .int .i64 ws, .string tx]] W fun E w' => E = .returned (.bool ord) ∧ Below W.heap.size W w') :
    Calls Tryz.prog 152 #[.agg #[.int .i64 0, .int .i64 iv, .int .i64 ct, .int .i64 un, .slice m nm cm, .slice md nd cd, .slice wa nw cw, .slice pl np cp, .int .i64 ws, .string tx]] w fun E w' => E = .returned (.bool false) ∧ Below w.heap.size w w' := by
  have CO := hide co
  clear co
  subst hnd
  subst hnm
  subst hnw
  have p1 : ((np : Int) == 0) = false := by simp; omega
  subst ho
  have hb0 : Below w.heap.size w (w.alloc (.cells #[.int .i64 0, .int .i64 iv, .int .i64 ct, .int .i64 un, .slice m 0 cm, .slice md 0 cd, .slice wa 0 cw, .slice pl np cp, .int .i64 ws, .string tx] 76)) := (Below.refl _ _).alloc (Nat.le_refl _) _
  go_enter Tryz.func152, Tryz.ntmps152
  go_wp2_with (go_at_call 211; refine (CO.out _ hb0).mono ?_; rintro e w1 ⟨rfl, hb1⟩; have q0 := box_on hb1 0 _ rfl; have q4 := box_on hb1 4 _ rfl; have q5 := box_on hb1 5 _ rfl; have q6 := box_on hb1 6 _ rfl; have q7 := box_on hb1 7 _ rfl)
  go_ret
  exact ⟨rfl, hb0.trans (hb1.mono hb0.size)⟩

set_option maxRecDepth 100000 in
set_option maxHeartbeats 1000000 in
theorem agree4 (iv ct un ws : Int) (m md pl wa : Option Addr) (nm nd np nw cm cd cp cw : Nat) (tx : ByteArray) (ord : Bool) (w : World) (hnd : nd = 0) (hnm : nm = 0) (hnw : nw = 0) (hnp : np = 0) (ho : ord = false)
    (co : ∀ W, Below w.heap.size w W → Calls Tryz.prog 211 #[.agg #[.int .i64 0, .int .i64 iv, .int .i64 ct, .int .i64 un, .slice m nm cm, .slice md nd cd, .slice wa nw cw, .slice pl np cp, .int .i64 ws, .string tx]] W fun E w' => E = .returned (.bool ord) ∧ Below W.heap.size W w') :
    Calls Tryz.prog 152 #[.agg #[.int .i64 0, .int .i64 iv, .int .i64 ct, .int .i64 un, .slice m nm cm, .slice md nd cd, .slice wa nw cw, .slice pl np cp, .int .i64 ws, .string tx]] w fun E w' => E = .returned (.bool true) ∧ Below w.heap.size w w' := by
  have CO := hide co
  clear co
  subst hnd
  subst hnm
  subst hnw
  subst hnp
  subst ho
  have hb0 : Below w.heap.size w (w.alloc (.cells #[.int .i64 0, .int .i64 iv, .int .i64 ct, .int .i64 un, .slice m 0 cm, .slice md 0 cd, .slice wa 0 cw, .slice pl 0 cp, .int .i64 ws, .string tx] 76)) := (Below.refl _ _).alloc (Nat.le_refl _) _
  go_enter Tryz.func152, Tryz.ntmps152
  go_wp2_with (go_at_call 211; refine (CO.out _ hb0).mono ?_; rintro e w1 ⟨rfl, hb1⟩; have q0 := box_on hb1 0 _ rfl; have q4 := box_on hb1 4 _ rfl; have q5 := box_on hb1 5 _ rfl; have q6 := box_on hb1 6 _ rfl; have q7 := box_on hb1 7 _ rfl)
  go_ret
  exact ⟨rfl, hb0.trans (hb1.mono hb0.size)⟩

set_option maxRecDepth 100000 in
set_option maxHeartbeats 1000000 in
theorem agree5 (iv ct un ws : Int) (m md pl wa : Option Addr) (nm nd np nw cm cd cp cw : Nat) (tx : ByteArray) (ord : Bool) (w : World) (hnd : 0 < nd) (hnm : 0 < nm) (ho : ord = false)
    (co : ∀ W, Below w.heap.size w W → Calls Tryz.prog 211 #[.agg #[.int .i64 0, .int .i64 iv, .int .i64 ct, .int .i64 un, .slice m nm cm, .slice md nd cd, .slice wa nw cw, .slice pl np cp, .int .i64 ws, .string tx]] W fun E w' => E = .returned (.bool ord) ∧ Below W.heap.size W w') :
    Calls Tryz.prog 152 #[.agg #[.int .i64 0, .int .i64 iv, .int .i64 ct, .int .i64 un, .slice m nm cm, .slice md nd cd, .slice wa nw cw, .slice pl np cp, .int .i64 ws, .string tx]] w fun E w' => E = .returned (.bool true) ∧ Below w.heap.size w w' := by
  have CO := hide co
  clear co
  have d1 : ((nd : Int) == 0) = false := by simp; omega
  have d2 : (0 : Int) < nd := by omega
  have m2 : (0 : Int) < nm := by omega
  subst ho
  have hb0 : Below w.heap.size w (w.alloc (.cells #[.int .i64 0, .int .i64 iv, .int .i64 ct, .int .i64 un, .slice m nm cm, .slice md nd cd, .slice wa nw cw, .slice pl np cp, .int .i64 ws, .string tx] 76)) := (Below.refl _ _).alloc (Nat.le_refl _) _
  go_enter Tryz.func152, Tryz.ntmps152
  go_wp2_with (go_at_call 211; refine (CO.out _ hb0).mono ?_; rintro e w1 ⟨rfl, hb1⟩; have q0 := box_on hb1 0 _ rfl; have q4 := box_on hb1 4 _ rfl; have q5 := box_on hb1 5 _ rfl; have q6 := box_on hb1 6 _ rfl; have q7 := box_on hb1 7 _ rfl)
  go_ret
  exact ⟨rfl, hb0.trans (hb1.mono hb0.size)⟩

set_option maxRecDepth 100000 in
set_option maxHeartbeats 1000000 in
theorem agree6 (iv ct un ws : Int) (m md pl wa : Option Addr) (nm nd np nw cm cd cp cw : Nat) (tx : ByteArray) (ord : Bool) (w : World) (hnd : 0 < nd) (hnm : nm = 0) (ho : ord = false)
    (co : ∀ W, Below w.heap.size w W → Calls Tryz.prog 211 #[.agg #[.int .i64 0, .int .i64 iv, .int .i64 ct, .int .i64 un, .slice m nm cm, .slice md nd cd, .slice wa nw cw, .slice pl np cp, .int .i64 ws, .string tx]] W fun E w' => E = .returned (.bool ord) ∧ Below W.heap.size W w') :
    Calls Tryz.prog 152 #[.agg #[.int .i64 0, .int .i64 iv, .int .i64 ct, .int .i64 un, .slice m nm cm, .slice md nd cd, .slice wa nw cw, .slice pl np cp, .int .i64 ws, .string tx]] w fun E w' => E = .returned (.bool true) ∧ Below w.heap.size w w' := by
  have CO := hide co
  clear co
  have d1 : ((nd : Int) == 0) = false := by simp; omega
  have d2 : (0 : Int) < nd := by omega
  subst hnm
  subst ho
  have hb0 : Below w.heap.size w (w.alloc (.cells #[.int .i64 0, .int .i64 iv, .int .i64 ct, .int .i64 un, .slice m 0 cm, .slice md nd cd, .slice wa nw cw, .slice pl np cp, .int .i64 ws, .string tx] 76)) := (Below.refl _ _).alloc (Nat.le_refl _) _
  go_enter Tryz.func152, Tryz.ntmps152
  go_wp2_with (go_at_call 211; refine (CO.out _ hb0).mono ?_; rintro e w1 ⟨rfl, hb1⟩; have q0 := box_on hb1 0 _ rfl; have q4 := box_on hb1 4 _ rfl; have q5 := box_on hb1 5 _ rfl; have q6 := box_on hb1 6 _ rfl; have q7 := box_on hb1 7 _ rfl)
  go_ret
  exact ⟨rfl, hb0.trans (hb1.mono hb0.size)⟩

set_option maxRecDepth 100000 in
set_option maxHeartbeats 1000000 in
theorem agree7 (iv ct un ws : Int) (m md pl wa : Option Addr) (nm nd np nw cm cd cp cw : Nat) (tx : ByteArray) (ord : Bool) (w : World) (ho : ord = true)
    (co : ∀ W, Below w.heap.size w W → Calls Tryz.prog 211 #[.agg #[.int .i64 1, .int .i64 iv, .int .i64 ct, .int .i64 un, .slice m nm cm, .slice md nd cd, .slice wa nw cw, .slice pl np cp, .int .i64 ws, .string tx]] W fun E w' => E = .returned (.bool ord) ∧ Below W.heap.size W w') :
    Calls Tryz.prog 152 #[.agg #[.int .i64 1, .int .i64 iv, .int .i64 ct, .int .i64 un, .slice m nm cm, .slice md nd cd, .slice wa nw cw, .slice pl np cp, .int .i64 ws, .string tx]] w fun E w' => E = .returned (.bool false) ∧ Below w.heap.size w w' := by
  have CO := hide co
  clear co
  subst ho
  have hb0 : Below w.heap.size w (w.alloc (.cells #[.int .i64 1, .int .i64 iv, .int .i64 ct, .int .i64 un, .slice m nm cm, .slice md nd cd, .slice wa nw cw, .slice pl np cp, .int .i64 ws, .string tx] 76)) := (Below.refl _ _).alloc (Nat.le_refl _) _
  go_enter Tryz.func152, Tryz.ntmps152
  go_wp2_with (go_at_call 211; refine (CO.out _ hb0).mono ?_; rintro e w1 ⟨rfl, hb1⟩; have q0 := box_on hb1 0 _ rfl; have q4 := box_on hb1 4 _ rfl; have q5 := box_on hb1 5 _ rfl; have q6 := box_on hb1 6 _ rfl; have q7 := box_on hb1 7 _ rfl)
  go_ret
  exact ⟨rfl, hb0.trans (hb1.mono hb0.size)⟩

set_option maxRecDepth 100000 in
set_option maxHeartbeats 1000000 in
theorem agree8 (iv ct un ws : Int) (m md pl wa : Option Addr) (nm nd np nw cm cd cp cw : Nat) (tx : ByteArray) (ord : Bool) (w : World) (hnd : nd = 0) (hnm : 0 < nm) (ho : ord = false)
    (co : ∀ W, Below w.heap.size w W → Calls Tryz.prog 211 #[.agg #[.int .i64 1, .int .i64 iv, .int .i64 ct, .int .i64 un, .slice m nm cm, .slice md nd cd, .slice wa nw cw, .slice pl np cp, .int .i64 ws, .string tx]] W fun E w' => E = .returned (.bool ord) ∧ Below W.heap.size W w') :
    Calls Tryz.prog 152 #[.agg #[.int .i64 1, .int .i64 iv, .int .i64 ct, .int .i64 un, .slice m nm cm, .slice md nd cd, .slice wa nw cw, .slice pl np cp, .int .i64 ws, .string tx]] w fun E w' => E = .returned (.bool true) ∧ Below w.heap.size w w' := by
  have CO := hide co
  clear co
  subst hnd
  have m2 : (0 : Int) < nm := by omega
  subst ho
  have hb0 : Below w.heap.size w (w.alloc (.cells #[.int .i64 1, .int .i64 iv, .int .i64 ct, .int .i64 un, .slice m nm cm, .slice md 0 cd, .slice wa nw cw, .slice pl np cp, .int .i64 ws, .string tx] 76)) := (Below.refl _ _).alloc (Nat.le_refl _) _
  go_enter Tryz.func152, Tryz.ntmps152
  go_wp2_with (go_at_call 211; refine (CO.out _ hb0).mono ?_; rintro e w1 ⟨rfl, hb1⟩; have q0 := box_on hb1 0 _ rfl; have q4 := box_on hb1 4 _ rfl; have q5 := box_on hb1 5 _ rfl; have q6 := box_on hb1 6 _ rfl; have q7 := box_on hb1 7 _ rfl)
  go_ret
  exact ⟨rfl, hb0.trans (hb1.mono hb0.size)⟩

set_option maxRecDepth 100000 in
set_option maxHeartbeats 1000000 in
theorem agree9 (iv ct un ws : Int) (m md pl wa : Option Addr) (nm nd np nw cm cd cp cw : Nat) (tx : ByteArray) (ord : Bool) (w : World) (hnd : nd = 0) (hnm : nm = 0) (hnw : 0 < nw) (ho : ord = false)
    (co : ∀ W, Below w.heap.size w W → Calls Tryz.prog 211 #[.agg #[.int .i64 1, .int .i64 iv, .int .i64 ct, .int .i64 un, .slice m nm cm, .slice md nd cd, .slice wa nw cw, .slice pl np cp, .int .i64 ws, .string tx]] W fun E w' => E = .returned (.bool ord) ∧ Below W.heap.size W w') :
    Calls Tryz.prog 152 #[.agg #[.int .i64 1, .int .i64 iv, .int .i64 ct, .int .i64 un, .slice m nm cm, .slice md nd cd, .slice wa nw cw, .slice pl np cp, .int .i64 ws, .string tx]] w fun E w' => E = .returned (.bool true) ∧ Below w.heap.size w w' := by
  have CO := hide co
  clear co
  subst hnd
  subst hnm
  have w2 : (0 : Int) < nw := by omega
  subst ho
  have hb0 : Below w.heap.size w (w.alloc (.cells #[.int .i64 1, .int .i64 iv, .int .i64 ct, .int .i64 un, .slice m 0 cm, .slice md 0 cd, .slice wa nw cw, .slice pl np cp, .int .i64 ws, .string tx] 76)) := (Below.refl _ _).alloc (Nat.le_refl _) _
  go_enter Tryz.func152, Tryz.ntmps152
  go_wp2_with (go_at_call 211; refine (CO.out _ hb0).mono ?_; rintro e w1 ⟨rfl, hb1⟩; have q0 := box_on hb1 0 _ rfl; have q4 := box_on hb1 4 _ rfl; have q5 := box_on hb1 5 _ rfl; have q6 := box_on hb1 6 _ rfl; have q7 := box_on hb1 7 _ rfl)
  go_ret
  exact ⟨rfl, hb0.trans (hb1.mono hb0.size)⟩

set_option maxRecDepth 100000 in
set_option maxHeartbeats 1000000 in
theorem agree10 (iv ct un ws : Int) (m md pl wa : Option Addr) (nm nd np nw cm cd cp cw : Nat) (tx : ByteArray) (ord : Bool) (w : World) (hnd : nd = 0) (hnm : nm = 0) (hnw : nw = 0) (hnp : 0 < np) (ho : ord = false)
    (co : ∀ W, Below w.heap.size w W → Calls Tryz.prog 211 #[.agg #[.int .i64 1, .int .i64 iv, .int .i64 ct, .int .i64 un, .slice m nm cm, .slice md nd cd, .slice wa nw cw, .slice pl np cp, .int .i64 ws, .string tx]] W fun E w' => E = .returned (.bool ord) ∧ Below W.heap.size W w') :
    Calls Tryz.prog 152 #[.agg #[.int .i64 1, .int .i64 iv, .int .i64 ct, .int .i64 un, .slice m nm cm, .slice md nd cd, .slice wa nw cw, .slice pl np cp, .int .i64 ws, .string tx]] w fun E w' => E = .returned (.bool false) ∧ Below w.heap.size w w' := by
  have CO := hide co
  clear co
  subst hnd
  subst hnm
  subst hnw
  have p1 : ((np : Int) == 0) = false := by simp; omega
  subst ho
  have hb0 : Below w.heap.size w (w.alloc (.cells #[.int .i64 1, .int .i64 iv, .int .i64 ct, .int .i64 un, .slice m 0 cm, .slice md 0 cd, .slice wa 0 cw, .slice pl np cp, .int .i64 ws, .string tx] 76)) := (Below.refl _ _).alloc (Nat.le_refl _) _
  go_enter Tryz.func152, Tryz.ntmps152
  go_wp2_with (go_at_call 211; refine (CO.out _ hb0).mono ?_; rintro e w1 ⟨rfl, hb1⟩; have q0 := box_on hb1 0 _ rfl; have q4 := box_on hb1 4 _ rfl; have q5 := box_on hb1 5 _ rfl; have q6 := box_on hb1 6 _ rfl; have q7 := box_on hb1 7 _ rfl)
  go_ret
  exact ⟨rfl, hb0.trans (hb1.mono hb0.size)⟩

set_option maxRecDepth 100000 in
set_option maxHeartbeats 1000000 in
theorem agree11 (iv ct un ws : Int) (m md pl wa : Option Addr) (nm nd np nw cm cd cp cw : Nat) (tx : ByteArray) (ord : Bool) (w : World) (hnd : nd = 0) (hnm : nm = 0) (hnw : nw = 0) (hnp : np = 0) (ho : ord = false)
    (co : ∀ W, Below w.heap.size w W → Calls Tryz.prog 211 #[.agg #[.int .i64 1, .int .i64 iv, .int .i64 ct, .int .i64 un, .slice m nm cm, .slice md nd cd, .slice wa nw cw, .slice pl np cp, .int .i64 ws, .string tx]] W fun E w' => E = .returned (.bool ord) ∧ Below W.heap.size W w') :
    Calls Tryz.prog 152 #[.agg #[.int .i64 1, .int .i64 iv, .int .i64 ct, .int .i64 un, .slice m nm cm, .slice md nd cd, .slice wa nw cw, .slice pl np cp, .int .i64 ws, .string tx]] w fun E w' => E = .returned (.bool true) ∧ Below w.heap.size w w' := by
  have CO := hide co
  clear co
  subst hnd
  subst hnm
  subst hnw
  subst hnp
  subst ho
  have hb0 : Below w.heap.size w (w.alloc (.cells #[.int .i64 1, .int .i64 iv, .int .i64 ct, .int .i64 un, .slice m 0 cm, .slice md 0 cd, .slice wa 0 cw, .slice pl 0 cp, .int .i64 ws, .string tx] 76)) := (Below.refl _ _).alloc (Nat.le_refl _) _
  go_enter Tryz.func152, Tryz.ntmps152
  go_wp2_with (go_at_call 211; refine (CO.out _ hb0).mono ?_; rintro e w1 ⟨rfl, hb1⟩; have q0 := box_on hb1 0 _ rfl; have q4 := box_on hb1 4 _ rfl; have q5 := box_on hb1 5 _ rfl; have q6 := box_on hb1 6 _ rfl; have q7 := box_on hb1 7 _ rfl)
  go_ret
  exact ⟨rfl, hb0.trans (hb1.mono hb0.size)⟩

set_option maxRecDepth 100000 in
set_option maxHeartbeats 1000000 in
theorem agree12 (iv ct un ws : Int) (m md pl wa : Option Addr) (nm nd np nw cm cd cp cw : Nat) (tx : ByteArray) (ord : Bool) (w : World) (hnd : 0 < nd) (ho : ord = false)
    (co : ∀ W, Below w.heap.size w W → Calls Tryz.prog 211 #[.agg #[.int .i64 1, .int .i64 iv, .int .i64 ct, .int .i64 un, .slice m nm cm, .slice md nd cd, .slice wa nw cw, .slice pl np cp, .int .i64 ws, .string tx]] W fun E w' => E = .returned (.bool ord) ∧ Below W.heap.size W w') :
    Calls Tryz.prog 152 #[.agg #[.int .i64 1, .int .i64 iv, .int .i64 ct, .int .i64 un, .slice m nm cm, .slice md nd cd, .slice wa nw cw, .slice pl np cp, .int .i64 ws, .string tx]] w fun E w' => E = .returned (.bool false) ∧ Below w.heap.size w w' := by
  have CO := hide co
  clear co
  have d1 : ((nd : Int) == 0) = false := by simp; omega
  have d2 : (0 : Int) < nd := by omega
  subst ho
  have hb0 : Below w.heap.size w (w.alloc (.cells #[.int .i64 1, .int .i64 iv, .int .i64 ct, .int .i64 un, .slice m nm cm, .slice md nd cd, .slice wa nw cw, .slice pl np cp, .int .i64 ws, .string tx] 76)) := (Below.refl _ _).alloc (Nat.le_refl _) _
  go_enter Tryz.func152, Tryz.ntmps152
  go_wp2_with (go_at_call 211; refine (CO.out _ hb0).mono ?_; rintro e w1 ⟨rfl, hb1⟩; have q0 := box_on hb1 0 _ rfl; have q4 := box_on hb1 4 _ rfl; have q5 := box_on hb1 5 _ rfl; have q6 := box_on hb1 6 _ rfl; have q7 := box_on hb1 7 _ rfl)
  go_ret
  exact ⟨rfl, hb0.trans (hb1.mono hb0.size)⟩

set_option maxRecDepth 100000 in
set_option maxHeartbeats 1000000 in
theorem agree13 (iv ct un ws : Int) (m md pl wa : Option Addr) (nm nd np nw cm cd cp cw : Nat) (tx : ByteArray) (ord : Bool) (w : World) (hnd : nd = 0) (hnm : 0 < nm)
    (co : ∀ W, Below w.heap.size w W → Calls Tryz.prog 211 #[.agg #[.int .i64 2, .int .i64 iv, .int .i64 ct, .int .i64 un, .slice m nm cm, .slice md nd cd, .slice wa nw cw, .slice pl np cp, .int .i64 ws, .string tx]] W fun E w' => E = .returned (.bool ord) ∧ Below W.heap.size W w') :
    Calls Tryz.prog 152 #[.agg #[.int .i64 2, .int .i64 iv, .int .i64 ct, .int .i64 un, .slice m nm cm, .slice md nd cd, .slice wa nw cw, .slice pl np cp, .int .i64 ws, .string tx]] w fun E w' => E = .returned (.bool true) ∧ Below w.heap.size w w' := by
  have CO := hide co
  clear co
  subst hnd
  have m2 : (0 : Int) < nm := by omega
  have hb0 : Below w.heap.size w (w.alloc (.cells #[.int .i64 2, .int .i64 iv, .int .i64 ct, .int .i64 un, .slice m nm cm, .slice md 0 cd, .slice wa nw cw, .slice pl np cp, .int .i64 ws, .string tx] 76)) := (Below.refl _ _).alloc (Nat.le_refl _) _
  go_enter Tryz.func152, Tryz.ntmps152
  go_wp2_with (go_at_call 211; refine (CO.out _ hb0).mono ?_; rintro e w1 ⟨rfl, hb1⟩; have q0 := box_on hb1 0 _ rfl; have q4 := box_on hb1 4 _ rfl; have q5 := box_on hb1 5 _ rfl; have q6 := box_on hb1 6 _ rfl; have q7 := box_on hb1 7 _ rfl)
  go_ret
  exact ⟨rfl, hb0⟩

set_option maxRecDepth 100000 in
set_option maxHeartbeats 1000000 in
theorem agree14 (iv ct un ws : Int) (m md pl wa : Option Addr) (nm nd np nw cm cd cp cw : Nat) (tx : ByteArray) (ord : Bool) (w : World) (hnd : nd = 0) (hnm : nm = 0) (hnw : 0 < nw)
    (co : ∀ W, Below w.heap.size w W → Calls Tryz.prog 211 #[.agg #[.int .i64 2, .int .i64 iv, .int .i64 ct, .int .i64 un, .slice m nm cm, .slice md nd cd, .slice wa nw cw, .slice pl np cp, .int .i64 ws, .string tx]] W fun E w' => E = .returned (.bool ord) ∧ Below W.heap.size W w') :
    Calls Tryz.prog 152 #[.agg #[.int .i64 2, .int .i64 iv, .int .i64 ct, .int .i64 un, .slice m nm cm, .slice md nd cd, .slice wa nw cw, .slice pl np cp, .int .i64 ws, .string tx]] w fun E w' => E = .returned (.bool true) ∧ Below w.heap.size w w' := by
  have CO := hide co
  clear co
  subst hnd
  subst hnm
  have w2 : (0 : Int) < nw := by omega
  have hb0 : Below w.heap.size w (w.alloc (.cells #[.int .i64 2, .int .i64 iv, .int .i64 ct, .int .i64 un, .slice m 0 cm, .slice md 0 cd, .slice wa nw cw, .slice pl np cp, .int .i64 ws, .string tx] 76)) := (Below.refl _ _).alloc (Nat.le_refl _) _
  go_enter Tryz.func152, Tryz.ntmps152
  go_wp2_with (go_at_call 211; refine (CO.out _ hb0).mono ?_; rintro e w1 ⟨rfl, hb1⟩; have q0 := box_on hb1 0 _ rfl; have q4 := box_on hb1 4 _ rfl; have q5 := box_on hb1 5 _ rfl; have q6 := box_on hb1 6 _ rfl; have q7 := box_on hb1 7 _ rfl)
  go_ret
  exact ⟨rfl, hb0⟩

set_option maxRecDepth 100000 in
set_option maxHeartbeats 1000000 in
theorem agree15 (iv ct un ws : Int) (m md pl wa : Option Addr) (nm nd np nw cm cd cp cw : Nat) (tx : ByteArray) (ord : Bool) (w : World) (hnd : nd = 0) (hnm : nm = 0) (hnw : nw = 0) (hnp : 0 < np)
    (co : ∀ W, Below w.heap.size w W → Calls Tryz.prog 211 #[.agg #[.int .i64 2, .int .i64 iv, .int .i64 ct, .int .i64 un, .slice m nm cm, .slice md nd cd, .slice wa nw cw, .slice pl np cp, .int .i64 ws, .string tx]] W fun E w' => E = .returned (.bool ord) ∧ Below W.heap.size W w') :
    Calls Tryz.prog 152 #[.agg #[.int .i64 2, .int .i64 iv, .int .i64 ct, .int .i64 un, .slice m nm cm, .slice md nd cd, .slice wa nw cw, .slice pl np cp, .int .i64 ws, .string tx]] w fun E w' => E = .returned (.bool false) ∧ Below w.heap.size w w' := by
  have CO := hide co
  clear co
  subst hnd
  subst hnm
  subst hnw
  have p1 : ((np : Int) == 0) = false := by simp; omega
  have hb0 : Below w.heap.size w (w.alloc (.cells #[.int .i64 2, .int .i64 iv, .int .i64 ct, .int .i64 un, .slice m 0 cm, .slice md 0 cd, .slice wa 0 cw, .slice pl np cp, .int .i64 ws, .string tx] 76)) := (Below.refl _ _).alloc (Nat.le_refl _) _
  go_enter Tryz.func152, Tryz.ntmps152
  go_wp2_with (go_at_call 211; refine (CO.out _ hb0).mono ?_; rintro e w1 ⟨rfl, hb1⟩; have q0 := box_on hb1 0 _ rfl; have q4 := box_on hb1 4 _ rfl; have q5 := box_on hb1 5 _ rfl; have q6 := box_on hb1 6 _ rfl; have q7 := box_on hb1 7 _ rfl)
  go_ret
  exact ⟨rfl, hb0⟩

set_option maxRecDepth 100000 in
set_option maxHeartbeats 1000000 in
theorem agree16 (iv ct un ws : Int) (m md pl wa : Option Addr) (nm nd np nw cm cd cp cw : Nat) (tx : ByteArray) (ord : Bool) (w : World) (hnd : nd = 0) (hnm : nm = 0) (hnw : nw = 0) (hnp : np = 0)
    (co : ∀ W, Below w.heap.size w W → Calls Tryz.prog 211 #[.agg #[.int .i64 2, .int .i64 iv, .int .i64 ct, .int .i64 un, .slice m nm cm, .slice md nd cd, .slice wa nw cw, .slice pl np cp, .int .i64 ws, .string tx]] W fun E w' => E = .returned (.bool ord) ∧ Below W.heap.size W w') :
    Calls Tryz.prog 152 #[.agg #[.int .i64 2, .int .i64 iv, .int .i64 ct, .int .i64 un, .slice m nm cm, .slice md nd cd, .slice wa nw cw, .slice pl np cp, .int .i64 ws, .string tx]] w fun E w' => E = .returned (.bool true) ∧ Below w.heap.size w w' := by
  have CO := hide co
  clear co
  subst hnd
  subst hnm
  subst hnw
  subst hnp
  have hb0 : Below w.heap.size w (w.alloc (.cells #[.int .i64 2, .int .i64 iv, .int .i64 ct, .int .i64 un, .slice m 0 cm, .slice md 0 cd, .slice wa 0 cw, .slice pl 0 cp, .int .i64 ws, .string tx] 76)) := (Below.refl _ _).alloc (Nat.le_refl _) _
  go_enter Tryz.func152, Tryz.ntmps152
  go_wp2_with (go_at_call 211; refine (CO.out _ hb0).mono ?_; rintro e w1 ⟨rfl, hb1⟩; have q0 := box_on hb1 0 _ rfl; have q4 := box_on hb1 4 _ rfl; have q5 := box_on hb1 5 _ rfl; have q6 := box_on hb1 6 _ rfl; have q7 := box_on hb1 7 _ rfl)
  go_ret
  exact ⟨rfl, hb0⟩

set_option maxRecDepth 100000 in
set_option maxHeartbeats 1000000 in
theorem agree17 (iv ct un ws : Int) (m md pl wa : Option Addr) (nm nd np nw cm cd cp cw : Nat) (tx : ByteArray) (ord : Bool) (w : World) (hnd : 0 < nd) (ho : ord = true)
    (co : ∀ W, Below w.heap.size w W → Calls Tryz.prog 211 #[.agg #[.int .i64 2, .int .i64 iv, .int .i64 ct, .int .i64 un, .slice m nm cm, .slice md nd cd, .slice wa nw cw, .slice pl np cp, .int .i64 ws, .string tx]] W fun E w' => E = .returned (.bool ord) ∧ Below W.heap.size W w') :
    Calls Tryz.prog 152 #[.agg #[.int .i64 2, .int .i64 iv, .int .i64 ct, .int .i64 un, .slice m nm cm, .slice md nd cd, .slice wa nw cw, .slice pl np cp, .int .i64 ws, .string tx]] w fun E w' => E = .returned (.bool false) ∧ Below w.heap.size w w' := by
  have CO := hide co
  clear co
  have d1 : ((nd : Int) == 0) = false := by simp; omega
  have d2 : (0 : Int) < nd := by omega
  subst ho
  have hb0 : Below w.heap.size w (w.alloc (.cells #[.int .i64 2, .int .i64 iv, .int .i64 ct, .int .i64 un, .slice m nm cm, .slice md nd cd, .slice wa nw cw, .slice pl np cp, .int .i64 ws, .string tx] 76)) := (Below.refl _ _).alloc (Nat.le_refl _) _
  go_enter Tryz.func152, Tryz.ntmps152
  go_wp2_with (go_at_call 211; refine (CO.out _ hb0).mono ?_; rintro e w1 ⟨rfl, hb1⟩; have q0 := box_on hb1 0 _ rfl; have q4 := box_on hb1 4 _ rfl; have q5 := box_on hb1 5 _ rfl; have q6 := box_on hb1 6 _ rfl; have q7 := box_on hb1 7 _ rfl)
  go_ret
  exact ⟨rfl, hb0.trans (hb1.mono hb0.size)⟩

set_option maxRecDepth 100000 in
set_option maxHeartbeats 1000000 in
theorem agree18 (iv ct un ws : Int) (m md pl wa : Option Addr) (nm nd np nw cm cd cp cw : Nat) (tx : ByteArray) (ord : Bool) (w : World) (hnd : 0 < nd) (hnm : 0 < nm) (ho : ord = false)
    (co : ∀ W, Below w.heap.size w W → Calls Tryz.prog 211 #[.agg #[.int .i64 2, .int .i64 iv, .int .i64 ct, .int .i64 un, .slice m nm cm, .slice md nd cd, .slice wa nw cw, .slice pl np cp, .int .i64 ws, .string tx]] W fun E w' => E = .returned (.bool ord) ∧ Below W.heap.size W w') :
    Calls Tryz.prog 152 #[.agg #[.int .i64 2, .int .i64 iv, .int .i64 ct, .int .i64 un, .slice m nm cm, .slice md nd cd, .slice wa nw cw, .slice pl np cp, .int .i64 ws, .string tx]] w fun E w' => E = .returned (.bool true) ∧ Below w.heap.size w w' := by
  have CO := hide co
  clear co
  have d1 : ((nd : Int) == 0) = false := by simp; omega
  have d2 : (0 : Int) < nd := by omega
  have m2 : (0 : Int) < nm := by omega
  subst ho
  have hb0 : Below w.heap.size w (w.alloc (.cells #[.int .i64 2, .int .i64 iv, .int .i64 ct, .int .i64 un, .slice m nm cm, .slice md nd cd, .slice wa nw cw, .slice pl np cp, .int .i64 ws, .string tx] 76)) := (Below.refl _ _).alloc (Nat.le_refl _) _
  go_enter Tryz.func152, Tryz.ntmps152
  go_wp2_with (go_at_call 211; refine (CO.out _ hb0).mono ?_; rintro e w1 ⟨rfl, hb1⟩; have q0 := box_on hb1 0 _ rfl; have q4 := box_on hb1 4 _ rfl; have q5 := box_on hb1 5 _ rfl; have q6 := box_on hb1 6 _ rfl; have q7 := box_on hb1 7 _ rfl)
  go_ret
  exact ⟨rfl, hb0.trans (hb1.mono hb0.size)⟩

set_option maxRecDepth 100000 in
set_option maxHeartbeats 1000000 in
theorem agree19 (iv ct un ws : Int) (m md pl wa : Option Addr) (nm nd np nw cm cd cp cw : Nat) (tx : ByteArray) (ord : Bool) (w : World) (hnd : 0 < nd) (hnm : nm = 0) (ho : ord = false)
    (co : ∀ W, Below w.heap.size w W → Calls Tryz.prog 211 #[.agg #[.int .i64 2, .int .i64 iv, .int .i64 ct, .int .i64 un, .slice m nm cm, .slice md nd cd, .slice wa nw cw, .slice pl np cp, .int .i64 ws, .string tx]] W fun E w' => E = .returned (.bool ord) ∧ Below W.heap.size W w') :
    Calls Tryz.prog 152 #[.agg #[.int .i64 2, .int .i64 iv, .int .i64 ct, .int .i64 un, .slice m nm cm, .slice md nd cd, .slice wa nw cw, .slice pl np cp, .int .i64 ws, .string tx]] w fun E w' => E = .returned (.bool true) ∧ Below w.heap.size w w' := by
  have CO := hide co
  clear co
  have d1 : ((nd : Int) == 0) = false := by simp; omega
  have d2 : (0 : Int) < nd := by omega
  subst hnm
  subst ho
  have hb0 : Below w.heap.size w (w.alloc (.cells #[.int .i64 2, .int .i64 iv, .int .i64 ct, .int .i64 un, .slice m 0 cm, .slice md nd cd, .slice wa nw cw, .slice pl np cp, .int .i64 ws, .string tx] 76)) := (Below.refl _ _).alloc (Nat.le_refl _) _
  go_enter Tryz.func152, Tryz.ntmps152
  go_wp2_with (go_at_call 211; refine (CO.out _ hb0).mono ?_; rintro e w1 ⟨rfl, hb1⟩; have q0 := box_on hb1 0 _ rfl; have q4 := box_on hb1 4 _ rfl; have q5 := box_on hb1 5 _ rfl; have q6 := box_on hb1 6 _ rfl; have q7 := box_on hb1 7 _ rfl)
  go_ret
  exact ⟨rfl, hb0.trans (hb1.mono hb0.size)⟩

set_option maxRecDepth 100000 in
set_option maxHeartbeats 1000000 in
theorem agree20 (iv ct un ws : Int) (m md pl wa : Option Addr) (nm nd np nw cm cd cp cw : Nat) (tx : ByteArray) (ord : Bool) (w : World) (hnd : nd = 0) (hnm : 0 < nm)
    (co : ∀ W, Below w.heap.size w W → Calls Tryz.prog 211 #[.agg #[.int .i64 3, .int .i64 iv, .int .i64 ct, .int .i64 un, .slice m nm cm, .slice md nd cd, .slice wa nw cw, .slice pl np cp, .int .i64 ws, .string tx]] W fun E w' => E = .returned (.bool ord) ∧ Below W.heap.size W w') :
    Calls Tryz.prog 152 #[.agg #[.int .i64 3, .int .i64 iv, .int .i64 ct, .int .i64 un, .slice m nm cm, .slice md nd cd, .slice wa nw cw, .slice pl np cp, .int .i64 ws, .string tx]] w fun E w' => E = .returned (.bool true) ∧ Below w.heap.size w w' := by
  have CO := hide co
  clear co
  subst hnd
  have m2 : (0 : Int) < nm := by omega
  have hb0 : Below w.heap.size w (w.alloc (.cells #[.int .i64 3, .int .i64 iv, .int .i64 ct, .int .i64 un, .slice m nm cm, .slice md 0 cd, .slice wa nw cw, .slice pl np cp, .int .i64 ws, .string tx] 76)) := (Below.refl _ _).alloc (Nat.le_refl _) _
  go_enter Tryz.func152, Tryz.ntmps152
  go_wp2_with (go_at_call 211; refine (CO.out _ hb0).mono ?_; rintro e w1 ⟨rfl, hb1⟩; have q0 := box_on hb1 0 _ rfl; have q4 := box_on hb1 4 _ rfl; have q5 := box_on hb1 5 _ rfl; have q6 := box_on hb1 6 _ rfl; have q7 := box_on hb1 7 _ rfl)
  go_ret
  exact ⟨rfl, hb0⟩

set_option maxRecDepth 100000 in
set_option maxHeartbeats 1000000 in
theorem agree21 (iv ct un ws : Int) (m md pl wa : Option Addr) (nm nd np nw cm cd cp cw : Nat) (tx : ByteArray) (ord : Bool) (w : World) (hnd : nd = 0) (hnm : nm = 0) (hnw : 0 < nw)
    (co : ∀ W, Below w.heap.size w W → Calls Tryz.prog 211 #[.agg #[.int .i64 3, .int .i64 iv, .int .i64 ct, .int .i64 un, .slice m nm cm, .slice md nd cd, .slice wa nw cw, .slice pl np cp, .int .i64 ws, .string tx]] W fun E w' => E = .returned (.bool ord) ∧ Below W.heap.size W w') :
    Calls Tryz.prog 152 #[.agg #[.int .i64 3, .int .i64 iv, .int .i64 ct, .int .i64 un, .slice m nm cm, .slice md nd cd, .slice wa nw cw, .slice pl np cp, .int .i64 ws, .string tx]] w fun E w' => E = .returned (.bool true) ∧ Below w.heap.size w w' := by
  have CO := hide co
  clear co
  subst hnd
  subst hnm
  have w2 : (0 : Int) < nw := by omega
  have hb0 : Below w.heap.size w (w.alloc (.cells #[.int .i64 3, .int .i64 iv, .int .i64 ct, .int .i64 un, .slice m 0 cm, .slice md 0 cd, .slice wa nw cw, .slice pl np cp, .int .i64 ws, .string tx] 76)) := (Below.refl _ _).alloc (Nat.le_refl _) _
  go_enter Tryz.func152, Tryz.ntmps152
  go_wp2_with (go_at_call 211; refine (CO.out _ hb0).mono ?_; rintro e w1 ⟨rfl, hb1⟩; have q0 := box_on hb1 0 _ rfl; have q4 := box_on hb1 4 _ rfl; have q5 := box_on hb1 5 _ rfl; have q6 := box_on hb1 6 _ rfl; have q7 := box_on hb1 7 _ rfl)
  go_ret
  exact ⟨rfl, hb0⟩

set_option maxRecDepth 100000 in
set_option maxHeartbeats 1000000 in
theorem agree22 (iv ct un ws : Int) (m md pl wa : Option Addr) (nm nd np nw cm cd cp cw : Nat) (tx : ByteArray) (ord : Bool) (w : World) (hnd : nd = 0) (hnm : nm = 0) (hnw : nw = 0) (hnp : 0 < np)
    (co : ∀ W, Below w.heap.size w W → Calls Tryz.prog 211 #[.agg #[.int .i64 3, .int .i64 iv, .int .i64 ct, .int .i64 un, .slice m nm cm, .slice md nd cd, .slice wa nw cw, .slice pl np cp, .int .i64 ws, .string tx]] W fun E w' => E = .returned (.bool ord) ∧ Below W.heap.size W w') :
    Calls Tryz.prog 152 #[.agg #[.int .i64 3, .int .i64 iv, .int .i64 ct, .int .i64 un, .slice m nm cm, .slice md nd cd, .slice wa nw cw, .slice pl np cp, .int .i64 ws, .string tx]] w fun E w' => E = .returned (.bool false) ∧ Below w.heap.size w w' := by
  have CO := hide co
  clear co
  subst hnd
  subst hnm
  subst hnw
  have p1 : ((np : Int) == 0) = false := by simp; omega
  have hb0 : Below w.heap.size w (w.alloc (.cells #[.int .i64 3, .int .i64 iv, .int .i64 ct, .int .i64 un, .slice m 0 cm, .slice md 0 cd, .slice wa 0 cw, .slice pl np cp, .int .i64 ws, .string tx] 76)) := (Below.refl _ _).alloc (Nat.le_refl _) _
  go_enter Tryz.func152, Tryz.ntmps152
  go_wp2_with (go_at_call 211; refine (CO.out _ hb0).mono ?_; rintro e w1 ⟨rfl, hb1⟩; have q0 := box_on hb1 0 _ rfl; have q4 := box_on hb1 4 _ rfl; have q5 := box_on hb1 5 _ rfl; have q6 := box_on hb1 6 _ rfl; have q7 := box_on hb1 7 _ rfl)
  go_ret
  exact ⟨rfl, hb0⟩

set_option maxRecDepth 100000 in
set_option maxHeartbeats 1000000 in
theorem agree23 (iv ct un ws : Int) (m md pl wa : Option Addr) (nm nd np nw cm cd cp cw : Nat) (tx : ByteArray) (ord : Bool) (w : World) (hnd : nd = 0) (hnm : nm = 0) (hnw : nw = 0) (hnp : np = 0)
    (co : ∀ W, Below w.heap.size w W → Calls Tryz.prog 211 #[.agg #[.int .i64 3, .int .i64 iv, .int .i64 ct, .int .i64 un, .slice m nm cm, .slice md nd cd, .slice wa nw cw, .slice pl np cp, .int .i64 ws, .string tx]] W fun E w' => E = .returned (.bool ord) ∧ Below W.heap.size W w') :
    Calls Tryz.prog 152 #[.agg #[.int .i64 3, .int .i64 iv, .int .i64 ct, .int .i64 un, .slice m nm cm, .slice md nd cd, .slice wa nw cw, .slice pl np cp, .int .i64 ws, .string tx]] w fun E w' => E = .returned (.bool true) ∧ Below w.heap.size w w' := by
  have CO := hide co
  clear co
  subst hnd
  subst hnm
  subst hnw
  subst hnp
  have hb0 : Below w.heap.size w (w.alloc (.cells #[.int .i64 3, .int .i64 iv, .int .i64 ct, .int .i64 un, .slice m 0 cm, .slice md 0 cd, .slice wa 0 cw, .slice pl 0 cp, .int .i64 ws, .string tx] 76)) := (Below.refl _ _).alloc (Nat.le_refl _) _
  go_enter Tryz.func152, Tryz.ntmps152
  go_wp2_with (go_at_call 211; refine (CO.out _ hb0).mono ?_; rintro e w1 ⟨rfl, hb1⟩; have q0 := box_on hb1 0 _ rfl; have q4 := box_on hb1 4 _ rfl; have q5 := box_on hb1 5 _ rfl; have q6 := box_on hb1 6 _ rfl; have q7 := box_on hb1 7 _ rfl)
  go_ret
  exact ⟨rfl, hb0⟩

set_option maxRecDepth 100000 in
set_option maxHeartbeats 1000000 in
theorem agree24 (iv ct un ws : Int) (m md pl wa : Option Addr) (nm nd np nw cm cd cp cw : Nat) (tx : ByteArray) (ord : Bool) (w : World) (hnd : 0 < nd) (ho : ord = true)
    (co : ∀ W, Below w.heap.size w W → Calls Tryz.prog 211 #[.agg #[.int .i64 3, .int .i64 iv, .int .i64 ct, .int .i64 un, .slice m nm cm, .slice md nd cd, .slice wa nw cw, .slice pl np cp, .int .i64 ws, .string tx]] W fun E w' => E = .returned (.bool ord) ∧ Below W.heap.size W w') :
    Calls Tryz.prog 152 #[.agg #[.int .i64 3, .int .i64 iv, .int .i64 ct, .int .i64 un, .slice m nm cm, .slice md nd cd, .slice wa nw cw, .slice pl np cp, .int .i64 ws, .string tx]] w fun E w' => E = .returned (.bool false) ∧ Below w.heap.size w w' := by
  have CO := hide co
  clear co
  have d1 : ((nd : Int) == 0) = false := by simp; omega
  have d2 : (0 : Int) < nd := by omega
  subst ho
  have hb0 : Below w.heap.size w (w.alloc (.cells #[.int .i64 3, .int .i64 iv, .int .i64 ct, .int .i64 un, .slice m nm cm, .slice md nd cd, .slice wa nw cw, .slice pl np cp, .int .i64 ws, .string tx] 76)) := (Below.refl _ _).alloc (Nat.le_refl _) _
  go_enter Tryz.func152, Tryz.ntmps152
  go_wp2_with (go_at_call 211; refine (CO.out _ hb0).mono ?_; rintro e w1 ⟨rfl, hb1⟩; have q0 := box_on hb1 0 _ rfl; have q4 := box_on hb1 4 _ rfl; have q5 := box_on hb1 5 _ rfl; have q6 := box_on hb1 6 _ rfl; have q7 := box_on hb1 7 _ rfl)
  go_ret
  exact ⟨rfl, hb0.trans (hb1.mono hb0.size)⟩

set_option maxRecDepth 100000 in
set_option maxHeartbeats 1000000 in
theorem agree25 (iv ct un ws : Int) (m md pl wa : Option Addr) (nm nd np nw cm cd cp cw : Nat) (tx : ByteArray) (ord : Bool) (w : World) (hnd : 0 < nd) (hnm : 0 < nm) (ho : ord = false)
    (co : ∀ W, Below w.heap.size w W → Calls Tryz.prog 211 #[.agg #[.int .i64 3, .int .i64 iv, .int .i64 ct, .int .i64 un, .slice m nm cm, .slice md nd cd, .slice wa nw cw, .slice pl np cp, .int .i64 ws, .string tx]] W fun E w' => E = .returned (.bool ord) ∧ Below W.heap.size W w') :
    Calls Tryz.prog 152 #[.agg #[.int .i64 3, .int .i64 iv, .int .i64 ct, .int .i64 un, .slice m nm cm, .slice md nd cd, .slice wa nw cw, .slice pl np cp, .int .i64 ws, .string tx]] w fun E w' => E = .returned (.bool true) ∧ Below w.heap.size w w' := by
  have CO := hide co
  clear co
  have d1 : ((nd : Int) == 0) = false := by simp; omega
  have d2 : (0 : Int) < nd := by omega
  have m2 : (0 : Int) < nm := by omega
  subst ho
  have hb0 : Below w.heap.size w (w.alloc (.cells #[.int .i64 3, .int .i64 iv, .int .i64 ct, .int .i64 un, .slice m nm cm, .slice md nd cd, .slice wa nw cw, .slice pl np cp, .int .i64 ws, .string tx] 76)) := (Below.refl _ _).alloc (Nat.le_refl _) _
  go_enter Tryz.func152, Tryz.ntmps152
  go_wp2_with (go_at_call 211; refine (CO.out _ hb0).mono ?_; rintro e w1 ⟨rfl, hb1⟩; have q0 := box_on hb1 0 _ rfl; have q4 := box_on hb1 4 _ rfl; have q5 := box_on hb1 5 _ rfl; have q6 := box_on hb1 6 _ rfl; have q7 := box_on hb1 7 _ rfl)
  go_ret
  exact ⟨rfl, hb0.trans (hb1.mono hb0.size)⟩

set_option maxRecDepth 100000 in
set_option maxHeartbeats 1000000 in
theorem agree26 (iv ct un ws : Int) (m md pl wa : Option Addr) (nm nd np nw cm cd cp cw : Nat) (tx : ByteArray) (ord : Bool) (w : World) (hnd : 0 < nd) (hnm : nm = 0) (ho : ord = false)
    (co : ∀ W, Below w.heap.size w W → Calls Tryz.prog 211 #[.agg #[.int .i64 3, .int .i64 iv, .int .i64 ct, .int .i64 un, .slice m nm cm, .slice md nd cd, .slice wa nw cw, .slice pl np cp, .int .i64 ws, .string tx]] W fun E w' => E = .returned (.bool ord) ∧ Below W.heap.size W w') :
    Calls Tryz.prog 152 #[.agg #[.int .i64 3, .int .i64 iv, .int .i64 ct, .int .i64 un, .slice m nm cm, .slice md nd cd, .slice wa nw cw, .slice pl np cp, .int .i64 ws, .string tx]] w fun E w' => E = .returned (.bool true) ∧ Below w.heap.size w w' := by
  have CO := hide co
  clear co
  have d1 : ((nd : Int) == 0) = false := by simp; omega
  have d2 : (0 : Int) < nd := by omega
  subst hnm
  subst ho
  have hb0 : Below w.heap.size w (w.alloc (.cells #[.int .i64 3, .int .i64 iv, .int .i64 ct, .int .i64 un, .slice m 0 cm, .slice md nd cd, .slice wa nw cw, .slice pl np cp, .int .i64 ws, .string tx] 76)) := (Below.refl _ _).alloc (Nat.le_refl _) _
  go_enter Tryz.func152, Tryz.ntmps152
  go_wp2_with (go_at_call 211; refine (CO.out _ hb0).mono ?_; rintro e w1 ⟨rfl, hb1⟩; have q0 := box_on hb1 0 _ rfl; have q4 := box_on hb1 4 _ rfl; have q5 := box_on hb1 5 _ rfl; have q6 := box_on hb1 6 _ rfl; have q7 := box_on hb1 7 _ rfl)
  go_ret
  exact ⟨rfl, hb0.trans (hb1.mono hb0.size)⟩

theorem partsAgree_any (fq iv ct un ws : Int) (m md pl : Option Addr) (nm nd np cm cd cp : Nat) (wk : Value) (tx : ByteArray) (zs : List (Int × Int)) (w : World) (hf0 : 0 ≤ fq) (hf3 : fq ≤ 3) (hz : zs.length ≤ 20) (h : WksV w wk zs) :
    Calls Tryz.prog 152 #[ruleV fq iv ct un (.slice m nm cm) (.slice md nd cd) wk (.slice pl np cp) ws tx] w fun E w' => E = .returned (.bool (agreeP fq nm nd zs.length np (hasOrd zs))) ∧ Below w.heap.size w w' := by
  obtain ⟨wa, hwa⟩ := h.form
  have co := fun W (hb : Below w.heap.size w W) => hasOrdinal_any fq iv ct un ws (.slice m nm cm) (.slice md nd cd) wk (.slice pl np cp) tx zs W hz (h.on hb) ⟨_, _, _, rfl⟩ ⟨_, _, _, rfl⟩ ⟨_, _, _, rfl⟩
  rw [hwa] at co ⊢
  clear h hwa
  unfold ruleV at co ⊢
  generalize hasOrd zs = ord at co ⊢
  generalize zs.length = nw at co ⊢
  have hfq : fq = 0 ∨ fq = 1 ∨ fq = 2 ∨ fq = 3 := by omega
  have cord : ord = true ∨ ord = false := by cases ord <;> simp
  have cnd := Nat.eq_zero_or_pos nd
  have cnm := Nat.eq_zero_or_pos nm
  have cnw := Nat.eq_zero_or_pos nw
  have cnp := Nat.eq_zero_or_pos np
  rcases hfq with rfl | rfl | rfl | rfl
  · rcases cord with ho | ho
    · rw [show agreeP 0 nm nd nw np ord = false from by simp [ho, agreeP] <;> omega]; exact agree0 iv ct un ws m md pl wa nm nd np nw cm cd cp _ tx ord w ho co
    · rcases cnd with hnd | hnd
      · rcases cnm with hnm | hnm
        · rcases cnw with hnw | hnw
          · rcases cnp with hnp | hnp
            · rw [show agreeP 0 nm nd nw np ord = true from by simp [hnd, hnm, hnw, hnp, ho, agreeP] <;> omega]; exact agree4 iv ct un ws m md pl wa nm nd np nw cm cd cp _ tx ord w hnd hnm hnw hnp ho co
            · rw [show agreeP 0 nm nd nw np ord = false from by simp [hnd, hnm, hnw, ho, agreeP] <;> omega]; exact agree3 iv ct un ws m md pl wa nm nd np nw cm cd cp _ tx ord w hnd hnm hnw hnp ho co
          · rw [show agreeP 0 nm nd nw np ord = true from by simp [hnd, hnm, hnw, ho, agreeP] <;> omega]; exact agree2 iv ct un ws m md pl wa nm nd np nw cm cd cp _ tx ord w hnd hnm hnw ho co
        · rw [show agreeP 0 nm nd nw np ord = true from by simp [hnd, hnm, ho, agreeP] <;> omega]; exact agree1 iv ct un ws m md pl wa nm nd np nw cm cd cp _ tx ord w hnd hnm ho co
      · rcases cnm with hnm | hnm
        · rw [show agreeP 0 nm nd nw np ord = true from by simp [hnd, hnm, ho, agreeP] <;> omega]; exact agree6 iv ct un ws m md pl wa nm nd np nw cm cd cp _ tx ord w hnd hnm ho co
        · rw [show agreeP 0 nm nd nw np ord = true from by simp [hnd, hnm, ho, agreeP] <;> omega]; exact agree5 iv ct un ws m md pl wa nm nd np nw cm cd cp _ tx ord w hnd hnm ho co
  · rcases cord with ho | ho
    · rw [show agreeP 1 nm nd nw np ord = false from by simp [ho, agreeP] <;> omega]; exact agree7 iv ct un ws m md pl wa nm nd np nw cm cd cp _ tx ord w ho co
    · rcases cnd with hnd | hnd
      · rcases cnm with hnm | hnm
        · rcases cnw with hnw | hnw
          · rcases cnp with hnp | hnp
            · rw [show agreeP 1 nm nd nw np ord = true from by simp [hnd, hnm, hnw, hnp, ho, agreeP] <;> omega]; exact agree11 iv ct un ws m md pl wa nm nd np nw cm cd cp _ tx ord w hnd hnm hnw hnp ho co
            · rw [show agreeP 1 nm nd nw np ord = false from by simp [hnd, hnm, hnw, ho, agreeP] <;> omega]; exact agree10 iv ct un ws m md pl wa nm nd np nw cm cd cp _ tx ord w hnd hnm hnw hnp ho co
          · rw [show agreeP 1 nm nd nw np ord = true from by simp [hnd, hnm, hnw, ho, agreeP] <;> omega]; exact agree9 iv ct un ws m md pl wa nm nd np nw cm cd cp _ tx ord w hnd hnm hnw ho co
        · rw [show agreeP 1 nm nd nw np ord = true from by simp [hnd, hnm, ho, agreeP] <;> omega]; exact agree8 iv ct un ws m md pl wa nm nd np nw cm cd cp _ tx ord w hnd hnm ho co
      · rw [show agreeP 1 nm nd nw np ord = false from by simp [hnd, ho, agreeP] <;> omega]; exact agree12 iv ct un ws m md pl wa nm nd np nw cm cd cp _ tx ord w hnd ho co
  · rcases cnd with hnd | hnd
    · rcases cnm with hnm | hnm
      · rcases cnw with hnw | hnw
        · rcases cnp with hnp | hnp
          · rw [show agreeP 2 nm nd nw np ord = true from by simp [hnd, hnm, hnw, hnp, agreeP] <;> omega]; exact agree16 iv ct un ws m md pl wa nm nd np nw cm cd cp _ tx ord w hnd hnm hnw hnp co
          · rw [show agreeP 2 nm nd nw np ord = false from by simp [hnd, hnm, hnw, agreeP] <;> omega]; exact agree15 iv ct un ws m md pl wa nm nd np nw cm cd cp _ tx ord w hnd hnm hnw hnp co
        · rw [show agreeP 2 nm nd nw np ord = true from by simp [hnd, hnm, hnw, agreeP] <;> omega]; exact agree14 iv ct un ws m md pl wa nm nd np nw cm cd cp _ tx ord w hnd hnm hnw co
      · rw [show agreeP 2 nm nd nw np ord = true from by simp [hnd, hnm, agreeP] <;> omega]; exact agree13 iv ct un ws m md pl wa nm nd np nw cm cd cp _ tx ord w hnd hnm co
    · rcases cord with ho | ho
      · rw [show agreeP 2 nm nd nw np ord = false from by simp [hnd, ho, agreeP] <;> omega]; exact agree17 iv ct un ws m md pl wa nm nd np nw cm cd cp _ tx ord w hnd ho co
      · rcases cnm with hnm | hnm
        · rw [show agreeP 2 nm nd nw np ord = true from by simp [hnd, hnm, ho, agreeP] <;> omega]; exact agree19 iv ct un ws m md pl wa nm nd np nw cm cd cp _ tx ord w hnd hnm ho co
        · rw [show agreeP 2 nm nd nw np ord = true from by simp [hnd, hnm, ho, agreeP] <;> omega]; exact agree18 iv ct un ws m md pl wa nm nd np nw cm cd cp _ tx ord w hnd hnm ho co
  · rcases cnd with hnd | hnd
    · rcases cnm with hnm | hnm
      · rcases cnw with hnw | hnw
        · rcases cnp with hnp | hnp
          · rw [show agreeP 3 nm nd nw np ord = true from by simp [hnd, hnm, hnw, hnp, agreeP] <;> omega]; exact agree23 iv ct un ws m md pl wa nm nd np nw cm cd cp _ tx ord w hnd hnm hnw hnp co
          · rw [show agreeP 3 nm nd nw np ord = false from by simp [hnd, hnm, hnw, agreeP] <;> omega]; exact agree22 iv ct un ws m md pl wa nm nd np nw cm cd cp _ tx ord w hnd hnm hnw hnp co
        · rw [show agreeP 3 nm nd nw np ord = true from by simp [hnd, hnm, hnw, agreeP] <;> omega]; exact agree21 iv ct un ws m md pl wa nm nd np nw cm cd cp _ tx ord w hnd hnm hnw co
      · rw [show agreeP 3 nm nd nw np ord = true from by simp [hnd, hnm, agreeP] <;> omega]; exact agree20 iv ct un ws m md pl wa nm nd np nw cm cd cp _ tx ord w hnd hnm co
    · rcases cord with ho | ho
      · rw [show agreeP 3 nm nd nw np ord = false from by simp [hnd, ho, agreeP] <;> omega]; exact agree24 iv ct un ws m md pl wa nm nd np nw cm cd cp _ tx ord w hnd ho co
      · rcases cnm with hnm | hnm
        · rw [show agreeP 3 nm nd nw np ord = true from by simp [hnd, hnm, ho, agreeP] <;> omega]; exact agree26 iv ct un ws m md pl wa nm nd np nw cm cd cp _ tx ord w hnd hnm ho co
        · rw [show agreeP 3 nm nd nw np ord = true from by simp [hnd, hnm, ho, agreeP] <;> omega]; exact agree25 iv ct un ws m md pl wa nm nd np nw cm cd cp _ tx ord w hnd hnm ho co
end Go.Proofs.YthpndgcaoeokeaaGreatDoor
