/- The program's own: the text of an event ((events.Event).Text). Written by gen41.py. What the program's reading of an event answers, by the document's: and what is printed. -/
import Derived.Test.YthpndgcaoeokeaaGreatDoorCm25
import Derived.Test.YthpndgcaoeokeaaGreatDoorCm30
namespace Go.Proofs.YthpndgcaoeokeaaGreatDoor
open Go.RowKit Go.Sort

set_option maxRecDepth 100000 in
theorem ruleText_any (fq iv ct un : Int) (a1 a2 a3 a4 : Option Addr) (l1 l2 l3 l4 c1 c2 c3 c4 : Nat) (ws : Int) (tx : ByteArray) (w : World) :
    Calls Tryz.prog 84 #[.agg #[.int .i64 fq, .int .i64 iv, .int .i64 ct, .int .i64 un, .slice a1 l1 c1, .slice a2 l2 c2, .slice a3 l3 c3, .slice a4 l4 c4, .int .i64 ws, .string tx]] w fun E w' => E = .returned (.string tx) ∧ Below w.heap.size w w' := by
  go_enter Tryz.func84, Tryz.ntmps84
  go_wp2
  go_ret
  exact ⟨rfl, (Below.refl _ _).alloc (Nat.le_refl _) _⟩
set_option maxRecDepth 10000 in
theorem act_lit69 (a : Act) (h : a.tmps.size = 69) (hd : a.defers = []) : ∃ f : Nat → Value, a = ⟨List.toArray (f 0 :: f 1 :: f 2 :: f 3 :: f 4 :: f 5 :: f 6 :: f 7 :: f 8 :: f 9 :: f 10 :: f 11 :: f 12 :: f 13 :: f 14 :: f 15 :: f 16 :: f 17 :: f 18 :: f 19 :: f 20 :: f 21 :: f 22 :: f 23 :: f 24 :: f 25 :: f 26 :: f 27 :: f 28 :: f 29 :: f 30 :: f 31 :: f 32 :: f 33 :: f 34 :: f 35 :: f 36 :: f 37 :: f 38 :: f 39 :: f 40 :: f 41 :: f 42 :: f 43 :: f 44 :: f 45 :: f 46 :: f 47 :: f 48 :: f 49 :: f 50 :: f 51 :: f 52 :: f 53 :: f 54 :: f 55 :: f 56 :: f 57 :: f 58 :: f 59 :: f 60 :: f 61 :: f 62 :: f 63 :: f 64 :: f 65 :: f 66 :: f 67 :: f 68 :: []), []⟩ ∧ ∀ k, a.eval (.tmp k) = f k := by
  obtain ⟨t, d⟩ := a
  simp only [] at h hd
  subst hd
  refine ⟨fun k => t.getD k undef, ?_, fun k => rfl⟩
  congr 1
  apply Array.ext'
  apply List.ext_getElem?
  intro i
  by_cases hi : i < 69
  · rw [show t.toList[i]? = some (t.getD i undef) from by simp [Array.getD, h, hi]]
    match i, hi with
    | 0, _ => rfl
    | 1, _ => rfl
    | 2, _ => rfl
    | 3, _ => rfl
    | 4, _ => rfl
    | 5, _ => rfl
    | 6, _ => rfl
    | 7, _ => rfl
    | 8, _ => rfl
    | 9, _ => rfl
    | 10, _ => rfl
    | 11, _ => rfl
    | 12, _ => rfl
    | 13, _ => rfl
    | 14, _ => rfl
    | 15, _ => rfl
    | 16, _ => rfl
    | 17, _ => rfl
    | 18, _ => rfl
    | 19, _ => rfl
    | 20, _ => rfl
    | 21, _ => rfl
    | 22, _ => rfl
    | 23, _ => rfl
    | 24, _ => rfl
    | 25, _ => rfl
    | 26, _ => rfl
    | 27, _ => rfl
    | 28, _ => rfl
    | 29, _ => rfl
    | 30, _ => rfl
    | 31, _ => rfl
    | 32, _ => rfl
    | 33, _ => rfl
    | 34, _ => rfl
    | 35, _ => rfl
    | 36, _ => rfl
    | 37, _ => rfl
    | 38, _ => rfl
    | 39, _ => rfl
    | 40, _ => rfl
    | 41, _ => rfl
    | 42, _ => rfl
    | 43, _ => rfl
    | 44, _ => rfl
    | 45, _ => rfl
    | 46, _ => rfl
    | 47, _ => rfl
    | 48, _ => rfl
    | 49, _ => rfl
    | 50, _ => rfl
    | 51, _ => rfl
    | 52, _ => rfl
    | 53, _ => rfl
    | 54, _ => rfl
    | 55, _ => rfl
    | 56, _ => rfl
    | 57, _ => rfl
    | 58, _ => rfl
    | 59, _ => rfl
    | 60, _ => rfl
    | 61, _ => rfl
    | 62, _ => rfl
    | 63, _ => rfl
    | 64, _ => rfl
    | 65, _ => rfl
    | 66, _ => rfl
    | 67, _ => rfl
    | 68, _ => rfl
    | n + 69, hn => omega
  · rw [List.getElem?_eq_none (by rw [Array.length_toList]; omega), List.getElem?_eq_none (by show 69 ≤ i; omega)]
theorem own_of_row {w : World} {g B : Nat} {xs : List Value} {e : TypeId} (h : RowAt w g xs e) (hB : B ≤ g) (hl : xs.length ≤ 1000) : w.ownsRow B e 1 (.slice (some ⟨g, 0, none⟩) xs.length xs.length) xs.length xs :=
  ⟨by omega, .inr ⟨g, xs.length, xs.toArray, rfl, hB, h, Nat.le_refl _, by unfold maxLen; omega, by simp, by simp⟩⟩
theorem own_on {w w' : World} {B : Nat} {e : TypeId} {v : Value} {n : Nat} {xs : List Value} (h : w.ownsRow B e 1 v n xs) (hb : Below w.heap.size w w') : w'.ownsRow B e 1 v n xs := own_block h fun g hg _ => hb.block g hg
theorem op_app2 {P : Program} {o : Oper} {a : Act} {K : Act → World → Prop} {Q : Exit → Act → World → Prop} {w w0 : World} {p : Nat} (s x : Operand) (t e : TypeId) (z : Value) (bytes : Nat)
    (ho : o.op = .call { callee := .builtin .append, args := #[s, x], argTypes := #[t, t] }) (hu : P.underlying t = some (.slice e))
    (hinfo : (P.info? e).map (fun i => (i.zero, i.size, i.bytes)) = some (some z, 1, bytes)) (hz : z.cells.size = 1) (B : Nat) (v : Value) (n : Nat) (xs : List Value) (hs : a.eval s = v)
    (hown : w0.ownsRow B e 1 v n xs) (hnx : Below B w w0) (hB : B ≤ w0.heap.size) (y : Value) (hy : y.oneCell' = true) (hx : a.eval x = .slice (some ⟨p, 0, none⟩) 1 1)
    (hc : w0.cell? ⟨p, 0, none⟩ = some y) (hn : n ≤ 4194304) (hbytes : bytes ≤ 64)
    (h : ∀ v' w1, w1.ownsRow B e 1 v' (n + 1) (xs ++ [y]) → Below B w w1 → B ≤ w1.heap.size → K (a.put o.dst v') w1) : o.wp P a w0 K Q := by
  obtain ⟨i0, hi, hz0, hz1, hz2⟩ := info_parts hinfo
  refine wp_append_own _ s x t ho B e i0 z 1 bytes hu hi hz0 hz1 hz2 hz (by decide) v n xs hs hown ⟨p, 0, none⟩ 1 1 [y] hx rfl ?_ ?_ ?_ ?_ hB ?_
  · intro j u hj
    match j, hj with
    | 0, hj => simp at hj; subst hj; exact hc
  · intro u hu; simp at hu; subst hu; exact hy
  · unfold maxLen; omega
  · have : (n + 1) * bytes ≤ 4194305 * 64 := Nat.mul_le_mul (by omega) hbytes
    omega
  · intro v' w1 hown' hgrow _
    exact h v' w1 hown' (hnx.grown hgrow hB (fun k hk => (hown.lt k hk).1)) (Nat.le_trans hB hgrow.size)
theorem own_line {w : World} {B n : Nat} {v : Value} {ls ls' ms : List (List UInt8)} {t : List UInt8} {X : ByteArray} (h : w.ownsRow B 9 1 v (n + 1) (strs ls ++ [.string X])) (hX : X = ⟨t.toArray⟩) (hm : ms = [t]) (hn : n = ls.length) (hl : ls' = ls ++ ms) : w.ownsRow B 9 1 v ls'.length (strs ls') := by
  subst hl hm hX hn
  rw [strs_snoc, List.length_append]
  exact h
theorem join_small (zs : List Int) (h : zs.length ≤ 20) : (⟨(Lib.join (zs.map ptx) [44]).toArray⟩ : ByteArray).size ≤ 1000 := by
  show (Lib.join (zs.map ptx) [44]).toArray.size ≤ _
  rw [List.size_toArray]
  have := intercalate_len [44] 16 (zs.map ptx) (fun t ht => by
    obtain ⟨z, _, rfl⟩ := List.mem_map.1 ht
    exact ptx_len z)
  rw [List.length_map] at this
  have h2 : zs.length * (16 + [(44 : UInt8)].length) ≤ 20 * 17 := Nat.mul_le_mul h (by simp)
  omega
theorem nd_le : ∀ (k n : Nat), 0 < k → n < 10 ^ k → Lib.nDigits n ≤ k
  | 0, n, h, _ => absurd h (by omega)
  | k + 1, n, _, h => by
    by_cases h1 : n < 10
    · rw [Lib.nDigits_small h1]; omega
    · rw [Lib.nDigits_big h1]
      have hk : 0 < k := by
        rcases Nat.eq_zero_or_pos k with e | e
        · subst e; simp at h; omega
        · exact e
      have := nd_le k (n / 10) hk (by rw [Nat.pow_succ] at h; omega)
      omega
theorem dec_len (n : Nat) (h : n < 100000000) : (Lib.decDigits n).length ≤ 8 := by
  rw [Lib.decDigits_length]
  exact nd_le 8 n (by omega) h
theorem own_names {w : World} {B : Nat} {v : Value} {L : List (List UInt8)} {e : TypeId} (h : w.ownsRow B e 1 v L.length (strs L)) (hp : 0 < L.length) : ∃ g c, v = .slice (some ⟨g, 0, none⟩) L.length c ∧ g < w.heap.size ∧ NamesAt w g 0 L := by
  rcases own_cells h with ⟨_, hn⟩ | ⟨g, cap, rfl, _, hg, hc⟩
  · have := congrArg List.length hn
    rw [strs_length, List.length_nil] at this
    omega
  · refine ⟨g, cap, rfl, hg, fun j hj => ?_⟩
    rw [Nat.zero_add]
    refine hc j _ ?_
    unfold strs
    rw [List.getElem?_map, List.getElem?_eq_getElem hj]
    simp [List.getD_eq_getElem?_getD, List.getElem?_eq_getElem hj]
theorem txl_bd (m : Nat) : ∀ (ls : List (List UInt8)), (∀ l ∈ ls, l.length ≤ m) → (txl ls).length ≤ ls.length * (m + 2)
  | [], _ => by simp [txl]
  | l :: r, h => by
    have h1 := txl_bd m r (fun x hx => h x (by simp [hx]))
    have h2 := h l (by simp)
    have e : txl (l :: r) = l ++ [13, 10] ++ txl r := by simp [txl]
    rw [e, List.length_append, List.length_append, show (l :: r).length = r.length + 1 from rfl, Nat.add_mul]
    simp only [List.length_cons, List.length_nil]
    omega
theorem evT_bound (u : List UInt8) (st ln : Int) (rt : Option (List UInt8)) (ex xt : List Int) (tr : Bool) (k : Int) (hu : u.length ≤ 2000) (hr : (rt.getD []).length ≤ 20000) (hx : ex.length ≤ 20) (hy : xt.length ≤ 20) (hln : ln ≤ 2678400) : (txl (evT u st ln rt ex xt tr k)).length ≤ 400000 := by
  have h5 : ∀ l ∈ evT u st ln rt ex xt tr k, l.length ≤ 30000 := by
    intro l hl
    have jn : ∀ zs : List Int, zs.length ≤ 20 → (Lib.join (zs.map ptx) [44]).length ≤ 1000 := fun zs hz => Nat.le_trans (Nat.le_of_eq (@List.size_toArray _ (Lib.join (zs.map ptx) [44])).symm) (join_small zs hz)
    unfold evT at hl
    simp only [List.mem_append] at hl
    rcases hl with (((((hl | hl) | hl) | hl) | hl) | hl) | hl
    · unfold ev4 at hl
      simp only [List.mem_cons, List.not_mem_nil, or_false] at hl
      have h1 := ptx_len st
      have h2 := dec_len ln.toNat (by omega)
      rcases hl with rfl | rfl | rfl | rfl
      · decide
      · rw [List.length_append]; have : uidL.length = 4 := rfl; omega
      · rw [List.length_append]; have : dtsL.length = 8 := rfl; omega
      · rw [List.length_append, List.length_append]; have : durL.length = 11 := rfl; simp; omega
    · unfold evR at hl
      cases rt with
      | none => simp at hl
      | some t =>
        simp only [List.mem_singleton] at hl
        subst hl
        rw [List.length_append]
        have : rruL.length = 6 := rfl
        simp at hr
        omega
    · unfold evX at hl
      split at hl
      · simp at hl
      · rw [List.mem_singleton] at hl
        subst hl
        rw [List.length_append]
        have : exdL.length = 7 := rfl
        have := jn ex hx
        omega
    · unfold evD at hl
      split at hl
      · simp at hl
      · rw [List.mem_singleton] at hl
        subst hl
        rw [List.length_append]
        have : rdaL.length = 6 := rfl
        have := jn xt hy
        omega
    · cases tr with
      | false => simp [evO] at hl
      | true =>
        simp only [evO, if_true, List.mem_singleton] at hl
        subst hl
        decide
    · unfold evS at hl
      split at hl
      · rw [List.mem_singleton] at hl; subst hl; decide
      · split at hl
        · rw [List.mem_singleton] at hl; subst hl; decide
        · simp at hl
    · rw [List.mem_singleton] at hl
      subst hl
      decide
  have h6 : (evT u st ln rt ex xt tr k).length ≤ 10 := by
    unfold evT
    simp only [List.length_append]
    have a1 : (ev4 u st ln).length = 4 := rfl
    have a2 : (evR rt).length ≤ 1 := by cases rt <;> simp [evR]
    have a3 : (evX ex).length ≤ 1 := by unfold evX; split <;> simp
    have a4 : (evD xt).length ≤ 1 := by unfold evD; split <;> simp
    have a5 : (evO tr).length ≤ 1 := by cases tr <;> simp [evO]
    have a6 : (evS k).length ≤ 1 := by unfold evS; split <;> (try split) <;> simp
    simp
    omega
  have h7 := txl_bd 30000 _ h5
  have h8 : (evT u st ln rt ex xt tr k).length * (30000 + 2) ≤ 10 * 30002 := Nat.mul_le_mul_right _ h6
  omega
structure Lens5 (L1 L2 L3 L4 L5 : List (List UInt8)) : Prop where
  h1 : L1.length ≤ 5
  h2 : L2.length ≤ 6
  h3 : L3.length ≤ 7
  h4 : L4.length ≤ 8
  h5 : L5.length ≤ 9
theorem lens5 {u tx : List UInt8} {st ln k : Int} {hr tr : Bool} {ex xt : List Int} {L1 L2 L3 L4 L5 : List (List UInt8)} (h1 : L1 = ev4 u st ln ++ evR (if hr then some tx else none)) (h2 : L2 = L1 ++ evX ex) (h3 : L3 = L2 ++ evD xt) (h4 : L4 = L3 ++ evO tr) (h5 : L5 = L4 ++ evS k) : Lens5 L1 L2 L3 L4 L5 := by
  have e1 : L1.length ≤ 5 := by subst h1; cases hr <;> simp [ev4, evR]
  have e2 : L2.length ≤ 6 := by subst h2; rw [List.length_append]; unfold evX; split <;> simp <;> omega
  have e3 : L3.length ≤ 7 := by subst h3; rw [List.length_append]; unfold evD; split <;> simp <;> omega
  have e4 : L4.length ≤ 8 := by subst h4; rw [List.length_append]; cases tr <;> simp [evO] <;> omega
  have e5 : L5.length ≤ 9 := by subst h5; rw [List.length_append]; unfold evS; split <;> (try split) <;> simp <;> omega
  exact ⟨e1, e2, e3, e4, e5⟩
theorem intsW_pos {w : World} {a : Option Addr} {n c : Nat} {zs : List Int} (h : IntsW w (.slice a n c) zs) (hz : ¬ zs.length = 0) : ∃ g rest, a = some ⟨g, 0, none⟩ ∧ RowAt w g ((zs ++ rest).map (Value.int .i64)) 3 := by
  rcases h with ⟨_, rfl⟩ | ⟨g, cap, rest, e, hr⟩
  · exact absurd rfl hz
  · cases e
    exact ⟨g, rest, rfl, hr⟩
/-- what the segments of Text keep: the lines so far; the event's block is b -/
structure TI (b : Nat) (W : World) (ls : List (List UInt8)) (a : Act) (wr : World) : Prop where
  size : a.tmps.size = 69
  defers : a.defers = []
  s1 : a.eval (.tmp 1) = .pointer (some ⟨b, 0, none⟩)
  own : ∃ v, a.eval (.tmp 3) = v ∧ wr.ownsRow W.heap.size 9 1 v ls.length (strs ls)
  below : Below W.heap.size W wr
def slT (i : Nat) : Nat := if i = 13 then 3 else 4 + i
def NT (b : Nat) (W : World) (U T D : ByteArray) (st ln : Int) (i : Nat) (v : Value) (w : World) : Prop := match i with
  | 0 => v = .pointer (some ⟨b, 0, none⟩)
  | 1 => v = .string U
  | 2 => v = .string (kUid ++ U)
  | 3 => v = .pointer (some ⟨b, 1, none⟩)
  | 4 => v = .int .i64 st
  | 5 => v = .string T
  | 6 => v = .string (kDts ++ T)
  | 7 => v = .pointer (some ⟨b, 2, none⟩)
  | 8 => v = .int .i64 ln
  | 9 => v = .string D
  | 10 => v = .string (kDur ++ D)
  | 11 => v = .string (kDur ++ D ++ kS)
  | _ => ∃ g, W.heap.size ≤ g ∧ v = .slice (some ⟨g, 0, none⟩) 4 4 ∧ RowAt w g (rowF U T D) 9
theorem NT.grow {b : Nat} {W : World} {U T D : ByteArray} {st ln : Int} (i : Nat) (v : Value) (w w' : World) (h : NT b W U T D st ln i v w) (hb : Below w.heap.size w w') : NT b W U T D st ln i v w' := by
  match i, h with
  | 0, h | 1, h | 2, h | 3, h | 4, h | 5, h | 6, h | 7, h | 8, h | 9, h | 10, h | 11, h => exact h
  | n + 12, h =>
    obtain ⟨g, h1, h2, h3⟩ := h
    exact ⟨g, h1, h2, h3.on hb⟩
theorem slotsT (b : Nat) (W : World) (U T D : ByteArray) (st ln : Int) : Slots slT [(1, .pointer (some ⟨b, 0, none⟩))] 69 14 (NT b W U T D st ln) :=
  ⟨fun i hi => by unfold slT; split <;> omega, fun i j hi hj h => by unfold slT at h; split at h <;> split at h <;> omega, fun p hp i hi => by rw [List.mem_singleton] at hp; subst hp; show 1 ≠ slT i; unfold slT; split <;> omega, NT.grow⟩
set_option maxRecDepth 100000 in
set_option maxHeartbeats 8000000 in
theorem eventText_any (u : List UInt8) (st ln : Int) (hr : Bool) (fq iv ct un : Int) (a1 a2 a3 a4 a5 a6 : Option Addr) (l1 l2 l3 l4 c1 c2 c3 c4 c5 c6 : Nat) (ws : Int) (tx : List UInt8) (ex xt : List Int) (tr : Bool) (k : Int) (w : World) (ht : Tab w)
    (hex : IntsW w (.slice a5 ex.length c5) ex) (hxt : IntsW w (.slice a6 xt.length c6) xt) (hu : u.length ≤ 2000) (htx : tx.length ≤ 20000) (hle : ex.length ≤ 20) (hlx : xt.length ≤ 20) (hl1 : 1 ≤ ln) (hl2 : ln ≤ 2678400) (hk1 : 0 ≤ k) (hk2 : k ≤ 2) :
    Calls Tryz.prog 44 #[.agg #[.string (ofL u), .int .i64 st, .int .i64 ln, .bool hr, .int .i64 fq, .int .i64 iv, .int .i64 ct, .int .i64 un, .slice a1 l1 c1, .slice a2 l2 c2, .slice a3 l3 c3, .slice a4 l4 c4, .int .i64 ws, .string (ofL tx), .slice a5 ex.length c5, .slice a6 xt.length c6, .bool tr, .int .i64 k]] w fun E w' => E = .returned (.string ⟨(txl (evT u st ln (if hr then some tx else none) ex xt tr k)).toArray⟩) ∧ Below w.heap.size w w' := by
  generalize hrt : (if hr then some tx else none) = rt
  have HRT := hide hrt
  clear hrt
  have hrow := RowAt.new w [.string (ofL u), .int .i64 st, .int .i64 ln, .bool hr, .int .i64 fq, .int .i64 iv, .int .i64 ct, .int .i64 un, .slice a1 l1 c1, .slice a2 l2 c2, .slice a3 l3 c3, .slice a4 l4 c4, .int .i64 ws, .string (ofL tx), .slice a5 ex.length c5, .slice a6 xt.length c6, .bool tr, .int .i64 k] 79
  have hbW : Below w.heap.size w (w.alloc (.cells #[.string (ofL u), .int .i64 st, .int .i64 ln, .bool hr, .int .i64 fq, .int .i64 iv, .int .i64 ct, .int .i64 un, .slice a1 l1 c1, .slice a2 l2 c2, .slice a3 l3 c3, .slice a4 l4 c4, .int .i64 ws, .string (ofL tx), .slice a5 ex.length c5, .slice a6 xt.length c6, .bool tr, .int .i64 k] 79)) := (Below.refl _ _).alloc (Nat.le_refl _) _
  have hzW : (w.alloc (.cells #[.string (ofL u), .int .i64 st, .int .i64 ln, .bool hr, .int .i64 fq, .int .i64 iv, .int .i64 ct, .int .i64 un, .slice a1 l1 c1, .slice a2 l2 c2, .slice a3 l3 c3, .slice a4 l4 c4, .int .i64 ws, .string (ofL tx), .slice a5 ex.length c5, .slice a6 xt.length c6, .bool tr, .int .i64 k] 79)).heap.size = w.heap.size + 1 := by simp
  have CI := hide fun W (h : Tab W) => itoa_nat ln.toNat W (by omega) h
  have CT := hide fun W (h : Tab W) => timeText_any st W h
  have HLN : Hid (((ln.toNat : Nat) : Int) = ln) := hide (by omega)
  have HT := hide ht
  have HEX := hide hex
  have HXT := hide hxt
  clear ht hex hxt
  rw [HLN.out] at CI
  obtain ⟨U, hU⟩ : ∃ U, U = ofL u := ⟨_, rfl⟩
  obtain ⟨T, hT⟩ : ∃ T : ByteArray, T = ⟨(ptx st).toArray⟩ := ⟨_, rfl⟩
  obtain ⟨D, hD⟩ : ∃ D : ByteArray, D = ⟨(Lib.decDigits ln.toNat).toArray⟩ := ⟨_, rfl⟩
  have sU : U.size ≤ 2000 := by rw [hU]; show u.toArray.size ≤ _; rw [List.size_toArray]; exact hu
  have sT : T.size ≤ 16 := by rw [hT]; show (ptx st).toArray.size ≤ _; rw [List.size_toArray]; exact ptx_len st
  have sD : D.size ≤ 8 := by rw [hD]; show (Lib.decDigits ln.toNat).toArray.size ≤ _; rw [List.size_toArray]; exact dec_len _ (by omega)
  rw [← hU] at hrow hbW hzW ⊢
  rw [← hT] at CT
  rw [← hD] at CI
  have HU := hide hU
  have HT1 := hide hT
  have HD := hide hD
  clear hU hT hD
  go_enter Tryz.func44, Tryz.ntmps44
  go_upto_region 1 with fail
  generalize w.alloc (.cells #[.string U, .int .i64 st, .int .i64 ln, .bool hr, .int .i64 fq, .int .i64 iv, .int .i64 ct, .int .i64 un, .slice a1 l1 c1, .slice a2 l2 c2, .slice a3 l3 c3, .slice a4 l4 c4, .int .i64 ws, .string (ofL tx), .slice a5 ex.length c5, .slice a6 xt.length c6, .bool tr, .int .i64 k] 79) = W at *
  rename_i K hK
  have d0 : ∀ w', Below W.heap.size W w' → w'.cell? ⟨w.heap.size, 0, none⟩ = some (.string U) := fun w' h => (h.cell (p := ⟨w.heap.size, 0, none⟩) (by rw [hzW]; exact Nat.lt_succ_self _)).trans (hrow.cell (k := 0) rfl)
  have d1 : ∀ w', Below W.heap.size W w' → w'.cell? ⟨w.heap.size, 1, none⟩ = some (.int .i64 st) := fun w' h => (h.cell (p := ⟨w.heap.size, 1, none⟩) (by rw [hzW]; exact Nat.lt_succ_self _)).trans (hrow.cell (k := 1) rfl)
  have d2 : ∀ w', Below W.heap.size W w' → w'.cell? ⟨w.heap.size, 2, none⟩ = some (.int .i64 ln) := fun w' h => (h.cell (p := ⟨w.heap.size, 2, none⟩) (by rw [hzW]; exact Nat.lt_succ_self _)).trans (hrow.cell (k := 2) rfl)
  have htW := HT.out.on hbW
  have S := slotsT w.heap.size W U T D st ln
  refine wp_region_plain (GV slT (NT w.heap.size W U T D st ln)) (JV 69 [(1, .pointer (some ⟨w.heap.size, 0, none⟩))] W) (by kernel_rfl) (by kernel_rfl) (by kernel_rfl) ?_ ?_ ⟨rfl, rfl, fun p hp => by rw [List.mem_singleton] at hp; subst hp; rfl, (Below.refl _ _).drew⟩
  · intro i o ho a w' hI hG
    have hi : i < 14 := (Array.getElem?_eq_some_iff.1 ho).1
    have s1 : a.eval (.tmp 1) = .pointer (some ⟨w.heap.size, 0, none⟩) := hI.fixed _ (List.mem_singleton.2 rfl)
    have hor : i = 0 ∨ i = 1 ∨ i = 2 ∨ i = 3 ∨ i = 4 ∨ i = 5 ∨ i = 6 ∨ i = 7 ∨ i = 8 ∨ i = 9 ∨ i = 10 ∨ i = 11 ∨ i = 12 ∨ i = 13 := by omega
    rcases hor with rfl | rfl | rfl | rfl | rfl | rfl | rfl | rfl | rfl | rfl | rfl | rfl | rfl | rfl <;> obtain rfl := Option.some.inj ho
    · -- 0
      exact op_value (v := .pointer (some ⟨w.heap.size, 0, none⟩)) (fld_run rfl s1 (evFld_run _ 0 0 (.inl rfl) _)) (stepV S rfl (by decide) hI (Below.refl _ _) rfl)
    · -- 1
      have e : a.eval (.tmp 4) = .pointer (some ⟨w.heap.size, 0, none⟩) := hG ⟨0, .data⟩ (by simp) rfl
      exact op_value (v := .string U) (ld_run rfl e (strLd_run (d0 _ hI.below))) (stepV S rfl (by decide) hI (Below.refl _ _) rfl)
    · -- 2
      have e : a.eval (.tmp 5) = .string U := hG ⟨1, .data⟩ (by simp) rfl
      exact op_value (v := .string (kUid ++ U)) (cat_run rfl rfl e (by show 4 + U.size ≤ _; omega)) (stepV S rfl (by decide) hI (Below.refl _ _) rfl)
    · -- 3
      exact op_value (v := .pointer (some ⟨w.heap.size, 1, none⟩)) (fld_run rfl s1 (evFld_run _ 1 1 (.inr (.inl rfl)) _)) (stepV S rfl (by decide) hI (Below.refl _ _) rfl)
    · -- 4
      have e : a.eval (.tmp 7) = .pointer (some ⟨w.heap.size, 1, none⟩) := hG ⟨3, .data⟩ (by simp) rfl
      exact op_value (v := .int .i64 st) (ld_run rfl e (intLd_run (d1 _ hI.below))) (stepV S rfl (by decide) hI (Below.refl _ _) rfl)
    · -- 5
      have e : a.eval (.tmp 8) = .int .i64 st := hG ⟨4, .data⟩ (by simp) rfl
      exact op_callV (f := 82) (args := #[a.eval (.tmp 8)]) (by kernel_rfl) (by rw [e]; exact CT.out w' (htW.on hI.below)) (fun w'' hb => stepV S rfl (by decide) hI hb rfl)
    · -- 6
      have e : a.eval (.tmp 9) = .string T := hG ⟨5, .data⟩ (by simp) rfl
      exact op_value (v := .string (kDts ++ T)) (cat_run rfl rfl e (by show 8 + T.size ≤ _; omega)) (stepV S rfl (by decide) hI (Below.refl _ _) rfl)
    · -- 7
      exact op_value (v := .pointer (some ⟨w.heap.size, 2, none⟩)) (fld_run rfl s1 (evFld_run _ 2 2 (.inr (.inr rfl)) _)) (stepV S rfl (by decide) hI (Below.refl _ _) rfl)
    · -- 8
      have e : a.eval (.tmp 11) = .pointer (some ⟨w.heap.size, 2, none⟩) := hG ⟨7, .data⟩ (by simp) rfl
      exact op_value (v := .int .i64 ln) (ld_run rfl e (intLd_run (d2 _ hI.below))) (stepV S rfl (by decide) hI (Below.refl _ _) rfl)
    · -- 9
      have e : a.eval (.tmp 12) = .int .i64 ln := hG ⟨8, .data⟩ (by simp) rfl
      exact op_callV (f := 83) (args := #[a.eval (.tmp 12)]) (by kernel_rfl) (by rw [e]; exact CI.out w' (htW.on hI.below)) (fun w'' hb => stepV S rfl (by decide) hI hb rfl)
    · -- 10
      have e : a.eval (.tmp 13) = .string D := hG ⟨9, .data⟩ (by simp) rfl
      exact op_value (v := .string (kDur ++ D)) (cat_run rfl rfl e (by show 11 + D.size ≤ _; omega)) (stepV S rfl (by decide) hI (Below.refl _ _) rfl)
    · -- 11
      have e : a.eval (.tmp 14) = .string (kDur ++ D) := hG ⟨10, .data⟩ (by simp) rfl
      exact op_value (v := .string (kDur ++ D ++ kS)) (cat_run rfl e rfl (by rw [ByteArray.size_append]; show 11 + D.size + 1 ≤ _; omega)) (stepV S rfl (by decide) hI (Below.refl _ _) rfl)
    · -- 12
      have e1 : a.eval (.tmp 6) = .string (kUid ++ U) := hG ⟨2, .data⟩ (by simp) rfl
      have e2 : a.eval (.tmp 10) = .string (kDts ++ T) := hG ⟨6, .data⟩ (by simp) rfl
      have e3 : a.eval (.tmp 15) = .string (kDur ++ D ++ kS) := hG ⟨11, .data⟩ (by simp) rfl
      refine op_value (w' := w'.alloc (.cells (rowF U T D).toArray 9)) (v := .slice (some ⟨w'.heap.size, 0, none⟩) 4 4) (four_run rfl e1 e2 e3) (stepV S rfl (by decide) hI ((Below.refl _ _).alloc (Nat.le_refl _) _) ⟨w'.heap.size, hI.below.size, rfl, RowAt.new w' (rowF U T D) 9⟩)
    · -- 13
      have e : ∃ g, W.heap.size ≤ g ∧ a.eval (.tmp 16) = .slice (some ⟨g, 0, none⟩) 4 4 ∧ RowAt w' g (rowF U T D) 9 := hG ⟨12, .data⟩ (by simp) rfl
      exact op_value (v := a.eval (.tmp 16)) (asg_run rfl rfl) (stepV S rfl (by decide) hI (Below.refl _ _) e)
  intro a w4 hI hG
  obtain ⟨g, hg, e3, hrow4⟩ : ∃ g, W.heap.size ≤ g ∧ a.eval (.tmp 3) = .slice (some ⟨g, 0, none⟩) 4 4 ∧ RowAt w4 g (rowF U T D) 9 := hG 13 (by decide)
  have s1 : a.eval (.tmp 1) = .pointer (some ⟨w.heap.size, 0, none⟩) := hI.fixed _ (List.mem_singleton.2 rfl)
  have hb4 := hI.below
  have hsz := hI.size
  have hdf := hI.defers
  clear hI hG d0 d1 d2 S CI CT sT sD
  refine hK a w4 ?_
  obtain ⟨f, rfl, hf⟩ := act_lit69 a hsz hdf
  have f1 := (hf 1).symm.trans s1
  have f3 := (hf 3).symm.trans e3
  rw [f1, f3]
  clear hf hsz hdf s1 e3 hK
  have own4 : w4.ownsRow W.heap.size 9 1 (.slice (some ⟨g, 0, none⟩) 4 4) (ev4 u st ln).length (strs (ev4 u st ln)) := by
    have e : rowF U T D = strs (ev4 u st ln) := by
      have e1 : kUid ++ ofL u = ⟨(uidL ++ u).toArray⟩ := by apply ByteArray.ext; simp [kUid, ofL, uidL]
      have e2 : kDts ++ ⟨(ptx st).toArray⟩ = ⟨(dtsL ++ ptx st).toArray⟩ := by apply ByteArray.ext; simp [kDts, dtsL]
      have e3 : kDur ++ ⟨(Lib.decDigits ln.toNat).toArray⟩ ++ kS = ⟨(durL ++ Lib.decDigits ln.toNat ++ [83]).toArray⟩ := by apply ByteArray.ext; simp [kDur, kS, durL]
      unfold rowF strs ev4
      rw [HU.out, HT1.out, HD.out, e1, e2, e3]
      rfl
    rw [e] at hrow4
    exact own_of_row (xs := strs (ev4 u st ln)) hrow4 hg (show 4 ≤ 1000 by decide)
  have HROW := hide hrow
  have HBW := hide hbW
  have hz4 := hb4.size
  have HO4 := hide own4
  have HB4 := hide hb4
  clear own4 hrow4 hrow hbW hb4 sU HU HT1 HD
  obtain ⟨L1, hL1⟩ : ∃ L1, L1 = ev4 u st ln ++ evR rt := ⟨_, rfl⟩
  obtain ⟨L2, hL2⟩ : ∃ L2, L2 = L1 ++ evX ex := ⟨_, rfl⟩
  obtain ⟨L3, hL3⟩ : ∃ L3, L3 = L2 ++ evD xt := ⟨_, rfl⟩
  obtain ⟨L4, hL4⟩ : ∃ L4, L4 = L3 ++ evO tr := ⟨_, rfl⟩
  obtain ⟨L5, hL5⟩ : ∃ L5, L5 = L4 ++ evS k := ⟨_, rfl⟩
  have HLN : Hid (Lens5 L1 L2 L3 L4 L5) := hide (lens5 (tx := tx) (hr := hr) (by rw [HRT.out]; exact hL1) hL2 hL3 hL4 hL5)
  have HEV : Hid (evT u st ln rt ex xt tr k = L5 ++ [endL]) := hide (by rw [hL5, hL4, hL3, hL2, hL1]; rfl)
  have H1 := hide hL1
  have H2 := hide hL2
  have H3 := hide hL3
  have H4 := hide hL4
  have H5 := hide hL5
  clear hL1 hL2 hL3 hL4 hL5
  have sTX : (ofL tx).size ≤ 20000 := by show tx.toArray.size ≤ _; rw [List.size_toArray]; exact htx
  go_upto_region 2 with fail
  rename_i K1 hK1 K2 hK2
  have r1 : ∀ a wr, TI w.heap.size W L1 a wr → K1 a wr := by
    clear hK2 K2 HO4 HB4 hz4
    intro a wr h
    refine hK1 a wr ?_
    clear hK1
    obtain ⟨v3, e3, hown⟩ := h.own
    obtain ⟨q3, n3, m3, rfl⟩ := own_form hown
    obtain ⟨f, rfl, hf⟩ := act_lit69 a h.size h.defers
    have f1 := (hf 1).symm.trans h.s1
    have f3 := (hf 3).symm.trans e3
    rw [f1, f3]
    have HO := hide hown
    have HBR := hide h.below
    have hzr := HBR.out.size
    clear hf e3 hown h f1 f3
    go_upto_region 4 with fail
    rename_i K1 hK1 K2 hK2
    have c0 : wr.cell? ⟨w.heap.size, 14, none⟩ = some (.slice a5 ex.length c5) := (HROW.out.on HBR.out).cell (k := 14) rfl
    have r2 : ∀ a wr, TI w.heap.size W L2 a wr → K1 a wr := by
      clear hK2 K2 HO HBR hzr c0
      intro a wr h
      refine hK1 a wr ?_
      clear hK1
      obtain ⟨v3, e3, hown⟩ := h.own
      obtain ⟨q3, n3, m3, rfl⟩ := own_form hown
      obtain ⟨f, rfl, hf⟩ := act_lit69 a h.size h.defers
      have f1 := (hf 1).symm.trans h.s1
      have f3 := (hf 3).symm.trans e3
      rw [f1, f3]
      have HO := hide hown
      have HBR := hide h.below
      have hzr := HBR.out.size
      clear hf e3 hown h f1 f3
      go_upto_region 6 with fail
      rename_i K1 hK1 K2 hK2
      have c0 : wr.cell? ⟨w.heap.size, 15, none⟩ = some (.slice a6 xt.length c6) := (HROW.out.on HBR.out).cell (k := 15) rfl
      have r3 : ∀ a wr, TI w.heap.size W L3 a wr → K1 a wr := by
        clear hK2 K2 HO HBR hzr c0
        intro a wr h
        refine hK1 a wr ?_
        clear hK1
        obtain ⟨v3, e3, hown⟩ := h.own
        obtain ⟨q3, n3, m3, rfl⟩ := own_form hown
        obtain ⟨f, rfl, hf⟩ := act_lit69 a h.size h.defers
        have f1 := (hf 1).symm.trans h.s1
        have f3 := (hf 3).symm.trans e3
        rw [f1, f3]
        have HO := hide hown
        have HBR := hide h.below
        have hzr := HBR.out.size
        clear hf e3 hown h f1 f3
        go_upto_region 8 with fail
        rename_i K1 hK1 K2 hK2
        have c0 : wr.cell? ⟨w.heap.size, 16, none⟩ = some (.bool tr) := (HROW.out.on HBR.out).cell (k := 16) rfl
        have r4 : ∀ a wr, TI w.heap.size W L4 a wr → K1 a wr := by
          clear hK2 K2 HO HBR hzr c0
          intro a wr h
          refine hK1 a wr ?_
          clear hK1
          obtain ⟨v3, e3, hown⟩ := h.own
          obtain ⟨q3, n3, m3, rfl⟩ := own_form hown
          obtain ⟨f, rfl, hf⟩ := act_lit69 a h.size h.defers
          have f1 := (hf 1).symm.trans h.s1
          have f3 := (hf 3).symm.trans e3
          rw [f1, f3]
          have HO := hide hown
          have HBR := hide h.below
          have hzr := HBR.out.size
          clear hf e3 hown h f1 f3
          go_upto_region 10 with fail
          rename_i K1 hK1 K2 hK2
          have c0 : wr.cell? ⟨w.heap.size, 17, none⟩ = some (.int .i64 k) := (HROW.out.on HBR.out).cell (k := 17) rfl
          have r5 : ∀ a wr, TI w.heap.size W L5 a wr → K1 a wr := by
            clear hK2 K2 HO HBR hzr c0
            intro a wr h
            refine hK1 a wr ?_
            clear hK1
            obtain ⟨v3, e3, hown⟩ := h.own
            obtain ⟨q3, n3, m3, rfl⟩ := own_form hown
            obtain ⟨f, rfl, hf⟩ := act_lit69 a h.size h.defers
            have f1 := (hf 1).symm.trans h.s1
            have f3 := (hf 3).symm.trans e3
            rw [f1, f3]
            have HO := hide hown
            have HBR := hide h.below
            have hzr := HBR.out.size
            clear hf e3 hown h f1 f3
            obtain ⟨L6, hL6⟩ : ∃ L6, L6 = L5 ++ [endL] := ⟨_, rfl⟩
            have HP6 : Hid (0 < L6.length ∧ L6.length ≤ 1000000000) := hide (by have := HLN.out.h5; rw [hL6, List.length_append]; simp; omega)
            have HT6 : Hid ((txl L6).length ≤ 140737488355328) := hide (by rw [hL6, ← HEV.out]; exact Nat.le_trans (evT_bound _ _ _ _ _ _ _ _ hu (by rw [← HRT.out]; cases hr <;> simp <;> omega) hle hlx hl2) (by decide))
            have HE6 : Hid (evT u st ln rt ex xt tr k = L6) := hide (HEV.out.trans hL6.symm)
            have H6 := hide hL6
            clear hL6 HEV
            go_wp2_with (first
              | (at_builtin; refine app_one rfl (.tmp 65) (.tmp 66) 52 9 _ 16 rfl Tryz.underlying52 infoString rfl W.heap.size _ _ _ rfl HO.out HBR.out hzr (.string ⟨#[69, 78, 68, 58, 86, 69, 86, 69, 78, 84]⟩) rfl rfl (by simp) (by have := HLN.out.h5; omega) (by decide) ?_; intro v6 w6 hown6 hnx6 hB6; obtain ⟨g6, cap6, rfl, hgl6, hnm6⟩ := own_names (own_line hown6 (t := endL) rfl rfl rfl H6.out) HP6.out.1)
              | (go_at_call 87; refine (wordsText_any g6 cap6 L6 w6 hgl6 hnm6 HP6.out.2 HT6.out).mono ?_; rintro e w7 ⟨rfl, hb7⟩))
            go_ret
            exact ⟨by rw [HE6.out]; rfl, HBW.out.trans ((hnx6.trans (hb7.mono hB6)).mono (by omega))⟩
          clear hK1
          have hkk : k = 0 ∨ k = 1 ∨ k = 2 := by omega
          rcases hkk with rfl | rfl | rfl
          · go_wp2_with fail
            exact ⟨rfl, rfl, rfl, ⟨.slice q3 n3 m3, rfl, by rw [H5.out, show evS 0 = [] from rfl, List.append_nil]; exact HO.out⟩, HBR.out⟩
          · have hwl : w.heap.size < wr.heap.size := by omega
            have c1 : ∀ o, (wr.alloc o).cell? ⟨w.heap.size, 17, none⟩ = some (.int .i64 1) := fun o => (World.cell?_alloc_past _ _ _ hwl).trans c0
            have c2 : ∀ o o', ((wr.alloc o).alloc o').cell? ⟨w.heap.size, 17, none⟩ = some (.int .i64 1) := fun o o' => (World.cell?_alloc_past _ _ _ (by show w.heap.size < (wr.alloc o).heap.size; simp; omega)).trans (c1 o)
            have kp : ∀ w', Below W.heap.size W w' → w'.cell? ⟨w.heap.size, 17, none⟩ = some (.int .i64 1) := fun w' h => (h.cell (p := ⟨w.heap.size, 17, none⟩) (by show w.heap.size < W.heap.size; omega)).trans (HROW.out.cell (k := 17) rfl)
            have cn : (wr.alloc (.cells (strs statNames).toArray 9)).cell? ⟨wr.heap.size, 1, none⟩ = some (.string ⟨#[84, 69, 78, 84, 65, 84, 73, 86, 69]⟩) := (RowAt.new wr (strs statNames) 9).cell (k := 1) rfl
            have hba : Below wr.heap.size wr ((wr.alloc (.cells (strs statNames).toArray 9)).alloc (.cells #[(.string ((⟨#[83, 84, 65, 84, 85, 83, 58]⟩ : ByteArray) ++ ⟨#[84, 69, 78, 84, 65, 84, 73, 86, 69]⟩))] 9)).drew := (((Below.refl _ _).alloc (Nat.le_refl _) _).alloc (by simp) _).drew
            have hcy : ((wr.alloc (.cells (strs statNames).toArray 9)).alloc (.cells #[(.string ((⟨#[83, 84, 65, 84, 85, 83, 58]⟩ : ByteArray) ++ ⟨#[84, 69, 78, 84, 65, 84, 73, 86, 69]⟩))] 9)).drew.cell? ⟨wr.heap.size + 1, 0, none⟩ = some (.string ((⟨#[83, 84, 65, 84, 85, 83, 58]⟩ : ByteArray) ++ ⟨#[84, 69, 78, 84, 65, 84, 73, 86, 69]⟩)) := by
              have := (RowAt.new (wr.alloc (.cells (strs statNames).toArray 9)) [(.string ((⟨#[83, 84, 65, 84, 85, 83, 58]⟩ : ByteArray) ++ ⟨#[84, 69, 78, 84, 65, 84, 73, 86, 69]⟩))] 9).cell (k := 0) (y := (.string ((⟨#[83, 84, 65, 84, 85, 83, 58]⟩ : ByteArray) ++ ⟨#[84, 69, 78, 84, 65, 84, 73, 86, 69]⟩))) rfl
              rw [show (wr.alloc (.cells (strs statNames).toArray 9)).heap.size = wr.heap.size + 1 from by simp] at this
              exact this
            go_upto_region 11 with fail
            refine wp_region_any (by kernel_rfl) ?_
            change wpAny _ _ _ _ _ _ _ (World.drew _)
            refine wpAny_take (i := 0) (v := ?_) rfl (by kernel_rfl) (by kernel_rfl) (by kernel_rfl) (fun _ _ _ h => h) (Or.inl ⟨by rfl, ?_⟩) ?_
            rotate_left 1
            · intro w; go_simp <;> with_reducible rfl
            refine wpAny_take (i := 2) (v := ?_) rfl (by kernel_rfl) (by kernel_rfl) (by kernel_rfl) (fun _ _ _ h => h) (Or.inl ⟨by rfl, ?_⟩) ?_
            rotate_left 1
            · intro w; go_simp <;> with_reducible rfl
            refine wpAny_ready (rs := [1, 3]) (by kernel_rfl) (by simp) ?_
            refine AllReady.cons rfl (fun K hK => ?_) (AllReady.cons rfl (fun K hK => ?_) AllReady.nil)
            · go_simp
              go_wp2_with (go_at_call 86; refine (statusNames_any _).mono ?_; rintro e w5 ⟨rfl, rfl⟩)
              try (refine hK _ _ ?_; clear hK K)
              refine wpAny_ready (rs := [3]) (by kernel_rfl) (by simp) ?_
              refine AllReady.cons rfl (fun K hK => ?_) AllReady.nil
              go_simp
              refine hK _ _ ?_
              clear hK K
              refine wpAny_take (i := 4) (v := ?_) rfl (by kernel_rfl) (by kernel_rfl) (by kernel_rfl) (fun _ _ _ h => h) (Or.inl ⟨by rfl, ?_⟩) ?_
              rotate_left 1
              · intro w; go_simp <;> with_reducible rfl
              refine wpAny_ready (rs := [5]) (by kernel_rfl) (by simp) ?_
              refine AllReady.cons rfl (fun K hK => ?_) AllReady.nil
              go_simp
              refine hK _ _ ?_
              clear hK K
              refine wpAny_take (i := 6) (v := ?_) rfl (by kernel_rfl) (by kernel_rfl) (by kernel_rfl) (fun _ _ _ h => h) (Or.inl ⟨by rfl, ?_⟩) ?_
              rotate_left 1
              · intro w; go_simp <;> with_reducible rfl
              refine wpAny_ready (rs := [7]) (by kernel_rfl) (by simp) ?_
              refine AllReady.cons rfl (fun K hK => ?_) AllReady.nil
              go_simp
              refine hK _ _ ?_
              clear hK K
              refine wpAny_ready (rs := [8]) (by kernel_rfl) (by simp) ?_
              refine AllReady.cons rfl (fun K hK => ?_) AllReady.nil
              rw [if_pos (wanted_none rfl)]
              refine op_app2 (.tmp 56) (.tmp 63) 52 9 _ 16 rfl Tryz.underlying52 infoString rfl W.heap.size _ _ _ rfl (own_on HO.out hba) (HBR.out.trans (hba.mono hzr)) (Nat.le_trans hzr hba.size) (.string ((⟨#[83, 84, 65, 84, 85, 83, 58]⟩ : ByteArray) ++ ⟨#[84, 69, 78, 84, 65, 84, 73, 86, 69]⟩)) rfl rfl hcy (by have := HLN.out.h4; omega) (by decide) ?_
              intro v6 w6 hown6 hnx6 hB6
              refine hK _ _ ?_
              clear hK K
              refine wpAny_ready (rs := [9]) (by kernel_rfl) (by simp) ?_
              refine AllReady.cons rfl (fun K hK => ?_) AllReady.nil
              go_simp
              refine hK _ _ ?_
              clear hK K
              refine wpAny_done (by kernel_rfl) ?_ _
              exact r5 _ _ ⟨rfl, rfl, rfl, ⟨v6, rfl, own_line hown6 (t := staL ++ tentL) (by apply ByteArray.ext; simp [staL, tentL]) rfl rfl H5.out⟩, hnx6⟩
            · go_simp
              refine hK _ _ ?_
              clear hK K
              refine wpAny_ready (rs := [1]) (by kernel_rfl) (by simp) ?_
              refine AllReady.cons rfl (fun K hK => ?_) AllReady.nil
              go_simp
              go_wp2_with (go_at_call 86; refine (statusNames_any _).mono ?_; rintro e w5 ⟨rfl, rfl⟩)
              try (refine hK _ _ ?_; clear hK K)
              refine wpAny_take (i := 4) (v := ?_) rfl (by kernel_rfl) (by kernel_rfl) (by kernel_rfl) (fun _ _ _ h => h) (Or.inl ⟨by rfl, ?_⟩) ?_
              rotate_left 1
              · intro w; go_simp <;> with_reducible rfl
              refine wpAny_ready (rs := [5]) (by kernel_rfl) (by simp) ?_
              refine AllReady.cons rfl (fun K hK => ?_) AllReady.nil
              go_simp
              refine hK _ _ ?_
              clear hK K
              refine wpAny_take (i := 6) (v := ?_) rfl (by kernel_rfl) (by kernel_rfl) (by kernel_rfl) (fun _ _ _ h => h) (Or.inl ⟨by rfl, ?_⟩) ?_
              rotate_left 1
              · intro w; go_simp <;> with_reducible rfl
              refine wpAny_ready (rs := [7]) (by kernel_rfl) (by simp) ?_
              refine AllReady.cons rfl (fun K hK => ?_) AllReady.nil
              go_simp
              refine hK _ _ ?_
              clear hK K
              refine wpAny_ready (rs := [8]) (by kernel_rfl) (by simp) ?_
              refine AllReady.cons rfl (fun K hK => ?_) AllReady.nil
              rw [if_pos (wanted_none rfl)]
              refine op_app2 (.tmp 56) (.tmp 63) 52 9 _ 16 rfl Tryz.underlying52 infoString rfl W.heap.size _ _ _ rfl (own_on HO.out hba) (HBR.out.trans (hba.mono hzr)) (Nat.le_trans hzr hba.size) (.string ((⟨#[83, 84, 65, 84, 85, 83, 58]⟩ : ByteArray) ++ ⟨#[84, 69, 78, 84, 65, 84, 73, 86, 69]⟩)) rfl rfl hcy (by have := HLN.out.h4; omega) (by decide) ?_
              intro v6 w6 hown6 hnx6 hB6
              refine hK _ _ ?_
              clear hK K
              refine wpAny_ready (rs := [9]) (by kernel_rfl) (by simp) ?_
              refine AllReady.cons rfl (fun K hK => ?_) AllReady.nil
              go_simp
              refine hK _ _ ?_
              clear hK K
              refine wpAny_done (by kernel_rfl) ?_ _
              exact r5 _ _ ⟨rfl, rfl, rfl, ⟨v6, rfl, own_line hown6 (t := staL ++ tentL) (by apply ByteArray.ext; simp [staL, tentL]) rfl rfl H5.out⟩, hnx6⟩
          · have hwl : w.heap.size < wr.heap.size := by omega
            have c1 : ∀ o, (wr.alloc o).cell? ⟨w.heap.size, 17, none⟩ = some (.int .i64 2) := fun o => (World.cell?_alloc_past _ _ _ hwl).trans c0
            have c2 : ∀ o o', ((wr.alloc o).alloc o').cell? ⟨w.heap.size, 17, none⟩ = some (.int .i64 2) := fun o o' => (World.cell?_alloc_past _ _ _ (by show w.heap.size < (wr.alloc o).heap.size; simp; omega)).trans (c1 o)
            have kp : ∀ w', Below W.heap.size W w' → w'.cell? ⟨w.heap.size, 17, none⟩ = some (.int .i64 2) := fun w' h => (h.cell (p := ⟨w.heap.size, 17, none⟩) (by show w.heap.size < W.heap.size; omega)).trans (HROW.out.cell (k := 17) rfl)
            have cn : (wr.alloc (.cells (strs statNames).toArray 9)).cell? ⟨wr.heap.size, 2, none⟩ = some (.string ⟨#[67, 65, 78, 67, 69, 76, 76, 69, 68]⟩) := (RowAt.new wr (strs statNames) 9).cell (k := 2) rfl
            have hba : Below wr.heap.size wr ((wr.alloc (.cells (strs statNames).toArray 9)).alloc (.cells #[(.string ((⟨#[83, 84, 65, 84, 85, 83, 58]⟩ : ByteArray) ++ ⟨#[67, 65, 78, 67, 69, 76, 76, 69, 68]⟩))] 9)).drew := (((Below.refl _ _).alloc (Nat.le_refl _) _).alloc (by simp) _).drew
            have hcy : ((wr.alloc (.cells (strs statNames).toArray 9)).alloc (.cells #[(.string ((⟨#[83, 84, 65, 84, 85, 83, 58]⟩ : ByteArray) ++ ⟨#[67, 65, 78, 67, 69, 76, 76, 69, 68]⟩))] 9)).drew.cell? ⟨wr.heap.size + 1, 0, none⟩ = some (.string ((⟨#[83, 84, 65, 84, 85, 83, 58]⟩ : ByteArray) ++ ⟨#[67, 65, 78, 67, 69, 76, 76, 69, 68]⟩)) := by
              have := (RowAt.new (wr.alloc (.cells (strs statNames).toArray 9)) [(.string ((⟨#[83, 84, 65, 84, 85, 83, 58]⟩ : ByteArray) ++ ⟨#[67, 65, 78, 67, 69, 76, 76, 69, 68]⟩))] 9).cell (k := 0) (y := (.string ((⟨#[83, 84, 65, 84, 85, 83, 58]⟩ : ByteArray) ++ ⟨#[67, 65, 78, 67, 69, 76, 76, 69, 68]⟩))) rfl
              rw [show (wr.alloc (.cells (strs statNames).toArray 9)).heap.size = wr.heap.size + 1 from by simp] at this
              exact this
            go_upto_region 11 with fail
            refine wp_region_any (by kernel_rfl) ?_
            change wpAny _ _ _ _ _ _ _ (World.drew _)
            refine wpAny_take (i := 0) (v := ?_) rfl (by kernel_rfl) (by kernel_rfl) (by kernel_rfl) (fun _ _ _ h => h) (Or.inl ⟨by rfl, ?_⟩) ?_
            rotate_left 1
            · intro w; go_simp <;> with_reducible rfl
            refine wpAny_take (i := 2) (v := ?_) rfl (by kernel_rfl) (by kernel_rfl) (by kernel_rfl) (fun _ _ _ h => h) (Or.inl ⟨by rfl, ?_⟩) ?_
            rotate_left 1
            · intro w; go_simp <;> with_reducible rfl
            refine wpAny_ready (rs := [1, 3]) (by kernel_rfl) (by simp) ?_
            refine AllReady.cons rfl (fun K hK => ?_) (AllReady.cons rfl (fun K hK => ?_) AllReady.nil)
            · go_simp
              go_wp2_with (go_at_call 86; refine (statusNames_any _).mono ?_; rintro e w5 ⟨rfl, rfl⟩)
              try (refine hK _ _ ?_; clear hK K)
              refine wpAny_ready (rs := [3]) (by kernel_rfl) (by simp) ?_
              refine AllReady.cons rfl (fun K hK => ?_) AllReady.nil
              go_simp
              refine hK _ _ ?_
              clear hK K
              refine wpAny_take (i := 4) (v := ?_) rfl (by kernel_rfl) (by kernel_rfl) (by kernel_rfl) (fun _ _ _ h => h) (Or.inl ⟨by rfl, ?_⟩) ?_
              rotate_left 1
              · intro w; go_simp <;> with_reducible rfl
              refine wpAny_ready (rs := [5]) (by kernel_rfl) (by simp) ?_
              refine AllReady.cons rfl (fun K hK => ?_) AllReady.nil
              go_simp
              refine hK _ _ ?_
              clear hK K
              refine wpAny_take (i := 6) (v := ?_) rfl (by kernel_rfl) (by kernel_rfl) (by kernel_rfl) (fun _ _ _ h => h) (Or.inl ⟨by rfl, ?_⟩) ?_
              rotate_left 1
              · intro w; go_simp <;> with_reducible rfl
              refine wpAny_ready (rs := [7]) (by kernel_rfl) (by simp) ?_
              refine AllReady.cons rfl (fun K hK => ?_) AllReady.nil
              go_simp
              refine hK _ _ ?_
              clear hK K
              refine wpAny_ready (rs := [8]) (by kernel_rfl) (by simp) ?_
              refine AllReady.cons rfl (fun K hK => ?_) AllReady.nil
              rw [if_pos (wanted_none rfl)]
              refine op_app2 (.tmp 56) (.tmp 63) 52 9 _ 16 rfl Tryz.underlying52 infoString rfl W.heap.size _ _ _ rfl (own_on HO.out hba) (HBR.out.trans (hba.mono hzr)) (Nat.le_trans hzr hba.size) (.string ((⟨#[83, 84, 65, 84, 85, 83, 58]⟩ : ByteArray) ++ ⟨#[67, 65, 78, 67, 69, 76, 76, 69, 68]⟩)) rfl rfl hcy (by have := HLN.out.h4; omega) (by decide) ?_
              intro v6 w6 hown6 hnx6 hB6
              refine hK _ _ ?_
              clear hK K
              refine wpAny_ready (rs := [9]) (by kernel_rfl) (by simp) ?_
              refine AllReady.cons rfl (fun K hK => ?_) AllReady.nil
              go_simp
              refine hK _ _ ?_
              clear hK K
              refine wpAny_done (by kernel_rfl) ?_ _
              exact r5 _ _ ⟨rfl, rfl, rfl, ⟨v6, rfl, own_line hown6 (t := staL ++ cancL) (by apply ByteArray.ext; simp [staL, cancL]) rfl rfl H5.out⟩, hnx6⟩
            · go_simp
              refine hK _ _ ?_
              clear hK K
              refine wpAny_ready (rs := [1]) (by kernel_rfl) (by simp) ?_
              refine AllReady.cons rfl (fun K hK => ?_) AllReady.nil
              go_simp
              go_wp2_with (go_at_call 86; refine (statusNames_any _).mono ?_; rintro e w5 ⟨rfl, rfl⟩)
              try (refine hK _ _ ?_; clear hK K)
              refine wpAny_take (i := 4) (v := ?_) rfl (by kernel_rfl) (by kernel_rfl) (by kernel_rfl) (fun _ _ _ h => h) (Or.inl ⟨by rfl, ?_⟩) ?_
              rotate_left 1
              · intro w; go_simp <;> with_reducible rfl
              refine wpAny_ready (rs := [5]) (by kernel_rfl) (by simp) ?_
              refine AllReady.cons rfl (fun K hK => ?_) AllReady.nil
              go_simp
              refine hK _ _ ?_
              clear hK K
              refine wpAny_take (i := 6) (v := ?_) rfl (by kernel_rfl) (by kernel_rfl) (by kernel_rfl) (fun _ _ _ h => h) (Or.inl ⟨by rfl, ?_⟩) ?_
              rotate_left 1
              · intro w; go_simp <;> with_reducible rfl
              refine wpAny_ready (rs := [7]) (by kernel_rfl) (by simp) ?_
              refine AllReady.cons rfl (fun K hK => ?_) AllReady.nil
              go_simp
              refine hK _ _ ?_
              clear hK K
              refine wpAny_ready (rs := [8]) (by kernel_rfl) (by simp) ?_
              refine AllReady.cons rfl (fun K hK => ?_) AllReady.nil
              rw [if_pos (wanted_none rfl)]
              refine op_app2 (.tmp 56) (.tmp 63) 52 9 _ 16 rfl Tryz.underlying52 infoString rfl W.heap.size _ _ _ rfl (own_on HO.out hba) (HBR.out.trans (hba.mono hzr)) (Nat.le_trans hzr hba.size) (.string ((⟨#[83, 84, 65, 84, 85, 83, 58]⟩ : ByteArray) ++ ⟨#[67, 65, 78, 67, 69, 76, 76, 69, 68]⟩)) rfl rfl hcy (by have := HLN.out.h4; omega) (by decide) ?_
              intro v6 w6 hown6 hnx6 hB6
              refine hK _ _ ?_
              clear hK K
              refine wpAny_ready (rs := [9]) (by kernel_rfl) (by simp) ?_
              refine AllReady.cons rfl (fun K hK => ?_) AllReady.nil
              go_simp
              refine hK _ _ ?_
              clear hK K
              refine wpAny_done (by kernel_rfl) ?_ _
              exact r5 _ _ ⟨rfl, rfl, rfl, ⟨v6, rfl, own_line hown6 (t := staL ++ cancL) (by apply ByteArray.ext; simp [staL, cancL]) rfl rfl H5.out⟩, hnx6⟩
        clear hK1
        cases tr with
        | false =>
          go_wp2_with fail
          exact ⟨rfl, rfl, rfl, ⟨.slice q3 n3 m3, rfl, by rw [H4.out, show evO false = [] from rfl, List.append_nil]; exact HO.out⟩, HBR.out⟩
        | true =>
          go_wp2_with (at_builtin; refine app_one rfl (.tmp 50) (.tmp 51) 52 9 _ 16 rfl Tryz.underlying52 infoString rfl W.heap.size _ _ _ rfl HO.out HBR.out hzr (.string ⟨#[84, 82, 65, 78, 83, 80, 58, 84, 82, 65, 78, 83, 80, 65, 82, 69, 78, 84]⟩) rfl rfl (by simp) (by have := HLN.out.h3; omega) (by decide) ?_; intro v6 w6 hown6 hnx6 hB6)
          exact ⟨rfl, rfl, rfl, ⟨v6, rfl, own_line hown6 (t := trtL) rfl (show evO true = _ from rfl) rfl H4.out⟩, hnx6⟩
      clear hK1
      by_cases hx0 : xt.length = 0
      case pos =>
        rw [hx0] at c0
        have HZ := hide hx0
        clear hx0
        go_wp2_with fail
        exact ⟨rfl, rfl, rfl, ⟨.slice q3 n3 m3, rfl, by rw [H3.out, show evD xt = [] from if_pos HZ.out, List.append_nil]; exact HO.out⟩, HBR.out⟩
      case neg =>
        have hxp : (0 : Int) < xt.length := by omega
        obtain ⟨gx, rest, hax, hrx⟩ : ∃ gx rest, a6 = some ⟨gx, 0, none⟩ ∧ RowAt w gx ((xt ++ rest).map (Value.int .i64)) 3 := intsW_pos HXT.out hx0
        have CX := timesText_any gx c6 xt rest wr (HT.out.on (HBW.out.trans (HBR.out.mono (by omega)))) (hrx.on (HBW.out.trans (HBR.out.mono (by omega)))) (by omega)
        obtain ⟨J, hJ⟩ : ∃ J : ByteArray, J = ⟨(Lib.join (xt.map ptx) [44]).toArray⟩ := ⟨_, rfl⟩
        have sJ : J.size ≤ 1000 := by rw [hJ]; exact join_small xt (by omega)
        rw [← hJ] at CX
        have HJ := hide hJ
        have CX2 := hide CX
        have HZ := hide hx0
        clear hJ CX hrx hx0
        subst hax
        go_wp2_with (first
          | (go_at_call 85; refine (CX2.out).mono ?_; rintro e w5 ⟨rfl, hb5⟩)
          | (at_builtin; refine app_one rfl (.tmp 41) (.tmp 46) 52 9 _ 16 rfl Tryz.underlying52 infoString rfl W.heap.size _ _ _ rfl (own_on HO.out hb5) (HBR.out.trans (hb5.mono hzr)) (Nat.le_trans hzr hb5.size) (.string (⟨#[82, 68, 65, 84, 69, 58]⟩ ++ J)) rfl rfl (by simp) (by have := HLN.out.h2; omega) (by decide) ?_; intro v6 w6 hown6 hnx6 hB6))
        exact ⟨rfl, rfl, rfl, ⟨v6, rfl, own_line hown6 (t := rdaL ++ Lib.join (xt.map ptx) [44]) (by rw [HJ.out]; apply ByteArray.ext; simp [rdaL]) (show evD xt = _ from if_neg HZ.out) rfl H3.out⟩, hnx6⟩
    clear hK1
    by_cases hx0 : ex.length = 0
    case pos =>
      rw [hx0] at c0
      have HZ := hide hx0
      clear hx0
      go_wp2_with fail
      exact ⟨rfl, rfl, rfl, ⟨.slice q3 n3 m3, rfl, by rw [H2.out, show evX ex = [] from if_pos HZ.out, List.append_nil]; exact HO.out⟩, HBR.out⟩
    case neg =>
      have hxp : (0 : Int) < ex.length := by omega
      obtain ⟨gx, rest, hax, hrx⟩ : ∃ gx rest, a5 = some ⟨gx, 0, none⟩ ∧ RowAt w gx ((ex ++ rest).map (Value.int .i64)) 3 := intsW_pos HEX.out hx0
      have CX := timesText_any gx c5 ex rest wr (HT.out.on (HBW.out.trans (HBR.out.mono (by omega)))) (hrx.on (HBW.out.trans (HBR.out.mono (by omega)))) (by omega)
      obtain ⟨J, hJ⟩ : ∃ J : ByteArray, J = ⟨(Lib.join (ex.map ptx) [44]).toArray⟩ := ⟨_, rfl⟩
      have sJ : J.size ≤ 1000 := by rw [hJ]; exact join_small ex (by omega)
      rw [← hJ] at CX
      have HJ := hide hJ
      have CX2 := hide CX
      have HZ := hide hx0
      clear hJ CX hrx hx0
      subst hax
      go_wp2_with (first
        | (go_at_call 85; refine (CX2.out).mono ?_; rintro e w5 ⟨rfl, hb5⟩)
        | (at_builtin; refine app_one rfl (.tmp 30) (.tmp 35) 52 9 _ 16 rfl Tryz.underlying52 infoString rfl W.heap.size _ _ _ rfl (own_on HO.out hb5) (HBR.out.trans (hb5.mono hzr)) (Nat.le_trans hzr hb5.size) (.string (⟨#[69, 88, 68, 65, 84, 69, 58]⟩ ++ J)) rfl rfl (by simp) (by have := HLN.out.h1; omega) (by decide) ?_; intro v6 w6 hown6 hnx6 hB6))
      exact ⟨rfl, rfl, rfl, ⟨v6, rfl, own_line hown6 (t := exdL ++ Lib.join (ex.map ptx) [44]) (by rw [HJ.out]; apply ByteArray.ext; simp [exdL]) (show evX ex = _ from if_neg HZ.out) rfl H2.out⟩, hnx6⟩
  clear hK1
  have c3' : w4.cell? ⟨w.heap.size, 3, none⟩ = some (.bool hr) := (HROW.out.on HB4.out).cell (k := 3) rfl
  cases hr with
  | false =>
    go_wp2_with fail
    exact ⟨rfl, rfl, rfl, ⟨.slice (some ⟨g, 0, none⟩) 4 4, rfl, by rw [H1.out, ← HRT.out]; exact HO4.out⟩, HB4.out⟩
  | true =>
    have rg : w4.rangeAt w.heap.size 4 [.int .i64 fq, .int .i64 iv, .int .i64 ct, .int .i64 un, .slice a1 l1 c1, .slice a2 l2 c2, .slice a3 l3 c3, .slice a4 l4 c4, .int .i64 ws, .string (ofL tx)] := fun j v hv => by
      refine (HROW.out.on HB4.out).cell ?_
      match j, hv with
      | 0, hv | 1, hv | 2, hv | 3, hv | 4, hv | 5, hv | 6, hv | 7, hv | 8, hv | 9, hv => exact hv
      | n + 10, hv => simp at hv
    have HRG := hide rg
    clear rg
    go_wp2_with (first
      | (refine wpList_load_mid rfl 76 (.tmp 20) rfl w.heap.size 4 rfl [.int .i64 fq, .int .i64 iv, .int .i64 ct, .int .i64 un, .slice a1 l1 c1, .slice a2 l2 c2, .slice a3 l3 c3, .slice a4 l4 c4, .int .i64 ws, .string (ofL tx)] _ HRG.out Tryz.underlying76 rfl (by kernel_rfl) ?_)
      | (go_at_call 84; refine (ruleText_any _ _ _ _ _ _ _ _ _ _ _ _ _ _ _ _ _ _ _).mono ?_; rintro e w5 ⟨rfl, hb5⟩)
      | (at_builtin; refine app_one rfl (.tmp 19) (.tmp 24) 52 9 _ 16 rfl Tryz.underlying52 infoString rfl W.heap.size _ _ _ rfl (own_on HO4.out hb5) (HB4.out.trans (hb5.mono hz4)) (Nat.le_trans hz4 hb5.size) (.string (⟨#[82, 82, 85, 76, 69, 58]⟩ ++ ofL tx)) rfl rfl (by simp) (show 4 ≤ 4194304 by decide) (by decide) ?_; intro v6 w6 hown6 hnx6 hB6))
    exact ⟨rfl, rfl, rfl, ⟨v6, rfl, own_line hown6 (t := rruL ++ tx) (by unfold ofL; apply ByteArray.ext; simp [rruL]) (show evR rt = _ by rw [← HRT.out]; rfl) rfl H1.out⟩, hnx6⟩
end Go.Proofs.YthpndgcaoeokeaaGreatDoor
namespace Go.Proofs.YthpndgcaoeokeaaGreatDoor
open Go.RowKit

/-- an event's text -/
def chkT (d : EvD) : List UInt8 := txl (evT (val d.f 0) d.st d.ln (d.rl.map fun F => Lib.join (txts F 9) [59]) d.ex d.xt (openOf d.f) (kindOf d.f - 1))
/-- what Check answers -/
def chkV (s : List UInt8) : Value := match readF s with
  | .error x => .tuple #[.string ⟨#[]⟩, .int .i64 x]
  | .ok d => .tuple #[.string ⟨(chkT d).toArray⟩, .int .i64 0]
theorem read_ok {s : List UInt8} {d : EvD} (h : readF s = .ok d) : fieldsF s = some d.f ∧ timF (val d.f 1) = some d.st ∧ lnF d.st (d.f 3) (d.f 2) = some d.ln ∧ tmO (d.f 5) = some d.ex ∧ tmO (d.f 6) = some d.xt ∧ rlO (d.f 4) = some d.rl := by
  unfold readF at h
  cases hf : fieldsF s with
  | none => rw [hf] at h; cases h
  | some f =>
    rw [hf] at h
    simp only [] at h
    cases h1 : timF (val f 1) with
    | none => rw [h1] at h; cases h
    | some st =>
      rw [h1] at h
      simp only [] at h
      cases h2 : lnF st (f 3) (f 2) with
      | none => rw [h2] at h; cases h
      | some ln =>
        rw [h2] at h
        simp only [] at h
        cases h3 : tmO (f 5) with
        | none => rw [h3] at h; cases h
        | some ex =>
          rw [h3] at h
          simp only [] at h
          cases h4 : tmO (f 6) with
          | none => rw [h4] at h; cases h
          | some xt =>
            rw [h4] at h
            simp only [] at h
            cases h5 : rlO (f 4) with
            | none => rw [h5] at h; cases h
            | some rl =>
              rw [h5] at h
              cases h
              exact ⟨rfl, h1, h2, h3, h4, h5⟩
theorem kind_bd {f : Nat → Option (List UInt8)} (h : words2 f = true) : 0 ≤ kindOf f - 1 ∧ kindOf f - 1 ≤ 2 := by
  unfold words2 at h
  unfold kindOf
  cases h8 : has f 8 with
  | false => simp
  | true =>
    rw [h8] at h
    simp only [Bool.and_eq_true, Bool.not_eq_true', Bool.true_and, decide_eq_false_iff_not] at h
    have h2 := h.2
    rw [if_pos rfl]
    unfold wrd at h2 ⊢
    repeat' split at h2
    all_goals (repeat' split)
    all_goals first | omega | simp_all
theorem fields_ok {s : List UInt8} {f : Nat → Option (List UInt8)} (h : fieldsF s = some f) : framed s = true ∧ flds propNames 58 (innerL (evLs s)) (fun _ => none) = some f ∧ must f = true ∧ words2 f = true := by
  unfold fieldsF at h
  split at h
  · rename_i hf
    cases h6 : flds propNames 58 (innerL (evLs s)) (fun _ => none) with
    | none => rw [h6] at h; cases h
    | some f' =>
      rw [h6] at h
      simp only [] at h
      split at h
      · rename_i hc
        cases h
        rw [Bool.and_eq_true] at hc
        exact ⟨hf, rfl, hc.1, hc.2⟩
      · cases h
  · cases h
end Go.Proofs.YthpndgcaoeokeaaGreatDoor
