/- A rule to begin with (the program's): the start's day where no part says which days fit. The choices of the periods in turn (the program's), as an iterator. A drawn region whose operations each leave a value in a slot of their own, and that only grows the memory: what each leaves, by its number. Of no program. Operations by their operands' values: fields' addresses, loads, texts put together. -/
import Derived.Test.YthpndgcaoeokeaaGreatDoorCm18
import Derived.Lib.QuietBelowIn
import Derived.Sort.BigQuietIn
import Derived.Sort.CutIn
namespace Go.Proofs.YthpndgcaoeokeaaGreatDoor
open Go.RowKit Go.Sort

def startW (r : RuleD) (s : Int) : RuleD :=
  if 0 < r.mds.length ∨ 0 < r.wks.length then r
  else if r.fq = 1 then { r with wks := [(0, (s + 719470) % 7)] }
  else if r.fq = 2 then { r with mds := [Cal.ofD s] }
  else if r.fq = 3 then (if r.ms.length = 0 then { r with mds := [Cal.ofD s], ms := [Cal.ofM s] } else { r with mds := [Cal.ofD s] })
  else r
/-- the blocks of the lists -/
def LB (m md wk pl : Value) : Blocks := fun k => m.ownBlock = some k ∨ md.ownBlock = some k ∨ wk.ownBlock = some k ∨ pl.ownBlock = some k
theorem IntsV.keep {w w' : World} {v : Value} {zs : List Int} (h : IntsV w v zs) (hk : ∀ k, v.ownBlock = some k → w'.heap[k]? = w.heap[k]?) : IntsV w' v zs :=
  h.imp id fun ⟨g, h1, h2⟩ => ⟨g, h1, (hk g (by rw [h1]; rfl)).trans h2⟩
theorem WksV.keep {w w' : World} {v : Value} {zs : List (Int × Int)} (h : WksV w v zs) (hk : ∀ k, v.ownBlock = some k → w'.heap[k]? = w.heap[k]?) : WksV w' v zs :=
  h.imp id fun ⟨g, h1, h2⟩ => ⟨g, h1, (hk g (by rw [h1]; rfl)).trans h2⟩
theorem RuleL.keep {w w' : World} {r : RuleD} {m md wk pl : Value} (h : RuleL w r m md wk pl) (hk : ∀ k, LB m md wk pl k → w'.heap[k]? = w.heap[k]?) : RuleL w' r m md wk pl :=
  ⟨h.ms.keep fun k e => hk k (.inl e), h.mds.keep fun k e => hk k (.inr (.inl e)), h.wks.keep fun k e => hk k (.inr (.inr (.inl e))), h.pls.keep fun k e => hk k (.inr (.inr (.inr e)))⟩
theorem IntsV.blk {w : World} {v : Value} {zs : List Int} (h : IntsV w v zs) {k : Nat} (e : v.ownBlock = some k) : k < w.heap.size := by
  rcases h with ⟨rfl, _⟩ | ⟨g, rfl, h2⟩
  · cases e
  · cases e; exact h2.lt
theorem WksV.blk {w : World} {v : Value} {zs : List (Int × Int)} (h : WksV w v zs) {k : Nat} (e : v.ownBlock = some k) : k < w.heap.size := by
  rcases h with ⟨rfl, _⟩ | ⟨g, rfl, h2⟩
  · cases e
  · cases e; exact h2.lt
theorem RuleL.blk {w : World} {r : RuleD} {m md wk pl : Value} (h : RuleL w r m md wk pl) {k : Nat} (e : LB m md wk pl k) : k < w.heap.size := by
  rcases e with e | e | e | e
  · exact h.ms.blk e
  · exact h.mds.blk e
  · exact h.wks.blk e
  · exact h.pls.blk e
theorem startW_ok {r : RuleD} (h : RuleOk r) (s : Int) : RuleOk (startW r s) := by
  unfold startW
  split
  · exact h
  · split
    · exact { h with wks := (by simp), ord := (by intro p hp; simp at hp; subst hp; simp) }
    · split
      · exact { h with mds := (by simp) }
      · split
        · split
          · exact { h with mds := (by simp), ms := (by simp) }
          · exact { h with mds := (by simp) }
        · exact h

def StP (w : World) (r : RuleD) (s : Int) (tx : ByteArray) (m md wk pl : Value) : Ending → World → Prop := fun e w' =>
  ∃ m' md' wk', e = .returned (ruleV (startW r s).fq (startW r s).iv (startW r s).ct (startW r s).un m' md' wk' pl (startW r s).ws tx) ∧ RuleL w' (startW r s) m' md' wk' pl ∧ Below w.heap.size w w' ∧ (∀ k, LB m' md' wk' pl k → LB m md wk pl k ∨ w.heap.size ≤ k)

set_option maxRecDepth 100000 in
set_option maxHeartbeats 8000000 in
theorem startingWith_n (r : RuleD) (m md wk pl : Value) (tx : ByteArray) (s : Int) (w : World) (hl : RuleL w r m md wk pl) (ho : RuleOk r) (s0 : 0 ≤ s) (s1 : s ≤ 84010) :
    Calls Tryz.prog 314 #[ruleV r.fq r.iv r.ct r.un m md wk pl r.ws tx, dnV s] w (StP w r s tx m md wk pl) := by
  have hf0 := ho.fq0
  have hf3 := ho.fq3
  obtain ⟨a1, e1⟩ := hl.ms.form
  obtain ⟨a2, e2⟩ := hl.mds.form
  obtain ⟨a3, e3⟩ := hl.wks.form
  obtain ⟨a4, e4⟩ := hl.pls.form
  have hD : Hid (∀ W, Calls Tryz.prog 339 #[dnV s] W fun e w' => e = .returned (.int .i64 ((s + 719470) % 7)) ∧ Below W.heap.size W w') := hide fun W => weekday_n s W (by omega) (by omega)
  -- what is said at each end
  have fin : ∀ (m' md' wk' : Value) (r' : RuleD) (e : Ending) (W' : World), startW r s = r' → e = .returned (ruleV r'.fq r'.iv r'.ct r'.un m' md' wk' pl r'.ws tx) → RuleL W' r' m' md' wk' pl → Below w.heap.size w W' → (∀ k, LB m' md' wk' pl k → LB m md wk pl k ∨ w.heap.size ≤ k) → StP w r s tx m md wk pl e W' :=
    fun m' md' wk' r' e W' h1 h2 h3 h4 h5 => ⟨m', md', wk', by rw [h1]; exact h2, by rw [h1]; exact h3, h4, h5⟩
  have hA : Hid (∀ (h : 0 < r.mds.length ∨ 0 < r.wks.length ∨ r.fq = 0) (e : Ending) (W' : World), e = .returned (ruleV r.fq r.iv r.ct r.un m md wk pl r.ws tx) → Below w.heap.size w W' → StP w r s tx m md wk pl e W') := hide fun h e W' he hb =>
    fin m md wk r e W' (by unfold startW; split; rfl; rw [if_neg (by omega), if_neg (by omega), if_neg (by omega)]) he (hl.on hb) hb fun k hk => .inl hk
  have h1 : Hid (r.mds.length = 0 → r.wks.length = 0 → r.fq = 1 → ∀ (g : Nat) (e : Ending) (W' : World), w.heap.size ≤ g → RowAt W' g [.int .i64 0, .int .i64 ((s + 719470) % 7)] 183 → e = .returned (ruleV r.fq r.iv r.ct r.un m md (.slice (some ⟨g, 0, none⟩) 1 1) pl r.ws tx) → Below w.heap.size w W' → StP w r s tx m md wk pl e W') := hide fun h h' hq g e W' hg hrow he hb =>
    fin m md (.slice (some ⟨g, 0, none⟩) 1 1) { r with wks := [(0, (s + 719470) % 7)] } e W' (by unfold startW; rw [if_neg (by omega), if_pos hq]) he ⟨hl.ms.on hb, hl.mds.on hb, .inr ⟨g, rfl, hrow⟩, hl.pls.on hb⟩ hb fun k hk => by
      rcases hk with hk | hk | hk | hk
      · exact .inl (.inl hk)
      · exact .inl (.inr (.inl hk))
      · cases hk; exact .inr hg
      · exact .inl (.inr (.inr (.inr hk)))
  have h2 : Hid (r.mds.length = 0 → r.wks.length = 0 → (r.fq = 2 ∨ r.fq = 3 ∧ r.ms.length ≠ 0) → ∀ (g : Nat) (e : Ending) (W' : World), w.heap.size ≤ g → RowAt W' g [.int .i64 (Cal.ofD s)] 3 → e = .returned (ruleV r.fq r.iv r.ct r.un m (.slice (some ⟨g, 0, none⟩) 1 1) wk pl r.ws tx) → Below w.heap.size w W' → StP w r s tx m md wk pl e W') := hide fun h h' hq g e W' hg hrow he hb =>
    fin m (.slice (some ⟨g, 0, none⟩) 1 1) wk { r with mds := [Cal.ofD s] } e W' (by
      unfold startW
      rw [if_neg (by omega), if_neg (by omega)]
      rcases hq with hq | ⟨hq, hn⟩
      · rw [if_pos hq]
      · rw [if_neg (by omega), if_pos hq, if_neg hn]) he ⟨hl.ms.on hb, .inr ⟨g, rfl, hrow⟩, hl.wks.on hb, hl.pls.on hb⟩ hb fun k hk => by
      rcases hk with hk | hk | hk | hk
      · exact .inl (.inl hk)
      · cases hk; exact .inr hg
      · exact .inl (.inr (.inr (.inl hk)))
      · exact .inl (.inr (.inr (.inr hk)))
  have h3 : Hid (r.mds.length = 0 → r.wks.length = 0 → r.fq = 3 → r.ms.length = 0 → ∀ (g g' : Nat) (e : Ending) (W' : World), w.heap.size ≤ g → w.heap.size ≤ g' → RowAt W' g [.int .i64 (Cal.ofD s)] 3 → RowAt W' g' [.int .i64 (Cal.ofM s)] 3 → e = .returned (ruleV r.fq r.iv r.ct r.un (.slice (some ⟨g', 0, none⟩) 1 1) (.slice (some ⟨g, 0, none⟩) 1 1) wk pl r.ws tx) → Below w.heap.size w W' → StP w r s tx m md wk pl e W') := hide fun h h' hq hn g g' e W' hg hg' hrow hrow' he hb =>
    fin (.slice (some ⟨g', 0, none⟩) 1 1) (.slice (some ⟨g, 0, none⟩) 1 1) wk { r with mds := [Cal.ofD s], ms := [Cal.ofM s] } e W' (by
      unfold startW
      rw [if_neg (by omega), if_neg (by omega), if_neg (by omega), if_pos hq, if_pos hn]) he ⟨.inr ⟨g', rfl, hrow'⟩, .inr ⟨g, rfl, hrow⟩, hl.wks.on hb, hl.pls.on hb⟩ hb fun k hk => by
      rcases hk with hk | hk | hk | hk
      · cases hk; exact .inr hg'
      · cases hk; exact .inr hg
      · exact .inl (.inr (.inr (.inl hk)))
      · exact .inl (.inr (.inr (.inr hk)))
  clear fin hl ho
  generalize StP w r s tx m md wk pl = Q at *
  generalize r.ms.length = n1 at *
  generalize r.mds.length = n2 at *
  generalize r.wks.length = n3 at *
  generalize r.pls.length = n4 at *
  generalize r.fq = fq at *
  generalize r.iv = iv at *
  generalize r.ct = ct at *
  generalize r.un = un at *
  generalize r.ws = ws at *
  subst e1 e2 e3 e4
  unfold dnV dayA ruleV at *
  have hk7 : 0 ≤ (s + 719470) % 7 ∧ (s + 719470) % 7 ≤ 6 := by omega
  generalize (s + 719470) % 7 = wd at *
  have r0 := row3_0 w [.int .i64 fq, .int .i64 iv, .int .i64 ct, .int .i64 un, .slice a1 n1 n1, .slice a2 n2 n2, .slice a3 n3 n3, .slice a4 n4 n4, .int .i64 ws, .string tx] 76 (.cells #[.int .i64 (Cal.ofY s), .int .i64 (Cal.ofM s), .int .i64 (Cal.ofD s)] 106) (.cells #[.int .i64 0, .int .i64 0, .int .i64 0, .int .i64 0, .slice none 0 0, .slice none 0 0, .slice none 0 0, .slice none 0 0, .int .i64 0, .string ⟨#[]⟩] 76)
  have r1 := row3_1 w (.cells #[.int .i64 fq, .int .i64 iv, .int .i64 ct, .int .i64 un, .slice a1 n1 n1, .slice a2 n2 n2, .slice a3 n3 n3, .slice a4 n4 n4, .int .i64 ws, .string tx] 76) [.int .i64 (Cal.ofY s), .int .i64 (Cal.ofM s), .int .i64 (Cal.ofD s)] 106 (.cells #[.int .i64 0, .int .i64 0, .int .i64 0, .int .i64 0, .slice none 0 0, .slice none 0 0, .slice none 0 0, .slice none 0 0, .int .i64 0, .string ⟨#[]⟩] 76)
  have r2 := row3_2 w (.cells #[.int .i64 fq, .int .i64 iv, .int .i64 ct, .int .i64 un, .slice a1 n1 n1, .slice a2 n2 n2, .slice a3 n3 n3, .slice a4 n4 n4, .int .i64 ws, .string tx] 76) (.cells #[.int .i64 (Cal.ofY s), .int .i64 (Cal.ofM s), .int .i64 (Cal.ofD s)] 106) [.int .i64 0, .int .i64 0, .int .i64 0, .int .i64 0, .slice none 0 0, .slice none 0 0, .slice none 0 0, .slice none 0 0, .int .i64 0, .string ⟨#[]⟩] 76
  have hbw := bl_three w (.cells #[.int .i64 fq, .int .i64 iv, .int .i64 ct, .int .i64 un, .slice a1 n1 n1, .slice a2 n2 n2, .slice a3 n3 n3, .slice a4 n4 n4, .int .i64 ws, .string tx] 76) (.cells #[.int .i64 (Cal.ofY s), .int .i64 (Cal.ofM s), .int .i64 (Cal.ofD s)] 106) (.cells #[.int .i64 0, .int .i64 0, .int .i64 0, .int .i64 0, .slice none 0 0, .slice none 0 0, .slice none 0 0, .slice none 0 0, .int .i64 0, .string ⟨#[]⟩] 76)
  have hsz : (((w.alloc (.cells #[.int .i64 fq, .int .i64 iv, .int .i64 ct, .int .i64 un, .slice a1 n1 n1, .slice a2 n2 n2, .slice a3 n3 n3, .slice a4 n4 n4, .int .i64 ws, .string tx] 76)).alloc (.cells #[.int .i64 (Cal.ofY s), .int .i64 (Cal.ofM s), .int .i64 (Cal.ofD s)] 106)).alloc (.cells #[.int .i64 0, .int .i64 0, .int .i64 0, .int .i64 0, .slice none 0 0, .slice none 0 0, .slice none 0 0, .slice none 0 0, .int .i64 0, .string ⟨#[]⟩] 76)).heap.size ≥ w.heap.size + 3 := by simp
  go_enter Tryz.func314, Tryz.ntmps314
  go_upto_region 1 with fail
  generalize ((w.alloc (.cells #[.int .i64 fq, .int .i64 iv, .int .i64 ct, .int .i64 un, .slice a1 n1 n1, .slice a2 n2 n2, .slice a3 n3 n3, .slice a4 n4 n4, .int .i64 ws, .string tx] 76)).alloc (.cells #[.int .i64 (Cal.ofY s), .int .i64 (Cal.ofM s), .int .i64 (Cal.ofD s)] 106)).alloc (.cells #[.int .i64 0, .int .i64 0, .int .i64 0, .int .i64 0, .slice none 0 0, .slice none 0 0, .slice none 0 0, .slice none 0 0, .int .i64 0, .string ⟨#[]⟩] 76) = W at *
  by_cases hmd : 0 < n2
  · have hA' := hide (hA.out (.inl hmd))
    clear hA h1 h2 h3 hD
    have hmd' : (0 : Int) < n2 := by omega
    have rZ0 := r0
    have rZ2 := r2
    have hbZ := hbw
    clear r0 r1 r2
    obtain ⟨g0, g1, g2, g3, g4, g5, g6, g7, g8, g9⟩ := cells10 rZ0
    obtain ⟨z0, z1, z2, z3, z4, z5, z6, z7, z8, z9⟩ := cells10 rZ2
    have y0 := rZ2.free (k := 0)
    have y1 := rZ2.free (k := 1)
    have y2 := rZ2.free (k := 2)
    have y3 := rZ2.free (k := 3)
    have y4 := rZ2.free (k := 4)
    have y5 := rZ2.free (k := 5)
    have y6 := rZ2.free (k := 6)
    have y7 := rZ2.free (k := 7)
    have y8 := rZ2.free (k := 8)
    have y9 := rZ2.free (k := 9)
    go_wp2_with fail
    exact bodyPost_ret (v := .agg #[.int .i64 fq, .int .i64 iv, .int .i64 ct, .int .i64 un, .slice a1 n1 n1, .slice a2 n2 n2, .slice a3 n3 n3, .slice a4 n4 n4, .int .i64 ws, .string tx]) (by simp [results, Tryz.results314, go_sem, z0, z1, z2, z3, z4, z5, z6, z7, z8, z9]) rfl (hA'.out _ _ rfl ((((((((((hbZ.setCell (by simp; omega) _).setCell (by simp; omega) _).setCell (by simp; omega) _).setCell (by simp; omega) _).setCell (by simp; omega) _).setCell (by simp; omega) _).setCell (by simp; omega) _).setCell (by simp; omega) _).setCell (by simp; omega) _).setCell (by simp; omega) _))
  · obtain rfl : n2 = 0 := by omega
    clear hmd
    by_cases hwk : 0 < n3
    · have hA' := hide (hA.out (.inr (.inl hwk)))
      clear hA h1 h2 h3 hD
      have hwk' : (0 : Int) < n3 := by omega
      have rZ0 := r0
      have rZ2 := r2
      have hbZ := hbw
      clear r0 r1 r2
      obtain ⟨g0, g1, g2, g3, g4, g5, g6, g7, g8, g9⟩ := cells10 rZ0
      obtain ⟨z0, z1, z2, z3, z4, z5, z6, z7, z8, z9⟩ := cells10 rZ2
      have y0 := rZ2.free (k := 0)
      have y1 := rZ2.free (k := 1)
      have y2 := rZ2.free (k := 2)
      have y3 := rZ2.free (k := 3)
      have y4 := rZ2.free (k := 4)
      have y5 := rZ2.free (k := 5)
      have y6 := rZ2.free (k := 6)
      have y7 := rZ2.free (k := 7)
      have y8 := rZ2.free (k := 8)
      have y9 := rZ2.free (k := 9)
      go_wp2_with fail
      exact bodyPost_ret (v := .agg #[.int .i64 fq, .int .i64 iv, .int .i64 ct, .int .i64 un, .slice a1 n1 n1, .slice a2 0 0, .slice a3 n3 n3, .slice a4 n4 n4, .int .i64 ws, .string tx]) (by simp [results, Tryz.results314, go_sem, z0, z1, z2, z3, z4, z5, z6, z7, z8, z9]) rfl (hA'.out _ _ rfl ((((((((((hbZ.setCell (by simp; omega) _).setCell (by simp; omega) _).setCell (by simp; omega) _).setCell (by simp; omega) _).setCell (by simp; omega) _).setCell (by simp; omega) _).setCell (by simp; omega) _).setCell (by simp; omega) _).setCell (by simp; omega) _).setCell (by simp; omega) _))
    · obtain rfl : n3 = 0 := by omega
      clear hwk
      rcases (by omega : fq = 0 ∨ fq = 1 ∨ fq = 2 ∨ fq = 3) with rfl | rfl | rfl | rfl
      · have hA' := hide (hA.out (.inr (.inr rfl)))
        clear hA h1 h2 h3 hD
        have rZ0 := r0
        have rZ2 := r2
        have hbZ := hbw
        clear r0 r1 r2
        obtain ⟨g0, g1, g2, g3, g4, g5, g6, g7, g8, g9⟩ := cells10 rZ0
        obtain ⟨z0, z1, z2, z3, z4, z5, z6, z7, z8, z9⟩ := cells10 rZ2
        have y0 := rZ2.free (k := 0)
        have y1 := rZ2.free (k := 1)
        have y2 := rZ2.free (k := 2)
        have y3 := rZ2.free (k := 3)
        have y4 := rZ2.free (k := 4)
        have y5 := rZ2.free (k := 5)
        have y6 := rZ2.free (k := 6)
        have y7 := rZ2.free (k := 7)
        have y8 := rZ2.free (k := 8)
        have y9 := rZ2.free (k := 9)
        go_wp2_with fail
        exact bodyPost_ret (v := .agg #[.int .i64 0, .int .i64 iv, .int .i64 ct, .int .i64 un, .slice a1 n1 n1, .slice a2 0 0, .slice a3 0 0, .slice a4 n4 n4, .int .i64 ws, .string tx]) (by simp [results, Tryz.results314, go_sem, z0, z1, z2, z3, z4, z5, z6, z7, z8, z9]) rfl (hA'.out _ _ rfl ((((((((((hbZ.setCell (by simp; omega) _).setCell (by simp; omega) _).setCell (by simp; omega) _).setCell (by simp; omega) _).setCell (by simp; omega) _).setCell (by simp; omega) _).setCell (by simp; omega) _).setCell (by simp; omega) _).setCell (by simp; omega) _).setCell (by simp; omega) _))
      · have h1' := hide (h1.out rfl rfl rfl)
        clear hA h1 h2 h3
        obtain ⟨g0, g1, g2, g3, g4, g5, g6, g7, g8, g9⟩ := cells10 r0
        obtain ⟨c0, c1, c2, _, _, _⟩ := cells3 r1
        go_wp2_with fail
        refine (hD.out _).mono ?_
        rintro e w3 ⟨rfl, hb3⟩
        replace r0 := r0.on hb3
        replace r2 := r2.on hb3
        replace hbw := hbw.trans (hb3.mono hbw.size)
        replace hsz : w.heap.size + 3 ≤ w3.heap.size := by have := hb3.size; omega
        clear hb3 g0 g1 g2 g3 g4 g5 g6 g7 g8 g9 c0 c1 c2 r1
        have hba : Below w3.heap.size w3 (w3.alloc (.cells #[.int .i64 0, .int .i64 wd] 183)) := (Below.refl _ _).alloc (Nat.le_refl _) _
        have rN : RowAt (w3.alloc (.cells #[.int .i64 0, .int .i64 wd] 183)) w3.heap.size [.int .i64 0, .int .i64 wd] 183 := RowAt.new w3 [.int .i64 0, .int .i64 wd] 183
        replace r0 := r0.on hba
        replace r2 := r2.on hba
        replace hbw := hbw.trans (hba.mono hbw.size)
        have c6 := r0.cell (k := 6) rfl
        have f6 := r0.free (k := 6)
        go_upto_region 12 with fail
        clear c6 f6
        have rZ0 : RowAt ((w3.alloc (.cells #[.int .i64 0, .int .i64 wd] 183)).setCell ⟨w.heap.size, 6, none⟩ (.slice (some ⟨w3.heap.size, 0, none⟩) 1 1)) w.heap.size [.int .i64 1, .int .i64 iv, .int .i64 ct, .int .i64 un, .slice a1 n1 n1, .slice a2 0 0, .slice (some ⟨w3.heap.size, 0, none⟩) 1 1, .slice a4 n4 n4, .int .i64 ws, .string tx] 76 := r0.set (k := 6) _
        have rZ2 := r2.other (b := w.heap.size) (k := 6) (by omega) (.slice (some ⟨w3.heap.size, 0, none⟩) 1 1)
        have rZN := rN.other (b := w.heap.size) (k := 6) (by omega) (.slice (some ⟨w3.heap.size, 0, none⟩) 1 1)
        have hbZ := hbw.setCell (p := ⟨w.heap.size, 6, none⟩) (Nat.le_refl _) (.slice (some ⟨w3.heap.size, 0, none⟩) 1 1)
        generalize (w3.alloc (.cells #[.int .i64 0, .int .i64 wd] 183)).setCell ⟨w.heap.size, 6, none⟩ (.slice (some ⟨w3.heap.size, 0, none⟩) 1 1) = WZ at *
        clear r0 r2 rN hbw hba
        obtain ⟨g0, g1, g2, g3, g4, g5, g6, g7, g8, g9⟩ := cells10 rZ0
        obtain ⟨z0, z1, z2, z3, z4, z5, z6, z7, z8, z9⟩ := cells10 rZ2
        have y0 := rZ2.free (k := 0)
        have y1 := rZ2.free (k := 1)
        have y2 := rZ2.free (k := 2)
        have y3 := rZ2.free (k := 3)
        have y4 := rZ2.free (k := 4)
        have y5 := rZ2.free (k := 5)
        have y6 := rZ2.free (k := 6)
        have y7 := rZ2.free (k := 7)
        have y8 := rZ2.free (k := 8)
        have y9 := rZ2.free (k := 9)
        go_wp2_with fail
        exact bodyPost_ret (v := .agg #[.int .i64 1, .int .i64 iv, .int .i64 ct, .int .i64 un, .slice a1 n1 n1, .slice a2 0 0, .slice (some ⟨w3.heap.size, 0, none⟩) 1 1, .slice a4 n4 n4, .int .i64 ws, .string tx]) (by simp [results, Tryz.results314, go_sem, z0, z1, z2, z3, z4, z5, z6, z7, z8, z9]) rfl (h1'.out _ _ _ (by omega) ((((((((((rZN.other (by omega) _).other (by omega) _).other (by omega) _).other (by omega) _).other (by omega) _).other (by omega) _).other (by omega) _).other (by omega) _).other (by omega) _).other (by omega) _) rfl ((((((((((hbZ.setCell (by simp; omega) _).setCell (by simp; omega) _).setCell (by simp; omega) _).setCell (by simp; omega) _).setCell (by simp; omega) _).setCell (by simp; omega) _).setCell (by simp; omega) _).setCell (by simp; omega) _).setCell (by simp; omega) _).setCell (by simp; omega) _))
      · have h2' := hide (h2.out rfl rfl (.inl rfl))
        clear hA h1 h2 h3 hD
        obtain ⟨g0, g1, g2, g3, g4, g5, g6, g7, g8, g9⟩ := cells10 r0
        obtain ⟨c0, c1, c2, _, _, _⟩ := cells3 r1
        have hba : Below W.heap.size W (W.alloc (.cells #[.int .i64 (Cal.ofD s)] 3)) := (Below.refl _ _).alloc (Nat.le_refl _) _
        have rN : RowAt (W.alloc (.cells #[.int .i64 (Cal.ofD s)] 3)) W.heap.size [.int .i64 (Cal.ofD s)] 3 := RowAt.new W [.int .i64 (Cal.ofD s)] 3
        have r0a := r0.on hba
        have r1a := r1.on hba
        have r2a := r2.on hba
        replace hbw := hbw.trans (hba.mono hbw.size)
        have c6 := r0a.cell (k := 5) rfl
        have f6 := r0a.free (k := 5)
        go_upto_region 12 with fail
        clear c6 f6 g0 g1 g2 g3 g4 g5 g6 g7 g8 g9 c0 c1 c2 r0 r1 r2
        have rZ0 : RowAt ((W.alloc (.cells #[.int .i64 (Cal.ofD s)] 3)).setCell ⟨w.heap.size, 5, none⟩ (.slice (some ⟨W.heap.size, 0, none⟩) 1 1)) w.heap.size [.int .i64 2, .int .i64 iv, .int .i64 ct, .int .i64 un, .slice a1 n1 n1, .slice (some ⟨W.heap.size, 0, none⟩) 1 1, .slice a3 0 0, .slice a4 n4 n4, .int .i64 ws, .string tx] 76 := r0a.set (k := 5) _
        have rZ1 := r1a.other (b := w.heap.size) (k := 5) (by omega) (.slice (some ⟨W.heap.size, 0, none⟩) 1 1)
        have rZ2 := r2a.other (b := w.heap.size) (k := 5) (by omega) (.slice (some ⟨W.heap.size, 0, none⟩) 1 1)
        have rZN := rN.other (b := w.heap.size) (k := 5) (by omega) (.slice (some ⟨W.heap.size, 0, none⟩) 1 1)
        have hbZ := hbw.setCell (p := ⟨w.heap.size, 5, none⟩) (Nat.le_refl _) (.slice (some ⟨W.heap.size, 0, none⟩) 1 1)
        have hszZ : W.heap.size < ((W.alloc (.cells #[.int .i64 (Cal.ofD s)] 3)).setCell ⟨w.heap.size, 5, none⟩ (.slice (some ⟨W.heap.size, 0, none⟩) 1 1)).heap.size := by rw [World.size_setCell]; simp
        generalize (W.alloc (.cells #[.int .i64 (Cal.ofD s)] 3)).setCell ⟨w.heap.size, 5, none⟩ (.slice (some ⟨W.heap.size, 0, none⟩) 1 1) = WZ at *
        clear r0a r1a r2a rN hbw hba
        obtain ⟨g0, g1, g2, g3, g4, g5, g6, g7, g8, g9⟩ := cells10 rZ0
        obtain ⟨z0, z1, z2, z3, z4, z5, z6, z7, z8, z9⟩ := cells10 rZ2
        have y0 := rZ2.free (k := 0)
        have y1 := rZ2.free (k := 1)
        have y2 := rZ2.free (k := 2)
        have y3 := rZ2.free (k := 3)
        have y4 := rZ2.free (k := 4)
        have y5 := rZ2.free (k := 5)
        have y6 := rZ2.free (k := 6)
        have y7 := rZ2.free (k := 7)
        have y8 := rZ2.free (k := 8)
        have y9 := rZ2.free (k := 9)
        go_wp2_with fail
        exact bodyPost_ret (v := .agg #[.int .i64 2, .int .i64 iv, .int .i64 ct, .int .i64 un, .slice a1 n1 n1, .slice (some ⟨W.heap.size, 0, none⟩) 1 1, .slice a3 0 0, .slice a4 n4 n4, .int .i64 ws, .string tx]) (by simp [results, Tryz.results314, go_sem, z0, z1, z2, z3, z4, z5, z6, z7, z8, z9]) rfl (h2'.out _ _ _ (by omega) ((((((((((rZN.other (by omega) _).other (by omega) _).other (by omega) _).other (by omega) _).other (by omega) _).other (by omega) _).other (by omega) _).other (by omega) _).other (by omega) _).other (by omega) _) rfl ((((((((((hbZ.setCell (by simp; omega) _).setCell (by simp; omega) _).setCell (by simp; omega) _).setCell (by simp; omega) _).setCell (by simp; omega) _).setCell (by simp; omega) _).setCell (by simp; omega) _).setCell (by simp; omega) _).setCell (by simp; omega) _).setCell (by simp; omega) _))
      · by_cases hn1 : n1 = 0
        case neg =>
          have h2' := hide (h2.out rfl rfl (.inr ⟨rfl, hn1⟩))
          clear hA h1 h2 h3 hD
          have hn1' : ((n1 : Int) == 0) = false := by simpa using hn1
          obtain ⟨g0, g1, g2, g3, g4, g5, g6, g7, g8, g9⟩ := cells10 r0
          obtain ⟨c0, c1, c2, _, _, _⟩ := cells3 r1
          have hba : Below W.heap.size W (W.alloc (.cells #[.int .i64 (Cal.ofD s)] 3)) := (Below.refl _ _).alloc (Nat.le_refl _) _
          have rN : RowAt (W.alloc (.cells #[.int .i64 (Cal.ofD s)] 3)) W.heap.size [.int .i64 (Cal.ofD s)] 3 := RowAt.new W [.int .i64 (Cal.ofD s)] 3
          have r0a := r0.on hba
          have r1a := r1.on hba
          have r2a := r2.on hba
          replace hbw := hbw.trans (hba.mono hbw.size)
          have c6 := r0a.cell (k := 5) rfl
          have f6 := r0a.free (k := 5)
          go_upto_region 10 with fail
          clear c6 f6 g0 g1 g2 g3 g4 g5 g6 g7 g8 g9 c0 c1 c2 r0 r1 r2
          have rZ0 : RowAt ((W.alloc (.cells #[.int .i64 (Cal.ofD s)] 3)).setCell ⟨w.heap.size, 5, none⟩ (.slice (some ⟨W.heap.size, 0, none⟩) 1 1)) w.heap.size [.int .i64 3, .int .i64 iv, .int .i64 ct, .int .i64 un, .slice a1 n1 n1, .slice (some ⟨W.heap.size, 0, none⟩) 1 1, .slice a3 0 0, .slice a4 n4 n4, .int .i64 ws, .string tx] 76 := r0a.set (k := 5) _
          have rZ1 := r1a.other (b := w.heap.size) (k := 5) (by omega) (.slice (some ⟨W.heap.size, 0, none⟩) 1 1)
          have rZ2 := r2a.other (b := w.heap.size) (k := 5) (by omega) (.slice (some ⟨W.heap.size, 0, none⟩) 1 1)
          have rZN := rN.other (b := w.heap.size) (k := 5) (by omega) (.slice (some ⟨W.heap.size, 0, none⟩) 1 1)
          have hbZ := hbw.setCell (p := ⟨w.heap.size, 5, none⟩) (Nat.le_refl _) (.slice (some ⟨W.heap.size, 0, none⟩) 1 1)
          have hszZ : W.heap.size < ((W.alloc (.cells #[.int .i64 (Cal.ofD s)] 3)).setCell ⟨w.heap.size, 5, none⟩ (.slice (some ⟨W.heap.size, 0, none⟩) 1 1)).heap.size := by rw [World.size_setCell]; simp
          generalize (W.alloc (.cells #[.int .i64 (Cal.ofD s)] 3)).setCell ⟨w.heap.size, 5, none⟩ (.slice (some ⟨W.heap.size, 0, none⟩) 1 1) = WZ at *
          clear r0a r1a r2a rN hbw hba
          obtain ⟨g0, g1, g2, g3, g4, g5, g6, g7, g8, g9⟩ := cells10 rZ0
          obtain ⟨z0, z1, z2, z3, z4, z5, z6, z7, z8, z9⟩ := cells10 rZ2
          have y0 := rZ2.free (k := 0)
          have y1 := rZ2.free (k := 1)
          have y2 := rZ2.free (k := 2)
          have y3 := rZ2.free (k := 3)
          have y4 := rZ2.free (k := 4)
          have y5 := rZ2.free (k := 5)
          have y6 := rZ2.free (k := 6)
          have y7 := rZ2.free (k := 7)
          have y8 := rZ2.free (k := 8)
          have y9 := rZ2.free (k := 9)
          go_wp2_with fail
          exact bodyPost_ret (v := .agg #[.int .i64 3, .int .i64 iv, .int .i64 ct, .int .i64 un, .slice a1 n1 n1, .slice (some ⟨W.heap.size, 0, none⟩) 1 1, .slice a3 0 0, .slice a4 n4 n4, .int .i64 ws, .string tx]) (by simp [results, Tryz.results314, go_sem, z0, z1, z2, z3, z4, z5, z6, z7, z8, z9]) rfl (h2'.out _ _ _ (by omega) ((((((((((rZN.other (by omega) _).other (by omega) _).other (by omega) _).other (by omega) _).other (by omega) _).other (by omega) _).other (by omega) _).other (by omega) _).other (by omega) _).other (by omega) _) rfl ((((((((((hbZ.setCell (by simp; omega) _).setCell (by simp; omega) _).setCell (by simp; omega) _).setCell (by simp; omega) _).setCell (by simp; omega) _).setCell (by simp; omega) _).setCell (by simp; omega) _).setCell (by simp; omega) _).setCell (by simp; omega) _).setCell (by simp; omega) _))
        case pos =>
          have h3' := hide (h3.out rfl rfl rfl hn1)
          clear hA h1 h2 h3 hD
          subst hn1
          obtain ⟨g0, g1, g2, g3, g4, g5, g6, g7, g8, g9⟩ := cells10 r0
          obtain ⟨c0, c1, c2, _, _, _⟩ := cells3 r1
          have hba : Below W.heap.size W (W.alloc (.cells #[.int .i64 (Cal.ofD s)] 3)) := (Below.refl _ _).alloc (Nat.le_refl _) _
          have rN : RowAt (W.alloc (.cells #[.int .i64 (Cal.ofD s)] 3)) W.heap.size [.int .i64 (Cal.ofD s)] 3 := RowAt.new W [.int .i64 (Cal.ofD s)] 3
          have r0a := r0.on hba
          have r1a := r1.on hba
          have r2a := r2.on hba
          replace hbw := hbw.trans (hba.mono hbw.size)
          have c6 := r0a.cell (k := 5) rfl
          have f6 := r0a.free (k := 5)
          go_upto_region 10 with fail
          clear c6 f6 g0 g1 g2 g3 g4 g5 g6 g7 g8 g9 c0 c1 c2 r0 r1 r2
          have rZ0 : RowAt ((W.alloc (.cells #[.int .i64 (Cal.ofD s)] 3)).setCell ⟨w.heap.size, 5, none⟩ (.slice (some ⟨W.heap.size, 0, none⟩) 1 1)) w.heap.size [.int .i64 3, .int .i64 iv, .int .i64 ct, .int .i64 un, .slice a1 0 0, .slice (some ⟨W.heap.size, 0, none⟩) 1 1, .slice a3 0 0, .slice a4 n4 n4, .int .i64 ws, .string tx] 76 := r0a.set (k := 5) _
          have rZ1 := r1a.other (b := w.heap.size) (k := 5) (by omega) (.slice (some ⟨W.heap.size, 0, none⟩) 1 1)
          have rZ2 := r2a.other (b := w.heap.size) (k := 5) (by omega) (.slice (some ⟨W.heap.size, 0, none⟩) 1 1)
          have rZN := rN.other (b := w.heap.size) (k := 5) (by omega) (.slice (some ⟨W.heap.size, 0, none⟩) 1 1)
          have hbZ := hbw.setCell (p := ⟨w.heap.size, 5, none⟩) (Nat.le_refl _) (.slice (some ⟨W.heap.size, 0, none⟩) 1 1)
          have hszZ : W.heap.size < ((W.alloc (.cells #[.int .i64 (Cal.ofD s)] 3)).setCell ⟨w.heap.size, 5, none⟩ (.slice (some ⟨W.heap.size, 0, none⟩) 1 1)).heap.size := by rw [World.size_setCell]; simp
          generalize (W.alloc (.cells #[.int .i64 (Cal.ofD s)] 3)).setCell ⟨w.heap.size, 5, none⟩ (.slice (some ⟨W.heap.size, 0, none⟩) 1 1) = WZ at *
          clear r0a r1a r2a rN hbw hba
          have hbb : Below WZ.heap.size WZ (WZ.alloc (.cells #[.int .i64 (Cal.ofM s)] 3)) := (Below.refl _ _).alloc (Nat.le_refl _) _
          have rM : RowAt (WZ.alloc (.cells #[.int .i64 (Cal.ofM s)] 3)) WZ.heap.size [.int .i64 (Cal.ofM s)] 3 := RowAt.new WZ [.int .i64 (Cal.ofM s)] 3
          obtain ⟨g0, g1, g2, g3, g4, g5, g6, g7, g8, g9⟩ := cells10 rZ0
          obtain ⟨c0, c1, c2, _, _, _⟩ := cells3 rZ1
          have r0b := rZ0.on hbb
          have r2b := rZ2.on hbb
          have rNb := rZN.on hbb
          have c6 := r0b.cell (k := 4) rfl
          have f6 := r0b.free (k := 4)
          replace hbZ := hbZ.trans (hbb.mono hbZ.size)
          go_upto_region 12 with fail
          clear c6 f6 g0 g1 g2 g3 g4 g5 g6 g7 g8 g9 c0 c1 c2 rZ0 rZ1 rZ2 rZN
          have rZ0 : RowAt ((WZ.alloc (.cells #[.int .i64 (Cal.ofM s)] 3)).setCell ⟨w.heap.size, 4, none⟩ (.slice (some ⟨WZ.heap.size, 0, none⟩) 1 1)) w.heap.size [.int .i64 3, .int .i64 iv, .int .i64 ct, .int .i64 un, .slice (some ⟨WZ.heap.size, 0, none⟩) 1 1, .slice (some ⟨W.heap.size, 0, none⟩) 1 1, .slice a3 0 0, .slice a4 n4 n4, .int .i64 ws, .string tx] 76 := r0b.set (k := 4) _
          have rZ2 := r2b.other (b := w.heap.size) (k := 4) (by omega) (.slice (some ⟨WZ.heap.size, 0, none⟩) 1 1)
          have rZN := rNb.other (b := w.heap.size) (k := 4) (by omega) (.slice (some ⟨WZ.heap.size, 0, none⟩) 1 1)
          have rZM := rM.other (b := w.heap.size) (k := 4) (by omega) (.slice (some ⟨WZ.heap.size, 0, none⟩) 1 1)
          replace hbZ := hbZ.setCell (p := ⟨w.heap.size, 4, none⟩) (Nat.le_refl _) (.slice (some ⟨WZ.heap.size, 0, none⟩) 1 1)
          generalize (WZ.alloc (.cells #[.int .i64 (Cal.ofM s)] 3)).setCell ⟨w.heap.size, 4, none⟩ (.slice (some ⟨WZ.heap.size, 0, none⟩) 1 1) = WY at *
          clear r0b r2b rNb rM hbb
          obtain ⟨g0, g1, g2, g3, g4, g5, g6, g7, g8, g9⟩ := cells10 rZ0
          obtain ⟨z0, z1, z2, z3, z4, z5, z6, z7, z8, z9⟩ := cells10 rZ2
          have y0 := rZ2.free (k := 0)
          have y1 := rZ2.free (k := 1)
          have y2 := rZ2.free (k := 2)
          have y3 := rZ2.free (k := 3)
          have y4 := rZ2.free (k := 4)
          have y5 := rZ2.free (k := 5)
          have y6 := rZ2.free (k := 6)
          have y7 := rZ2.free (k := 7)
          have y8 := rZ2.free (k := 8)
          have y9 := rZ2.free (k := 9)
          go_wp2_with fail
          exact bodyPost_ret (v := .agg #[.int .i64 3, .int .i64 iv, .int .i64 ct, .int .i64 un, .slice (some ⟨WZ.heap.size, 0, none⟩) 1 1, .slice (some ⟨W.heap.size, 0, none⟩) 1 1, .slice a3 0 0, .slice a4 n4 n4, .int .i64 ws, .string tx]) (by simp [results, Tryz.results314, go_sem, z0, z1, z2, z3, z4, z5, z6, z7, z8, z9]) rfl (h3'.out _ _ _ _ (by omega) (by omega) ((((((((((rZN.other (by omega) _).other (by omega) _).other (by omega) _).other (by omega) _).other (by omega) _).other (by omega) _).other (by omega) _).other (by omega) _).other (by omega) _).other (by omega) _) ((((((((((rZM.other (by omega) _).other (by omega) _).other (by omega) _).other (by omega) _).other (by omega) _).other (by omega) _).other (by omega) _).other (by omega) _).other (by omega) _).other (by omega) _) rfl ((((((((((hbZ.setCell (by simp; omega) _).setCell (by simp; omega) _).setCell (by simp; omega) _).setCell (by simp; omega) _).setCell (by simp; omega) _).setCell (by simp; omega) _).setCell (by simp; omega) _).setCell (by simp; omega) _).setCell (by simp; omega) _).setCell (by simp; omega) _))
end Go.Proofs.YthpndgcaoeokeaaGreatDoor
namespace Go.Proofs.YthpndgcaoeokeaaGreatDoor
open Go.RowKit Go.Sort
attribute [local go_sem] Oper.semAt_some

theorem plcd_len (pls : List Int) (len : Int) : ∀ (i : Int) (l : List Int), (plcd pls len i l).length ≤ l.length
  | _, [] => Nat.le_refl _
  | i, d :: l => by
    rw [plcd, List.length_append, List.length_cons]
    have := plcd_len pls len (i + 1) l
    split <;> simp <;> omega
theorem choiceL_len (r : RuleD) (a : Int) (n : Nat) : (choiceL r a n).length ≤ n := by
  unfold choiceL
  have := fitL_len r a n
  split
  · exact this
  · exact Nat.le_trans (plcd_len _ _ _ _) this
theorem wide_fn (f : FuncId) : Fence.wide.fn f = True := by simp [Fence.wide]
theorem wide_depth : (Fence.wide.depth = none) = True := by simp [Fence.wide]
attribute [local go_sem] wide_fn wide_depth
attribute [local simp] wide_fn wide_depth

/-- how an iterator stands after i elements -/
structure St (O : Blocks) (W : World) (J : Says) (D : Blocks) (wr : World) : Prop where
  exc : Exc O W wr
  dO : ∀ k, D k → O k ∨ W.heap.size ≤ k
  Od : ∀ k, O k → D k
  on : On D J wr
theorem St.below {O : Blocks} {W : World} {J : Says} {D : Blocks} {wr w' : World} (h : St O W J D wr) (hb : Below wr.heap.size wr w') : St O W J D w' := ⟨h.exc.trans1 (Exc.of_below hb), h.dO, h.Od, h.on.below hb⟩
theorem St.alloc {O : Blocks} {W : World} {J : Says} {D : Blocks} {wr : World} (h : St O W J D wr) (o : Obj) : St O W J D (wr.alloc o) := h.below ((Below.refl _ _).alloc (Nat.le_refl _) _)
theorem St.post {O : Blocks} {W : World} {J J' : Says} {D : Blocks} {wr w' : World} (h : St O W J D wr) (hp : PostL D wr.heap.size J' wr w') : ∃ D', St O W J' D' w' ∧ (∀ k, D' k → D k ∨ wr.heap.size ≤ k) ∧ Exc D wr w' := by
  obtain ⟨hx, D', d1, d2, d3⟩ := hp
  exact ⟨D', ⟨h.exc.trans hx (fun j hj => h.dO j hj), fun k hk => (d1 k hk).elim (h.dO k) (fun hh => .inr (Nat.le_trans h.exc.size hh)), fun k hk => d2 k (h.Od k hk), d3⟩, d1, hx⟩
theorem St.fin {O : Blocks} {W : World} {J : Says} {D : Blocks} {wr : World} (h : St O W J D wr) : PostL O W.heap.size J W wr := ⟨h.exc, D, h.dO, h.Od, h.on⟩
theorem St.lt {O : Blocks} {W : World} {J : Says} {D : Blocks} {wr : World} (h : St O W J D wr) {k : Nat} (hk : D k) : k < wr.heap.size := h.on.1 k hk

set_option maxRecDepth 100000 in
set_option maxHeartbeats 8000000 in
theorem chosen_it (r : RuleD) (m md wk pl : Value) (tx : ByteArray) (s f last : Int) (bs br bf bl : Nat) (w : World) (hl : RuleL w r m md wk pl) (ho : RuleOk r) (s0 : 0 ≤ s) (s1 : s ≤ 7258118400) (f0 : -1000000000000 ≤ f) (f1 : f ≤ 7258118400)
    (l0 : -1000000000000 ≤ last) (l1 : last ≤ 7258118400) (q1 : RowAt w bs [.int .i64 s] 3) (q2 : RowAt w br (ruleC r.fq r.iv r.ct r.un m md wk pl r.ws tx) 76) (q3 : RowAt w bf [.int .i64 f] 3) (q4 : RowAt w bl [.int .i64 last] 3) :
    ItL Tryz.prog 340 #[.pointer (some ⟨bs, 0, none⟩), .pointer (some ⟨br, 0, none⟩), .pointer (some ⟨bf, 0, none⟩), .pointer (some ⟨bl, 0, none⟩)] (dayL (chosenL r s f last)) (fun k => k = bs ∨ k = br ∨ k = bf ∨ k = bl ∨ LB m md wk pl k) w := by
  intro l W O J Js Jp hsz hR hO h0J hY
  have hlW := hl.keep fun k hk => hR k (.inr (.inr (.inr (.inr hk))))
  replace q1 := q1.keep (hR bs (.inl rfl))
  replace q2 := q2.keep (hR br (.inr (.inl rfl)))
  replace q3 := q3.keep (hR bf (.inr (.inr (.inl rfl))))
  replace q4 := q4.keep (hR bl (.inr (.inr (.inr (.inl rfl)))))
  have nO1 : ¬ O bs := fun h => hO bs h (.inl rfl)
  have nO2 : ¬ O br := fun h => hO br h (.inr (.inl rfl))
  have nO3 : ¬ O bf := fun h => hO bf h (.inr (.inr (.inl rfl)))
  have nO4 : ¬ O bl := fun h => hO bl h (.inr (.inr (.inr (.inl rfl))))
  have hlx : Hid (∀ wr, Exc O W wr → RuleL wr r m md wk pl) := hide fun wr hx => hlW.keep fun k hk => hx.block k (hlW.blk hk) fun h => hO k h (.inr (.inr (.inr (.inr hk))))
  have hOT : Hid (∀ wr, Calls Tryz.prog 66 #[.int .i64 s] wr fun e w' => e = .returned (dnV (s / 86400)) ∧ Below wr.heap.size wr w') := hide fun wr => ofTime_n s wr s0 s1
  have hFD : Hid (∀ wr, Exc O W wr → Calls Tryz.prog 341 #[ruleV r.fq r.iv r.ct r.un m md wk pl r.ws tx, .int .i64 s, .int .i64 f] wr fun e w' => e = .returned (.int .i64 (firstD r s f)) ∧ Below wr.heap.size wr w') :=
    hide fun wr hx => firstDistance_n r m md wk pl tx s f wr (hlx.out wr hx) ho s0 s1 f0 f1
  have hPR : Hid (∀ k wr, Exc O W wr → 0 ≤ k → k ≤ kMax r → Calls Tryz.prog 342 #[ruleV r.fq r.iv r.ct r.un m md wk pl r.ws tx, dnV (s / 86400), .int .i64 k] wr fun e w' => e = .returned (spanV (perA r (s / 86400) k) (perB r (s / 86400) k)) ∧ Below wr.heap.size wr w') :=
    hide fun k wr hx k0 k1 => period_n r m md wk pl tx (s / 86400) k wr (hlx.out wr hx) ho (by omega) (by omega) k0 k1
  have hbd := hide fun k k0 k1 => per_bd r (s / 86400) k (by omega) (by omega) k0 k1
  have hBG : Hid (∀ k wr, 0 ≤ k → k ≤ kMax r → Calls Tryz.prog 64 #[dnV (perA r (s / 86400) k)] wr fun e w' => e = .returned (.int .i64 (perA r (s / 86400) k * 86400)) ∧ Below wr.heap.size wr w') :=
    hide fun k wr k0 k1 => begin_n _ wr (by have := hbd.out k k0 k1; omega) (by have := hbd.out k k0 k1; omega)
  have hCH : Hid (∀ k wr, Exc O W wr → 0 ≤ k → k ≤ kMax r → Calls Tryz.prog 343 #[ruleV r.fq r.iv r.ct r.un m md wk pl r.ws tx, spanV (perA r (s / 86400) k) (perB r (s / 86400) k)] wr fun e w' => ∃ v, e = .returned v ∧ w'.ownsRow wr.heap.size 106 3 v (choiceL r (perA r (s / 86400) k) (perN r (s / 86400) k)).length (flatD (choiceL r (perA r (s / 86400) k) (perN r (s / 86400) k))) ∧ Below wr.heap.size wr w') :=
    hide fun k wr hx k0 k1 => by
      have hb := hbd.out k k0 k1
      have e : perA r (s / 86400) k + (perN r (s / 86400) k : Nat) = perB r (s / 86400) k := by unfold perN; omega
      have := choice_n r m md wk pl tx (perA r (s / 86400) k) (perN r (s / 86400) k) wr (hlx.out wr hx) ho (by omega) (by omega) (by unfold perN; omega)
      rwa [e] at this
  have hfb := firstD_bd r ho s f s0 s1 f1
  have hkm : kMax r ≤ 200000 := by unfold kMax; split <;> (try split) <;> (try split) <;> omega
  have hi1 := ho.iv1
  have hi9 := ho.iv9
  obtain ⟨a1, e1⟩ := hlW.ms.form
  obtain ⟨a2, e2⟩ := hlW.mds.form
  obtain ⟨a3, e3⟩ := hlW.wks.form
  obtain ⟨a4, e4⟩ := hlW.pls.form
  have hLL : Hid (chosenL r s f last = chL r (s / 86400) last (kMax r).toNat (firstD r s f)) := hide rfl
  clear hR hO hlW hl ho hlx hsz
  generalize r.ms.length = n1 at *
  generalize r.mds.length = n2 at *
  generalize r.wks.length = n3 at *
  generalize r.pls.length = n4 at *
  subst e1 e2 e3 e4
  unfold ruleV ruleC at *
  have st0 : St O W (J 0) O W := ⟨Exc.refl _ _, fun _ h => .inl h, fun _ h => h, h0J⟩
  have hLb := hide (fun (i : Nat) (d : Int) (h : (chosenL r s f last)[i]? = some d) => hY i _ (dayL_get h))
  clear hY h0J
  rw [dayL_len]
  generalize chosenL r s f last = XS at *
  have hdd : 0 ≤ s / 86400 ∧ s / 86400 ≤ 84006 := by omega
  generalize s / 86400 = sd at *
  unfold dnV dayA spanV at *
  refine callsIn_of_wp Tryz.func340 rfl trivial ?_ rfl
  simp only [Tryz.ntmps340, List.size_toArray, List.length_cons, List.length_nil, Nat.reduceAdd, Nat.reduceSub, Array.replicate_succ, Array.replicate_zero, List.push_toArray, List.append_toArray, List.nil_append, List.cons_append]
  have c1 := q1.cell (k := 0) rfl
  gi_wp2_with fail
  refine ((callsIn_wide.2 (hOT.out _)).mono ?_)
  rintro e w1 ⟨rfl, hb1⟩
  clear c1 hOT
  replace st0 := st0.below hb1
  have st1 := st0.alloc (.cells #[.int .i64 (Cal.ofY sd), .int .i64 (Cal.ofM sd), .int .i64 (Cal.ofD sd)] 106)
  have r6 : RowAt (w1.alloc (.cells #[.int .i64 (Cal.ofY sd), .int .i64 (Cal.ofM sd), .int .i64 (Cal.ofD sd)] 106)) w1.heap.size [.int .i64 (Cal.ofY sd), .int .i64 (Cal.ofM sd), .int .i64 (Cal.ofD sd)] 106 := RowAt.new w1 [.int .i64 (Cal.ofY sd), .int .i64 (Cal.ofM sd), .int .i64 (Cal.ofD sd)] 106
  have h6O : ¬ O w1.heap.size := fun h => by have := st0.lt h; omega
  have h6W : W.heap.size ≤ w1.heap.size := st0.exc.size
  have g2 := cells10 (q2.exc st1.exc nO2)
  have c1 := (q1.exc st1.exc nO1).cell (k := 0) rfl
  have c3 := (q3.exc st1.exc nO3).cell (k := 0) rfl
  obtain ⟨z0, z1, z2, z3, z4, z5, z6, z7, z8, z9⟩ := g2
  gi_wp2_with fail
  refine ((callsIn_wide.2 (hFD.out _ st1.exc)).mono ?_)
  rintro e w2 ⟨rfl, hb2⟩
  replace st1 := st1.below hb2
  replace r6 := r6.on hb2
  clear c1 c3 z0 z1 z2 z3 z4 z5 z6 z7 z8 z9 hFD hb2 hb1 st0
  generalize w1.heap.size = b6 at *
  generalize firstD r s f = k0 at *
  have hmx : Tryz.prog.follows .mixedOrders = true := by kernel_rfl
  gi_wp2_with fail
  gi_loopg [7] (kMax r).toNat (fun g kv wr => ∃ (k : Int) (pre : List Int) (D : Blocks), kv = .int .i64 k ∧ 0 ≤ k ∧ k ≤ kMax r ∧ kMax r ≤ k + g ∧ St O W (J pre.length) D wr ∧ ¬ D b6 ∧ RowAt wr b6 [.int .i64 (Cal.ofY sd), .int .i64 (Cal.ofM sd), .int .i64 (Cal.ofD sd)] 106 ∧ Hid (XS = pre ++ chL r sd last g k))
  case atStart => exact ⟨k0, [], O, rfl, hfb.1, by omega, by omega, st1, h6O, r6, hide (by rw [hLL.out]; rfl)⟩
  case round =>
    clear hLL st1 h6O r6 hfb
    obtain ⟨k, pre, D, rfl, hk0, hk1, hkg, st, h6D, r6, HX⟩ := hrel
    obtain ⟨z0, z1, z2, z3, z4, z5, z6, z7, z8, z9⟩ := cells10 (q2.exc st.exc nO2)
    obtain ⟨c0, c1, c2, _, _, _⟩ := cells3 r6
    gi_wp2_with fail
    refine ((callsIn_wide.2 (hPR.out k _ st.exc hk0 hk1)).mono ?_)
    rintro e w3 ⟨rfl, hb3⟩
    replace st := st.below hb3
    replace r6 := r6.on hb3
    obtain ⟨hA0, hAB, hB4, hB3, hAk⟩ := hbd.out k hk0 hk1
    have hBG' := hide (fun wr => hBG.out k wr hk0 hk1)
    have hCH' := hide (fun wr hx => hCH.out k wr hx hk0 hk1)
    have hend : Hid (last < perA r sd k * 86400 → XS = pre) := hide fun h => by rw [HX.out, chL_end _ _ _ _ _ h, List.append_nil]
    have hgo : Hid (¬ last < perA r sd k * 86400 → ∃ g', gk = g' + 1 ∧ XS = pre ++ (choiceL r (perA r sd k) (perN r sd k) ++ chL r sd last g' (k + r.iv))) := hide fun h => by
      have : k + 100 ≤ kMax r := hAk (by omega)
      obtain ⟨g', rfl⟩ : ∃ g', gk = g' + 1 := ⟨gk - 1, by omega⟩
      exact ⟨g', rfl, by rw [HX.out, chL_go _ _ _ _ _ h]⟩
    have hk9 : Hid (¬ last < perA r sd k * 86400 → k + 100 ≤ kMax r) := hide fun h => hAk (by omega)
    have hpn : perN r sd k ≤ 400 := by unfold perN; omega
    clear HX z0 z1 z2 z3 z4 z5 z6 z7 z8 z9 c0 c1 c2 hb3 hAk
    generalize perA r sd k = A at *
    generalize perB r sd k = B at *
    have r8 : RowAt (w3.alloc (.cells #[.int .i64 (Cal.ofY A), .int .i64 (Cal.ofM A), .int .i64 (Cal.ofD A), .int .i64 (Cal.ofY B), .int .i64 (Cal.ofM B), .int .i64 (Cal.ofD B)] 370)) w3.heap.size [.int .i64 (Cal.ofY A), .int .i64 (Cal.ofM A), .int .i64 (Cal.ofD A), .int .i64 (Cal.ofY B), .int .i64 (Cal.ofM B), .int .i64 (Cal.ofD B)] 370 := RowAt.new w3 [.int .i64 (Cal.ofY A), .int .i64 (Cal.ofM A), .int .i64 (Cal.ofD A), .int .i64 (Cal.ofY B), .int .i64 (Cal.ofM B), .int .i64 (Cal.ofD B)] 370
    have h8D : ¬ D w3.heap.size := fun h => by have := st.lt h; omega
    have hba : Below w3.heap.size w3 (w3.alloc (.cells #[.int .i64 (Cal.ofY A), .int .i64 (Cal.ofM A), .int .i64 (Cal.ofD A), .int .i64 (Cal.ofY B), .int .i64 (Cal.ofM B), .int .i64 (Cal.ofD B)] 370)) := (Below.refl _ _).alloc (Nat.le_refl _) _
    replace st := st.below hba
    replace r6 := r6.on hba
    clear hba
    gi_upto_region 4 with fail
    generalize w3.alloc (.cells #[.int .i64 (Cal.ofY A), .int .i64 (Cal.ofM A), .int .i64 (Cal.ofD A), .int .i64 (Cal.ofY B), .int .i64 (Cal.ofM B), .int .i64 (Cal.ofD B)] 370) = w4 at *
    generalize w3.heap.size = b8 at *
    obtain ⟨⟨z0, z1, z2, z3, z4, z5⟩, _, _, _, _, _, _⟩ := cells6 r8
    have c4 := (q4.exc st.exc nO4).cell (k := 0) rfl
    have i0 := cell_regrown z0
    have i1 := cell_regrown z1
    have i2 := cell_regrown z2
    have i4 := cell_regrown c4
    clear z0 z1 z2 z3 z4 z5 c4
    refine wpIn_region_quiet_below rfl hmx (by kernel_rfl) ?_
    have cB := fun d os => CallsIn.regrown_of (w := w4) (d := d) (os := os) (callsIn_wide (n := 0).2 (hBG'.out _))
    repeat (gi_big_quiet_step (first | exact ⟨rfl, cB _ _⟩ | exact cB _ _ | exact ⟨trivial, rfl, cB _ _⟩))
    clear cB i0 i1 i2 i4
    refine wpQuietIn_nil ?_
    intro _ hw'
    obtain ⟨⟨dq, osq⟩, hw''⟩ := hw'
    subst hw''
    have hbr := below_regrown w4 dq osq
    replace st := st.below hbr
    replace r6 := r6.on hbr
    replace r8 := r8.on hbr
    clear hbr
    generalize grow (redrawn w4 dq) osq = w5 at *
    by_cases hlast : last < A * 86400
    case pos =>
      have hX := hide (hend.out hlast)
      clear hend hgo hk9
      gi_wp2_with fail
      refine bodyPost_ret (results_none rfl _ _ _) rfl ?_
      rw [hX.out]
      exact .inl ⟨⟨_, rfl⟩, .inl st.fin⟩
    case neg =>
      have hX := hide (hgo.out (by omega))
      replace hk9 := hk9.out (by omega)
      clear hend hgo
      obtain ⟨z0, z1, z2, z3, z4, z5, z6, z7, z8, z9⟩ := cells10 (q2.exc st.exc nO2)
      obtain ⟨⟨x0, x1, x2, x3, x4, x5⟩, _, _, _, _, _, _⟩ := cells6 r8
      gi_wp2_with fail
      refine ((callsIn_wide.2 (hCH'.out _ st.exc)).mono ?_)
      rintro e w6 ⟨v, rfl, hown, hb6⟩
      have hv6 := hide (fun g hg => (hown.lt g hg).1)
      have h5 : Hid (∀ k, D k → k < w5.heap.size) := hide fun k hk => st.lt hk
      replace st := st.below hb6
      replace r6 := r6.on hb6
      clear z0 z1 z2 z3 z4 z5 z6 z7 z8 z9 x0 x1 x2 x3 x4 x5 hb6 r8 hCH' hBG'
      have hC4 : (choiceL r A (perN r sd k)).length ≤ 400 := Nat.le_trans (choiceL_len r A (perN r sd k)) hpn
      generalize choiceL r A (perN r sd k) = C at *
      obtain ⟨av, cv, rfl⟩ := own_sl hown
      gi_wp2_with fail
      have hvD : ∀ g, (Value.slice av C.length cv).ownBlock = some g → ¬ D g := fun g hg h => by have := hv6.out g hg; have := h5.out g h; omega
      clear hv6 h5
      obtain ⟨g', rfl, hXS⟩ := hX.out
      replace hXS := hide hXS
      clear hX
      gi_loopg [34] C.length (fun q iv wr => ∃ (i : Nat) (D : Blocks), iv = .int .i64 i ∧ i + q = C.length ∧ St O W (J (pre.length + i)) D wr ∧ ¬ D b6 ∧ RowAt wr b6 [.int .i64 (Cal.ofY sd), .int .i64 (Cal.ofM sd), .int .i64 (Cal.ofD sd)] 106 ∧ wr.ownsRow w5.heap.size 106 3 (.slice av C.length cv) C.length (flatD C) ∧ (∀ g, (Value.slice av C.length cv).ownBlock = some g → ¬ D g))
      case atStart => exact ⟨0, D, rfl, by omega, st, h6D, r6, hown, hvD⟩
      case round =>
        clear st h6D r6 hown hvD
        rename_i gk0 wr0 _ _
        obtain ⟨i, D, rfl, hiq, st, h6D, r6, hown, hvD⟩ := hrel
        by_cases hi : i = C.length
        case pos =>
          have hX2 : Hid (XS = (pre ++ C) ++ chL r sd last g' (k + r.iv)) := hide (by rw [hXS.out, List.append_assoc])
          have hl2 : (pre ++ C).length = pre.length + C.length := List.length_append
          obtain ⟨z0, z1, z2, z3, z4, z5, z6, z7, z8, z9⟩ := cells10 (q2.exc st.exc nO2)
          clear hXS
          subst hi
          gi_wp2_with fail
          gi_roundg g'
          case measure => omega
          case rel => exact ⟨k + r.iv, pre ++ C, D, rfl, by omega, by omega, by omega, by rw [hl2]; exact st, h6D, r6, hX2⟩
        case neg =>
          have hilt : i < C.length := by omega
          obtain ⟨d, hd⟩ : ∃ d, C[i]? = some d := ⟨_, List.getElem?_eq_getElem hilt⟩
          have hxs : XS[pre.length + i]? = some d := by
            rw [hXS.out, List.getElem?_append_right (by omega), Nat.add_sub_cancel_left, List.getElem?_append_left hilt]; exact hd
          obtain ⟨gv, cap, hav, hgB, hcap, d0, d1, d2⟩ := own_day hown hd
          simp only [Value.slice.injEq] at hav
          obtain ⟨rfl, _, rfl⟩ := hav
          have hba : Below wr.heap.size wr (wr.alloc (.cells #[.int .i64 (Cal.ofY d), .int .i64 (Cal.ofM d), .int .i64 (Cal.ofD d)] 106)) := (Below.refl _ _).alloc (Nat.le_refl _) _
          have st' := st.below hba
          obtain ⟨f1, t1, a1, b1, hy1, hR1⟩ := hLb.out (pre.length + i) d hxs _ D st'.exc st'.dO st'.Od st'.on
          clear hxs hd
          gi_wp2_with fail
          refine hR1.mono ?_
          clear hy1 hR1 d0 d1 d2
          have hvD' := hvD gv rfl
          have hown' := own_keep hown (w' := wr.alloc (.cells #[.int .i64 (Cal.ofY d), .int .i64 (Cal.ofM d), .int .i64 (Cal.ofD d)] 106)) fun g hg => hba.block g (hown.lt g hg).2
          have r6' := r6.on hba
          have hgv' := (hown'.lt gv rfl).2
          have hb6' := r6'.lt
          clear st hown r6 hba hvD
          generalize wr.alloc (.cells #[.int .i64 (Cal.ofY d), .int .i64 (Cal.ofM d), .int .i64 (Cal.ofD d)] 106) = wq at *
          rintro e W1 (⟨rfl, hp⟩ | ⟨rfl, hp⟩ | ⟨c, rfl, hp⟩)
          case inl =>
            obtain ⟨D1, st1, d1, hx1⟩ := st'.post hp
            have r61 := r6'.exc hx1 h6D
            have hown1 := own_keep hown' (w' := W1) fun g hg => hx1.block g (hown'.lt g hg).2 (by cases hg; exact hvD')
            have h61 : ¬ D1 b6 := fun h => (d1 _ h).elim h6D (by omega)
            have hv1 : ¬ D1 gv := fun h => (d1 _ h).elim hvD' (by omega)
            clear hp hx1 st' hown' r6'
            gi_wp2_with fail
            gi_roundg (gk - 1)
            case measure => omega
            case rel => exact ⟨i + 1, D1, by go_num, by omega, st1, h61, r61, hown1, fun g hg => by cases hg; exact hv1⟩
          case inr.inl =>
            obtain ⟨D1, st1, d1, hx1⟩ := st'.post hp
            gi_wp2_with fail
            refine bodyPost_ret (results_none rfl _ _ _) rfl ?_
            exact .inl ⟨⟨_, rfl⟩, .inr st1.fin⟩
          case inr.inr =>
            obtain ⟨D1, st1, d1, hx1⟩ := st'.post hp
            gi_wp2_with fail
            exact ⟨rfl, .inr ⟨c, rfl, st1.fin⟩⟩

set_option maxRecDepth 100000 in
set_option maxHeartbeats 2000000 in
/-- the maker of that iterator: four blocks -/
theorem chosen_n (fq iv ct un ws : Int) (m md wk pl : Value) (tx : ByteArray) (s f last : Int) (w : World) (h1 : ∃ a n c, m = .slice a n c) (h2 : ∃ a n c, md = .slice a n c) (h3 : ∃ a n c, wk = .slice a n c) (h4 : ∃ a n c, pl = .slice a n c) :
    Calls Tryz.prog 315 #[ruleV fq iv ct un m md wk pl ws tx, .int .i64 s, .int .i64 f, .int .i64 last] w fun e w' =>
      e = .returned (.func (.func 340) #[] #[.pointer (some ⟨w.heap.size + 1, 0, none⟩), .pointer (some ⟨w.heap.size, 0, none⟩), .pointer (some ⟨w.heap.size + 2, 0, none⟩), .pointer (some ⟨w.heap.size + 3, 0, none⟩)]) ∧
      w' = (((w.alloc (.cells (ruleC fq iv ct un m md wk pl ws tx).toArray 76)).alloc (.cells #[.int .i64 s] 3)).alloc (.cells #[.int .i64 f] 3)).alloc (.cells #[.int .i64 last] 3) := by
  obtain ⟨a1, n1, c1, rfl⟩ := h1
  obtain ⟨a2, n2, c2, rfl⟩ := h2
  obtain ⟨a3, n3, c3, rfl⟩ := h3
  obtain ⟨a4, n4, c4, rfl⟩ := h4
  unfold ruleV ruleC
  go_enter Tryz.func315, Tryz.ntmps315
  go_wp2_with fail
  go_ret
  exact ⟨rfl, rfl⟩
end Go.Proofs.YthpndgcaoeokeaaGreatDoor
namespace Go.Proofs.YthpndgcaoeokeaaGreatDoor
open Go.RowKit

/-- the frame's size; slots that stay; the memory has only grown -/
structure JV (n0 : Nat) (fix : List (Nat × Value)) (W : World) (a : Act) (w : World) : Prop where
  size : a.tmps.size = n0
  defers : a.defers = []
  fixed : ∀ p ∈ fix, a.eval (.tmp p.1) = p.2
  below : Below W.heap.size W w
def GV (σ : Nat → Nat) (N : Nat → Value → World → Prop) (i : Nat) (a : Act) (w : World) : Prop := N i (a.eval (.tmp (σ i))) w
/-- what the slots must be -/
structure Slots (σ : Nat → Nat) (fix : List (Nat × Value)) (n0 n : Nat) (N : Nat → Value → World → Prop) : Prop where
  lt : ∀ i, i < n → σ i < n0
  inj : ∀ i j, i < n → j < n → σ i = σ j → i = j
  off : ∀ p ∈ fix, ∀ i, i < n → p.1 ≠ σ i
  grow : ∀ i v w w', N i v w → Below w.heap.size w w' → N i v w'
theorem stepV {σ : Nat → Nat} {fix : List (Nat × Value)} {n0 : Nat} {N : Nat → Value → World → Prop} {W : World} {a : Act} {w w' : World} {ops : Array Oper} {i : Nat} {v : Value} {dst : Option Nat} (S : Slots σ fix n0 ops.size N) (hd : dst = some (σ i)) (hi : i < ops.size)
    (h : JV n0 fix W a w) (hb : Below w.heap.size w w') (hn : N i v w') :
    JV n0 fix W (a.put dst v) w' ∧ GV σ N i (a.put dst v) w' ∧ ∀ j oj, ops[j]? = some oj → j ≠ i → (∀ e ∈ oj.after, Region.binds .any e = true → e.on ≠ i) → GV σ N j a w → GV σ N j (a.put dst v) w' := by
  subst hd
  have hs : σ i < a.tmps.size := by rw [h.size]; exact S.lt i hi
  refine ⟨⟨by rw [put_size]; exact h.size, by rw [put_defers]; exact h.defers, fun p hp => by rw [ev_ne (S.off p hp i hi)]; exact h.fixed p hp, h.below.trans (hb.mono h.below.size)⟩, ?_, fun j oj hoj hji _ hg => ?_⟩
  · unfold GV
    rw [ev_same hs]
    exact hn
  · have hj : j < ops.size := (Array.getElem?_eq_some_iff.1 hoj).1
    unfold GV at hg ⊢
    rw [ev_ne (fun e => hji (S.inj j i hj hi e))]
    exact S.grow j _ w w' hg hb
/-- a call that returns -/
theorem op_callV {P : Program} {Q : Exit → Act → World → Prop} {o : Oper} {a : Act} {w w' : World} {K : Act → World → Prop} {f : FuncId} {args : Array Value} {v : Value} (h : (execOp a.eval o).run P w = .ok (.enter f args) w') (hc : Calls P f args w' fun e w'' => e = .returned v ∧ Below w'.heap.size w' w'')
    (h1 : ∀ w'', Below w'.heap.size w' w'' → K (a.put o.dst v) w'') : Oper.wp P o a w K Q :=
  op_call h hc (fun v' w'' ⟨e, hb⟩ => by cases e; exact h1 w'' hb) (fun c w'' ⟨e, _⟩ => by cases e) (fun w'' ⟨e, _⟩ => by cases e)
end Go.Proofs.YthpndgcaoeokeaaGreatDoor
namespace Go.Proofs.YthpndgcaoeokeaaGreatDoor
open Go.RowKit

theorem ld_run {o : Oper} {a : Act} {w : World} {x : Operand} {T : TypeId} {p : Addr} {v : Value} (ho : o.op = .load T x) (hx : a.eval x = .pointer (some p)) (hr : (Instr.loadAt T (.pointer (some p))).run Tryz.prog w = .ok v w) : (execOp a.eval o).run Tryz.prog w = .ok (.value v) w := by
  obtain ⟨_, _, _, _, _, _⟩ := o
  simp only [] at ho
  subst ho
  unfold execOp
  simp only [hx]
  exact run_value hr
theorem intLd_run {p : Addr} {z : Int} {w : World} (h : w.cell? p = some (.int .i64 z)) : (Instr.loadAt 3 (.pointer (some p))).run Tryz.prog w = .ok (.int .i64 z) w := by
  go_simp
theorem fld_run {o : Oper} {a : Act} {w : World} {x : Operand} {T : TypeId} {k : Nat} {p q : Addr} (ho : o.op = .fieldAddr T x k) (hx : a.eval x = .pointer (some p)) (hr : (Instr.fieldAt T (.pointer (some p)) k).run Tryz.prog w = .ok (.pointer (some q)) w) : (execOp a.eval o).run Tryz.prog w = .ok (.value (.pointer (some q))) w := by
  obtain ⟨_, _, _, _, _, _⟩ := o
  simp only [] at ho
  subst ho
  unfold execOp
  simp only [hx]
  exact run_value hr
end Go.Proofs.YthpndgcaoeokeaaGreatDoor
