/- The days of a rule (the program's): what the iterator begins with. The days of a rule (the program's), as an iterator. The map from days to numbers (the program's): a look, and one more. The map from days to numbers (the program's): how often each day was counted. -/
import Derived.Test.YthpndgcaoeokeaaGreatDoorCm19
import Derived.WideKeyEntry
import Derived.DeepKeys4
import Derived.Maps.Views
namespace Go.Proofs.YthpndgcaoeokeaaGreatDoor
open Go.RowKit Go.Sort

set_option maxRecDepth 10000 in
theorem act_lit46 (a : Act) (h : a.tmps.size = 46) (hd : a.defers = []) : ∃ f : Nat → Value, a = ⟨List.toArray (f 0 :: f 1 :: f 2 :: f 3 :: f 4 :: f 5 :: f 6 :: f 7 :: f 8 :: f 9 :: f 10 :: f 11 :: f 12 :: f 13 :: f 14 :: f 15 :: f 16 :: f 17 :: f 18 :: f 19 :: f 20 :: f 21 :: f 22 :: f 23 :: f 24 :: f 25 :: f 26 :: f 27 :: f 28 :: f 29 :: f 30 :: f 31 :: f 32 :: f 33 :: f 34 :: f 35 :: f 36 :: f 37 :: f 38 :: f 39 :: f 40 :: f 41 :: f 42 :: f 43 :: f 44 :: f 45 :: []), []⟩ ∧ ∀ k, a.eval (.tmp k) = f k := by
  obtain ⟨t, d⟩ := a
  simp only [] at h hd
  subst hd
  refine ⟨fun k => t.getD k undef, ?_, fun k => rfl⟩
  congr 1
  apply Array.ext'
  apply List.ext_getElem?
  intro i
  by_cases hi : i < 46
  · rw [show t.toList[i]? = some (t.getD i undef) from by simp [Array.getD, h, hi]]
    match i, hi with
    | 0, _ => rfl
    | 1, _ => rfl
    | 2, _ => rfl
    | 3, _ => rfl
    | 4, _ => rfl
    | 5, _ => rfl
    | 6, _ => rfl
    | 7, _ => rfl
    | 8, _ => rfl
    | 9, _ => rfl
    | 10, _ => rfl
    | 11, _ => rfl
    | 12, _ => rfl
    | 13, _ => rfl
    | 14, _ => rfl
    | 15, _ => rfl
    | 16, _ => rfl
    | 17, _ => rfl
    | 18, _ => rfl
    | 19, _ => rfl
    | 20, _ => rfl
    | 21, _ => rfl
    | 22, _ => rfl
    | 23, _ => rfl
    | 24, _ => rfl
    | 25, _ => rfl
    | 26, _ => rfl
    | 27, _ => rfl
    | 28, _ => rfl
    | 29, _ => rfl
    | 30, _ => rfl
    | 31, _ => rfl
    | 32, _ => rfl
    | 33, _ => rfl
    | 34, _ => rfl
    | 35, _ => rfl
    | 36, _ => rfl
    | 37, _ => rfl
    | 38, _ => rfl
    | 39, _ => rfl
    | 40, _ => rfl
    | 41, _ => rfl
    | 42, _ => rfl
    | 43, _ => rfl
    | 44, _ => rfl
    | 45, _ => rfl
    | k + 46, h => omega
  · rw [List.getElem?_eq_none (by simp; omega), List.getElem?_eq_none (by simp; omega)]

/-- the days of the rule's times, of those that are chosen; so many are counted -/
def dysF (s f last ct : Int) : Int → List Int → List Int
  | _, [] => []
  | c, d :: l => if d * 86400 < s - s % 86400 then dysF s f last ct c l else if last < d * 86400 then [] else (if f - s % 86400 ≤ d * 86400 then [d] else []) ++ (if c + 1 = ct then [] else dysF s f last ct (c + 1) l)
def dysL (r : RuleD) (s f last : Int) : List Int := dysF s f last r.ct 0 (chosenL (startW r (s / 86400)) s f last)

theorem plcd_mem (pls : List Int) (len : Int) : ∀ (i : Int) (l : List Int) (d : Int), d ∈ plcd pls len i l → d ∈ l
  | _, [], d, h => by simp [plcd] at h
  | i, x :: l, d, h => by
    rw [plcd, List.mem_append] at h
    rcases h with h | h
    · split at h
      · simp at h; subst h; simp
      · simp at h
    · exact List.mem_cons_of_mem _ (plcd_mem pls len (i + 1) l d h)
theorem fitL_mem {r : RuleD} {a : Int} {n : Nat} {d : Int} (h : d ∈ fitL r a n) : a ≤ d ∧ d < a + n := by
  unfold fitL from' at h
  obtain ⟨h, _⟩ := List.mem_filter.1 h
  obtain ⟨i, hi, rfl⟩ := List.mem_map.1 h
  have := List.mem_range.1 hi
  omega
theorem choiceL_mem {r : RuleD} {a : Int} {n : Nat} {d : Int} (h : d ∈ choiceL r a n) : a ≤ d ∧ d < a + n := by
  unfold choiceL at h
  split at h
  · exact fitL_mem h
  · exact fitL_mem (plcd_mem _ _ _ _ _ h)
theorem chL_bd (r : RuleD) (ho : RuleOk r) (s last : Int) (s0 : 0 ≤ s) (s1 : s ≤ 84010) (l1 : last ≤ 7258118400) : ∀ (g : Nat) (k : Int), 0 ≤ k → k ≤ kMax r → (chL r s last g k).length ≤ g * 400 ∧ ∀ d ∈ chL r s last g k, -400 ≤ d ∧ d ≤ 300000
  | 0, k, _, _ => ⟨by simp [chL], fun d h => by simp [chL] at h⟩
  | g + 1, k, k0, k1 => by
    have hb := per_bd r s k s0 s1 k0 k1
    have hi1 := ho.iv1
    have hi9 := ho.iv9
    rw [chL]
    split
    · exact ⟨by simp, fun d h => by simp at h⟩
    · have hk := hb.2.2.2.2 (by omega)
      have ih := chL_bd r ho s last s0 s1 l1 g (k + r.iv) (by omega) (by omega)
      have hl := choiceL_len r (perA r s k) (perN r s k)
      have hn : perN r s k ≤ 400 := by unfold perN; omega
      have e : perA r s k + (perN r s k : Nat) = perB r s k := by unfold perN; omega
      refine ⟨by rw [List.length_append]; omega, fun d hd => ?_⟩
      rcases List.mem_append.1 hd with h | h
      · have := choiceL_mem h; omega
      · exact ih.2 d h
theorem chosenL_bd (r : RuleD) (ho : RuleOk r) (s f last : Int) (s0 : 0 ≤ s) (s1 : s ≤ 7258118400) (f1 : f ≤ 7258118400) (l1 : last ≤ 7258118400) : (chosenL r s f last).length ≤ 80000000 ∧ ∀ d ∈ chosenL r s f last, -400 ≤ d ∧ d ≤ 300000 := by
  have hf := firstD_bd r ho s f s0 s1 f1
  have := chL_bd r ho (s / 86400) last (by omega) (by omega) l1 (kMax r).toNat (firstD r s f) hf.1 (by omega)
  have hk : kMax r ≤ 200000 := by unfold kMax; split <;> (try split) <;> (try split) <;> omega
  unfold chosenL
  exact ⟨by omega, this.2⟩

/-- what the region that makes the chosen days' iterator leaves, operation by operation -/
def NDs (W : World) (r : RuleD) (m md wk pl : Value) (tx : ByteArray) (s f last : Int) (i : Nat) (v : Value) (w : World) : Prop := match i with
  | 0 => v = ruleV r.fq r.iv r.ct r.un m md wk pl r.ws tx
  | 1 => v = .int .i64 s
  | 2 => v = dnV (s / 86400)
  | 3 => ∃ m' md' wk', v = ruleV (startW r (s / 86400)).fq (startW r (s / 86400)).iv (startW r (s / 86400)).ct (startW r (s / 86400)).un m' md' wk' pl (startW r (s / 86400)).ws tx ∧ RuleL w (startW r (s / 86400)) m' md' wk' pl ∧ ∀ k, LB m' md' wk' pl k → LB m md wk pl k ∨ W.heap.size ≤ k
  | 4 => v = .int .i64 s
  | 5 => v = .int .i64 f
  | 6 => v = .int .i64 last
  | _ => ∃ m' md' wk' b, v = .func (.func 340) #[] #[.pointer (some ⟨b + 1, 0, none⟩), .pointer (some ⟨b, 0, none⟩), .pointer (some ⟨b + 2, 0, none⟩), .pointer (some ⟨b + 3, 0, none⟩)] ∧ W.heap.size ≤ b ∧
      RowAt w b (ruleC (startW r (s / 86400)).fq (startW r (s / 86400)).iv (startW r (s / 86400)).ct (startW r (s / 86400)).un m' md' wk' pl (startW r (s / 86400)).ws tx) 76 ∧ RowAt w (b + 1) [.int .i64 s] 3 ∧ RowAt w (b + 2) [.int .i64 f] 3 ∧ RowAt w (b + 3) [.int .i64 last] 3 ∧
      RuleL w (startW r (s / 86400)) m' md' wk' pl ∧ ∀ k, LB m' md' wk' pl k → LB m md wk pl k ∨ W.heap.size ≤ k
theorem NDs.grow {W : World} {r : RuleD} {m md wk pl : Value} {tx : ByteArray} {s f last : Int} (i : Nat) (v : Value) (w w' : World) (h : NDs W r m md wk pl tx s f last i v w) (hb : Below w.heap.size w w') : NDs W r m md wk pl tx s f last i v w' := by
  match i, h with
  | 0, h | 1, h | 2, h | 4, h | 5, h | 6, h => exact h
  | 3, h =>
    obtain ⟨m', md', wk', h1, h2, h3⟩ := h
    exact ⟨m', md', wk', h1, h2.on hb, h3⟩
  | n + 7, h =>
    obtain ⟨m', md', wk', b, h1, h2, h3, h4, h5, h6, h7, h8⟩ := h
    exact ⟨m', md', wk', b, h1, h2, h3.on hb, h4.on hb, h5.on hb, h6.on hb, h7.on hb, h8⟩
theorem ruleLd_run {b : Nat} {fq iv ct un ws : Int} {m md wk pl : Value} {tx : ByteArray} {w : World} (h : RowAt w b (ruleC fq iv ct un m md wk pl ws tx) 76) : (Instr.loadAt 76 (.pointer (some ⟨b, 0, none⟩))).run Tryz.prog w = .ok (ruleV fq iv ct un m md wk pl ws tx) w := by
  unfold ruleC at h
  unfold ruleV
  obtain ⟨z0, z1, z2, z3, z4, z5, z6, z7, z8, z9⟩ := cells10 h
  go_simp

theorem row4 (w : World) (cs : List Value) (t : TypeId) (x y z : Value) (t1 t2 t3 : TypeId) :
    let w' := (((w.alloc (.cells cs.toArray t)).alloc (.cells #[x] t1)).alloc (.cells #[y] t2)).alloc (.cells #[z] t3)
    RowAt w' w.heap.size cs t ∧ RowAt w' (w.heap.size + 1) [x] t1 ∧ RowAt w' (w.heap.size + 2) [y] t2 ∧ RowAt w' (w.heap.size + 3) [z] t3 ∧ Below w.heap.size w w' := by
  intro w'
  have b1 := (Below.refl w.heap.size w).alloc (Nat.le_refl _) (.cells cs.toArray t)
  have q0 := RowAt.new w cs t
  have q1 := RowAt.new (w.alloc (.cells cs.toArray t)) [x] t1
  have q2 := RowAt.new ((w.alloc (.cells cs.toArray t)).alloc (.cells #[x] t1)) [y] t2
  have q3 := RowAt.new (((w.alloc (.cells cs.toArray t)).alloc (.cells #[x] t1)).alloc (.cells #[y] t2)) [z] t3
  have c1 := (Below.refl _ (w.alloc (.cells cs.toArray t))).alloc (Nat.le_refl _) (.cells #[x] t1)
  have c2 := (Below.refl _ ((w.alloc (.cells cs.toArray t)).alloc (.cells #[x] t1))).alloc (Nat.le_refl _) (.cells #[y] t2)
  have c3 := (Below.refl _ (((w.alloc (.cells cs.toArray t)).alloc (.cells #[x] t1)).alloc (.cells #[y] t2))).alloc (Nat.le_refl _) (.cells #[z] t3)
  simp only [World.size_alloc] at q1 q2 q3
  refine ⟨((q0.on c1).on c2).on c3, (q1.on c2).on c3, q2.on c3, q3, ?_⟩
  exact ((b1.alloc (by simp) _).alloc (by simp; omega) _).alloc (by simp; omega) _
end Go.Proofs.YthpndgcaoeokeaaGreatDoor
namespace Go.Proofs.YthpndgcaoeokeaaGreatDoor
open Go.RowKit Go.Sort
attribute [local go_sem] Oper.semAt_some
attribute [local go_sem] wide_fn wide_depth
attribute [local simp] wide_fn wide_depth

theorem RoundIn.inRound {F : Fence} {n : Nat} {P : Program} {l : Nat} {f : FuncId} {tmps : Array Value} {assign body : Code} {w : World} {R : Ending → World → Prop} (l' : Nat) (h : RoundIn F n P l f tmps assign body w R) : RoundIn (F.inRound l') n P l f tmps assign body w R := h

/-- the outer loop's blocks within the inner one's -/
structure Inn (O : Blocks) (W0 : World) (X : Says) (D0 D : Blocks) (W : World) : Prop where
  sub : ∀ k, D0 k → D k
  dO : ∀ k, D0 k → O k ∨ W0.heap.size ≤ k
  Od : ∀ k, O k → D0 k
  on : On D0 X W
theorem Inn.keep {O : Blocks} {W0 : World} {X : Says} {D0 D : Blocks} {W W' : World} (h : Inn O W0 X D0 D W) (hk : ∀ k, D k → W'.heap[k]? = W.heap[k]?) : Inn O W0 X D0 D W' := ⟨h.sub, h.dO, h.Od, h.on.on fun k hd => hk k (h.sub k hd)⟩
theorem Inn.wide {O : Blocks} {W0 : World} {X : Says} {D0 D D' : Blocks} {W : World} (h : Inn O W0 X D0 D W) (hd : ∀ k, D k → D' k) : Inn O W0 X D0 D' W := ⟨fun k hk => hd k (h.sub k hk), h.dO, h.Od, h.on⟩
theorem Inn.below {O : Blocks} {W0 : World} {X : Says} {D0 D : Blocks} {W W' : World} (h : Inn O W0 X D0 D W) (hb : Below W.heap.size W W') : Inn O W0 X D0 D W' := ⟨h.sub, h.dO, h.Od, h.on.below hb⟩
theorem Inn.set {O : Blocks} {W0 : World} {X : Says} {D0 D : Blocks} {W : World} (h : Inn O W0 X D0 D W) {b o : Nat} (hb : ¬ D0 b) (v : Value) : Inn O W0 X D0 D (W.setCell ⟨b, o, none⟩ v) := ⟨h.sub, h.dO, h.Od, h.on.set hb v⟩
/-- behind a yield of the outer loop -/
theorem Inn.post {O : Blocks} {W0 : World} {X X' : Says} {D0 D : Blocks} {W W' : World} (h : Inn O W0 X D0 D W) (hs : W0.heap.size ≤ W.heap.size) (hp : PostL D0 W.heap.size X' W W') :
    ∃ D0', Inn O W0 X' D0' (fun k => D k ∨ D0' k) W' ∧ (∀ k, D0' k → D0 k ∨ W.heap.size ≤ k) ∧ Exc D0 W W' := by
  obtain ⟨hx, D0', d1, d2, d3⟩ := hp
  exact ⟨D0', ⟨fun k hk => .inr hk, fun k hk => (d1 k hk).elim (h.dO k) (fun hh => .inr (Nat.le_trans hs hh)), fun k hk => d2 k (h.Od k hk), d3⟩, d1, hx⟩
theorem Inn.put {O : Blocks} {W0 : World} {X : Says} {D0 D : Blocks} {W : World} (h : Inn O W0 X D0 D W) {b : Nat} (hb : ¬ D b) (o : Obj) : Inn O W0 X D0 D (W.putObj b o) := ⟨h.sub, h.dO, h.Od, h.on.put (fun hd => hb (h.sub _ hd)) o⟩
theorem Inn.fin {O : Blocks} {W0 : World} {X : Says} {D0 D : Blocks} {W : World} (h : Inn O W0 X D0 D W) (hx : Exc O W0 W) : PostL O W0.heap.size X W0 W := ⟨hx, D0, h.dO, h.Od, h.on⟩

/-- the loop within Days: the count's block, and the outer loop -/
def DJ (O : Blocks) (W0 : World) (b7 : Nat) (J : Nat → Says) (E : Nat → Nat → Int → Prop) (i : Nat) : Says := fun D W =>
  D b7 ∧ ∃ (c : Int) (q : Nat) (D0 : Blocks), 0 ≤ c ∧ c ≤ i ∧ ¬ D0 b7 ∧ Inn O W0 (J q) D0 D W ∧ RowAt W b7 [.int .i64 c] 3 ∧ E q i c
def DX (O : Blocks) (W0 : World) (X : Says) : Says := fun D W => ∃ D0 : Blocks, Inn O W0 X D0 D W
theorem DJ.onD {O : Blocks} {W0 : World} {b7 : Nat} {J : Nat → Says} {E : Nat → Nat → Int → Prop} {i : Nat} {D : Blocks} {W : World} (hD : ∀ k, D k → k < W.heap.size) (h : DJ O W0 b7 J E i D W) : On D (DJ O W0 b7 J E i) W := by
  obtain ⟨h1, c, q, D0, h2, h3, h4, h5, h6, h7⟩ := h
  exact ⟨hD, fun W2 hk => ⟨h1, c, q, D0, h2, h3, h4, h5.keep hk, h6.keep (hk _ h1), h7⟩⟩
theorem DX.onD {O : Blocks} {W0 : World} {X : Says} {D : Blocks} {W : World} (hD : ∀ k, D k → k < W.heap.size) (h : DX O W0 X D W) : On D (DX O W0 X) W := by
  obtain ⟨D0, h3⟩ := h
  exact ⟨hD, fun W2 hk => ⟨D0, h3.keep hk⟩⟩
/-- how the loop within Days stops -/
def DyS (O : Blocks) (W0 : World) (X Y : Says) (c : Code) : Says := fun D W => c = .ret ∧ (DX O W0 X D W ∨ DX O W0 Y D W)
theorem DyS.onX {O : Blocks} {W0 : World} {X Y : Says} {D : Blocks} {W : World} (h : On D (DX O W0 X) W) : On D (DyS O W0 X Y .ret) W := ⟨h.1, fun W2 hk => ⟨rfl, .inl (h.2 W2 hk)⟩⟩
theorem DyS.onY {O : Blocks} {W0 : World} {X Y : Says} {D : Blocks} {W : World} (h : On D (DX O W0 Y) W) : On D (DyS O W0 X Y .ret) W := ⟨h.1, fun W2 hk => ⟨rfl, .inr (h.2 W2 hk)⟩⟩
theorem drop_one {l : List Int} {i : Nat} {d : Int} (h : l[i]? = some d) : l.drop i = d :: l.drop (i + 1) := by
  obtain ⟨hk, he⟩ := List.getElem?_eq_some_iff.1 h
  rw [List.drop_eq_getElem_cons hk, he]
theorem drop_nil_len {l : List Int} {q : Nat} (h : l.drop q = []) (hq : q ≤ l.length) : q = l.length := by
  have := congrArg List.length h
  simp at this
  omega
theorem drop_head {l r : List Int} {q : Nat} {d : Int} (h : l.drop q = d :: r) : l[q]? = some d ∧ l.drop (q + 1) = r ∧ q + 1 ≤ l.length := by
  have h1 : (l.drop q)[0]? = some d := by rw [h]; rfl
  rw [List.getElem?_drop] at h1
  have h2 := (List.getElem?_eq_some_iff.1 h1).1
  refine ⟨h1, ?_, by omega⟩
  have := drop_one h1
  simp only [Nat.add_zero] at this
  rw [h] at this
  injection this with _ h3
  exact h3.symm

def fixD (l br bs bf bl bc b6 b7 : Nat) : List (Nat × Value) := [(0, .func (.yield l) #[] #[]), (1, .pointer (some ⟨br, 0, none⟩)), (2, .pointer (some ⟨bs, 0, none⟩)), (3, .pointer (some ⟨bf, 0, none⟩)), (4, .pointer (some ⟨bl, 0, none⟩)), (5, .pointer (some ⟨bc, 0, none⟩)), (6, .pointer (some ⟨b6, 0, none⟩)), (7, .pointer (some ⟨b7, 0, none⟩))]
theorem slotsD (l br bs bf bl bc b6 b7 : Nat) (W : World) (r : RuleD) (m md wk pl : Value) (tx : ByteArray) (s f last : Int) : Slots (fun i => 10 + i) (fixD l br bs bf bl bc b6 b7) 46 8 (NDs W r m md wk pl tx s f last) :=
  ⟨fun i hi => by show 10 + i < 46; omega, fun i j hi hj h => by have h' : 10 + i = 10 + j := h; omega, fun p hp i hi => by
    simp only [fixD, List.mem_cons, List.not_mem_nil, or_false] at hp
    show p.1 ≠ 10 + i
    rcases hp with rfl | rfl | rfl | rfl | rfl | rfl | rfl | rfl <;> simp <;> omega, NDs.grow⟩

set_option maxRecDepth 100000 in
set_option maxHeartbeats 8000000 in
theorem days_it (r : RuleD) (m md wk pl : Value) (tx : ByteArray) (s f last : Int) (br bs bf bl bc : Nat) (w : World) (hl : RuleL w r m md wk pl) (ho : RuleOk r) (s0 : 0 ≤ s) (s1 : s ≤ 7258118400) (f0 : -1000000000000 ≤ f) (f1 : f ≤ 7258118400)
    (l0 : -1000000000000 ≤ last) (l1 : last ≤ 7258118400) (q1 : RowAt w br (ruleC r.fq r.iv r.ct r.un m md wk pl r.ws tx) 76) (q2 : RowAt w bs [.int .i64 s] 3) (q3 : RowAt w bf [.int .i64 f] 3) (q4 : RowAt w bl [.int .i64 last] 3) (q5 : RowAt w bc [.int .i64 (s % 86400)] 3) :
    ItL Tryz.prog 313 #[.pointer (some ⟨br, 0, none⟩), .pointer (some ⟨bs, 0, none⟩), .pointer (some ⟨bf, 0, none⟩), .pointer (some ⟨bl, 0, none⟩), .pointer (some ⟨bc, 0, none⟩)] (dayL (dysL r s f last)) (fun k => k = br ∨ k = bs ∨ k = bf ∨ k = bl ∨ k = bc ∨ LB m md wk pl k) w := by
  intro l W O J Js Jp hsz hR hO h0J hY
  have hlW := hl.keep fun k hk => hR k (.inr (.inr (.inr (.inr (.inr hk)))))
  replace q1 := q1.keep (hR br (.inl rfl))
  replace q2 := q2.keep (hR bs (.inr (.inl rfl)))
  replace q3 := q3.keep (hR bf (.inr (.inr (.inl rfl))))
  replace q4 := q4.keep (hR bl (.inr (.inr (.inr (.inl rfl)))))
  replace q5 := q5.keep (hR bc (.inr (.inr (.inr (.inr (.inl rfl))))))
  have nO1 : ¬ O br := fun h => hO br h (.inl rfl)
  have nO2 : ¬ O bs := fun h => hO bs h (.inr (.inl rfl))
  have nO3 : ¬ O bf := fun h => hO bf h (.inr (.inr (.inl rfl)))
  have nO4 : ¬ O bl := fun h => hO bl h (.inr (.inr (.inr (.inl rfl))))
  have nO5 : ¬ O bc := fun h => hO bc h (.inr (.inr (.inr (.inr (.inl rfl)))))
  have nOL : ∀ k, O k → ¬ LB m md wk pl k := fun k h h' => hO k h (.inr (.inr (.inr (.inr (.inr h')))))
  have hok' := startW_ok ho (s / 86400)
  have hOT : Hid (∀ wr, Calls Tryz.prog 66 #[.int .i64 s] wr fun e w' => e = .returned (dnV (s / 86400)) ∧ Below wr.heap.size wr w') := hide fun wr => ofTime_n s wr s0 s1
  have hSW : Hid (∀ wr, Below W.heap.size W wr → Calls Tryz.prog 314 #[ruleV r.fq r.iv r.ct r.un m md wk pl r.ws tx, dnV (s / 86400)] wr (StP wr r (s / 86400) tx m md wk pl)) :=
    hide fun wr hb => startingWith_n r m md wk pl tx (s / 86400) wr (hlW.on hb) ho (by omega) (by omega)
  have hdb := hide (chosenL_bd (startW r (s / 86400)) hok' s f last s0 s1 f1 l1)
  have hct : (startW r (s / 86400)).ct = r.ct := by unfold startW; split; rfl; split; rfl; split; rfl; split; split <;> rfl; rfl
  have hct0 := ho.ct0
  have hct9 := ho.ct9
  have hYS : Hid (dysL r s f last = dysF s f last r.ct 0 (chosenL (startW r (s / 86400)) s f last)) := hide rfl
  have hlf : ∀ k, LB m md wk pl k → k < W.heap.size := fun k hk => hlW.blk hk
  obtain ⟨a1, e1⟩ := hlW.ms.form
  obtain ⟨a2, e2⟩ := hlW.mds.form
  obtain ⟨a3, e3⟩ := hlW.wks.form
  obtain ⟨a4, e4⟩ := hlW.pls.form
  clear hR hO hl ho hsz
  have hLb := hide (fun (i : Nat) (d : Int) (h : (dysL r s f last)[i]? = some d) => hY i _ (dayL_get h))
  clear hY
  rw [dayL_len]
  generalize dysL r s f last = YS at *
  refine callsIn_of_wpF Tryz.func313 rfl ?_
  simp only [Tryz.ntmps313, List.size_toArray, List.length_cons, List.length_nil, Nat.reduceAdd, Nat.reduceSub, Array.replicate_succ, Array.replicate_zero, List.push_toArray, List.append_toArray, List.nil_append, List.cons_append]
  refine wpF_seq fun K hK => wpF_of ?_
  gi_wp2_with fail
  refine wpF_seq fun K hK => wpF_of ?_
  gi_wp2_with fail
  have r6 := row_fst W [.func (.yield l) #[] #[]] 331 (.cells #[.int .i64 0] 3)
  have r7 := row_snd W [.int .i64 0] 3 (.cells #[.func (.yield l) #[] #[]] 331)
  have hbw := bl_two W (.cells #[.func (.yield l) #[] #[]] 331) (.cells #[.int .i64 0] 3)
  have hsz : ((W.alloc (.cells #[.func (.yield l) #[] #[]] 331)).alloc (.cells #[.int .i64 0] 3)).heap.size = W.heap.size + 2 := by simp
  refine wpF_seq fun K1 hK1 => wpF_of (wpIn_wide.2 ?_)
  generalize (W.alloc (.cells #[.func (.yield l) #[] #[]] 331)).alloc (.cells #[.int .i64 0] 3) = W2 at *
  have S := slotsD l br bs bf bl bc W.heap.size (W.heap.size + 1) W2 r m md wk pl tx s f last
  have q1' := hide fun w' (h : Below W2.heap.size W2 w') => ruleLd_run ((q1.on hbw).on h)
  have q2' := hide fun w' (h : Below W2.heap.size W2 w') => intLd_run (((q2.on hbw).on h).cell (k := 0) rfl)
  have q3' := hide fun w' (h : Below W2.heap.size W2 w') => intLd_run (((q3.on hbw).on h).cell (k := 0) rfl)
  have q4' := hide fun w' (h : Below W2.heap.size W2 w') => intLd_run (((q4.on hbw).on h).cell (k := 0) rfl)
  refine wp_region_plain (GV (fun i => 10 + i) (NDs W2 r m md wk pl tx s f last)) (JV 46 (fixD l br bs bf bl bc W.heap.size (W.heap.size + 1)) W2) (by kernel_rfl) (by kernel_rfl) (by kernel_rfl) ?rops ?rdone ⟨rfl, rfl, fun p hp => by
    simp only [fixD, List.mem_cons, List.not_mem_nil, or_false] at hp
    rcases hp with rfl | rfl | rfl | rfl | rfl | rfl | rfl | rfl <;> rfl, (Below.refl _ _).drew⟩
  case rops =>
    intro i o ho a w' hI hG
    have hi : i < 8 := (Array.getElem?_eq_some_iff.1 ho).1
    have s1 : a.eval (.tmp 1) = .pointer (some ⟨br, 0, none⟩) := hI.fixed (1, _) (by simp [fixD])
    have s2 : a.eval (.tmp 2) = .pointer (some ⟨bs, 0, none⟩) := hI.fixed (2, _) (by simp [fixD])
    have s3 : a.eval (.tmp 3) = .pointer (some ⟨bf, 0, none⟩) := hI.fixed (3, _) (by simp [fixD])
    have s4 : a.eval (.tmp 4) = .pointer (some ⟨bl, 0, none⟩) := hI.fixed (4, _) (by simp [fixD])
    have hor : i = 0 ∨ i = 1 ∨ i = 2 ∨ i = 3 ∨ i = 4 ∨ i = 5 ∨ i = 6 ∨ i = 7 := by omega
    rcases hor with rfl | rfl | rfl | rfl | rfl | rfl | rfl | rfl <;> obtain rfl := Option.some.inj ho
    · exact op_value (v := ruleV r.fq r.iv r.ct r.un m md wk pl r.ws tx) (ld_run rfl s1 (q1'.out _ hI.below)) (stepV S rfl (by decide) hI (Below.refl _ _) rfl)
    · exact op_value (v := .int .i64 s) (ld_run rfl s2 (q2'.out _ hI.below)) (stepV S rfl (by decide) hI (Below.refl _ _) rfl)
    · have e : a.eval (.tmp 11) = .int .i64 s := hG ⟨1, .data⟩ (by simp) rfl
      exact op_callV (f := 66) (args := #[a.eval (.tmp 11)]) (by kernel_rfl) (by rw [e]; exact hOT.out w') (fun w'' hb => stepV S rfl (by decide) hI hb rfl)
    · have e1 : a.eval (.tmp 10) = ruleV r.fq r.iv r.ct r.un m md wk pl r.ws tx := hG ⟨0, .data⟩ (by simp) rfl
      have e2 : a.eval (.tmp 12) = dnV (s / 86400) := hG ⟨2, .data⟩ (by simp) rfl
      refine op_call (f := 314) (args := #[a.eval (.tmp 10), a.eval (.tmp 12)]) (by kernel_rfl) (by rw [e1, e2]; exact hSW.out w' (hbw.trans (hI.below.mono hbw.size))) ?_ (by rintro c w'' ⟨_, _, _, e, _⟩; cases e) (by rintro w'' ⟨_, _, _, e, _⟩; cases e)
      rintro v w'' ⟨m', md', wk', e, h2, h3, h4⟩
      cases e
      exact stepV S rfl (by decide) hI h3 ⟨m', md', wk', rfl, h2, fun k hk => (h4 k hk).imp id fun h => Nat.le_trans hI.below.size h⟩
    · exact op_value (v := .int .i64 s) (ld_run rfl s2 (q2'.out _ hI.below)) (stepV S rfl (by decide) hI (Below.refl _ _) rfl)
    · exact op_value (v := .int .i64 f) (ld_run rfl s3 (q3'.out _ hI.below)) (stepV S rfl (by decide) hI (Below.refl _ _) rfl)
    · exact op_value (v := .int .i64 last) (ld_run rfl s4 (q4'.out _ hI.below)) (stepV S rfl (by decide) hI (Below.refl _ _) rfl)
    · obtain ⟨m', md', wk', e3, h2, h4⟩ : ∃ m' md' wk', a.eval (.tmp 13) = ruleV (startW r (s / 86400)).fq (startW r (s / 86400)).iv (startW r (s / 86400)).ct (startW r (s / 86400)).un m' md' wk' pl (startW r (s / 86400)).ws tx ∧ RuleL w' (startW r (s / 86400)) m' md' wk' pl ∧ ∀ k, LB m' md' wk' pl k → LB m md wk pl k ∨ W2.heap.size ≤ k := hG ⟨3, .data⟩ (by simp) rfl
      have e4 : a.eval (.tmp 14) = .int .i64 s := hG ⟨4, .data⟩ (by simp) rfl
      have e5 : a.eval (.tmp 15) = .int .i64 f := hG ⟨5, .data⟩ (by simp) rfl
      have e6 : a.eval (.tmp 16) = .int .i64 last := hG ⟨6, .data⟩ (by simp) rfl
      refine op_call (f := 315) (args := #[a.eval (.tmp 13), a.eval (.tmp 14), a.eval (.tmp 15), a.eval (.tmp 16)]) (by kernel_rfl) (by
        rw [e3, e4, e5, e6]
        exact chosen_n _ _ _ _ _ m' md' wk' pl tx s f last w' (by obtain ⟨x, e⟩ := h2.ms.form; exact ⟨_, _, _, e⟩) (by obtain ⟨x, e⟩ := h2.mds.form; exact ⟨_, _, _, e⟩) (by obtain ⟨x, e⟩ := h2.wks.form; exact ⟨_, _, _, e⟩) (by obtain ⟨x, e⟩ := h2.pls.form; exact ⟨_, _, _, e⟩)) ?_ (by rintro c w'' ⟨e, _⟩; cases e) (by rintro w'' ⟨e, _⟩; cases e)
      rintro v w'' ⟨e, rfl⟩
      cases e
      obtain ⟨x0, x1, x2, x3, xb⟩ := row4 w' (ruleC (startW r (s / 86400)).fq (startW r (s / 86400)).iv (startW r (s / 86400)).ct (startW r (s / 86400)).un m' md' wk' pl (startW r (s / 86400)).ws tx) 76 (.int .i64 s) (.int .i64 f) (.int .i64 last) 3 3 3
      exact stepV S rfl (by decide) hI xb ⟨m', md', wk', w'.heap.size, rfl, hI.below.size, x0, x1, x2, x3, h2.on xb, h4⟩
  case rdone =>
    intro a w3 hI hG
    obtain ⟨m', md', wk', b, e17, hb, x0, x1, x2, x3, hl', hLB⟩ : ∃ m' md' wk' b, a.eval (.tmp 17) = .func (.func 340) #[] #[.pointer (some ⟨b + 1, 0, none⟩), .pointer (some ⟨b, 0, none⟩), .pointer (some ⟨b + 2, 0, none⟩), .pointer (some ⟨b + 3, 0, none⟩)] ∧ W2.heap.size ≤ b ∧
      RowAt w3 b (ruleC (startW r (s / 86400)).fq (startW r (s / 86400)).iv (startW r (s / 86400)).ct (startW r (s / 86400)).un m' md' wk' pl (startW r (s / 86400)).ws tx) 76 ∧ RowAt w3 (b + 1) [.int .i64 s] 3 ∧ RowAt w3 (b + 2) [.int .i64 f] 3 ∧ RowAt w3 (b + 3) [.int .i64 last] 3 ∧
      RuleL w3 (startW r (s / 86400)) m' md' wk' pl ∧ ∀ k, LB m' md' wk' pl k → LB m md wk pl k ∨ W2.heap.size ≤ k := hG 7 (by decide)
    have s0' : a.eval (.tmp 0) = .func (.yield l) #[] #[] := hI.fixed (0, _) (by simp [fixD])
    have s1' : a.eval (.tmp 1) = .pointer (some ⟨br, 0, none⟩) := hI.fixed (1, _) (by simp [fixD])
    have s2' : a.eval (.tmp 2) = .pointer (some ⟨bs, 0, none⟩) := hI.fixed (2, _) (by simp [fixD])
    have s3' : a.eval (.tmp 3) = .pointer (some ⟨bf, 0, none⟩) := hI.fixed (3, _) (by simp [fixD])
    have s4' : a.eval (.tmp 4) = .pointer (some ⟨bl, 0, none⟩) := hI.fixed (4, _) (by simp [fixD])
    have s5' : a.eval (.tmp 5) = .pointer (some ⟨bc, 0, none⟩) := hI.fixed (5, _) (by simp [fixD])
    have s6' : a.eval (.tmp 6) = .pointer (some ⟨W.heap.size, 0, none⟩) := hI.fixed (6, _) (by simp [fixD])
    have s7' : a.eval (.tmp 7) = .pointer (some ⟨W.heap.size + 1, 0, none⟩) := hI.fixed (7, _) (by simp [fixD])
    have hb3 := hI.below
    have hsz3 := hI.size
    have hdf := hI.defers
    clear hI hG S q1' q2' q3' q4' hSW hOT
    refine hK1 a w3 ?_
    clear hK1
    obtain ⟨fr, rfl, hf⟩ := act_lit46 a hsz3 hdf
    have g0 := (hf 0).symm.trans s0'
    have g1 := (hf 1).symm.trans s1'
    have g2 := (hf 2).symm.trans s2'
    have g3 := (hf 3).symm.trans s3'
    have g4 := (hf 4).symm.trans s4'
    have g5 := (hf 5).symm.trans s5'
    have g6 := (hf 6).symm.trans s6'
    have g7 := (hf 7).symm.trans s7'
    have g17 := (hf 17).symm.trans e17
    rw [g0, g1, g2, g3, g4, g5, g6, g7, g17]
    clear hf hsz3 hdf s0' s1' s2' s3' s4' s5' s6' s7' e17 g0 g1 g2 g3 g4 g5 g6 g7 g17
    have hit := chosen_it (startW r (s / 86400)) m' md' wk' pl tx s f last (b + 1) b (b + 2) (b + 3) w3 hl' hok' s0 s1 f0 f1 l0 l1 x1 x0 x2 x3
    have hbw3 := hbw.trans (hb3.mono hbw.size)
    have hs3 : W.heap.size + 2 ≤ w3.heap.size := by have := hb3.size; omega
    replace r6 := r6.on hb3
    replace r7 := r7.on hb3
    have hRlt : ∀ k, (k = b + 1 ∨ k = b ∨ k = b + 2 ∨ k = b + 3 ∨ LB m' md' wk' pl k) → k < w3.heap.size := fun k hk => by
      rcases hk with rfl | rfl | rfl | rfl | h
      · exact x1.lt
      · exact x0.lt
      · exact x2.lt
      · exact x3.lt
      · exact hl'.blk h
    have hOR : ∀ k, (O k ∨ k = W.heap.size + 1) → ¬ (k = b + 1 ∨ k = b ∨ k = b + 2 ∨ k = b + 3 ∨ LB m' md' wk' pl k) := fun k hk hk' => by
      have hk2 : k < W2.heap.size := hk.elim (fun h => by have := h0J.1 k h; omega) (fun h => by omega)
      rcases hk' with h | h | h | h | h
      · omega
      · omega
      · omega
      · omega
      · rcases hLB k h with h' | h'
        · rcases hk with hk | hk
          · exact nOL k hk h'
          · have := hlf k h'; omega
        · omega
    clear x0 x1 x2 x3 hl' hLB hb e1 e2 e3 e4 hok'
    obtain ⟨hdl, hdm⟩ := hdb.out
    generalize chosenL (startW r (s / 86400)) s f last = XS at *
    clear hct hdb
    generalize r.ct = ct at *
    refine wpF_block ?_
    have eg : ∀ args w, (callFunc 340 args).run Tryz.prog w = .ok (.enter 340 args) w := enters_of Tryz.func340 (by kernel_rfl) rfl
    refine range_go (gf := 340) (lb := #[.pointer (some ⟨b + 1, 0, none⟩), .pointer (some ⟨b, 0, none⟩), .pointer (some ⟨b + 2, 0, none⟩), .pointer (some ⟨b + 3, 0, none⟩)]) Tryz.func313 ?g eg hit (Nat.le_refl _) (fun _ _ => rfl) hRlt
      (fun k => O k ∨ k = W.heap.size + 1) hOR (DJ O W (W.heap.size + 1) J fun q i c => q ≤ YS.length ∧ YS.drop q = dysF s f last ct c (XS.drop i)) (DyS O W (J YS.length) Js) (fun c => DX O W (Jp c)) ?ps ?start ?round ?done ?stop ?pan
    case g => rfl
    case ps => intro x hx; obtain ⟨d, _, rfl⟩ := List.mem_map.1 hx; rfl
    case start => exact DJ.onD (fun k hk => hk.elim (fun h => by have := h0J.1 k h; omega) (fun h => by omega)) ⟨.inr rfl, 0, 0, O, Int.le_refl _, by simp, fun h => by have := h0J.1 _ h; omega, ⟨fun k hk => .inl hk, fun k hk => .inl hk, fun k hk => hk, h0J.below hbw3⟩, r7, Nat.zero_le _, by simpa using hYS.out⟩
    case stop =>
      rintro c W4 ⟨hx, D, hd1, _, hon⟩ hs hdef
      have hx' : Exc O W (W4.putObj w3.heap.size (.deferred none)) := ((Exc.of_below hbw3).trans hx (fun k hk => hk.imp id fun h => by omega)).put (.inr (by omega)) _
      have hnd : ¬ D w3.heap.size := fun h => (hd1 _ h).elim (fun h => h.elim (fun h => by have := h0J.1 _ h; omega) (by omega)) (by omega)
      obtain ⟨rfl, h⟩ := hon.out
      have hfin := hide (show PostL O W.heap.size (J YS.length) W (W4.putObj w3.heap.size (.deferred none)) ∨ PostL O W.heap.size Js W (W4.putObj w3.heap.size (.deferred none)) from by
        rcases h with ⟨D0, h⟩ | ⟨D0, h⟩
        · exact .inl ((h.put hnd _).fin hx')
        · exact .inr ((h.put hnd _).fin hx'))
      clear h hon hd1
      gi_wp2_with fail
      refine ⟨by simp, .inl ⟨_, _, rfl, run_takeDeferred hdef, ?_⟩⟩
      exact ⟨_, results_none rfl _ _ _, .inl ⟨⟨_, rfl⟩, hfin.out⟩⟩
    case pan =>
      rintro c W4 ⟨hx, D, hd1, _, hon⟩ hs hdef
      have hx' : Exc O W (W4.putObj w3.heap.size (.deferred none)) := ((Exc.of_below hbw3).trans hx (fun k hk => hk.imp id fun h => by omega)).put (.inr (by omega)) _
      have hnd : ¬ D w3.heap.size := fun h => (hd1 _ h).elim (fun h => h.elim (fun h => by have := h0J.1 _ h; omega) (by omega)) (by omega)
      obtain ⟨D0, h⟩ := hon.out
      refine ⟨by simp, .inl ⟨_, _, rfl, run_takeDeferred hdef, ?_⟩⟩
      exact .inr ⟨c, rfl, (h.put hnd _).fin hx'⟩
    case done =>
      rw [dayL_len]
      rintro W4 ⟨hx, D, hd1, _, hon⟩ hs hdef
      have hx' : Exc O W (W4.putObj w3.heap.size (.deferred none)) := ((Exc.of_below hbw3).trans hx (fun k hk => hk.imp id fun h => by omega)).put (.inr (by omega)) _
      have hnd : ¬ D w3.heap.size := fun h => (hd1 _ h).elim (fun h => h.elim (fun h => by have := h0J.1 _ h; omega) (by omega)) (by omega)
      obtain ⟨_, c, q, D0, _, _, _, inn, _, hq, hqd⟩ := hon.out
      have hqe : q = YS.length := drop_nil_len (by rw [hqd, List.drop_length]; rfl) hq
      refine ⟨by simp, .inl ⟨_, _, rfl, run_takeDeferred hdef, ?_⟩⟩
      exact ⟨_, results_none rfl _ _ _, .inl ⟨⟨_, rfl⟩, .inl (by rw [← hqe]; exact (inn.put hnd _).fin hx')⟩⟩
    case round =>
      intro l1' i x hx W4 D hxc hs hOD hon K hK
      obtain ⟨d, hd⟩ : ∃ d, XS[i]? = some d := ⟨_, List.getElem?_eq_getElem (by have := (List.getElem?_eq_some_iff.1 hx).1; rwa [dayL_len] at this)⟩
      rw [dayL_get hd] at hx
      cases hx
      have hdd := hdm d (List.mem_of_getElem? hd)
      have hil := (List.getElem?_eq_some_iff.1 hd).1
      have hdrop := hide (drop_one hd)
      clear hd hdm
      unfold dnV dayA
      gi_wp2_with fail
      have hb8 : Below W4.heap.size W4 (W4.alloc (.cells #[.int .i64 (Cal.ofY d), .int .i64 (Cal.ofM d), .int .i64 (Cal.ofD d)] 106)) := (Below.refl _ _).alloc (Nat.le_refl _) _
      refine hK _ _ (fun k => D k ∨ k = W4.heap.size) hb8 (fun k hk => hk.imp id fun h => by omega) (fun k hk => .inl hk) (fun k hk => hk.elim (fun h => by have := hon.1 k h; simp; omega) (fun h => by simp; omega)) ?_
      intro l' W5 hk2 hx2 hs2
      have q8 := (RowAt.new W4 [.int .i64 (Cal.ofY d), .int .i64 (Cal.ofM d), .int .i64 (Cal.ofD d)] 106).keep (hk2 _ (.inr rfl))
      have hon2 := hon.on (W' := W5) fun k hk => (hk2 k (.inl hk)).trans (hb8.block k (hon.1 k hk))
      have hxW : Exc O W W5 := (Exc.of_below hbw3).trans hx2 (fun k hk => hk.imp id fun h => by omega)
      have q6 := r6.exc hx2 (show ¬ (O W.heap.size ∨ W.heap.size = W.heap.size + 1) from fun h => h.elim (fun h => by have := h0J.1 _ h; omega) (by omega))
      have hD1 : ∀ k, D k ∨ k = W4.heap.size → k < W5.heap.size := fun k hk => hk.elim (hon2.1 k) (fun h => by have := q8.lt; omega)
      have hW4 : ¬ D W4.heap.size := fun h => by have := hon.1 _ h; omega
      have hs5 : W.heap.size ≤ W5.heap.size := by omega
      clear hK hb8 hk2 hit hon hbw hb3 r7
      obtain ⟨hb7, c, q, D0, hc0, hci, h7, inn, q7, hq, hqd⟩ := hon2.out
      clear hon2
      have h8 : ¬ D0 W4.heap.size := fun h => hW4 (inn.sub _ h)
      replace inn := inn.wide (D' := fun k => D k ∨ k = W4.heap.size) fun k hk => .inl hk
      obtain ⟨c0, c1, c2, _, _, _⟩ := cells3 q8
      gi_wp2_with fail
      refine (CallsIn.inRound l' (callsIn_wide.2 (begin_n d W5 (by omega) (by omega)))).mono ?_
      rintro e W6 ⟨rfl, hb6⟩
      clear c0 c1 c2
      have hxW6 : Exc O W W6 := hxW.trans1 (Exc.of_below hb6)
      have y1 := q1.exc hxW6 nO1
      have y2 := q2.exc hxW6 nO2
      have y3 := q3.exc hxW6 nO3
      have y4 := q4.exc hxW6 nO4
      have y5 := q5.exc hxW6 nO5
      have y6 := q6.on hb6
      have y7 := q7.on hb6
      have y8 := q8.on hb6
      replace inn := inn.below hb6
      have hs6 := hb6.size
      have hD6 : ∀ k, D k ∨ k = W4.heap.size → k < W6.heap.size := fun k hk => Nat.lt_of_lt_of_le (hD1 k hk) hs6
      have exc6 : Exc (fun k => D k ∨ k = W4.heap.size) W5 W6 := Exc.of_below hb6
      have n17 : br ≠ W.heap.size + 1 := fun e => by have := q1.lt; omega
      unfold ruleC at y1
      have g2 := y2.cell (k := 0) rfl
      have g3 := y3.cell (k := 0) rfl
      have g4 := y4.cell (k := 0) rfl
      have g5 := y5.cell (k := 0) rfl
      have g6 := y6.cell (k := 0) rfl
      obtain ⟨c0, c1, c2, _, _, _⟩ := cells3 y8
      have hstep : Hid (YS.drop q = if d * 86400 < s - s % 86400 then dysF s f last ct c (XS.drop (i + 1)) else if last < d * 86400 then [] else (if f - s % 86400 ≤ d * 86400 then [d] else []) ++ (if c + 1 = ct then [] else dysF s f last ct (c + 1) (XS.drop (i + 1)))) := hide (by rw [hqd, hdrop.out, dysF])
      clear hqd hdrop hb6 q6 q7 q8 y2 y3 y4 y5 y6 y8 hxW hD1
      have hmod : 0 ≤ s % 86400 ∧ s % 86400 < 86400 := by omega
      generalize hM : s % 86400 = M at *
      clear hM
      have hB : -40000000 ≤ d * 86400 ∧ d * 86400 ≤ 30000000000 := by omega
      by_cases hA : d * 86400 < s - M
      case pos =>
        have hqn := hide (show YS.drop q = dysF s f last ct c (XS.drop (i + 1)) from by rw [hstep.out, if_pos hA])
        clear hstep
        gi_wp2_with fail
        exact ⟨exc6, fun k => D k ∨ k = W4.heap.size, fun k hk => .inl hk, fun k hk => hk, DJ.onD hD6 ⟨.inl hb7, c, q, D0, hc0, by omega, h7, inn, y7, hq, hqn.out⟩⟩
      case neg =>
        by_cases hLa : last < d * 86400
        case pos =>
          have hqe : Hid (q = YS.length) := hide (drop_nil_len (by rw [hstep.out, if_neg hA, if_pos hLa]) hq)
          clear hstep
          gi_wp2_with fail
          refine ⟨exc6, fun k => D k ∨ k = W4.heap.size, fun k hk => .inl hk, fun k hk => hk, DyS.onX (DX.onD hD6 ⟨D0, ?_⟩)⟩
          rw [← hqe.out]
          exact inn
        case neg =>
          by_cases hF : f - M ≤ d * 86400
          case pos =>
            have hst := hide (show YS.drop q = d :: (if c + 1 = ct then [] else dysF s f last ct (c + 1) (XS.drop (i + 1))) from by rw [hstep.out, if_neg hA, if_neg hLa, if_pos hF]; rfl)
            clear hstep
            obtain ⟨hyq, hyd, hyl⟩ := drop_head hst.out
            replace hyd := hide hyd
            obtain ⟨f1', t1', a1', b1', hy1, hR1⟩ := hLb.out q d hyq W6 D0 hxW6 inn.dO inn.Od inn.on
            unfold dnV dayA at hy1
            clear hyq hst
            gi_wp2_with fail
            refine (RoundIn.inRound l' hR1).mono ?_
            clear hy1 hR1 g2 g3 g4 g5 g6 c0 c1 c2
            rintro e WX (⟨rfl, hp⟩ | ⟨rfl, hp⟩ | ⟨ch, rfl, hp⟩)
            case inl =>
              obtain ⟨D0X, innX, d0x, hxx⟩ := inn.post (by omega) hp
              have excX : Exc (fun k => D k ∨ k = W4.heap.size) W5 WX := exc6.trans hxx (fun k hk => .inl (inn.sub k hk))
              have z7 := y7.exc hxx h7
              have z1 := y1.exc hxx (fun h => (inn.dO _ h).elim nO1 (by have := q1.lt; omega))
              have h7X : ¬ D0X (W.heap.size + 1) := fun h => (d0x _ h).elim h7 (by omega)
              have dd1 : ∀ k, (D k ∨ k = W4.heap.size) ∨ D0X k → (D k ∨ k = W4.heap.size) ∨ W5.heap.size ≤ k := fun k hk => hk.elim .inl fun h => (d0x k h).elim (fun h => .inl (inn.sub k h)) (fun h => .inr (by omega))
              have dd2 : ∀ k, D k ∨ k = W4.heap.size → (D k ∨ k = W4.heap.size) ∨ D0X k := fun k hk => .inl hk
              have hDX : ∀ k, (D k ∨ k = W4.heap.size) ∨ D0X k → k < WX.heap.size := fun k hk => hk.elim (fun h => Nat.lt_of_lt_of_le (hD6 k h) hxx.size) (fun h => innX.on.1 k h)
              have hbX : (D (W.heap.size + 1) ∨ W.heap.size + 1 = W4.heap.size) ∨ D0X (W.heap.size + 1) := .inl (.inl hb7)
              have hdX := hyd
              have hqX := hyl
              clear hp hxx d0x hyd hyl inn y7 y1
              have g7 := z7.cell (k := 0) rfl
              have f7 := z7.free (k := 0)
              have z7n : RowAt (WX.setCell ⟨W.heap.size + 1, 0, none⟩ (.int .i64 (c + 1))) (W.heap.size + 1) [.int .i64 (c + 1)] 3 := z7.set (k := 0) (.int .i64 (c + 1))
              have z1n := z1.other (b := W.heap.size + 1) (k := 0) n17 (.int .i64 (c + 1))
              have g7n := z7n.cell (k := 0) rfl
              have g1n := z1n.cell (k := 2) rfl
              have innN := innX.set (o := 0) h7X (.int .i64 (c + 1))
              have excN := hide (excX.setCell (p := ⟨W.heap.size + 1, 0, none⟩) (.inl (.inl hb7)) (.int .i64 (c + 1)))
              have hszN : (WX.setCell ⟨W.heap.size + 1, 0, none⟩ (.int .i64 (c + 1))).heap.size = WX.heap.size := World.size_setCell _ _ _
              by_cases hce : c + 1 = ct
              case pos =>
                have hqe : Hid ((q + 1) = YS.length) := hide (drop_nil_len (by rw [hdX.out, if_pos hce]) hqX)
                clear hdX
                subst hce
                gi_wp2_with fail
                refine ⟨excN.out, (fun k => (D k ∨ k = W4.heap.size) ∨ D0X k), dd1, dd2, DyS.onX (DX.onD (fun k hk => by rw [hszN]; exact hDX k hk) ⟨D0X, by rw [← hqe.out]; exact innN⟩)⟩
              case neg =>
                have hqn := hide (show YS.drop (q + 1) = dysF s f last ct (c + 1) (XS.drop (i + 1)) from by rw [hdX.out, if_neg hce])
                have hce' : (c + 1 == ct) = false := by simpa using hce
                clear hdX
                gi_wp2_with fail
                exact ⟨excN.out, (fun k => (D k ∨ k = W4.heap.size) ∨ D0X k), dd1, dd2, DJ.onD (fun k hk => by rw [hszN]; exact hDX k hk) ⟨hbX, c + 1, (q + 1), _, by omega, by omega, h7X, innN, z7n, hqX, hqn.out⟩⟩
            case inr.inl =>
              obtain ⟨D0X, innX, d0x, hxx⟩ := inn.post (by omega) hp
              have excX := hide (exc6.trans hxx (fun k hk => .inl (inn.sub k hk)) : Exc (fun k => D k ∨ k = W4.heap.size) W5 WX)
              have dd1 : ∀ k, (D k ∨ k = W4.heap.size) ∨ D0X k → (D k ∨ k = W4.heap.size) ∨ W5.heap.size ≤ k := fun k hk => hk.elim .inl fun h => (d0x k h).elim (fun h => .inl (inn.sub k h)) (fun h => .inr (by omega))
              have hDX : ∀ k, (D k ∨ k = W4.heap.size) ∨ D0X k → k < WX.heap.size := fun k hk => hk.elim (fun h => Nat.lt_of_lt_of_le (hD6 k h) hxx.size) (fun h => innX.on.1 k h)
              clear hp hxx
              gi_wp2_with fail
              exact ⟨excX.out, fun k => (D k ∨ k = W4.heap.size) ∨ D0X k, dd1, fun k hk => .inl hk, DyS.onY (DX.onD hDX ⟨_, innX⟩)⟩
            case inr.inr =>
              obtain ⟨D0X, innX, d0x, hxx⟩ := inn.post (by omega) hp
              have excX := hide (exc6.trans hxx (fun k hk => .inl (inn.sub k hk)) : Exc (fun k => D k ∨ k = W4.heap.size) W5 WX)
              have dd1 : ∀ k, (D k ∨ k = W4.heap.size) ∨ D0X k → (D k ∨ k = W4.heap.size) ∨ W5.heap.size ≤ k := fun k hk => hk.elim .inl fun h => (d0x k h).elim (fun h => .inl (inn.sub k h)) (fun h => .inr (by omega))
              have hDX : ∀ k, (D k ∨ k = W4.heap.size) ∨ D0X k → k < WX.heap.size := fun k hk => hk.elim (fun h => Nat.lt_of_lt_of_le (hD6 k h) hxx.size) (fun h => innX.on.1 k h)
              clear hp hxx
              gi_wp2_with fail
              exact ⟨rfl, excX.out, fun k => (D k ∨ k = W4.heap.size) ∨ D0X k, dd1, fun k hk => .inl hk, DX.onD hDX ⟨_, innX⟩⟩
          case neg =>
            have hdX := hide (show YS.drop q = (if c + 1 = ct then [] else dysF s f last ct (c + 1) (XS.drop (i + 1))) from by rw [hstep.out, if_neg hA, if_neg hLa, if_neg hF]; rfl)
            clear hstep
            have z7 := y7
            have z1 := y1
            have innX := inn
            have h7X := h7
            have excX := exc6
            have dd1 : ∀ k, D k ∨ k = W4.heap.size → (D k ∨ k = W4.heap.size) ∨ W5.heap.size ≤ k := fun k hk => .inl hk
            have dd2 : ∀ k, D k ∨ k = W4.heap.size → D k ∨ k = W4.heap.size := fun k hk => hk
            have hDX := hD6
            have hbX : D (W.heap.size + 1) ∨ W.heap.size + 1 = W4.heap.size := .inl hb7
            have hqX := hq
            clear inn y7 y1
            have g7 := z7.cell (k := 0) rfl
            have f7 := z7.free (k := 0)
            have z7n : RowAt (W6.setCell ⟨W.heap.size + 1, 0, none⟩ (.int .i64 (c + 1))) (W.heap.size + 1) [.int .i64 (c + 1)] 3 := z7.set (k := 0) (.int .i64 (c + 1))
            have z1n := z1.other (b := W.heap.size + 1) (k := 0) n17 (.int .i64 (c + 1))
            have g7n := z7n.cell (k := 0) rfl
            have g1n := z1n.cell (k := 2) rfl
            have innN := innX.set (o := 0) h7X (.int .i64 (c + 1))
            have excN := hide (excX.setCell (p := ⟨W.heap.size + 1, 0, none⟩) (.inl (.inl hb7)) (.int .i64 (c + 1)))
            have hszN : (W6.setCell ⟨W.heap.size + 1, 0, none⟩ (.int .i64 (c + 1))).heap.size = W6.heap.size := World.size_setCell _ _ _
            by_cases hce : c + 1 = ct
            case pos =>
              have hqe : Hid (q = YS.length) := hide (drop_nil_len (by rw [hdX.out, if_pos hce]) hqX)
              clear hdX
              subst hce
              gi_wp2_with fail
              refine ⟨excN.out, (fun k => D k ∨ k = W4.heap.size), dd1, dd2, DyS.onX (DX.onD (fun k hk => by rw [hszN]; exact hDX k hk) ⟨D0, by rw [← hqe.out]; exact innN⟩)⟩
            case neg =>
              have hqn := hide (show YS.drop q = dysF s f last ct (c + 1) (XS.drop (i + 1)) from by rw [hdX.out, if_neg hce])
              have hce' : (c + 1 == ct) = false := by simpa using hce
              clear hdX
              gi_wp2_with fail
              exact ⟨excN.out, (fun k => D k ∨ k = W4.heap.size), dd1, dd2, DJ.onD (fun k hk => by rw [hszN]; exact hDX k hk) ⟨hbX, c + 1, q, _, by omega, by omega, h7X, innN, z7n, hqX, hqn.out⟩⟩
end Go.Proofs.YthpndgcaoeokeaaGreatDoor
namespace Go.Proofs.YthpndgcaoeokeaaGreatDoor
open Go.RowKit Go.Maps Go.ChangeMaps Go.WideElems Go.MapKept

theorem laidOutP : laidOutB Tryz.prog = true := by kernel_rfl
theorem dayRow : (106 : TypeId) < Tryz.prog.types.size := of_decide_eq_true (by kernel_rfl)
theorem dayWide : (match Tryz.prog.underlying 106 with | some (.array _ _) | some (.struct _) => true | _ => false) = true := by rw [Tryz.underlying106]
set_option maxRecDepth 100000 in
theorem dayLaw : WideMaps.KeyLaw Tryz.prog 106 := deep_law_laid laidOutP (m := 2) (by omega) dayRow (by kernel_rfl) dayWide
theorem dayKeyed : Keyed Tryz.prog 106 := Keyed.of_law dayLaw
theorem zeroInt (w : World) : (zeroValue 3).run Tryz.prog w = .ok (.int .i64 0) w := by kernel_rfl
theorem dayKeyT : Tryz.prog.keyType 106 = true := by kernel_rfl
theorem cellsDay : Tryz.prog.cellsOf 106 = 3 := by kernel_rfl

theorem pos_size {n k : Nat} (h : k < n) : ∃ j, n = j + 1 := ⟨n - 1, by omega⟩
def kL (n : Int) : Lit := .string (keyBytes [.int .i64 (Cal.ofY n), .int .i64 (Cal.ofM n), .int .i64 (Cal.ofD n)])
theorem kL_is (n : Int) (h0 : -700000 ≤ n) (h1 : n ≤ 900000) : keyOf Tryz.prog 106 (dnV n) = some (kL n) := by
  have hr := rg_bd n h0 h1
  have w1 : (Lit.int .i64 (Cal.ofY n)).wf = true := WalkArith.wf_i64 (by omega)
  have w2 : (Lit.int .i64 (Cal.ofM n)).wf = true := WalkArith.wf_i64 (by omega)
  have w3 : (Lit.int .i64 (Cal.ofD n)).wf = true := WalkArith.wf_i64 (by omega)
  unfold keyOf dnV dayA kL
  obtain ⟨k, hk⟩ := pos_size dayRow
  rw [Tryz.underlying106, dayKeyT, hk]
  simp [Value.formed, Tryz.underlying106, cellsDay, Value.cells, Program.keyLits, cellsInt, Tryz.underlying3, w1, w2, w3, List.range_succ]
theorem kL_inj {a b : Int} (h0 : -700000 ≤ a) (h1 : a ≤ 900000) (k0 : -700000 ≤ b) (k1 : b ≤ 900000) (h : kL a = kL b) : a = b :=
  dn_inj h0 k0 (dayKeyed.inj (kL_is a h0 h1) (by rw [h]; exact kL_is b k0 k1))
end Go.Proofs.YthpndgcaoeokeaaGreatDoor
namespace Go.Proofs.YthpndgcaoeokeaaGreatDoor
open Go.RowKit Go.Maps Go.ChangeMaps Go.WideElems Go.MapKept

theorem ok_inj {α : Type} {a b : α} {w w' : World} (h : (Result.ok a w : Result α) = .ok b w') : a = b ∧ w = w' := by cases h; exact ⟨rfl, rfl⟩
theorem lit_inj {a b : Int} (h : (DataW.lit (.int .i64 a) : DataW Unit) = .lit (.int .i64 b)) : a = b := by cases h; rfl
theorem int_inj {a b : Int} (h : (Value.int .i64 a) = .int .i64 b) : a = b := by cases h; rfl
/-- block b is a map that counts the days of ds -/
def OutM (w : World) (b n : Nat) (ds : List Int) : Prop :=
  ∃ D : DataW Unit, w.ownsMap Tryz.prog 106 (plainElem Tryz.prog 3) b n D ∧ ∀ d, -700000 ≤ d → d ≤ 900000 → D.atKey (kL d) (.lit (.int .i64 0)) = .lit (.int .i64 (ds.count d))

theorem OutM.lt {w : World} {b n : Nat} {ds : List Int} (h : OutM w b n ds) : b < w.heap.size := by obtain ⟨D, h, _⟩ := h; exact h.lt
theorem OutM.keep {w w' : World} {b n : Nat} {ds : List Int} (h : OutM w b n ds) (e : w'.heap[b]? = w.heap[b]?) : OutM w' b n ds := by
  obtain ⟨D, ⟨es, clock, hb, F, hs, hD⟩, h2⟩ := h
  exact ⟨D, ⟨es, clock, e.trans hb, F, hs, hD⟩, h2⟩
theorem OutM.made (w : World) : OutM (w.alloc (.map #[] 0)) w.heap.size 0 [] :=
  ⟨.map [], World.ownsMap_made w _ _ _, fun d _ _ => by simp [DataW.atKey]⟩
theorem OutM.look {w : World} {b n : Nat} {ds : List Int} (h : OutM w b n ds) (d : Int) (h0 : -700000 ≤ d) (h1 : d ≤ 900000) :
    (Instr.lookup 264 (.map (some b)) (dnV d) false).run Tryz.prog w = .ok (.int .i64 (ds.count d)) w := by
  obtain ⟨D, hown, hD⟩ := h
  obtain ⟨c, hrun, hat, _⟩ := hown.lookup_int dayKeyed Tryz.underlying264 Tryz.underlying3 (zeroInt w) (kL_is d h0 h1)
  rw [hD d h0 h1] at hat
  rw [hrun, lit_inj hat]
theorem map_of_block {w w' : World} {k : TypeId} {R : Value → Option (DataW Unit × List MemPlace)} {b n : Nat} {D : DataW Unit} (h : w.ownsMap Tryz.prog k R b n D) (e : w'.heap[b]? = w.heap[b]?) : w'.ownsMap Tryz.prog k R b n D := by
  obtain ⟨es, clock, hb, F, hs, hD⟩ := h
  exact ⟨es, clock, e.trans hb, F, hs, hD⟩
theorem isMap_own {w : World} {k : TypeId} {R : Value → Option (DataW Unit × List MemPlace)} {b n : Nat} {D : DataW Unit} (h : w.ownsMap Tryz.prog k R b n D) : IsMap D := h.isMap

theorem OutM.entry {w : World} {b n : Nat} {ds : List Int} (h : OutM w b n ds) (hn : n < 1000000) (d : Int) (h0 : -700000 ≤ d) (h1 : d ≤ 900000) :
    ∃ (v0 : Value) (st : Int) (W1 : World), (Instr.mapEntry 264 (.map (some b)) (dnV d)).run Tryz.prog w = .ok (.tuple #[v0, .int .i64 st]) W1 ∧ OutM W1 b (n + 1) ds ∧ Exc (fun k => k = b) w W1 ∧
      ∀ c : Int, 0 ≤ c → c ≤ 1000000 → c = ds.count d + 1 → ∃ W2, (Instr.entryStore 264 (.map (some b)) (.int .i64 st) (.int .i64 c)).run Tryz.prog W1 = .ok () W2 ∧ OutM W2 b (n + 1) (d :: ds) ∧ Exc (fun k => k = b) w W2 := by
  have hlook := h.look d h0 h1
  obtain ⟨D, hown, hD⟩ := h
  have hkey := kL_is d h0 h1
  obtain ⟨kl, hke⟩ : ∃ kl, kL d = kl := ⟨_, rfl⟩
  rw [hke] at hkey
  have hkl := dayKeyed.key hkey
  have hm : n < maxLen := by unfold maxLen; omega
  obtain ⟨es, clock, hb, F, hs, hDD⟩ := hown
  have hown : w.ownsMap Tryz.prog 106 (plainElem Tryz.prog 3) b n D := ⟨es, clock, hb, F, hs, hDD⟩
  obtain ⟨v0, st, es1, clock1, hrun1, hdis, hst⟩ := entry_then_store dayLaw Tryz.underlying264 zeroInt hb F hkey
  have hblk : (setBlock w b (.map es1 clock1)).heap[b]? = some (.map es1 clock1) := heap_setBlock_same hb _
  have hex : ∀ o, Exc (fun k => k = b) w (setBlock w b o) := fun o => ⟨rfl, rfl, rfl, by simp [setBlock], fun k _ hk => heap_setBlock_other hb _ hk⟩
  -- behind the entry the map reads as before
  have hW1 : OutM (setBlock w b (.map es1 clock1)) b (n + 1) ds := by
    rcases dayKeyed.find w hkey es.toList F.keys with ⟨f1, f2⟩ | ⟨j, e0, f1, f2, f3⟩
    · have hm1 : (Instr.mapEntry 264 (.map (some b)) (dnV d)).run Tryz.prog w = .ok (.tuple #[.int .i64 0, goInt clock]) (setBlock w b (.map (es.push ⟨dnV d, .int .i64 0, clock⟩) (clock + 1))) := by
        simp [Instr.mapEntry, run_underlying Tryz.underlying264, MapKept.run_getObj_map hb, dayKeyed.check w false hkey, f1, MapKept.run_setObj_map _ hb, Result.andThen, setBlock]
      have hu1 : (Instr.mapUpdate 264 (.map (some b)) (dnV d) (.int .i64 0)).run Tryz.prog w = .ok () (setBlock w b (.map (es.push ⟨dnV d, .int .i64 0, clock⟩) (clock + 1))) := by
        simp [Instr.mapUpdate, run_underlying Tryz.underlying264, MapKept.run_getObj_map hb, dayKeyed.check w false hkey, f1, MapKept.run_setObj_map _ hb, Result.andThen, setBlock]
      have hl1 : (Instr.lookup 264 (.map (some b)) (dnV d) false).run Tryz.prog w = .ok (.int .i64 0) w := by
        simp [Instr.lookup, run_underlying Tryz.underlying264, MapKept.run_getObj_map hb, dayKeyed.check w _ hkey, f1, Result.andThen]
      rw [hlook] at hl1
      have hz : ((ds.count d : Nat) : Int) = 0 := int_inj (ok_inj hl1).1
      obtain ⟨w', hrun', hown', _⟩ := hown.update dayKeyed Tryz.underlying264 hm hkey (plainElem_int Tryz.underlying3 (show (Lit.int .i64 0).wf = true by decide))
      rw [hu1] at hrun'
      replace hrun' := (ok_inj hrun').2
      rw [hrun1] at hm1
      replace hm1 := (ok_inj hm1).2
      rw [hm1, hrun']
      refine ⟨_, hown', fun d' k0 k1 => ?_⟩
      by_cases hdd : d' = d
      · subst hdd
        rw [hke, atKey_put_same (isMap_own hown) hkl, hz]
      · rw [atKey_put_other (fun e => hdd (kL_inj k0 k1 h0 h1 (e.trans hke.symm)))]
        exact hD d' k0 k1
    · have hj : es[j]? = some e0 := by simpa using f2
      have hsame : es.modify j (fun e => { e with key := dnV d }) = es := by
        apply Array.ext'
        rw [Array.toList_modify, modify_eq_set _ _ _ _ f2]
        have : ({ e0 with key := dnV d } : MapEntry) = e0 := by rw [← f3]
        rw [this]
        exact set_self _ _ _ f2
      have hm1 : (Instr.mapEntry 264 (.map (some b)) (dnV d)).run Tryz.prog w = .ok (.tuple #[e0.val, goInt e0.born]) (setBlock w b (.map es clock)) := by
        simp [Instr.mapEntry, run_underlying Tryz.underlying264, MapKept.run_getObj_map hb, dayKeyed.check w false hkey, f1, hj, f3, dayKeyed.stays w hkey, hsame, MapKept.run_setObj_map _ hb, Result.andThen, setBlock]
      rw [hrun1] at hm1
      replace hm1 := (ok_inj hm1).2
      rw [hm1]
      exact ⟨D, (map_of_block hown (by rw [heap_setBlock_same hb, hb])).mono (by omega), hD⟩
  refine ⟨v0, st, _, hrun1, hW1, hex _, fun c hc0 hc1 hc => ?_⟩
  obtain ⟨es', clock', hst1, hst2⟩ := hst _ (.int .i64 c) hblk
  obtain ⟨w', hrun', hown', _⟩ := hown.update dayKeyed Tryz.underlying264 hm hkey (plainElem_int Tryz.underlying3 (show (Lit.int .i64 c).wf = true from WalkArith.wf_i64 (by omega)))
  rw [hst2] at hrun'
  replace hrun' := (ok_inj hrun').2
  refine ⟨_, hst1, ⟨_, map_of_block hown' ?_, fun d' k0 k1 => ?_⟩, ?_⟩
  · rw [← hrun', heap_setBlock_same hb, heap_setBlock_same hblk]
  · by_cases hdd : d' = d
    · subst hdd
      rw [hke, atKey_put_same (isMap_own hown) hkl, List.count_cons_self, hc]
      simp
    · rw [atKey_put_other (fun e => hdd (kL_inj k0 k1 h0 h1 (e.trans hke.symm))), List.count_cons_of_ne (fun e => hdd e.symm)]
      exact hD d' k0 k1
  · exact (hex _).trans1 ⟨rfl, rfl, rfl, by simp [setBlock], fun k _ hk => heap_setBlock_other hblk _ hk⟩
end Go.Proofs.YthpndgcaoeokeaaGreatDoor
