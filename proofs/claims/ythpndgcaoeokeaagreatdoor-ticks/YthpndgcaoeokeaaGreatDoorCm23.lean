/- Two lists of times made one (the program's): what is kept. Two lists of times made one (the program's), as an iterator. An event's instances (the program's), as an iterator. -/
import Derived.Test.YthpndgcaoeokeaaGreatDoorCm22
namespace Go.Proofs.YthpndgcaoeokeaaGreatDoor
open Go.RowKit Go.Sort

def dropEq (t : Int) : List Int → List Int
  | [] => []
  | x :: r => if x = t then r else x :: r
/-- the times of both, each once -/
def mrgF : List Int → List Int → List Int
  | [], ls => ls
  | t :: ts, ls => ls.takeWhile (fun x => decide (x < t)) ++ t :: mrgF ts (dropEq t (ls.dropWhile fun x => decide (x < t)))
/-- what is still to come while the time t waits -/
def mrgW (t : Int) (ts ls : List Int) : List Int := ls.takeWhile (fun x => decide (x < t)) ++ t :: mrgF ts (dropEq t (ls.dropWhile fun x => decide (x < t)))
theorem mrgW_lt {t z : Int} {ts r : List Int} (h : z < t) : mrgW t ts (z :: r) = z :: mrgW t ts r := by
  unfold mrgW; simp [h]
theorem mrgW_eq {t : Int} {ts r : List Int} : mrgW t ts (t :: r) = t :: mrgF ts r := by
  unfold mrgW; simp [dropEq]
theorem mrgW_gt {t z : Int} {ts r : List Int} (h : t < z) : mrgW t ts (z :: r) = t :: mrgF ts (z :: r) := by
  have h1 : ¬ z < t := by omega
  have h2 : ¬ z = t := by omega
  unfold mrgW; simp [h1, dropEq, h2]
theorem mrgW_nil {t : Int} {ts : List Int} : mrgW t ts [] = t :: mrgF ts [] := by
  unfold mrgW; simp [dropEq]

/-- a slice of numbers, from wherever in its block -/
def LS (w : World) (v : Value) (ls : List Int) : Prop := ∃ a c, v = .slice a ls.length c ∧ ls.length ≤ c ∧ c ≤ 9223372036854775807 ∧ ∀ i z, ls[i]? = some z → ∃ g j, a = some ⟨g, j, none⟩ ∧ w.cell? ⟨g, j + i, none⟩ = some (.int .i64 z)
theorem LS.keep {w w' : World} {v : Value} {ls : List Int} (h : LS w v ls) (hk : ∀ k, v.ownBlock = some k → w'.heap[k]? = w.heap[k]?) : LS w' v ls := by
  obtain ⟨a, c, rfl, hc, hm, hz⟩ := h
  refine ⟨a, c, rfl, hc, hm, fun i z hi => ?_⟩
  obtain ⟨g, j, rfl, hcell⟩ := hz i z hi
  refine ⟨g, j, rfl, ?_⟩
  rw [World.cell?_of_block (w := w) (w' := w') (a := ⟨g, j + i, none⟩) (hk g rfl)]
  exact hcell
theorem LS.of_own {w : World} {B : Nat} {v : Value} {ls : List Int} (h : w.ownsRow B 3 1 v ls.length (ints ls)) : LS w v ls := by
  rcases h.2 with ⟨rfl, h0⟩ | ⟨g, cap, cur, rfl, _, _, hcap, hcm, _, _⟩
  · have : ls = [] := List.eq_nil_of_length_eq_zero h0
    subst this
    exact ⟨_, _, rfl, Nat.le_refl _, by omega, fun i z hi => by simp at hi⟩
  · refine ⟨_, _, rfl, hcap, by unfold maxLen at hcm; omega, fun i z hi => ⟨g, 0, rfl, ?_⟩⟩
    have hil := (List.getElem?_eq_some_iff.1 hi).1
    rw [Nat.zero_add, h.cellAt i (by omega)]
    unfold ints
    rw [List.getElem?_map, hi]; rfl
/-- the rest of it -/
theorem LS.tail {w : World} {v : Value} {z : Int} {ls : List Int} (h : LS w v (z :: ls)) : ∃ v', (∀ w', (Instr.slice 54 v (some (.int .i64 1)) none none).run Tryz.prog w' = .ok v' w') ∧ LS w v' ls ∧ ∀ k, v'.ownBlock = some k → v.ownBlock = some k := by
  obtain ⟨a, c, rfl, hc, hm, hz⟩ := h
  obtain ⟨g, j, rfl, _⟩ := hz 0 z rfl
  simp only [List.length_cons] at hc
  have hrun : ∀ w', (Instr.slice 54 (.slice (some ⟨g, j, none⟩) (ls.length + 1) c) (some (.int .i64 1)) none none).run Tryz.prog w' = .ok (.slice (if c = 1 then some ⟨g, j, none⟩ else some ⟨g, j + 1, none⟩) ls.length (c - 1)) w' := fun w' => by
    have h1 : (1 : Int) ≤ (ls.length : Int) + 1 := by omega
    simp [Instr.slice, Instr.sliceBounds, Instr.sliceBound, go_sem, asIntOf, h1, Addr.add]
  refine ⟨_, hrun, ⟨_, _, rfl, by omega, by omega, fun i x hi => ?_⟩, fun k hk => ?_⟩
  · have hil := (List.getElem?_eq_some_iff.1 hi).1
    obtain ⟨g', j', e, hcell⟩ := hz (i + 1) x (by simpa using hi)
    cases e
    rw [if_neg (by omega)]
    exact ⟨g, j + 1, rfl, by rw [Nat.add_assoc, Nat.add_comm 1 i]; exact hcell⟩
  · split at hk <;> exact hk

/-- the loop within merged: what is left of the others -/
def MJ (O : Blocks) (W0 : World) (b4 n4 : Nat) (ov : Value) (J : Nat → Says) (E : Nat → Nat → List Int → Prop) (i : Nat) : Says := fun D W =>
  (D b4 ∧ ∀ k, D k → (O k ∨ k = b4) ∨ n4 ≤ k) ∧ ∃ (q : Nat) (D0 : Blocks) (ls : List Int) (v : Value), ¬ D0 b4 ∧ Inn O W0 (J q) D0 D W ∧ RowAt W b4 [v] 54 ∧ LS W0 v ls ∧ (∀ k, v.ownBlock = some k → ov.ownBlock = some k) ∧ E q i ls
theorem MJ.onD {O : Blocks} {W0 : World} {b4 n4 : Nat} {ov : Value} {J : Nat → Says} {E : Nat → Nat → List Int → Prop} {i : Nat} {D : Blocks} {W : World} (hD : ∀ k, D k → k < W.heap.size) (h : MJ O W0 b4 n4 ov J E i D W) : On D (MJ O W0 b4 n4 ov J E i) W := by
  obtain ⟨h1, q, D0, ls, v, h2, h3, h4, h5⟩ := h
  exact ⟨hD, fun W2 hk => ⟨h1, q, D0, ls, v, h2, h3.keep hk, h4.keep (hk _ h1.1), h5⟩⟩
/-- within a round: b3 holds the outer yield, b4 what is left -/
structure MS (O : Blocks) (W0 : World) (l b3 b4 : Nat) (ov : Value) (X : Says) (D : Blocks) (W5 : World) (D0 : Blocks) (ls : List Int) (v : Value) (w : World) : Prop where
  inn : Inn O W0 X D0 (fun k => D k ∨ D0 k) w
  nb3 : ¬ D0 b3
  nb : ¬ D0 b4
  y : RowAt w b3 [.func (.yield l) #[] #[]] 58
  row : RowAt w b4 [v] 54
  ls : LS W0 v ls
  blk : ∀ k, v.ownBlock = some k → ov.ownBlock = some k
  exc : Exc D W5 w
  d0 : ∀ k, D0 k → D k ∨ W5.heap.size ≤ k
  excO : Exc O W0 w
section
variable {O : Blocks} {W0 : World} {l b3 b4 n4 : Nat} {ov : Value} {X X' : Says} {D : Blocks} {W5 : World} {D0 : Blocks} {ls ls' : List Int} {v v' : Value} {w w' : World}
theorem MS.below (h : MS O W0 l b3 b4 ov X D W5 D0 ls v w) (hb : Below w.heap.size w w') : MS O W0 l b3 b4 ov X D W5 D0 ls v w' :=
  ⟨h.inn.below hb, h.nb3, h.nb, h.y.on hb, h.row.on hb, h.ls, h.blk, h.exc.trans1 (Exc.of_below hb), h.d0, h.excO.trans1 (Exc.of_below hb)⟩
theorem MS.yield (h : MS O W0 l b3 b4 ov X D W5 D0 ls v w) (h05 : W0.heap.size ≤ W5.heap.size) (hp : PostL D0 w.heap.size X' w w') : ∃ D0', MS O W0 l b3 b4 ov X' D W5 D0' ls v w' := by
  have hs := h.exc.size
  obtain ⟨D0', inn', d1, hx⟩ := h.inn.post (by omega) hp
  refine ⟨D0', ⟨⟨fun k hk => .inr hk, inn'.dO, inn'.Od, inn'.on⟩, fun hk => (d1 _ hk).elim h.nb3 (by have := h.y.lt; omega), fun hk => (d1 _ hk).elim h.nb (by have := h.row.lt; omega), h.y.exc hx h.nb3, h.row.exc hx h.nb, h.ls, h.blk, h.exc.trans hx (fun k hk => h.d0 k hk), fun k hk => (d1 k hk).elim (h.d0 k) (fun h' => .inr (by omega)), h.excO.trans hx (fun k hk => h.inn.dO k hk)⟩⟩
theorem MS.set (h : MS O W0 l b3 b4 ov X D W5 D0 ls v w) (hb : D b4) (hb0 : W0.heap.size ≤ b4) (hne : b3 ≠ b4) (hl : LS W0 v' ls') (hk : ∀ k, v'.ownBlock = some k → v.ownBlock = some k) : MS O W0 l b3 b4 ov X D W5 D0 ls' v' (w.setCell ⟨b4, 0, none⟩ v') :=
  ⟨h.inn.set h.nb _, h.nb3, h.nb, h.y.other hne _, h.row.set (k := 0) v', hl, fun k e => h.blk k (hk k e), h.exc.setCell (.inl hb) _, h.d0, h.excO.setCell (.inr hb0) _⟩
/-- the first that is left -/
theorem MS.head {z : Int} (h : MS O W0 l b3 b4 ov X D W5 D0 (z :: ls) v w) (hov : ∀ k, ov.ownBlock = some k → k < W0.heap.size ∧ ¬ O k) : ∃ g j c, v = .slice (some ⟨g, j, none⟩) (ls.length + 1) c ∧ ls.length + 1 ≤ c ∧ g < W0.heap.size ∧ ¬ O g ∧ w.cell? ⟨g, j, none⟩ = some (.int .i64 z) := by
  have hl := h.ls.keep (w' := w) fun k hk => by
    obtain ⟨h1, h2⟩ := hov k (h.blk k hk)
    exact h.excO.block k h1 h2
  have hbk := h.blk
  obtain ⟨a, c, rfl, hc, _, hz⟩ := hl
  obtain ⟨g, j, rfl, hcell⟩ := hz 0 z rfl
  obtain ⟨h1, h2⟩ := hov g (hbk g rfl)
  exact ⟨g, j, c, rfl, by simpa using hc, h1, h2, by simpa using hcell⟩
theorem MS.nil (h : MS O W0 l b3 b4 ov X D W5 D0 [] v w) : ∃ a c, v = .slice a 0 c := by
  obtain ⟨a, c, e, _⟩ := h.ls
  exact ⟨a, c, e⟩
theorem MS.lt (h : MS O W0 l b3 b4 ov X D W5 D0 ls v w) (hD : ∀ k, D k → k < W5.heap.size) : ∀ k, D k ∨ D0 k → k < w.heap.size := fun k hk => hk.elim (fun hd => Nat.lt_of_lt_of_le (hD k hd) h.exc.size) (fun hd => h.inn.on.1 k hd)
/-- the round's end -/
theorem MS.fin {J : Nat → Says} {E : Nat → Nat → List Int → Prop} {i q : Nat} (h : MS O W0 l b3 b4 ov (J q) D W5 D0 ls v w) (hD : ∀ k, D k → k < W5.heap.size) (hb : D b4) (hn : ∀ k, D k → (O k ∨ k = b4) ∨ n4 ≤ k) (h5 : n4 ≤ W5.heap.size) (hE : E q i ls) : PostL D W5.heap.size (MJ O W0 b4 n4 ov J E i) W5 w :=
  ⟨h.exc, fun k => D k ∨ D0 k, fun k hk => hk.elim .inl (h.d0 k), fun _ hk => .inl hk, MJ.onD (h.lt hD) ⟨⟨.inl hb, fun k hk => hk.elim (hn k) (fun hd => (h.d0 k hd).elim (hn k) (fun h' => .inr (by omega)))⟩, q, D0, ls, v, h.nb, h.inn, h.row, h.ls, h.blk, hE⟩⟩
theorem MS.finY {Y : Says} (h : MS O W0 l b3 b4 ov X D W5 D0 ls v w) (hD : ∀ k, D k → k < W5.heap.size) : PostL D W5.heap.size (DyS O W0 Y X .ret) W5 w :=
  ⟨h.exc, fun k => D k ∨ D0 k, fun k hk => hk.elim .inl (h.d0 k), fun _ hk => .inl hk, DyS.onY (DX.onD (h.lt hD) ⟨D0, h.inn⟩)⟩
theorem MS.finP (h : MS O W0 l b3 b4 ov X D W5 D0 ls v w) (hD : ∀ k, D k → k < W5.heap.size) : PostL D W5.heap.size (DX O W0 X) W5 w :=
  ⟨h.exc, fun k => D k ∨ D0 k, fun k hk => hk.elim .inl (h.d0 k), fun _ hk => .inl hk, DX.onD (h.lt hD) ⟨D0, h.inn⟩⟩
end
end Go.Proofs.YthpndgcaoeokeaaGreatDoor
namespace Go.Proofs.YthpndgcaoeokeaaGreatDoor
open Go.RowKit Go.Sort
attribute [local go_sem] Oper.semAt_some
attribute [local go_sem] wide_fn wide_depth
attribute [local simp] wide_fn wide_depth

set_option maxRecDepth 100000 in
/-- what is left is cut by one, within a fence -/
theorem slIn {F : Fence} {nF : Nat} {ops : Array Oper} {rest : List Oper} {o : Oper} {a : Act} {w : World} {Q : Exit → Act → World → Prop} {x : Operand} {v v' : Value} (hg : o.guard = none) (ho : o.op = .slice 54 x (some (.const (.int .i64 1))) none none) (hx : a.eval x = v)
    (hr : ∀ w', (Instr.slice 54 v (some (.int .i64 1)) none none).run Tryz.prog w' = .ok v' w') (hF : ∀ f, F.fn f) (hK : wpListIn F nF Tryz.prog ops Q rest (a.put o.dst v') w) : wpListIn F nF Tryz.prog ops Q (o :: rest) a w :=
  wpListIn_plain hg fun K hK' => opIn_value hF (by rw [ho]; intro c hc; cases hc) (by
    obtain ⟨_, _, _, _, _, _⟩ := o
    simp only [] at ho
    subst ho
    unfold execOp
    have h0 : a.eval (.const (.int .i64 1)) = .int .i64 1 := rfl
    simp only [hx, h0, Option.map_some, Option.map_none]
    exact run_value (hr w)) (hK' _ _ hK)

theorem St.put {O : Blocks} {W : World} {J : Says} {D : Blocks} {wr : World} (h : St O W J D wr) {b : Nat} (hb : ¬ D b) (hW : W.heap.size ≤ b) (o : Obj) : St O W J D (wr.putObj b o) := ⟨h.exc.put (.inr hW) _, h.dO, h.Od, h.on.put hb _⟩
def NM (l gz jz : Nat) (v : Value) (z : Int) (j : Nat) (x : Value) : Prop := match j with
  | 0 => x = .func (.yield l) #[] #[]
  | 1 => x = v
  | 2 => x = .pointer (some ⟨gz, jz, none⟩)
  | _ => x = .int .i64 z
theorem slLd_run {p : Addr} {a : Option Addr} {n c : Nat} {w : World} (h : w.cell? p = some (.slice a n c)) : (Instr.loadAt 54 (.pointer (some p))).run Tryz.prog w = .ok (.slice a n c) w := by
  go_simp
theorem ix0_run {o : Oper} {a : Act} {w : World} {x : Operand} {g j n c : Nat} (ho : o.op = .indexAddr 54 x (.const (.int .i64 0))) (hx : a.eval x = .slice (some ⟨g, j, none⟩) n c) (hn : 0 < n) : (execOp a.eval o).run Tryz.prog w = .ok (.value (.pointer (some ⟨g, j, none⟩))) w := by
  obtain ⟨_, _, _, _, _, _⟩ := o
  simp only [] at ho
  subst ho
  unfold execOp
  have h0 : a.eval (.const (.int .i64 0)) = .int .i64 0 := rfl
  simp only [hx, h0]
  go_simp

set_option maxRecDepth 100000 in
set_option maxHeartbeats 8000000 in
theorem merged_it (XS OS : List Int) (g : Nat) (lb : Array Value) (R0 : Blocks) (bo bt : Nat) (ov : Value) (w : World) (hit : ItL Tryz.prog g lb (intL XS) R0 w) (eg : ∀ args w, (callFunc g args).run Tryz.prog w = .ok (.enter g args) w) (hR0 : ∀ k, R0 k → k < w.heap.size)
    (q1 : RowAt w bo [ov] 54) (q2 : RowAt w bt [.func (.func g) #[] lb] 196) (hov : LS w ov OS) (hovw : ∀ k, ov.ownBlock = some k → k < w.heap.size) :
    ItL Tryz.prog 214 #[.pointer (some ⟨bo, 0, none⟩), .pointer (some ⟨bt, 0, none⟩)] (intL (mrgF XS OS)) (fun k => k = bo ∨ k = bt ∨ R0 k ∨ ov.ownBlock = some k) w := by
  intro l W O J Js Jp hsz hR hO h0J hY
  have hovW := hov.keep fun k hk => hR k (.inr (.inr (.inr hk)))
  have hR0W : ∀ k, R0 k → W.heap[k]? = w.heap[k]? := fun k hk => hR k (.inr (.inr (.inl hk)))
  replace q1 := q1.keep (hR bo (.inl rfl))
  replace q2 := q2.keep (hR bt (.inr (.inl rfl)))
  have nOR : ∀ k, O k → ¬ R0 k := fun k h h' => hO k h (.inr (.inr (.inl h')))
  have nOv : ∀ k, O k → ¬ ov.ownBlock = some k := fun k h h' => hO k h (.inr (.inr (.inr h')))
  have hmx : Tryz.prog.follows .mixedOrders = true := by kernel_rfl
  have hR0lt : ∀ k, R0 k → k < W.heap.size := fun k hk => Nat.lt_of_lt_of_le (hR0 k hk) hsz
  have hovlt : ∀ k, ov.ownBlock = some k → k < W.heap.size := fun k hk => Nat.lt_of_lt_of_le (hovw k hk) hsz
  clear hR hO hov
  have hYS : Hid (mrgF XS OS = mrgF (XS.drop 0) OS) := hide rfl
  have hLb := hide (fun (i : Nat) (t : Int) (h : (mrgF XS OS)[i]? = some t) => hY i _ (intL_get h))
  clear hY
  rw [intL_len]
  generalize mrgF XS OS = YS at *
  have hov2 := hovW
  obtain ⟨ao, co, hoe, _⟩ := hov2
  refine callsIn_of_wpF Tryz.func214 rfl ?_
  simp only [Tryz.ntmps214, List.size_toArray, List.length_cons, List.length_nil, Nat.reduceAdd, Nat.reduceSub, Array.replicate_succ, Array.replicate_zero, List.push_toArray, List.append_toArray, List.nil_append, List.cons_append]
  refine wpF_seq fun K hK => wpF_of ?_
  gi_wp2_with fail
  have r3 : RowAt (W.alloc (.cells #[.func (.yield l) #[] #[]] 58)) W.heap.size [.func (.yield l) #[] #[]] 58 := RowAt.new W [.func (.yield l) #[] #[]] 58
  have hbw : Below W.heap.size W (W.alloc (.cells #[.func (.yield l) #[] #[]] 58)) := (Below.refl _ _).alloc (Nat.le_refl _) _
  have hs1 : W.heap.size < (W.alloc (.cells #[.func (.yield l) #[] #[]] 58)).heap.size := by simp
  generalize W.alloc (.cells #[.func (.yield l) #[] #[]] 58) = W1 at *
  refine wpF_seq fun K hK => wpF_of ?_
  rw [hoe] at q1
  have c1 := (q1.on hbw).cell (k := 0) rfl
  gi_wp2_with fail
  rw [← hoe] at q1 ⊢
  have r4 : RowAt (W1.alloc (.cells #[ov] 54)) W1.heap.size [ov] 54 := RowAt.new W1 [ov] 54
  have hba : Below W1.heap.size W1 (W1.alloc (.cells #[ov] 54)) := (Below.refl _ _).alloc (Nat.le_refl _) _
  replace r3 := r3.on hba
  replace hbw := hbw.trans (hba.mono hbw.size)
  have hs2 : W1.heap.size < (W1.alloc (.cells #[ov] 54)).heap.size := by simp
  generalize W1.alloc (.cells #[ov] 54) = W2 at *
  generalize W1.heap.size = b4 at *
  clear c1 hba
  refine wpF_seq fun K1 hK1 => ?_
  refine wpF_seq fun K hK => wpF_of ?_
  have c2 := (q2.on hbw).cell (k := 0) rfl
  gi_wp2_with fail
  clear c2
  refine wpF_block ?_
  refine range_go (gf := g) (lb := lb) Tryz.func214 ?g eg hit (by omega) (fun k hk => (hbw.block k (hR0lt k hk)).trans (hR0W k hk)) (fun k hk => by have := hR0lt k hk; omega)
    (fun k => O k ∨ k = b4) (fun k hk hk' => hk.elim (fun h => nOR k h hk') (fun h => by have := hR0lt k hk'; omega)) (MJ O W b4 W2.heap.size ov J fun q i ls => q ≤ YS.length ∧ YS.drop q = mrgF (XS.drop i) ls) (DyS O W (J YS.length) Js) (fun c => DX O W (Jp c)) ?ps ?start ?round ?done ?stop ?pan
  case g => rfl
  case ps => intro x hx; obtain ⟨d, _, rfl⟩ := List.mem_map.1 hx; rfl
  case start => exact MJ.onD (fun k hk => hk.elim (fun h => by have := h0J.1 k h; omega) (fun h => by omega)) ⟨⟨.inr rfl, fun k hk => .inl hk⟩, 0, O, OS, ov, fun h => by have := h0J.1 _ h; omega, ⟨fun k hk => .inl hk, fun k hk => .inl hk, fun k hk => hk, h0J.below hbw⟩, r4, hovW, fun k hk => hk, Nat.zero_le _, by simpa using hYS.out⟩
  case stop =>
    rintro c W4 ⟨hx, D, hd1, _, hon⟩ hs hdef
    have hx' : Exc O W (W4.putObj W2.heap.size (.deferred none)) := ((Exc.of_below hbw).trans hx (fun k hk => hk.imp id fun h => by omega)).put (.inr (by omega)) _
    have hnd : ¬ D W2.heap.size := fun h => (hd1 _ h).elim (fun h => h.elim (fun h => by have := h0J.1 _ h; omega) (by omega)) (by omega)
    obtain ⟨rfl, h⟩ := hon.out
    have hfin := hide (show PostL O W.heap.size (J YS.length) W (W4.putObj W2.heap.size (.deferred none)) ∨ PostL O W.heap.size Js W (W4.putObj W2.heap.size (.deferred none)) from by
      rcases h with ⟨D0, h⟩ | ⟨D0, h⟩
      · exact .inl ((h.put hnd _).fin hx')
      · exact .inr ((h.put hnd _).fin hx'))
    clear h hon hd1
    gi_wp2_with fail
    refine ⟨by simp, .inl ⟨_, _, rfl, run_takeDeferred hdef, ?_⟩⟩
    exact ⟨_, results_none rfl _ _ _, .inl ⟨⟨_, rfl⟩, hfin.out⟩⟩
  case pan =>
    rintro c W4 ⟨hx, D, hd1, _, hon⟩ hs hdef
    have hx' : Exc O W (W4.putObj W2.heap.size (.deferred none)) := ((Exc.of_below hbw).trans hx (fun k hk => hk.imp id fun h => by omega)).put (.inr (by omega)) _
    have hnd : ¬ D W2.heap.size := fun h => (hd1 _ h).elim (fun h => h.elim (fun h => by have := h0J.1 _ h; omega) (by omega)) (by omega)
    obtain ⟨D0, h⟩ := hon.out
    refine ⟨by simp, .inl ⟨_, _, rfl, run_takeDeferred hdef, ?_⟩⟩
    exact .inr ⟨c, rfl, (h.put hnd _).fin hx'⟩
  case done =>
    rw [intL_len]
    rintro W4 ⟨hx, D, hd1, _, hon⟩ hs hdef
    have hx' : Exc O W W4 := (Exc.of_below hbw).trans hx (fun k hk => hk.imp id fun h => by omega)
    have hnd : ¬ D W2.heap.size := fun h => (hd1 _ h).elim (fun h => h.elim (fun h => by have := h0J.1 _ h; omega) (by omega)) (by omega)
    have hn3 : ¬ D W.heap.size := fun h => (hd1 _ h).elim (fun h => h.elim (fun h => by have := h0J.1 _ h; omega) (by omega)) (by omega)
    have y3 := r3.exc hx (show ¬ (O W.heap.size ∨ W.heap.size = b4) from fun h => h.elim (fun h => by have := h0J.1 _ h; omega) (by omega))
    obtain ⟨_, q, D0, ls, v, nb, inn, row, hls, hblk, hq, hqd⟩ := hon.out
    have hqd' := hide (show YS.drop q = ls from by rw [hqd, List.drop_length]; rfl)
    have st : St O W (J q) D0 W4 := ⟨hx', inn.dO, inn.Od, inn.on⟩
    have hn30 : ¬ D0 W.heap.size := fun h => hn3 (inn.sub _ h)
    have hnd0 : ¬ D0 W2.heap.size := fun h => hnd (inn.sub _ h)
    have hlsk := hide (fun wr (hxx : Exc O W wr) => hls.keep (w' := wr) fun k hk => hxx.block k (hovlt k (hblk k hk)) (fun h => nOv k h (hblk k hk)))
    clear hon hqd inn nb hit r3 r4 hblk hx hd1 hnd hn3 hYS
    obtain ⟨av, cv, rfl, _⟩ := hls
    have c4 := row.cell (k := 0) rfl
    simp only [Exit.inBlock, Exit.then]
    refine hK1 _ _ (wpF_of ?_)
    clear hK1
    have hln : Hid (q + ls.length = YS.length) := hide (by have := congrArg List.length hqd'.out; simp at this; omega)
    have hs2 : W.heap.size ≤ W2.heap.size := by omega
    generalize W2.heap.size = nd at *
    gi_wp2_with fail
    clear c4 row
    gi_loopg [47] ls.length (fun n c wr => ∃ (i : Nat) (D0 : Blocks), i + n = ls.length ∧ c = .int .i64 i ∧ St O W (J (q + i)) D0 wr ∧ ¬ D0 W.heap.size ∧ RowAt wr W.heap.size [.func (.yield l) #[] #[]] 58 ∧ ¬ D0 nd ∧ wr.heap[nd]? = some (.deferred (some [])))
    case atStart => exact ⟨0, D0, by omega, rfl, st, hn30, y3, hnd0, hdef⟩
    case round =>
      clear st hn30 y3 hnd0 hdef hx'
      obtain ⟨i, D0, hin, rfl, st, hn3, y3, hnd, hdef⟩ := hrel
      have hsw := st.exc.size
      by_cases hi : i = ls.length
      case pos =>
        subst hi
        gi_wp2_with fail
        refine ⟨by simp, .inl ⟨_, _, rfl, run_takeDeferred hdef, ?_⟩⟩
        refine ⟨_, results_none rfl _ _ _, .inl ⟨⟨_, rfl⟩, .inl ?_⟩⟩
        rw [← hln.out]
        exact (st.put hnd hs2 _).fin
      case neg =>
        have hilt : i < ls.length := by omega
        obtain ⟨z, hz⟩ : ∃ z, ls[i]? = some z := ⟨_, List.getElem?_eq_getElem hilt⟩
        have hyq : YS[q + i]? = some z := by
          have h1 : (YS.drop q)[i]? = some z := by rw [hqd'.out]; exact hz
          rwa [List.getElem?_drop] at h1
        obtain ⟨a', c', e', _, _, hzz⟩ := hlsk.out wr st.exc
        obtain ⟨gz, jz, e2, hcell⟩ := hzz i z hz
        cases e'
        subst e2
        obtain ⟨f1', t1', a1', b1', hy1, hR1⟩ := hLb.out (q + i) z hyq wr D0 st.exc st.dO st.Od st.on
        have c3 := y3.cell (k := 0) rfl
        clear hyq hz hzz
        gi_wp2_with fail
        refine hR1.mono ?_
        clear hy1 hR1 c3 hcell
        rintro e WX (⟨rfl, hp⟩ | ⟨rfl, hp⟩ | ⟨ch, rfl, hp⟩)
        case inl =>
          obtain ⟨D1, st1, d1, hx1⟩ := st.post hp
          have y3' := y3.exc hx1 hn3
          have hdef' := (hx1.block nd (Array.getElem?_eq_some_iff.1 hdef).1 hnd).trans hdef
          have hnl := y3.lt
          have hndl := (Array.getElem?_eq_some_iff.1 hdef).1
          clear hp hx1
          gi_wp2_with fail
          gi_roundg (gk - 1)
          case measure => omega
          case rel => exact ⟨i + 1, D1, by omega, by go_num, st1, fun h => (d1 _ h).elim hn3 (by omega), y3', fun h => (d1 _ h).elim hnd (by omega), hdef'⟩
        case inr.inl =>
          obtain ⟨D1, st1, d1, hx1⟩ := st.post hp
          have hdef' := (hx1.block nd (Array.getElem?_eq_some_iff.1 hdef).1 hnd).trans hdef
          have hndl := (Array.getElem?_eq_some_iff.1 hdef).1
          clear hp hx1
          gi_wp2_with fail
          refine ⟨by simp, .inl ⟨_, _, rfl, run_takeDeferred hdef', ?_⟩⟩
          exact ⟨_, results_none rfl _ _ _, .inl ⟨⟨_, rfl⟩, .inr (st1.put (fun h => (d1 _ h).elim hnd (by omega)) hs2 _).fin⟩⟩
        case inr.inr =>
          obtain ⟨D1, st1, d1, hx1⟩ := st.post hp
          have hdef' := (hx1.block nd (Array.getElem?_eq_some_iff.1 hdef).1 hnd).trans hdef
          have hndl := (Array.getElem?_eq_some_iff.1 hdef).1
          clear hp hx1
          gi_wp2_with fail
          refine ⟨by simp, .inl ⟨_, _, rfl, run_takeDeferred hdef', ?_⟩⟩
          exact .inr ⟨ch, rfl, (st1.put (fun h => (d1 _ h).elim hnd (by omega)) hs2 _).fin⟩
  case round =>
    intro l1' i x hx W4 D hxc hs hOD hon K hK
    obtain ⟨t, hd⟩ : ∃ t, XS[i]? = some t := ⟨_, List.getElem?_eq_getElem (by have := (List.getElem?_eq_some_iff.1 hx).1; rwa [intL_len] at this)⟩
    rw [intL_get hd] at hx
    cases hx
    have hdrop := hide (drop_one hd)
    clear hd
    gi_wp2_with fail
    refine hK _ _ D (Below.refl _ _) (fun k hk => .inl hk) (fun k hk => hk) (fun k hk => hon.1 k hk) ?_
    intro l' W5 hk2 hx2 hs5
    have hon2 := hon.on (W' := W5) hk2
    have hxW : Exc O W W5 := (Exc.of_below hbw).trans hx2 (fun k hk => hk.imp id fun h => by omega)
    have y3 := r3.exc hx2 (show ¬ (O W.heap.size ∨ W.heap.size = b4) from fun h => h.elim (fun h => by have := h0J.1 _ h; omega) (by omega))
    have hD1 : ∀ k, D k → k < W5.heap.size := hon2.1
    have hW5 : W.heap.size ≤ W5.heap.size := by omega
    clear hK hk2 hit hon r3 r4
    obtain ⟨⟨hDb, hDn⟩, q, D0, ls, v, nb, inn, row, hls, hblk, hq, hqd⟩ := hon2.out
    have hD3 : ¬ D W.heap.size := fun h => (hDn _ h).elim (fun h => h.elim (fun h => by have := h0J.1 _ h; omega) (by omega)) (by omega)
    have ms : MS O W l W.heap.size b4 ov (J q) D W5 D0 ls v W5 := ⟨⟨fun k hk => .inr hk, inn.dO, inn.Od, inn.on⟩, fun h => hD3 (inn.sub _ h), nb, y3, row, hls, hblk, Exc.refl _ _, fun k hk => .inl (inn.sub k hk), hxW⟩
    have hqd' := hide (show YS.drop q = mrgW t (XS.drop (i + 1)) ls from by rw [hqd, hdrop.out]; rfl)
    clear hon2 inn row hqd hdrop nb hls hblk
    have hovO : ∀ k, ov.ownBlock = some k → k < W.heap.size ∧ ¬ O k := fun k hk => ⟨hovlt k hk, fun h => nOv k h hk⟩
    have hb4W : W.heap.size ≤ b4 := by omega
    gi_wp2_with fail
    gi_loopg [] ls.length (fun n wr => ∃ (q : Nat) (D0 : Blocks) (ls : List Int) (v : Value), ls.length = n ∧ q ≤ YS.length ∧ Hid (YS.drop q = mrgW t (XS.drop (i + 1)) ls) ∧ MS O W l W.heap.size b4 ov (J q) D W5 D0 ls v wr)
    case atStart => exact ⟨q, D0, ls, v, rfl, hq, hqd', ms⟩
    case round =>
      clear ms hqd' hq
      obtain ⟨q, D0, ls, v, hln, hq, hqd, ms⟩ := hrel
      have hn5 : W2.heap.size ≤ W5.heap.size := by omega
      have c3 := ms.y.cell (k := 0) rfl
      rcases ls with _ | ⟨z, r⟩
      case nil =>
        obtain ⟨a0, c0, rfl⟩ := ms.nil
        have c4 := ms.row.cell (k := 0) rfl
        obtain ⟨hyq, hyd, hyl⟩ := drop_head (hqd.out.trans mrgW_nil)
        replace hyd := hide hyd
        obtain ⟨f1', t1', a1', b1', hy1, hR1⟩ := hLb.out q t hyq wr D0 ms.excO ms.inn.dO ms.inn.Od ms.inn.on
        clear hyq hqd
        gi_wp2_with fail
        clear c3 c4
        refine (RoundIn.inRound l' hR1).mono ?_
        clear hy1 hR1
        rintro e WX (⟨rfl, hp⟩ | ⟨rfl, hp⟩ | ⟨ch, rfl, hp⟩)
        case inl =>
          obtain ⟨D0', ms'⟩ := ms.yield hW5 hp
          clear hp
          gi_wp2_with fail
          exact ms'.fin hD1 hDb hDn hn5 ⟨hyl, hyd.out⟩
        case inr.inl =>
          obtain ⟨D0', ms'⟩ := ms.yield hW5 hp
          clear hp
          gi_wp2_with fail
          exact ms'.finY hD1
        case inr.inr =>
          obtain ⟨D0', ms'⟩ := ms.yield hW5 hp
          clear hp
          gi_wp2_with fail
          exact ⟨rfl, ms'.finP hD1⟩
      case cons =>
        obtain ⟨gz, jz, cz, rfl, hcz, hgz, hgO, hcell⟩ := ms.head hovO
        have c4 := ms.row.cell (k := 0) rfl
        have f4 := ms.row.free (k := 0)
        have hrl : ((r.length : Int) + 1 : Int) > 0 := by omega
        by_cases hzt : z < t
        case pos =>
          obtain ⟨hyq, hyd, hyl⟩ := drop_head (hqd.out.trans (mrgW_lt hzt))
          replace hyd := hide hyd
          obtain ⟨v', hsl, hls', hvk⟩ := ms.ls.tail
          have hY' := hide (fun w' (hb : Below wr.heap.size wr w') => hLb.out q z hyq w' D0 (ms.below hb).excO ms.inn.dO ms.inn.Od (ms.below hb).inn.on)
          clear hyq hqd
          gi_upto_region 5 with fail
          rename_i K5 hK5
          have g3 : ∀ w', Below wr.heap.size wr w' → (Instr.loadAt 58 (.pointer (some ⟨W.heap.size, 0, none⟩))).run Tryz.prog w' = .ok (.func (.yield l) #[] #[]) w' := fun w' hb => fnLd_run ((ms.y.on hb).cell (k := 0) rfl)
          have g4 : ∀ w', Below wr.heap.size wr w' → (Instr.loadAt 54 (.pointer (some ⟨b4, 0, none⟩))).run Tryz.prog w' = .ok (.slice (some ⟨gz, jz, none⟩) (r.length + 1) cz) w' := fun w' hb => slLd_run ((ms.row.on hb).cell (k := 0) rfl)
          have g5 : ∀ w', Below wr.heap.size wr w' → (Instr.loadAt 3 (.pointer (some ⟨gz, jz, none⟩))).run Tryz.prog w' = .ok (.int .i64 z) w' := fun w' hb => intLd_run ((hb.cell (p := ⟨gz, jz, none⟩) (Nat.lt_of_lt_of_le hgz ms.excO.size)).trans hcell)
          refine wpIn_region_listed (YJ 21 4 6 _ wr (NM l gz jz (.slice (some ⟨gz, jz, none⟩) (r.length + 1) cz) z) (fun W' => ∃ w', Below wr.heap.size wr w' ∧ PostL D0 w'.heap.size (J (q + 1)) w' W') (fun W' => ∃ w', Below wr.heap.size wr w' ∧ PostL D0 w'.heap.size Js w' W') BB) hmx (by kernel_rfl) ?rops ?rdone (YJ.start (Below.refl _ _).drew)
          case rdone =>
            intro L a WX hall hI
            obtain ⟨_, b, e25, hT, hF, hB⟩ := hI.post (hall 4 (by decide))
            have e26 : a.eval (.tmp 26) = .bool (!b) := hB 5 (by decide) (hall 5 (by decide))
            have e21 : a.eval (.tmp 21) = .func (.yield l) #[] #[] := hI.vals 0 (by decide) (hall 0 (by decide))
            have e22 : a.eval (.tmp 22) = .slice (some ⟨gz, jz, none⟩) (r.length + 1) cz := hI.vals 1 (by decide) (hall 1 (by decide))
            have e23 : a.eval (.tmp 23) = .pointer (some ⟨gz, jz, none⟩) := hI.vals 2 (by decide) (hall 2 (by decide))
            have e24 : a.eval (.tmp 24) = .int .i64 z := hI.vals 3 (by decide) (hall 3 (by decide))
            have ha := act_puts 21 6 a _ hI.size hI.defers (show 27 ≤ 56 by decide) hI.fixed
            rw [show List.range 6 = [0, 1, 2, 3, 4, 5] from rfl] at ha
            simp only [List.foldl_cons, List.foldl_nil, Nat.reduceAdd, e21, e22, e23, e24, e26] at ha
            replace e25 : a.eval (.tmp 25) = .bool b := e25
            rw [e25] at ha
            clear hI hB e21 e22 e23 e24 e25 e26
            rw [ha]
            clear ha
            simp only [Act.put, List.setIfInBounds_toArray, List.set_cons_zero, List.set_cons_succ]
            refine hK5 _ _ ?_
            clear hK5 g3 g4 g5
            cases b
            case true =>
              obtain ⟨w', hb', hp⟩ := hT rfl
              obtain ⟨D0', ms'⟩ := (ms.below hb').yield hW5 hp
              clear hT hF hp
              have ms2 := ms'.set hDb hb4W (by omega) hls' hvk
              have d4 := ms'.row.cell (k := 0) rfl
              have e4 := ms'.row.free (k := 0)
              have hfl := hls'
              obtain ⟨av, cv, rfl, _⟩ := hfl
              gi_wp2_with (refine slIn rfl rfl rfl hsl (fun _ => trivial) ?_)
              gi_roundg r.length
              case measure => simp at hln; omega
              case rel => exact ⟨q + 1, D0', r, _, rfl, hyl, hyd, ms2⟩
            case false =>
              obtain ⟨w', hb', hp⟩ := hF rfl
              obtain ⟨D0', ms'⟩ := (ms.below hb').yield hW5 hp
              clear hT hF hp
              gi_wp2_with fail
              exact ms'.finY hD1
          case rops =>
            intro L j o a w' ho hLj hdeps hC hI
            have hj : j < 6 := (Array.getElem?_eq_some_iff.1 ho).1
            have s3 : a.eval (.tmp 3) = .pointer (some ⟨W.heap.size, 0, none⟩) := hI.fixed 3 (by omega)
            have s4 : a.eval (.tmp 4) = .pointer (some ⟨b4, 0, none⟩) := hI.fixed 4 (by omega)
            have hor : j = 0 ∨ j = 1 ∨ j = 2 ∨ j = 3 ∨ j = 4 ∨ j = 5 := by omega
            rcases hor with rfl | rfl | rfl | rfl | rfl | rfl <;> obtain rfl := Option.some.inj ho
            · exact opIn_plain rfl rfl (opIn_value (fun _ => trivial) (fun _ h => by cases h) (ld_run rfl s3 (g3 _ (hI.below (by decide) hLj))) (hI.stepPre (by decide) hLj (by decide) (show 27 ≤ 56 by decide) rfl (Below.refl _ _) rfl))
            · exact opIn_plain rfl rfl (opIn_value (fun _ => trivial) (fun _ h => by cases h) (ld_run rfl s4 (g4 _ (hI.below (by decide) hLj))) (hI.stepPre (by decide) hLj (by decide) (show 27 ≤ 56 by decide) rfl (Below.refl _ _) rfl))
            · have e22 : a.eval (.tmp 22) = .slice (some ⟨gz, jz, none⟩) (r.length + 1) cz := hI.vals 1 (by decide) (hdeps ⟨1, .data⟩ (by simp) rfl)
              exact opIn_plain rfl rfl (opIn_value (fun _ => trivial) (fun _ h => by cases h) (ix0_run rfl e22 (by omega)) (hI.stepPre (by decide) hLj (by decide) (show 27 ≤ 56 by decide) rfl (Below.refl _ _) rfl))
            · have e23 : a.eval (.tmp 23) = .pointer (some ⟨gz, jz, none⟩) := hI.vals 2 (by decide) (hdeps ⟨2, .data⟩ (by simp) rfl)
              exact opIn_plain rfl rfl (opIn_value (fun _ => trivial) (fun _ h => by cases h) (ld_run rfl e23 (g5 _ (hI.below (by decide) hLj))) (hI.stepPre (by decide) hLj (by decide) (show 27 ≤ 56 by decide) rfl (Below.refl _ _) rfl))
            · have hall : ∀ j, j < 4 → L j = true := by
                have l0 := hdeps ⟨0, .data⟩ (by simp) rfl
                have l3 := hdeps ⟨3, .data⟩ (by simp) rfl
                have l2 := hC 3 _ rfl l3 ⟨2, .data⟩ (by simp) rfl
                have l1 := hC 2 _ rfl l2 ⟨1, .data⟩ (by simp) rfl
                intro j hj
                have hor : j = 0 ∨ j = 1 ∨ j = 2 ∨ j = 3 := by omega
                rcases hor with rfl | rfl | rfl | rfl <;> assumption
              have e21 : a.eval (.tmp 21) = .func (.yield l) #[] #[] := hI.vals 0 (by decide) (hall 0 (by decide))
              have e24 : a.eval (.tmp 24) = .int .i64 z := hI.vals 3 (by decide) (hall 3 (by decide))
              have hbl := (hI.pre hLj).1
              obtain ⟨f1', t1', a1', b1', hy1, hR1⟩ := hY'.out w' hbl
              refine opIn_plain rfl rfl (opIn_yield (fun _ h => by cases h) (yd_run rfl e21 e24 hy1) hR1 ?_ ?_ ?_)
              · rintro v W' (⟨he, hp⟩ | ⟨he, hp⟩ | ⟨c, he, _⟩)
                · cases he
                  exact hI.stepY hall hLj (by decide) (show 27 ≤ 56 by decide) (fun _ => ⟨w', hbl, hp⟩) (fun h => by cases h) rfl
                · cases he
                  exact hI.stepY hall hLj (by decide) (show 27 ≤ 56 by decide) (fun h => by cases h) (fun _ => ⟨w', hbl, hp⟩) rfl
                · cases he
              · rintro c W' (⟨he, _⟩ | ⟨he, _⟩ | ⟨c', he, hp⟩)
                · cases he
                · cases he
                · cases he
                  obtain ⟨D0', ms'⟩ := (ms.below hbl).yield hW5 hp
                  exact ⟨hI.defers, ms'.finP hD1⟩
              · rintro W' (⟨he, _⟩ | ⟨he, _⟩ | ⟨c', he, _⟩) <;> cases he
            · have l4 := hdeps ⟨4, .data⟩ (by simp) rfl
              obtain ⟨_, b, e25, _, _, _⟩ := hI.post l4
              exact opIn_plain rfl rfl (opIn_value (fun _ => trivial) (fun _ h => by cases h) (not_run rfl e25) (hI.stepPost (by decide) hLj l4 (by decide) (show 27 ≤ 56 by decide) (fun b' hb' => by
                have e25' : a.eval (.tmp 25) = .bool b' := hb'
                have e25'' : a.eval (.tmp 25) = .bool b := e25
                rw [e25''] at e25'; cases e25'; rfl) rfl))
        case neg =>
          by_cases hze : z = t
          case pos =>
            subst hze
            obtain ⟨hyq, hyd, hyl⟩ := drop_head (hqd.out.trans mrgW_eq)
            replace hyd := hide hyd
            obtain ⟨v', hsl, hls', hvk⟩ := ms.ls.tail
            have ms2 := ms.set hDb hb4W (by omega) hls' hvk
            obtain ⟨av, cv, rfl, _⟩ := hls'
            obtain ⟨f1', t1', a1', b1', hy1, hR1⟩ := hLb.out q z hyq _ D0 ms2.excO ms2.inn.dO ms2.inn.Od ms2.inn.on
            have c3' := ms2.y.cell (k := 0) rfl
            clear hyq hqd
            gi_wp2_with (refine slIn rfl rfl rfl hsl (fun _ => trivial) ?_)
            clear c3 c4 c3' f4 hcell hsl
            refine (RoundIn.inRound l' hR1).mono ?_
            clear hy1 hR1
            rintro e WX (⟨rfl, hp⟩ | ⟨rfl, hp⟩ | ⟨ch, rfl, hp⟩)
            case inl =>
              obtain ⟨D0', ms'⟩ := ms2.yield hW5 hp
              clear hp
              gi_wp2_with fail
              exact ms'.fin hD1 hDb hDn hn5 ⟨hyl, hyd.out⟩
            case inr.inl =>
              obtain ⟨D0', ms'⟩ := ms2.yield hW5 hp
              clear hp
              gi_wp2_with fail
              exact ms'.finY hD1
            case inr.inr =>
              obtain ⟨D0', ms'⟩ := ms2.yield hW5 hp
              clear hp
              gi_wp2_with fail
              exact ⟨rfl, ms'.finP hD1⟩
          case neg =>
            obtain ⟨hyq, hyd, hyl⟩ := drop_head (hqd.out.trans (mrgW_gt (by omega)))
            replace hyd := hide hyd
            obtain ⟨f1', t1', a1', b1', hy1, hR1⟩ := hLb.out q t hyq wr D0 ms.excO ms.inn.dO ms.inn.Od ms.inn.on
            have hze' : (z == t) = false := by simpa using hze
            clear hyq hqd
            gi_wp2_with fail
            clear c3 c4 f4 hcell
            refine (RoundIn.inRound l' hR1).mono ?_
            clear hy1 hR1
            rintro e WX (⟨rfl, hp⟩ | ⟨rfl, hp⟩ | ⟨ch, rfl, hp⟩)
            case inl =>
              obtain ⟨D0', ms'⟩ := ms.yield hW5 hp
              clear hp
              gi_wp2_with fail
              exact ms'.fin hD1 hDb hDn hn5 ⟨hyl, hyd.out⟩
            case inr.inl =>
              obtain ⟨D0', ms'⟩ := ms.yield hW5 hp
              clear hp
              gi_wp2_with fail
              exact ms'.finY hD1
            case inr.inr =>
              obtain ⟨D0', ms'⟩ := ms.yield hW5 hp
              clear hp
              gi_wp2_with fail
              exact ⟨rfl, ms'.finP hD1⟩
end Go.Proofs.YthpndgcaoeokeaaGreatDoor
namespace Go.Proofs.YthpndgcaoeokeaaGreatDoor
open Go.RowKit Go.Sort
attribute [local go_sem] Oper.semAt_some
attribute [local go_sem] wide_fn wide_depth
attribute [local simp] wide_fn wide_depth

set_option maxRecDepth 10000 in
theorem act_lit25 (a : Act) (h : a.tmps.size = 25) (hd : a.defers = []) : ∃ f : Nat → Value, a = ⟨List.toArray (f 0 :: f 1 :: f 2 :: f 3 :: f 4 :: f 5 :: f 6 :: f 7 :: f 8 :: f 9 :: f 10 :: f 11 :: f 12 :: f 13 :: f 14 :: f 15 :: f 16 :: f 17 :: f 18 :: f 19 :: f 20 :: f 21 :: f 22 :: f 23 :: f 24 :: []), []⟩ ∧ ∀ k, a.eval (.tmp k) = f k := by
  obtain ⟨t, d⟩ := a
  simp only [] at h hd
  subst hd
  refine ⟨fun k => t.getD k undef, ?_, fun k => rfl⟩
  congr 1
  apply Array.ext'
  apply List.ext_getElem?
  intro i
  by_cases hi : i < 25
  · rw [show t.toList[i]? = some (t.getD i undef) from by simp [Array.getD, h, hi]]
    match i, hi with
    | 0, _ => rfl
    | 1, _ => rfl
    | 2, _ => rfl
    | 3, _ => rfl
    | 4, _ => rfl
    | 5, _ => rfl
    | 6, _ => rfl
    | 7, _ => rfl
    | 8, _ => rfl
    | 9, _ => rfl
    | 10, _ => rfl
    | 11, _ => rfl
    | 12, _ => rfl
    | 13, _ => rfl
    | 14, _ => rfl
    | 15, _ => rfl
    | 16, _ => rfl
    | 17, _ => rfl
    | 18, _ => rfl
    | 19, _ => rfl
    | 20, _ => rfl
    | 21, _ => rfl
    | 22, _ => rfl
    | 23, _ => rfl
    | 24, _ => rfl
    | k + 25, h => omega
  · rw [List.getElem?_eq_none (by simp; omega), List.getElem?_eq_none (by simp; omega)]

theorem ItL.later {P : Program} {g : Nat} {lb : Array Value} {xs : List (Array Value)} {R : Blocks} {w w' : World} (h : ItL P g lb xs R w) (hR : ∀ k, R k → k < w.heap.size) (hb : Below w.heap.size w w') : ItL P g lb xs R w' :=
  fun l W O J Js Jp hs hk => h l W O J Js Jp (Nat.le_trans hb.size hs) fun k hr => (hk k hr).trans (hb.block k (hR k hr))

/-- the times of an event -/
def evT' (hr : Bool) (r : RuleD) (st f to : Int) (ex xt : List Int) : List Int := mrgF (rbL hr r st f to ex) (xbF st f to ex xt)
def spanL (ln : Int) (l : List Int) : List (Array Value) := l.map fun b => #[.agg #[.int .i64 b, .int .i64 (b + ln)]]
theorem spanL_len (ln : Int) (l : List Int) : (spanL ln l).length = l.length := by unfold spanL; simp
theorem spanL_get {ln : Int} {l : List Int} {i : Nat} {b : Int} (h : l[i]? = some b) : (spanL ln l)[i]? = some #[.agg #[.int .i64 b, .int .i64 (b + ln)]] := by unfold spanL; rw [List.getElem?_map, h]; rfl

set_option maxHeartbeats 1000000 in
theorem merged_n (g : Nat) (lb : Array Value) (a : Option Addr) (n c : Nat) (w : World) :
    Calls Tryz.prog 158 #[.func (.func g) #[] lb, .slice a n c] w fun e w' => e = .returned (.func (.func 214) #[] #[.pointer (some ⟨w.heap.size + 1, 0, none⟩), .pointer (some ⟨w.heap.size, 0, none⟩)]) ∧ w' = (w.alloc (.cells #[.func (.func g) #[] lb] 196)).alloc (.cells #[.slice a n c] 54) := by
  go_enter Tryz.func158, Tryz.ntmps158
  go_wp2_with fail
  go_ret
  exact ⟨rfl, rfl⟩

/-- what the region that makes the times' iterator leaves -/
def NI (W : World) (u : ByteArray) (st ln : Int) (hr : Bool) (r : RuleD) (m md wk pl : Value) (tx : ByteArray) (exv xtv : Value) (ex xt : List Int) (tr : Bool) (k : Int) (f to : Int) (i : Nat) (v : Value) (w : World) : Prop := match i with
  | 0 => v = .agg (evL u st ln hr r m md wk pl tx exv xtv tr k).toArray
  | 1 => v = .int .i64 f
  | 2 => v = .int .i64 to
  | 3 => ∃ g lb R, v = .func (.func g) #[] lb ∧ ItL Tryz.prog g lb (intL (rbL hr r st f to ex)) R w ∧ (∀ k, R k → k < w.heap.size ∧ (EBk m md wk pl exv xtv k ∨ W.heap.size ≤ k)) ∧ (∀ args w, (callFunc g args).run Tryz.prog w = .ok (.enter g args) w)
  | 4 => v = .agg (evL u st ln hr r m md wk pl tx exv xtv tr k).toArray
  | 5 => v = .int .i64 f
  | 6 => v = .int .i64 to
  | 7 => w.ownsRow W.heap.size 3 1 v (xbF st f to ex xt).length (ints (xbF st f to ex xt))
  | _ => ∃ g lb R, v = .func (.func g) #[] lb ∧ ItL Tryz.prog g lb (intL (evT' hr r st f to ex xt)) R w ∧ (∀ k, R k → k < w.heap.size ∧ (EBk m md wk pl exv xtv k ∨ W.heap.size ≤ k)) ∧ (∀ args w, (callFunc g args).run Tryz.prog w = .ok (.enter g args) w)
theorem NI.grow {W : World} {u : ByteArray} {st ln : Int} {hr : Bool} {r : RuleD} {m md wk pl : Value} {tx : ByteArray} {exv xtv : Value} {ex xt : List Int} {tr : Bool} {k f to : Int} (i : Nat) (v : Value) (w w' : World) (h : NI W u st ln hr r m md wk pl tx exv xtv ex xt tr k f to i v w) (hb : Below w.heap.size w w') : NI W u st ln hr r m md wk pl tx exv xtv ex xt tr k f to i v w' := by
  match i, h with
  | 0, h | 1, h | 2, h | 4, h | 5, h | 6, h => exact h
  | 3, h =>
    obtain ⟨g, lb, R, h1, h2, h3, h4⟩ := h
    exact ⟨g, lb, R, h1, h2.later (fun k hk => (h3 k hk).1) hb, fun k hk => ⟨Nat.lt_of_lt_of_le (h3 k hk).1 hb.size, (h3 k hk).2⟩, h4⟩
  | 7, h => exact own_keep h fun g hg => hb.block g (World.ownsRow.lt h g hg).2
  | n + 8, h =>
    obtain ⟨g, lb, R, h1, h2, h3, h4⟩ := h
    exact ⟨g, lb, R, h1, h2.later (fun k hk => (h3 k hk).1) hb, fun k hk => ⟨Nat.lt_of_lt_of_le (h3 k hk).1 hb.size, (h3 k hk).2⟩, h4⟩
def fixI (l be bf bt b4 : Nat) : List (Nat × Value) := [(0, .func (.yield l) #[] #[]), (1, .pointer (some ⟨be, 0, none⟩)), (2, .pointer (some ⟨bf, 0, none⟩)), (3, .pointer (some ⟨bt, 0, none⟩)), (4, .pointer (some ⟨b4, 0, none⟩))]
theorem evLd_run {b : Nat} {w : World} {u : ByteArray} {st ln : Int} {hr : Bool} {r : RuleD} {m md wk pl : Value} {tx : ByteArray} {exv xtv : Value} {tr : Bool} {k : Int} (h : RowAt w b (evL u st ln hr r m md wk pl tx exv xtv tr k) 79) : (Instr.loadAt 79 (.pointer (some ⟨b, 0, none⟩))).run Tryz.prog w = .ok (.agg (evL u st ln hr r m md wk pl tx exv xtv tr k).toArray) w :=
  run_loadAt_mid w b 0 79 _ _ (row_range h) Tryz.underlying79 rfl infoEv
end Go.Proofs.YthpndgcaoeokeaaGreatDoor
