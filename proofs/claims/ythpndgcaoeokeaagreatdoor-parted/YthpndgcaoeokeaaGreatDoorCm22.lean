/- The times of an event's rule without EXDATE's (the program's), as an iterator: the walk. The makers of iterators (the program's), and RDATE's times. A drawn region within a fence with one yield: the frame beside its slots stays. Of no program. -/
import Derived.Test.YthpndgcaoeokeaaGreatDoorCm21
namespace Go.Proofs.YthpndgcaoeokeaaGreatDoor
open Go.RowKit Go.Sort
attribute [local go_sem] Oper.semAt_some
attribute [local go_sem] wide_fn wide_depth
attribute [local simp] wide_fn wide_depth

theorem infoEv : (Tryz.prog.info? 79).map (·.size) = some 18 := by kernel_rfl
/-- an event is loaded, within a fence -/
theorem evIn {F : Fence} {nF : Nat} {ops : Array Oper} {rest : List Oper} {o : Oper} {a : Act} {w : World} {Q : Exit → Act → World → Prop} {x : Operand} {b : Nat} {u : ByteArray} {st ln : Int} {hr : Bool} {r : RuleD} {m md wk pl : Value} {tx : ByteArray} {exv xtv : Value} {tr : Bool} {k : Int} (hg : o.guard = none) (ho : o.op = .load 79 x) (hx : a.eval x = .pointer (some ⟨b, 0, none⟩))
    (hrow : RowAt w b (evL u st ln hr r m md wk pl tx exv xtv tr k) 79) (hF : ∀ f, F.fn f) (hK : wpListIn F nF Tryz.prog ops Q rest (a.put o.dst (.agg (evL u st ln hr r m md wk pl tx exv xtv tr k).toArray)) w) : wpListIn F nF Tryz.prog ops Q (o :: rest) a w :=
  wpListIn_plain hg fun K hK' => opIn_value hF (by rw [ho]; intro c hc; cases hc) (ld_run ho hx (run_loadAt_mid w b 0 79 _ _ (row_range hrow) Tryz.underlying79 rfl infoEv)) (hK' _ _ hK)

def NC (bm : Nat) (d : Int) (c : Nat) (j : Nat) (v : Value) : Prop := match j with
  | 0 => v = .map (some bm)
  | 1 => v = dnV d
  | 2 => v = .int .i64 c
  | 3 => v = .bool false
  | 4 => v = .bool false
  | 14 => v = .bool false
  | _ => v = undef
theorem fnLd_run {p : Addr} {l : Nat} {w : World} (h : w.cell? p = some (.func (.yield l) #[] #[])) : (Instr.loadAt 58 (.pointer (some p))).run Tryz.prog w = .ok (.func (.yield l) #[] #[]) w := by
  go_simp
theorem mapLd_run {p : Addr} {b : Nat} {w : World} (h : w.cell? p = some (.map (some b))) : (Instr.loadAt 264 (.pointer (some p))).run Tryz.prog w = .ok (.map (some b)) w := by
  go_simp
theorem dayLd_run {b : Nat} {d : Int} {w : World} (h : RowAt w b (dnC d) 106) : (Instr.loadAt 106 (.pointer (some ⟨b, 0, none⟩))).run Tryz.prog w = .ok (dnV d) w := by
  unfold dnC at h
  unfold dnV dayA
  obtain ⟨c0, c1, c2, _, _, _⟩ := cells3 h
  go_simp
theorem lk_run {o : Oper} {a : Act} {w : World} {x y : Operand} {T : TypeId} {m k v : Value} (ho : o.op = .lookup T x y false) (hx : a.eval x = m) (hy : a.eval y = k) (hr : (Instr.lookup T m k false).run Tryz.prog w = .ok v w) : (execOp a.eval o).run Tryz.prog w = .ok (.value v) w := by
  obtain ⟨_, _, _, _, _, _⟩ := o
  simp only [] at ho
  subst ho
  unfold execOp
  simp only [hx, hy]
  exact run_value hr
theorem eq0_run {o : Oper} {a : Act} {w : World} {x : Operand} {z : Int} (ho : o.op = .binOp .eql 3 x (.const (.int .i64 0)) 3) (hx : a.eval x = .int .i64 z) : (execOp a.eval o).run Tryz.prog w = .ok (.value (.bool (z == 0))) w := by
  obtain ⟨_, _, _, _, _, _⟩ := o
  simp only [] at ho
  subst ho
  unfold execOp
  have h0 : a.eval (.const (.int .i64 0)) = .int .i64 0 := rfl
  simp only [hx, h0]
  go_simp
theorem mv_run {o : Oper} {a : Act} {w : World} {x : Operand} {v : Value} (ho : o.op = .move x) (hx : a.eval x = v) : (execOp a.eval o).run Tryz.prog w = .ok (.value v) w := by
  obtain ⟨_, _, _, _, _, _⟩ := o
  simp only [] at ho
  subst ho
  unfold execOp
  simp only [hx]
  rfl
theorem pk0_run {o : Oper} {a : Act} {w : World} {x y : Operand} (ho : o.op = .pick x y (.const (.bool false))) (hx : a.eval x = .bool false) : (execOp a.eval o).run Tryz.prog w = .ok (.value (.bool false)) w := by
  obtain ⟨_, _, _, _, _, _⟩ := o
  simp only [] at ho
  subst ho
  unfold execOp
  simp only [hx]
  rfl
theorem pk1_run {o : Oper} {a : Act} {w : World} {x y : Operand} {v : Value} (ho : o.op = .pick x y (.const (.bool false))) (hx : a.eval x = .bool true) (hy : a.eval y = v) : (execOp a.eval o).run Tryz.prog w = .ok (.value v) w := by
  obtain ⟨_, _, _, _, _, _⟩ := o
  simp only [] at ho
  subst ho
  unfold execOp
  simp only [hx, hy]
  rfl
theorem yd_run {o : Oper} {a : Act} {w : World} {x y : Operand} {T : TypeId} {l : Nat} {v : Value} {r : Next} (ho : o.op = .call { callee := .value x, args := #[y], argTypes := #[T] }) (hx : a.eval x = .func (.yield l) #[] #[]) (hy : a.eval y = v) (hr : (Instr.yield l #[v]).run Tryz.prog w = .ok r w) : (execOp a.eval o).run Tryz.prog w = .ok r w := by
  obtain ⟨_, _, _, _, _, _⟩ := o
  simp only [] at ho
  subst ho
  unfold execOp
  simp only [resolve, List.map_toArray, List.map_cons, List.map_nil, hx, hy]
  simp [go_sem, invoke, hr]
theorem not_run {o : Oper} {a : Act} {w : World} {x : Operand} {b : Bool} (ho : o.op = .unOp .not 4 x) (hx : a.eval x = .bool b) : (execOp a.eval o).run Tryz.prog w = .ok (.value (.bool (!b))) w := by
  obtain ⟨_, _, _, _, _, _⟩ := o
  simp only [] at ho
  subst ho
  unfold execOp
  simp only [hx]
  go_simp
theorem rem_run {o : Oper} {a : Act} {w : World} {x : Operand} {z : Int} (ho : o.op = .binOp .rem 3 x (.const (.int .i64 86400)) 3) (hx : a.eval x = .int .i64 z) (h0 : 0 ≤ z) : (execOp a.eval o).run Tryz.prog w = .ok (.value (.int .i64 (z % 86400))) w := by
  obtain ⟨_, _, _, _, _, _⟩ := o
  simp only [] at ho
  subst ho
  unfold execOp
  have hc : a.eval (.const (.int .i64 86400)) = .int .i64 86400 := rfl
  have hm : z.tmod 86400 = z % 86400 := Int.tmod_eq_emod_of_nonneg h0
  simp only [hx, hc]
  go_simp
theorem add_run {o : Oper} {a : Act} {w : World} {x y : Operand} {z t : Int} (ho : o.op = .binOp .add 3 x y 3) (hx : a.eval x = .int .i64 z) (hy : a.eval y = .int .i64 t) (h0 : -9223372036854775808 ≤ z + t) (h1 : z + t ≤ 9223372036854775807) : (execOp a.eval o).run Tryz.prog w = .ok (.value (.int .i64 (z + t))) w := by
  obtain ⟨_, _, _, _, _, _⟩ := o
  simp only [] at ho
  subst ho
  unfold execOp
  have hw := wrap_ok h0 h1
  simp only [hx, hy]
  go_simp

/-- the lists of an event, in memory -/
structure EvLs (w : World) (hr : Bool) (r : RuleD) (m md wk pl exv xtv : Value) (ex xt : List Int) : Prop where
  rule : RuleL w r m md wk pl
  ok : hr = true → RuleOk r
  hex : IntsW w exv ex
  hxt : IntsW w xtv xt
  exl : ex.length ≤ 1000
  xtl : xt.length ≤ 1000
  exb : ∀ t ∈ ex, 0 ≤ t ∧ t ≤ 7258118400
  xtb : ∀ t ∈ xt, 0 ≤ t ∧ t ≤ 7258118400
def EBk (m md wk pl exv xtv : Value) : Blocks := fun k => LB m md wk pl k ∨ exv.ownBlock = some k ∨ xtv.ownBlock = some k
theorem EvLs.keep {w w' : World} {hr : Bool} {r : RuleD} {m md wk pl exv xtv : Value} {ex xt : List Int} (h : EvLs w hr r m md wk pl exv xtv ex xt) (hk : ∀ k, EBk m md wk pl exv xtv k → w'.heap[k]? = w.heap[k]?) : EvLs w' hr r m md wk pl exv xtv ex xt :=
  ⟨h.rule.keep fun k e => hk k (.inl e), h.ok, h.hex.keep fun k e => hk k (.inr (.inl e)), h.hxt.keep fun k e => hk k (.inr (.inr e)), h.exl, h.xtl, h.exb, h.xtb⟩
theorem EvLs.blk {w : World} {hr : Bool} {r : RuleD} {m md wk pl exv xtv : Value} {ex xt : List Int} (h : EvLs w hr r m md wk pl exv xtv ex xt) {k : Nat} (e : EBk m md wk pl exv xtv k) : k < w.heap.size := by
  rcases e with e | e | e
  · exact h.rule.blk e
  · exact h.hex.blk e
  · exact h.hxt.blk e
theorem EvLs.on {w w' : World} {hr : Bool} {r : RuleD} {m md wk pl exv xtv : Value} {ex xt : List Int} (h : EvLs w hr r m md wk pl exv xtv ex xt) (hb : Below w.heap.size w w') : EvLs w' hr r m md wk pl exv xtv ex xt := h.keep fun k e => hb.block k (h.blk e)

set_option maxRecDepth 100000 in
set_option maxHeartbeats 8000000 in
theorem rb_it (u : ByteArray) (st ln : Int) (hr : Bool) (r : RuleD) (m md wk pl : Value) (tx : ByteArray) (exv xtv : Value) (ex xt : List Int) (tr : Bool) (k : Int) (f to : Int) (be bf bt : Nat) (w : World) (hl : EvLs w hr r m md wk pl exv xtv ex xt)
    (s0 : 0 ≤ st) (s1 : st ≤ 7258118400) (f0 : -1000000000000 ≤ f) (f1 : f ≤ 7258118400) (t0 : 0 ≤ to) (t1 : to ≤ 7258118400)
    (q1 : RowAt w be (evL u st ln hr r m md wk pl tx exv xtv tr k) 79) (q2 : RowAt w bf [.int .i64 f] 3) (q3 : RowAt w bt [.int .i64 to] 3) :
    ItL Tryz.prog 215 #[.pointer (some ⟨be, 0, none⟩), .pointer (some ⟨bf, 0, none⟩), .pointer (some ⟨bt, 0, none⟩)] (intL (rbL hr r st f to ex)) (fun k => k = be ∨ k = bf ∨ k = bt ∨ EBk m md wk pl exv xtv k) w := by
  intro l W O J Js Jp hsz hR hO h0J hY
  have hlW := hl.keep fun k hk => hR k (.inr (.inr (.inr hk)))
  replace q1 := q1.keep (hR be (.inl rfl))
  replace q2 := q2.keep (hR bf (.inr (.inl rfl)))
  replace q3 := q3.keep (hR bt (.inr (.inr (.inl rfl))))
  have nO1 : ¬ O be := fun h => hO be h (.inl rfl)
  have nOE : ∀ k, O k → ¬ EBk m md wk pl exv xtv k := fun k h h' => hO k h (.inr (.inr (.inr h')))
  have hlt1 := q1.lt
  obtain ⟨a1, e1⟩ := hlW.rule.ms.form
  obtain ⟨a2, e2⟩ := hlW.rule.mds.form
  obtain ⟨a3, e3⟩ := hlW.rule.wks.form
  obtain ⟨a4, e4⟩ := hlW.rule.pls.form
  obtain ⟨a5, c5, e5⟩ := hlW.hex.sl
  obtain ⟨a6, c6, e6⟩ := hlW.hxt.sl
  have hmx : Tryz.prog.follows .mixedOrders = true := by kernel_rfl
  have hDO : Hid (∀ wr, Below W.heap.size W wr → Calls Tryz.prog 216 #[.agg (evL u st ln hr r m md wk pl tx exv xtv tr k).toArray] wr fun e w' => ∃ b n ds, e = .returned (.map (some b)) ∧ wr.heap.size ≤ b ∧ OutM w' b n ds ∧ (∀ d, d ∈ ds ↔ ∃ t ∈ ex, t % 86400 = st % 86400 ∧ t / 86400 = d) ∧ Below wr.heap.size wr w') :=
    hide fun wr hb => daysOut_n u st ln hr r m md wk pl tx exv xtv ex tr k wr ⟨_, _, _, e1⟩ ⟨_, _, _, e2⟩ ⟨_, _, _, e3⟩ ⟨_, _, _, e4⟩ ⟨_, _, _, e6⟩ (hlW.on hb).hex hlW.exl hlW.exb s0
  have hRD : Hid (∀ wr, Below W.heap.size W wr → Calls Tryz.prog 217 #[.agg (evL u st ln hr r m md wk pl tx exv xtv tr k).toArray, .int .i64 f, .int .i64 to] wr (GivesIt (dayL (rdL hr r st f to)) (LB m md wk pl) wr)) :=
    hide fun wr hb => ruleDays_n u st ln hr r m md wk pl tx exv xtv tr k f to wr (hlW.on hb).rule hlW.ok ⟨_, _, _, e5⟩ ⟨_, _, _, e6⟩ s0 s1 f0 f1 t0 t1
  have hbd := hide (rdL_bd hr r hlW.ok st f to s0 s1 f1 t1)
  have hLBlt : ∀ k, LB m md wk pl k → k < W.heap.size ∧ ¬ O k := fun k h => ⟨hlW.blk (.inl h), fun h' => nOE k h' (.inl h)⟩
  have hYS : Hid (rbL hr r st f to ex = rbF st ex (rdL hr r st f to)) := hide rfl
  clear hR hO hl hsz hlW nOE
  clear e1 e2 e3 e4 e5 e6
  have hLb := hide (fun (i : Nat) (t : Int) (h : (rbL hr r st f to ex)[i]? = some t) => hY i _ (intL_get h))
  clear hY
  rw [intL_len]
  generalize rbL hr r st f to ex = YS at *
  generalize rdL hr r st f to = XS at *
  refine callsIn_of_wpF Tryz.func215 rfl ?_
  simp only [Tryz.ntmps215, List.size_toArray, List.length_cons, List.length_nil, Nat.reduceAdd, Nat.reduceSub, Array.replicate_succ, Array.replicate_zero, List.push_toArray, List.append_toArray, List.nil_append, List.cons_append]
  refine wpF_seq fun K hK => wpF_of ?_
  gi_wp2_with fail
  have r4 : RowAt (W.alloc (.cells #[.func (.yield l) #[] #[]] 58)) W.heap.size [.func (.yield l) #[] #[]] 58 := RowAt.new W [.func (.yield l) #[] #[]] 58
  have hbw : Below W.heap.size W (W.alloc (.cells #[.func (.yield l) #[] #[]] 58)) := (Below.refl _ _).alloc (Nat.le_refl _) _
  have hs1 : W.heap.size < (W.alloc (.cells #[.func (.yield l) #[] #[]] 58)).heap.size := by simp
  generalize W.alloc (.cells #[.func (.yield l) #[] #[]] 58) = W1 at *
  refine wpF_seq fun K hK => wpF_of ?_
  have qe := q1.on hbw
  gi_wp2_with (refine evIn rfl rfl rfl qe (fun _ => trivial) ?_)
  refine ((callsIn_wide.2 (hDO.out _ hbw)).mono ?_)
  rintro e w2 ⟨bm, nm, ds, rfl, hbm, om, hds, hb2⟩
  clear hDO qe
  replace hds := hide hds
  replace r4 := r4.on hb2
  replace hbw := hbw.trans (hb2.mono hbw.size)
  have hs2 := hb2.size
  have r5 : RowAt (w2.alloc (.cells #[.map (some bm)] 264)) w2.heap.size [.map (some bm)] 264 := RowAt.new w2 [.map (some bm)] 264
  have hba : Below w2.heap.size w2 (w2.alloc (.cells #[.map (some bm)] 264)) := (Below.refl _ _).alloc (Nat.le_refl _) _
  replace r4 := r4.on hba
  have hbml := om.lt
  replace om := om.keep (hba.block bm om.lt)
  replace hbw := hbw.trans (hba.mono hbw.size)
  have hs3 : w2.heap.size < (w2.alloc (.cells #[.map (some bm)] 264)).heap.size := by simp
  gi_wp2_with fail
  generalize w2.alloc (.cells #[.map (some bm)] 264) = W3 at *
  generalize hb5 : w2.heap.size = b5 at *
  refine wpF_seq fun K hK => wpF_of ?_
  have qe := q1.on hbw
  have p2 := (q2.on hbw).cell (k := 0) rfl
  have p3 := (q3.on hbw).cell (k := 0) rfl
  gi_wp2_with (refine evIn rfl rfl rfl qe (fun _ => trivial) ?_)
  refine ((callsIn_wide.2 (hRD.out _ hbw)).mono ?_)
  rintro e w4 ⟨g, lb, R, rfl, hit, hRR, eg, hb4⟩
  clear qe p2 p3 hRD hba hb2
  replace r4 := r4.on hb4
  replace r5 := r5.on hb4
  replace om := om.keep (hb4.block bm om.lt)
  replace hbw := hbw.trans (hb4.mono hbw.size)
  have hs4 := hb4.size
  clear hb4
  gi_wp2_with fail
  refine wpF_block ?_
  refine range_go (gf := g) (lb := lb) Tryz.func215 ?g eg hit (Nat.le_refl _) (fun _ _ => rfl) (fun k hk => (hRR k hk).1)
    O (fun k hk hk' => by
      rcases (hRR k hk').2 with h | h
      · exact (hLBlt k h).2 hk
      · have := h0J.1 k hk; omega) (DK O W J fun q i => q ≤ YS.length ∧ YS.drop q = rbF st ex (XS.drop i)) (DyS O W (J YS.length) Js) (fun c => DX O W (Jp c)) ?ps ?start ?round ?done ?stop ?pan
  case g => rfl
  case ps => intro x hx; obtain ⟨d, _, rfl⟩ := List.mem_map.1 hx; rfl
  case start => exact DK.onD (fun k hk => by have := h0J.1 k hk; omega) ⟨0, O, ⟨fun k hk => hk, fun k hk => .inl hk, fun k hk => hk, h0J.below hbw⟩, Nat.zero_le _, by simpa using hYS.out⟩
  case stop =>
    rintro c W4 ⟨hx, D, hd1, _, hon⟩ hs hdef
    have hx' : Exc O W (W4.putObj w4.heap.size (.deferred none)) := ((Exc.of_below hbw).trans1 hx).put (.inr (by omega)) _
    have hnd : ¬ D w4.heap.size := fun h => (hd1 _ h).elim (fun h => by have := h0J.1 _ h; omega) (by omega)
    obtain ⟨rfl, h⟩ := hon.out
    have hfin := hide (show PostL O W.heap.size (J YS.length) W (W4.putObj w4.heap.size (.deferred none)) ∨ PostL O W.heap.size Js W (W4.putObj w4.heap.size (.deferred none)) from by
      rcases h with ⟨D0, h⟩ | ⟨D0, h⟩
      · exact .inl ((h.put hnd _).fin hx')
      · exact .inr ((h.put hnd _).fin hx'))
    clear h hon hd1
    gi_wp2_with fail
    refine ⟨by simp, .inl ⟨_, _, rfl, run_takeDeferred hdef, ?_⟩⟩
    exact ⟨_, results_none rfl _ _ _, .inl ⟨⟨_, rfl⟩, hfin.out⟩⟩
  case pan =>
    rintro c W4 ⟨hx, D, hd1, _, hon⟩ hs hdef
    have hx' : Exc O W (W4.putObj w4.heap.size (.deferred none)) := ((Exc.of_below hbw).trans1 hx).put (.inr (by omega)) _
    have hnd : ¬ D w4.heap.size := fun h => (hd1 _ h).elim (fun h => by have := h0J.1 _ h; omega) (by omega)
    obtain ⟨D0, h⟩ := hon.out
    refine ⟨by simp, .inl ⟨_, _, rfl, run_takeDeferred hdef, ?_⟩⟩
    exact .inr ⟨c, rfl, (h.put hnd _).fin hx'⟩
  case done =>
    rw [dayL_len]
    rintro W4 ⟨hx, D, hd1, _, hon⟩ hs hdef
    have hx' : Exc O W (W4.putObj w4.heap.size (.deferred none)) := ((Exc.of_below hbw).trans1 hx).put (.inr (by omega)) _
    have hnd : ¬ D w4.heap.size := fun h => (hd1 _ h).elim (fun h => by have := h0J.1 _ h; omega) (by omega)
    obtain ⟨q, D0, inn, hq, hqd⟩ := hon.out
    have hqe : q = YS.length := drop_nil_len (by rw [hqd, List.drop_length]; rfl) hq
    refine ⟨by simp, .inl ⟨_, _, rfl, run_takeDeferred hdef, ?_⟩⟩
    exact ⟨_, results_none rfl _ _ _, .inl ⟨⟨_, rfl⟩, .inl (by rw [← hqe]; exact (inn.put hnd _).fin hx')⟩⟩
  case round =>
    intro l1' i x hx W4 D hxc hs hOD hon K hK
    obtain ⟨d, hd⟩ : ∃ d, XS[i]? = some d := ⟨_, List.getElem?_eq_getElem (by have := (List.getElem?_eq_some_iff.1 hx).1; rwa [dayL_len] at this)⟩
    rw [dayL_get hd] at hx
    cases hx
    have hdd := hbd.out d (List.mem_of_getElem? hd)
    have hdrop := hide (drop_one hd)
    clear hd hbd
    unfold dnV dayA
    gi_wp2_with fail
    have hb8 : Below W4.heap.size W4 (W4.alloc (.cells #[.int .i64 (Cal.ofY d), .int .i64 (Cal.ofM d), .int .i64 (Cal.ofD d)] 106)) := (Below.refl _ _).alloc (Nat.le_refl _) _
    refine hK _ _ (fun k => D k ∨ k = W4.heap.size) hb8 (fun k hk => hk.imp id fun h => by omega) (fun k hk => .inl hk) (fun k hk => hk.elim (fun h => by have := hon.1 k h; simp; omega) (fun h => by simp; omega)) ?_
    intro l' W5 hk2 hx2 hs5
    have q6 := (RowAt.new W4 (dnC d) 106).keep (hk2 _ (.inr rfl))
    have hon2 := hon.on (W' := W5) fun k hk => (hk2 k (.inl hk)).trans (hb8.block k (hon.1 k hk))
    have hxW : Exc O W W5 := (Exc.of_below hbw).trans1 hx2
    have y1 := q1.exc hxW nO1
    have y4 := r4.exc hx2 (fun h => by have := h0J.1 _ h; omega)
    have y5 := r5.exc hx2 (fun h => by have := h0J.1 _ h; omega)
    have oy := om.keep (hx2.block bm om.lt (fun h => by have := h0J.1 _ h; omega))
    have hD1 : ∀ k, D k ∨ k = W4.heap.size → k < W5.heap.size := fun k hk => hk.elim (hon2.1 k) (fun h => by have := q6.lt; omega)
    have hW5 : W.heap.size ≤ W5.heap.size := by omega
    clear hK hb8 hk2 hit hon r4 r5 om hRR
    obtain ⟨q, D0, inn, hq, hqd⟩ := hon2.out
    clear hon2
    replace inn := inn.wide (D' := fun k => D k ∨ k = W4.heap.size) fun k hk => .inl hk
    have hstep := hide (show YS.drop q = (if ex.contains (d * 86400 + st % 86400) then [] else [d * 86400 + st % 86400]) ++ rbF st ex (XS.drop (i + 1)) from by rw [hqd, hdrop.out, rbF_cons])
    clear hqd hdrop
    have hcnt := out_iff (d := d) hds.out
    have hmod : 0 ≤ st % 86400 ∧ st % 86400 < 86400 := by omega
    gi_upto_region 4 with fail
    have fx : ∀ p ∈ fixB be W.heap.size b5 W4.heap.size, p.1 < 14 := fun p hp => by
      simp only [fixB, List.mem_cons, List.not_mem_nil, or_false] at hp
      rcases hp with rfl | rfl | rfl | rfl <;> simp
    have g1 : ∀ w', Below W5.heap.size W5 w' → (Instr.loadAt 3 (.pointer (some ⟨be, 1, none⟩))).run Tryz.prog w' = .ok (.int .i64 st) w' := fun w' hb => intLd_run ((y1.on hb).cell (k := 1) rfl)
    have g4 : ∀ w', Below W5.heap.size W5 w' → (Instr.loadAt 58 (.pointer (some ⟨W.heap.size, 0, none⟩))).run Tryz.prog w' = .ok (.func (.yield l) #[] #[]) w' := fun w' hb => fnLd_run ((y4.on hb).cell (k := 0) rfl)
    have g5 : ∀ w', Below W5.heap.size W5 w' → (Instr.loadAt 264 (.pointer (some ⟨b5, 0, none⟩))).run Tryz.prog w' = .ok (.map (some bm)) w' := fun w' hb => mapLd_run ((y5.on hb).cell (k := 0) rfl)
    have g6 : ∀ w', Below W5.heap.size W5 w' → (Instr.loadAt 106 (.pointer (some ⟨W4.heap.size, 0, none⟩))).run Tryz.prog w' = .ok (dnV d) w' := fun w' hb => dayLd_run (q6.on hb)
    have gl : ∀ w', Below W5.heap.size W5 w' → (Instr.lookup 264 (.map (some bm)) (dnV d) false).run Tryz.prog w' = .ok (.int .i64 (ds.count d)) w' := fun w' hb => (oy.keep (hb.block bm oy.lt)).look d (by omega) (by omega)
    rename_i K1 hK1
    by_cases hc : ex.contains (d * 86400 + st % 86400)
    case pos =>
      have hne : ds.count d ≠ 0 := fun h => by rw [hcnt.1 h] at hc; cases hc
      have hqd := hide (show YS.drop q = rbF st ex (XS.drop (i + 1)) from by rw [hstep.out, if_pos hc]; rfl)
      clear hstep
      refine wpIn_region_listed (YP 14 15 29 (fixB be W.heap.size b5 W4.heap.size) W5 (NC bm d (ds.count d))) hmx (by kernel_rfl) ?rops ?rdone ⟨rfl, rfl, fun p hp => by
        simp only [fixB, List.mem_cons, List.not_mem_nil, or_false] at hp
        rcases hp with rfl | rfl | rfl | rfl <;> rfl, (Below.refl _ _).drew, fun _ _ h => by cases h⟩
      case rdone =>
        intro L a w' hall hI
        have e28 : a.eval (.tmp 28) = .bool false := hI.vals 14 (by decide) (hall 14 (by decide))
        have hb' := hI.below
        obtain ⟨fr, rfl, hf⟩ := act_lit29 a hI.size hI.defers
        have f28 := (hf 28).symm.trans e28
        rw [f28]
        clear hf e28 f28 hI
        refine hK1 _ _ ?_
        clear hK1
        gi_wp2_with fail
        have inn' := inn.below hb'
        exact ⟨Exc.of_below hb', fun k => D k ∨ k = W4.heap.size, fun k hk => .inl hk, fun k hk => hk, DK.onD (fun k hk => Nat.lt_of_lt_of_le (hD1 k hk) hb'.size) ⟨q, D0, inn', hq, hqd.out⟩⟩
      case rops =>
        intro L j o a w' ho hLj hdeps hC hI
        have hj : j < 15 := (Array.getElem?_eq_some_iff.1 ho).1
        have s1 : a.eval (.tmp 1) = .pointer (some ⟨be, 0, none⟩) := hI.fixed (1, _) (by simp [fixB])
        have s5 : a.eval (.tmp 5) = .pointer (some ⟨b5, 0, none⟩) := hI.fixed (5, _) (by simp [fixB])
        have s6 : a.eval (.tmp 6) = .pointer (some ⟨W4.heap.size, 0, none⟩) := hI.fixed (6, _) (by simp [fixB])
        have w4 : L 4 = true → ∀ {ops : Array Oper} {o' : Oper}, ((ops[4]?).bind (·.dst)) = some 18 → o'.guard = some (4, true) → Region.wanted o' (yielded ops a.tmps) = false := fun hl ops o' hd hg => by
          rw [wanted_at hg hd (d := 18) (by rw [hI.size]; decide) (c := false) (hI.vals 4 (by decide) hl)]; rfl
        have hor : j = 0 ∨ j = 1 ∨ j = 2 ∨ j = 3 ∨ j = 4 ∨ j = 5 ∨ j = 6 ∨ j = 7 ∨ j = 8 ∨ j = 9 ∨ j = 10 ∨ j = 11 ∨ j = 12 ∨ j = 13 ∨ j = 14 := by omega
        rcases hor with rfl | rfl | rfl | rfl | rfl | rfl | rfl | rfl | rfl | rfl | rfl | rfl | rfl | rfl | rfl <;> obtain rfl := Option.some.inj ho
        · exact opIn_plain rfl rfl (opIn_value (fun _ => trivial) (fun _ h => by cases h) (ld_run rfl s5 (g5 _ hI.below)) (hI.step (j := 0) (by decide) (by decide) fx rfl (Below.refl _ _) rfl))
        · exact opIn_plain rfl rfl (opIn_value (fun _ => trivial) (fun _ h => by cases h) (ld_run rfl s6 (g6 _ hI.below)) (hI.step (j := 1) (by decide) (by decide) fx rfl (Below.refl _ _) rfl))
        · have e1 : a.eval (.tmp 14) = .map (some bm) := hI.vals 0 (by decide) (hdeps ⟨0, .data⟩ (by simp) rfl)
          have e2 : a.eval (.tmp 15) = dnV d := hI.vals 1 (by decide) (hdeps ⟨1, .data⟩ (by simp) rfl)
          exact opIn_plain rfl rfl (opIn_value (fun _ => trivial) (fun _ h => by cases h) (lk_run rfl e1 e2 (gl _ hI.below)) (hI.step (j := 2) (by decide) (by decide) fx rfl (Below.refl _ _) rfl))
        · have e : a.eval (.tmp 16) = .int .i64 (ds.count d) := hI.vals 2 (by decide) (hdeps ⟨2, .data⟩ (by simp) rfl)
          exact opIn_plain rfl rfl (opIn_value (fun _ => trivial) (fun _ h => by cases h) (eq0_run rfl e) (hI.step (j := 3) (by decide) (by decide) fx (show Value.bool (((ds.count d : Nat) : Int) == 0) = .bool false by congr 1; simpa using hne) (Below.refl _ _) rfl))
        · have e : a.eval (.tmp 17) = .bool false := hI.vals 3 (by decide) (hdeps ⟨3, .data⟩ (by simp) rfl)
          exact opIn_plain rfl rfl (opIn_value (fun _ => trivial) (fun _ h => by cases h) (mv_run rfl e) (hI.step (j := 4) (by decide) (by decide) fx rfl (Below.refl _ _) rfl))
        · exact opIn_skip rfl (w4 (hdeps ⟨4, .guard⟩ (by simp) rfl) rfl rfl) (fun _ => trivial) (hI.step (j := 5) (by decide) (by decide) fx (show NC bm d (ds.count d) 5 undef from rfl) (Below.refl _ _) rfl)
        · exact opIn_skip rfl (w4 (hdeps ⟨4, .guard⟩ (by simp) rfl) rfl rfl) (fun _ => trivial) (hI.step (j := 6) (by decide) (by decide) fx (show NC bm d (ds.count d) 6 undef from rfl) (Below.refl _ _) rfl)
        · exact opIn_skip rfl (w4 (hdeps ⟨4, .guard⟩ (by simp) rfl) rfl rfl) (fun _ => trivial) (hI.step (j := 7) (by decide) (by decide) fx (show NC bm d (ds.count d) 7 undef from rfl) (Below.refl _ _) rfl)
        · exact opIn_skip rfl (w4 (hdeps ⟨4, .guard⟩ (by simp) rfl) rfl rfl) (fun _ => trivial) (hI.step (j := 8) (by decide) (by decide) fx (show NC bm d (ds.count d) 8 undef from rfl) (Below.refl _ _) rfl)
        · exact opIn_skip rfl (w4 (hdeps ⟨4, .guard⟩ (by simp) rfl) rfl rfl) (fun _ => trivial) (hI.step (j := 9) (by decide) (by decide) fx (show NC bm d (ds.count d) 9 undef from rfl) (Below.refl _ _) rfl)
        · exact opIn_skip rfl (w4 (hdeps ⟨4, .guard⟩ (by simp) rfl) rfl rfl) (fun _ => trivial) (hI.step (j := 10) (by decide) (by decide) fx (show NC bm d (ds.count d) 10 undef from rfl) (Below.refl _ _) rfl)
        · exact opIn_skip rfl (w4 (hdeps ⟨4, .guard⟩ (by simp) rfl) rfl rfl) (fun _ => trivial) (hI.step (j := 11) (by decide) (by decide) fx (show NC bm d (ds.count d) 11 undef from rfl) (Below.refl _ _) rfl)
        · exact opIn_skip rfl (w4 (hdeps ⟨4, .guard⟩ (by simp) rfl) rfl rfl) (fun _ => trivial) (hI.step (j := 12) (by decide) (by decide) fx (show NC bm d (ds.count d) 12 undef from rfl) (Below.refl _ _) rfl)
        · exact opIn_skip rfl (w4 (hdeps ⟨4, .guard⟩ (by simp) rfl) rfl rfl) (fun _ => trivial) (hI.step (j := 13) (by decide) (by decide) fx (show NC bm d (ds.count d) 13 undef from rfl) (Below.refl _ _) rfl)
        · have e1 : a.eval (.tmp 18) = .bool false := hI.vals 4 (by decide) (hdeps ⟨4, .data⟩ (by simp) rfl)
          exact opIn_plain rfl rfl (opIn_value (fun _ => trivial) (fun _ h => by cases h) (pk0_run rfl e1) (hI.step (j := 14) (by decide) (by decide) fx rfl (Below.refl _ _) rfl))
    case neg =>
      have hcz : ds.count d = 0 := hcnt.2 (by simpa using hc)
      have hst := hide (show YS.drop q = (d * 86400 + st % 86400) :: rbF st ex (XS.drop (i + 1)) from by rw [hstep.out, if_neg hc]; rfl)
      clear hstep
      obtain ⟨hyq, hyd, hyl⟩ := drop_head hst.out
      replace hyd := hide hyd
      clear hst
      rw [hcz] at gl
      have hY' := hide (fun w' (hb : Below W5.heap.size W5 w') => hLb.out q _ hyq w' D0 (hxW.trans1 (Exc.of_below hb)) inn.dO inn.Od (inn.below hb).on)
      have hBG := hide (fun w' => begin_n d w' (by omega) (by omega))
      refine wpIn_region_listed (YI 14 12 29 (fixB be W.heap.size b5 W4.heap.size) W5 (NB l be bm d st) (fun W' => ∃ w', Below W5.heap.size W5 w' ∧ PostL D0 w'.heap.size (J (q + 1)) w' W') (fun W' => ∃ w', Below W5.heap.size W5 w' ∧ PostL D0 w'.heap.size Js w' W') BB) hmx (by kernel_rfl) ?rops ?rdone (YI.start rfl rfl (fun p hp => by
        simp only [fixB, List.mem_cons, List.not_mem_nil, or_false] at hp
        rcases hp with rfl | rfl | rfl | rfl <;> rfl) (Below.refl _ _).drew)
      case rdone =>
        intro L a WX hall hI
        obtain ⟨_, b, _, hT, hF, hB⟩ := hI.post (hall 12 (by decide))
        have e28 : a.eval (.tmp 28) = .bool (!b) := hB 14 (by decide) (hall 14 (by decide))
        obtain ⟨fr, rfl, hf⟩ := act_lit29 a hI.size hI.defers
        have f28 := (hf 28).symm.trans e28
        rw [f28]
        clear hf e28 f28 hI hB
        refine hK1 _ _ ?_
        clear hK1
        cases b
        case true =>
          obtain ⟨w', hb', hp⟩ := hT rfl
          obtain ⟨D0X, innX, d0x, hxx⟩ := (inn.below hb').post (by have := hb'.size; omega) hp
          have excX : Exc (fun k => D k ∨ k = W4.heap.size) W5 WX := (Exc.of_below hb').trans hxx (fun k hk => .inl (inn.sub k hk))
          have hs' := hb'.size
          clear hT hF
          gi_wp2_with fail
          exact ⟨excX, fun k => (D k ∨ k = W4.heap.size) ∨ D0X k, fun k hk => hk.elim .inl fun h => (d0x k h).elim (fun h => .inl (inn.sub k h)) (fun h => .inr (by omega)), fun k hk => .inl hk, DK.onD (fun k hk => hk.elim (fun h => Nat.lt_of_lt_of_le (hD1 k h) excX.size) (fun h => innX.on.1 k h)) ⟨q + 1, D0X, innX, hyl, hyd.out⟩⟩
        case false =>
          obtain ⟨w', hb', hp⟩ := hF rfl
          obtain ⟨D0X, innX, d0x, hxx⟩ := (inn.below hb').post (by have := hb'.size; omega) hp
          have excX : Exc (fun k => D k ∨ k = W4.heap.size) W5 WX := (Exc.of_below hb').trans hxx (fun k hk => .inl (inn.sub k hk))
          have hs' := hb'.size
          clear hT hF
          gi_wp2_with fail
          exact ⟨excX, fun k => (D k ∨ k = W4.heap.size) ∨ D0X k, fun k hk => hk.elim .inl fun h => (d0x k h).elim (fun h => .inl (inn.sub k h)) (fun h => .inr (by omega)), fun k hk => .inl hk, DyS.onY (DX.onD (fun k hk => hk.elim (fun h => Nat.lt_of_lt_of_le (hD1 k h) excX.size) (fun h => innX.on.1 k h)) ⟨D0X, innX⟩)⟩
      case rops =>
        intro L j o a w' ho hLj hdeps hC hI
        have hj : j < 15 := (Array.getElem?_eq_some_iff.1 ho).1
        have s1 : a.eval (.tmp 1) = .pointer (some ⟨be, 0, none⟩) := hI.fixed (1, _) (by simp [fixB])
        have s4 : a.eval (.tmp 4) = .pointer (some ⟨W.heap.size, 0, none⟩) := hI.fixed (4, _) (by simp [fixB])
        have s5 : a.eval (.tmp 5) = .pointer (some ⟨b5, 0, none⟩) := hI.fixed (5, _) (by simp [fixB])
        have s6 : a.eval (.tmp 6) = .pointer (some ⟨W4.heap.size, 0, none⟩) := hI.fixed (6, _) (by simp [fixB])
        have w4 : L 4 = true → ∀ {ops : Array Oper} {o' : Oper}, ((ops[4]?).bind (·.dst)) = some 18 → o'.guard = some (4, true) → Region.wanted o' (yielded ops a.tmps) = true := fun hl ops o' hd hg => by
          rw [wanted_at hg hd (d := 18) (by rw [hI.size]; decide) (c := true) (hI.vals 4 (by decide) hl)]; rfl
        have hor : j = 0 ∨ j = 1 ∨ j = 2 ∨ j = 3 ∨ j = 4 ∨ j = 5 ∨ j = 6 ∨ j = 7 ∨ j = 8 ∨ j = 9 ∨ j = 10 ∨ j = 11 ∨ j = 12 ∨ j = 13 ∨ j = 14 := by omega
        rcases hor with rfl | rfl | rfl | rfl | rfl | rfl | rfl | rfl | rfl | rfl | rfl | rfl | rfl | rfl | rfl <;> obtain rfl := Option.some.inj ho
        · exact opIn_plain rfl rfl (opIn_value (fun _ => trivial) (fun _ h => by cases h) (ld_run rfl s5 (g5 _ (hI.below (by decide) hLj))) (hI.stepPre (by decide) hLj (by decide) fx rfl (Below.refl _ _) rfl))
        · exact opIn_plain rfl rfl (opIn_value (fun _ => trivial) (fun _ h => by cases h) (ld_run rfl s6 (g6 _ (hI.below (by decide) hLj))) (hI.stepPre (by decide) hLj (by decide) fx rfl (Below.refl _ _) rfl))
        · have e14 : a.eval (.tmp 14) = .map (some bm) := hI.vals 0 (by decide) (hdeps ⟨0, .data⟩ (by simp) rfl)
          have e15 : a.eval (.tmp 15) = dnV d := hI.vals 1 (by decide) (hdeps ⟨1, .data⟩ (by simp) rfl)
          exact opIn_plain rfl rfl (opIn_value (fun _ => trivial) (fun _ h => by cases h) (lk_run rfl e14 e15 (gl _ (hI.below (by decide) hLj))) (hI.stepPre (by decide) hLj (by decide) fx rfl (Below.refl _ _) rfl))
        · have e16 : a.eval (.tmp 16) = .int .i64 0 := hI.vals 2 (by decide) (hdeps ⟨2, .data⟩ (by simp) rfl)
          exact opIn_plain rfl rfl (opIn_value (fun _ => trivial) (fun _ h => by cases h) (eq0_run rfl e16) (hI.stepPre (by decide) hLj (by decide) fx rfl (Below.refl _ _) rfl))
        · have e17 : a.eval (.tmp 17) = .bool true := hI.vals 3 (by decide) (hdeps ⟨3, .data⟩ (by simp) rfl)
          exact opIn_plain rfl rfl (opIn_value (fun _ => trivial) (fun _ h => by cases h) (mv_run rfl e17) (hI.stepPre (by decide) hLj (by decide) fx rfl (Below.refl _ _) rfl))
        · exact opIn_want rfl (w4 (hdeps ⟨4, .guard⟩ (by simp) rfl) rfl rfl) (opIn_value (fun _ => trivial) (fun _ h => by cases h) (ld_run rfl s4 (g4 _ (hI.below (by decide) hLj))) (hI.stepPre (by decide) hLj (by decide) fx rfl (Below.refl _ _) rfl))
        · exact opIn_want rfl (w4 (hdeps ⟨4, .guard⟩ (by simp) rfl) rfl rfl) (opIn_value (fun _ => trivial) (fun _ h => by cases h) (ld_run rfl s6 (g6 _ (hI.below (by decide) hLj))) (hI.stepPre (by decide) hLj (by decide) fx rfl (Below.refl _ _) rfl))
        · have e20 : a.eval (.tmp 20) = dnV d := hI.vals 6 (by decide) (hdeps ⟨6, .data⟩ (by simp) rfl)
          exact opIn_want rfl (w4 (hdeps ⟨4, .guard⟩ (by simp) rfl) rfl rfl) (opIn_call (f := 64) (args := #[a.eval (.tmp 20)]) (fun _ h => by cases h) (by kernel_rfl) (by rw [e20]; exact hBG.out w') (fun w'' hb => hI.stepPre (by decide) hLj (by decide) fx rfl hb rfl))
        · exact opIn_want rfl (w4 (hdeps ⟨4, .guard⟩ (by simp) rfl) rfl rfl) (opIn_value (fun _ => trivial) (fun _ h => by cases h) (fld_run rfl s1 (evFld_run be 1 1 (.inr (.inl rfl)) _)) (hI.stepPre (by decide) hLj (by decide) fx rfl (Below.refl _ _) rfl))
        · have e22 : a.eval (.tmp 22) = .pointer (some ⟨be, 1, none⟩) := hI.vals 8 (by decide) (hdeps ⟨8, .data⟩ (by simp) rfl)
          exact opIn_want rfl (w4 (hdeps ⟨4, .guard⟩ (by simp) rfl) rfl rfl) (opIn_value (fun _ => trivial) (fun _ h => by cases h) (ld_run rfl e22 (g1 _ (hI.below (by decide) hLj))) (hI.stepPre (by decide) hLj (by decide) fx rfl (Below.refl _ _) rfl))
        · have e23 : a.eval (.tmp 23) = .int .i64 st := hI.vals 9 (by decide) (hdeps ⟨9, .data⟩ (by simp) rfl)
          exact opIn_want rfl (w4 (hdeps ⟨4, .guard⟩ (by simp) rfl) rfl rfl) (opIn_value (fun _ => trivial) (fun _ h => by cases h) (rem_run rfl e23 s0) (hI.stepPre (by decide) hLj (by decide) fx rfl (Below.refl _ _) rfl))
        · have e21 : a.eval (.tmp 21) = .int .i64 (d * 86400) := hI.vals 7 (by decide) (hdeps ⟨7, .data⟩ (by simp) rfl)
          have e24 : a.eval (.tmp 24) = .int .i64 (st % 86400) := hI.vals 10 (by decide) (hdeps ⟨10, .data⟩ (by simp) rfl)
          exact opIn_want rfl (w4 (hdeps ⟨4, .guard⟩ (by simp) rfl) rfl rfl) (opIn_value (fun _ => trivial) (fun _ h => by cases h) (add_run rfl e21 e24 (by omega) (by omega)) (hI.stepPre (by decide) hLj (by decide) fx rfl (Below.refl _ _) rfl))
        · -- the yield
          have hall : ∀ j, j < 12 → L j = true := by
            have l5 := hdeps ⟨5, .data⟩ (by simp) rfl
            have l11 := hdeps ⟨11, .data⟩ (by simp) rfl
            have l4 := hdeps ⟨4, .guard⟩ (by simp) rfl
            have l7 := hC 11 _ rfl l11 ⟨7, .data⟩ (by simp) rfl
            have l10 := hC 11 _ rfl l11 ⟨10, .data⟩ (by simp) rfl
            have l9 := hC 10 _ rfl l10 ⟨9, .data⟩ (by simp) rfl
            have l8 := hC 9 _ rfl l9 ⟨8, .data⟩ (by simp) rfl
            have l6 := hC 7 _ rfl l7 ⟨6, .data⟩ (by simp) rfl
            have l3 := hC 4 _ rfl l4 ⟨3, .data⟩ (by simp) rfl
            have l2 := hC 3 _ rfl l3 ⟨2, .data⟩ (by simp) rfl
            have l0 := hC 2 _ rfl l2 ⟨0, .data⟩ (by simp) rfl
            have l1 := hC 2 _ rfl l2 ⟨1, .data⟩ (by simp) rfl
            intro j hj
            have hor : j = 0 ∨ j = 1 ∨ j = 2 ∨ j = 3 ∨ j = 4 ∨ j = 5 ∨ j = 6 ∨ j = 7 ∨ j = 8 ∨ j = 9 ∨ j = 10 ∨ j = 11 := by omega
            rcases hor with rfl | rfl | rfl | rfl | rfl | rfl | rfl | rfl | rfl | rfl | rfl | rfl <;> assumption
          have e19 : a.eval (.tmp 19) = .func (.yield l) #[] #[] := hI.vals 5 (by decide) (hall 5 (by decide))
          have e25 : a.eval (.tmp 25) = .int .i64 (d * 86400 + st % 86400) := hI.vals 11 (by decide) (hall 11 (by decide))
          have hbl := (hI.pre hLj).1
          obtain ⟨f1', t1', a1', b1', hy1, hR1⟩ := hY'.out w' hbl
          refine opIn_want rfl (w4 (hall 4 (by decide)) rfl rfl) (opIn_yield (fun _ h => by cases h) (yd_run rfl e19 e25 hy1) hR1 ?_ ?_ ?_)
          · rintro v W' (⟨he, hp⟩ | ⟨he, hp⟩ | ⟨c, he, _⟩)
            · cases he
              exact hI.stepY hall hLj (by decide) fx (fun _ => ⟨w', hbl, hp⟩) (fun h => by cases h) rfl
            · cases he
              exact hI.stepY hall hLj (by decide) fx (fun h => by cases h) (fun _ => ⟨w', hbl, hp⟩) rfl
            · cases he
          · rintro c W' (⟨he, _⟩ | ⟨he, _⟩ | ⟨c', he, hp⟩)
            · cases he
            · cases he
            · cases he
              obtain ⟨D0X, innX, d0x, hxx⟩ := (inn.below hbl).post (by have := hbl.size; omega) hp
              have excX : Exc (fun k => D k ∨ k = W4.heap.size) W5 W' := (Exc.of_below hbl).trans hxx (fun k hk => .inl (inn.sub k hk))
              have hs' := hbl.size
              exact ⟨hI.defers, excX, fun k => (D k ∨ k = W4.heap.size) ∨ D0X k, fun k hk => hk.elim .inl fun h => (d0x k h).elim (fun h => .inl (inn.sub k h)) (fun h => .inr (by omega)), fun k hk => .inl hk, DX.onD (fun k hk => hk.elim (fun h => Nat.lt_of_lt_of_le (hD1 k h) excX.size) (fun h => innX.on.1 k h)) ⟨D0X, innX⟩⟩
          · rintro W' (⟨he, _⟩ | ⟨he, _⟩ | ⟨c', he, _⟩) <;> cases he
        · have l12 := hdeps ⟨12, .data⟩ (by simp) rfl
          have l4 := hdeps ⟨4, .guard⟩ (by simp) rfl
          obtain ⟨_, b, e26, _, _, _⟩ := hI.post l12
          exact opIn_want rfl (w4 l4 rfl rfl) (opIn_value (fun _ => trivial) (fun _ h => by cases h) (not_run rfl e26) (hI.stepPost (by decide) hLj l12 (by decide) fx (fun b' hb' => by
            have e26' : a.eval (.tmp 26) = .bool b' := hb'
            rw [e26] at e26'; cases e26'; rfl) rfl))
        · have l13 := hdeps ⟨13, .data⟩ (by simp) rfl
          have l12 := hC 13 _ rfl l13 ⟨12, .data⟩ (by simp) rfl
          have e18 : a.eval (.tmp 18) = .bool true := hI.vals 4 (by decide) (hdeps ⟨4, .data⟩ (by simp) rfl)
          obtain ⟨_, b, e26, _, _, hB⟩ := hI.post l12
          have e27 : a.eval (.tmp 27) = .bool (!b) := hB 13 (by decide) l13
          exact opIn_plain rfl rfl (opIn_value (fun _ => trivial) (fun _ h => by cases h) (pk1_run rfl e18 e27) (hI.stepPost (by decide) hLj l12 (by decide) fx (fun b' hb' => by
            have e26' : a.eval (.tmp 26) = .bool b' := hb'
            rw [e26] at e26'; cases e26'; rfl) rfl))
end Go.Proofs.YthpndgcaoeokeaaGreatDoor
namespace Go.Proofs.YthpndgcaoeokeaaGreatDoor
open Go.RowKit Go.Sort
attribute [local go_sem] Oper.semAt_some
attribute [local go_sem] wide_fn wide_depth
attribute [local simp] wide_fn wide_depth

set_option maxRecDepth 100000 in
set_option maxHeartbeats 4000000 in
theorem ruleBegins_n (u : ByteArray) (st ln : Int) (hr : Bool) (r : RuleD) (m md wk pl : Value) (tx : ByteArray) (exv xtv : Value) (ex xt : List Int) (tr : Bool) (k : Int) (f to : Int) (w : World) (hl : EvLs w hr r m md wk pl exv xtv ex xt)
    (s0 : 0 ≤ st) (s1 : st ≤ 7258118400) (f0 : -1000000000000 ≤ f) (f1 : f ≤ 7258118400) (t0 : 0 ≤ to) (t1 : to ≤ 7258118400) :
    Calls Tryz.prog 159 #[.agg (evL u st ln hr r m md wk pl tx exv xtv tr k).toArray, .int .i64 f, .int .i64 to] w (GivesIt (intL (rbL hr r st f to ex)) (EBk m md wk pl exv xtv) w) := by
  have eg1 : ∀ args w, (callFunc 215 args).run Tryz.prog w = .ok (.enter 215 args) w := enters_of Tryz.func215 (by kernel_rfl) rfl
  replace eg1 := hide eg1
  have q0 := row3_0 w (evL u st ln hr r m md wk pl tx exv xtv tr k) 79 (.cells #[.int .i64 f] 3) (.cells #[.int .i64 to] 3)
  have q1 := row3_1 w (.cells (evL u st ln hr r m md wk pl tx exv xtv tr k).toArray 79) [.int .i64 f] 3 (.cells #[.int .i64 to] 3)
  have q2 := row3_2 w (.cells (evL u st ln hr r m md wk pl tx exv xtv tr k).toArray 79) (.cells #[.int .i64 f] 3) [.int .i64 to] 3
  have hbw := bl_three w (.cells (evL u st ln hr r m md wk pl tx exv xtv tr k).toArray 79) (.cells #[.int .i64 f] 3) (.cells #[.int .i64 to] 3)
  have hit := hide (rb_it u st ln hr r m md wk pl tx exv xtv ex xt tr k f to w.heap.size (w.heap.size + 1) (w.heap.size + 1 + 1) _ (hl.on hbw) s0 s1 f0 f1 t0 t1 q0 q1 q2)
  have hblk := hide (fun k (h : EBk m md wk pl exv xtv k) => hl.blk h)
  clear hl q0 q1 q2
  generalize evL u st ln hr r m md wk pl tx exv xtv tr k = E at *
  go_enter Tryz.func159, Tryz.ntmps159
  go_wp2_with fail
  go_ret
  refine ⟨_, _, _, rfl, hit.out, fun k hk => ?_, eg1.out, hbw⟩
  rcases hk with rfl | rfl | rfl | h
  · exact ⟨by simp; omega, .inr (Nat.le_refl _)⟩
  · exact ⟨by simp, .inr (by omega)⟩
  · exact ⟨by simp, .inr (by omega)⟩
  · exact ⟨by have := hblk.out k h; simp; omega, .inl h⟩

theorem contains_w {w : World} {v : Value} {zs : List Int} (x : Int) (h : IntsW w v zs) (hb : zs.length ≤ 1000) :
    Calls Tryz.prog 218 #[v, .int .i64 x] w fun e w' => e = .returned (.bool (zs.contains x)) ∧ Below w.heap.size w w' := by
  rcases h with ⟨rfl, rfl⟩ | ⟨g, cap, rest, rfl, hr⟩
  · refine (Tryz.slices_Contains_int_empty none 0 x w).mono ?_
    rintro e w' ⟨rfl, rfl⟩
    exact ⟨rfl, Below.refl _ _⟩
  · refine (Tryz.slices_Contains_int g 0 zs.length cap zs x w (Nat.le_refl _) (by omega) (fun j hj => ?_)).mono ?_
    · rw [Nat.zero_add]
      exact hr.cell (by rw [List.getElem?_map, List.getElem?_append_left hj, List.getElem?_eq_getElem hj, List.getD_eq_getElem?_getD, List.getElem?_eq_getElem hj]; rfl)
    · rintro e w' ⟨rfl, rfl⟩
      exact ⟨by rw [List.take_length], Below.refl _ _⟩

/-- RDATE's times without EXDATE's -/
def xbF (st f to : Int) (ex : List Int) (l : List Int) : List Int := l.filter fun t => decide (max st f ≤ t) && decide (t < to) && !ex.contains t
def ints (l : List Int) : List Value := l.map (Value.int .i64)
theorem ints_snoc (l : List Int) (x : Int) : ints (l ++ [x]) = ints l ++ [.int .i64 x] := by unfold ints; simp

set_option maxRecDepth 100000 in
set_option maxHeartbeats 8000000 in
theorem extraBegins_n (u : ByteArray) (st ln : Int) (hr : Bool) (r : RuleD) (m md wk pl : Value) (tx : ByteArray) (exv xtv : Value) (ex xt : List Int) (tr : Bool) (k : Int) (f to : Int) (w : World) (hl : EvLs w hr r m md wk pl exv xtv ex xt) :
    Calls Tryz.prog 160 #[.agg (evL u st ln hr r m md wk pl tx exv xtv tr k).toArray, .int .i64 f, .int .i64 to] w fun e w' => ∃ v, e = .returned v ∧ w'.ownsRow w.heap.size 3 1 v (xbF st f to ex xt).length (ints (xbF st f to ex xt)) ∧ Below w.heap.size w w' := by
  obtain ⟨a5, c5, e5⟩ := hl.hex.sl
  obtain ⟨a6, c6, e6⟩ := hl.hxt.sl
  have hC : Hid (∀ W' x, Below w.heap.size w W' → Calls Tryz.prog 218 #[exv, .int .i64 x] W' fun e w' => e = .returned (.bool (ex.contains x)) ∧ Below W'.heap.size W' w') := hide fun W' x hb => contains_w x (hl.on hb).hex hl.exl
  have hX : Hid (∀ W', Below w.heap.size w W' → IntsW W' xtv xt) := hide fun W' hb => (hl.on hb).hxt
  have hxl := hl.xtl
  clear hl
  have r1 := RowAt.new w (evL u st ln hr r m md wk pl tx exv xtv tr k) 79
  have hbw := (Below.refl w.heap.size w).alloc (Nat.le_refl _) (.cells (evL u st ln hr r m md wk pl tx exv xtv tr k).toArray 79)
  have hE1 : (evL u st ln hr r m md wk pl tx exv xtv tr k)[1]? = some (.int .i64 st) := rfl
  have hE14 : (evL u st ln hr r m md wk pl tx exv xtv tr k)[14]? = some exv := rfl
  have hE15 : (evL u st ln hr r m md wk pl tx exv xtv tr k)[15]? = some xtv := rfl
  generalize evL u st ln hr r m md wk pl tx exv xtv tr k = E at *
  subst e5 e6
  have hL : Hid (xbF st f to ex xt = xbF st f to ex (xt.take 0) ++ xbF st f to ex (xt.drop 0)) := hide rfl
  refine (callsIn_wide (n := 0)).1 ?_
  refine callsIn_of_wp Tryz.func160 rfl trivial ?_ rfl
  simp only [Tryz.ntmps160, List.size_toArray, List.length_cons, List.length_nil, Nat.reduceAdd, Nat.reduceSub, Array.replicate_succ, Array.replicate_zero, List.push_toArray, List.append_toArray, List.nil_append, List.cons_append]
  gi_upto_region 1 with fail
  have hsz : w.heap.size < (w.alloc (.cells E.toArray 79)).heap.size := by simp
  generalize w.alloc (.cells E.toArray 79) = W at *
  have g15 := r1.cell hE15
  gi_wp2_with fail
  clear g15
  gi_loopg [7, 13] xt.length (fun q pv cv wr => ∃ (i : Nat) (pre : List Int), i + q = xt.length ∧ cv = .int .i64 i ∧ Below w.heap.size w wr ∧ RowAt wr w.heap.size E 79 ∧ wr.ownsRow W.heap.size 3 1 pv pre.length (ints pre) ∧ pre.length ≤ i ∧ W.heap.size ≤ wr.heap.size ∧ Hid (xbF st f to ex xt = pre ++ xbF st f to ex (xt.drop i)))
  case atStart => exact ⟨0, [], by omega, rfl, hbw, r1, World.ownsRow_nil _ _ _ _, Nat.le_refl _, Nat.le_refl _, hide (by simp)⟩
  case round =>
    clear hbw r1 hL
    obtain ⟨i, pre, hiq, rfl, hbw, r1, hown, hpl, hsW, HL⟩ := hrel
    have hsr := hbw.size
    by_cases hi : i = xt.length
    case pos =>
      have HL' : Hid (xbF st f to ex xt = pre) := hide (by rw [HL.out, hi, List.drop_length]; simp [xbF])
      clear HL
      subst hi
      gi_wp2_with fail
      go_ret
      exact ⟨u7, rfl, by rw [HL'.out]; exact own_low hown (by omega), hbw⟩
    case neg =>
      have hilt : i < xt.length := by omega
      obtain ⟨t, ht⟩ : ∃ t, xt[i]? = some t := ⟨_, List.getElem?_eq_getElem hilt⟩
      obtain ⟨gx, hax, hcx⟩ := (hX.out wr hbw).cell ht
      have hst := hide (show xbF st f to ex (xt.drop i) = (if max st f ≤ t ∧ t < to ∧ ex.contains t = false then [t] else []) ++ xbF st f to ex (xt.drop (i + 1)) from by
        rw [drop_one ht]
        unfold xbF
        rw [List.filter_cons]
        by_cases h1 : max st f ≤ t <;> by_cases h2 : t < to <;> cases h3 : ex.contains t <;> simp [h1, h2])
      subst hax
      have g1 := r1.cell hE1
      have g14 := r1.cell hE14
      clear ht
      by_cases h1 : max st f ≤ t
      case neg =>
        have HN : ¬ (max st f ≤ t ∧ t < to ∧ ex.contains t = false) := fun h => h1 h.1
        have h1' : t < max st f := by omega
        gi_wp2_with fail
        gi_roundg (gk - 1)
        case measure => omega
        case rel => exact ⟨i + 1, pre, by omega, by go_num, hbw, r1, hown, by omega, hsW, hide (by rw [HL.out, hst.out, if_neg HN]; rfl)⟩
      case pos =>
        by_cases h2 : t < to
        case neg =>
          have HN : ¬ (max st f ≤ t ∧ t < to ∧ ex.contains t = false) := fun h => h2 h.2.1
          have h2' : to ≤ t := by omega
          gi_wp2_with fail
          gi_roundg (gk - 1)
          case measure => omega
          case rel => exact ⟨i + 1, pre, by omega, by go_num, hbw, r1, hown, by omega, hsW, hide (by rw [HL.out, hst.out, if_neg HN]; rfl)⟩
        case pos =>
          gi_wp2_with fail
          refine ((callsIn_wide.2 (hC.out _ t hbw)).mono ?_)
          rintro e W5 ⟨rfl, hb5⟩
          have hst' := hide (show ∀ b, ex.contains t = b → xbF st f to ex xt = (pre ++ (if b then [] else [t])) ++ xbF st f to ex (xt.drop (i + 1)) from fun b hb => by
            rw [HL.out, hst.out, List.append_assoc]
            cases b
            · rw [if_pos ⟨h1, h2, hb⟩]; rfl
            · rw [if_neg (fun h => by rw [h.2.2] at hb; cases hb)]; rfl)
          have hown5 := own_keep hown (w' := W5) fun g hg => hb5.block g (hown.lt g hg).2
          have r5 := r1.on hb5
          have hb5' := hide (hbw.trans (hb5.mono hsr))
          have hs5 := hb5.size
          clear g1 g14 hcx HL hst hown r1 hb5
          generalize hB : ex.contains t = B at *
          replace hst' := hide (hst'.out B rfl)
          clear hB
          cases B
          case true =>
            gi_wp2_with fail
            gi_roundg (gk - 1)
            case measure => omega
            case rel => exact ⟨i + 1, pre, by omega, by go_num, hb5'.out, r5, hown5, by omega, by omega, hide (by simpa using hst'.out)⟩
          case false =>
            gi_wp2_with (gi_at_builtin; refine Hid.out ?_)
            refine hide ?_
            refine app_in rfl (.tmp 35) (.tmp 37) 54 3 _ 1 8 rfl Tryz.underlying54 infoInt rfl (by decide) W.heap.size u7 pre.length (ints pre) rfl (hown5.alloc _) (by simp; omega) W5.heap.size [.int .i64 t] rfl rfl (fun j u hj => (RowAt.new W5 [.int .i64 t] 3).cell hj) (by simp [Value.oneCell']) (by omega) (by decide) ?_
            intro v' W6 hown6 hg6 hat6
            clear hat6
            have hb6 := hide (((hb5'.out.alloc (by omega) _).grown hg6 (by simp; omega) (fun k hk => by have := (hown5.lt k hk).1; omega)))
            have r6 : RowAt W6 w.heap.size E 79 := (hg6.block _ (by have := r5.lt; simp; omega) (fun e => by have := (hown5.lt _ e.symm).1; omega)).trans (r5.on ((Below.refl _ _).alloc (Nat.le_refl _) _))
            have hs6 := hg6.size
            gi_wp2_with fail
            gi_roundg (gk - 1)
            case measure => omega
            case rel => exact ⟨i + 1, pre ++ [t], by omega, by go_num, hb6.out, r6, by rw [ints_snoc, List.length_append]; exact hown6, by simp; omega, by simp at hs6; omega, hide (by simpa using hst'.out)⟩
end Go.Proofs.YthpndgcaoeokeaaGreatDoor
namespace Go.Proofs.YthpndgcaoeokeaaGreatDoor
open Go.RowKit

/-- a region with one yield: the operations ahead of it (they only grow the memory), it, and those behind it -/
structure YJ (s0 y n0 : Nat) (a0 : Act) (W : World) (N : Nat → Value → Prop) (T Fa : World → Prop) (Bz : Bool → Nat → Value → Prop) (L : Nat → Bool) (a : Act) (w : World) : Prop where
  size : a.tmps.size = a0.tmps.size
  defers : a.defers = a0.defers
  fixed : ∀ k : Nat, k < s0 ∨ s0 + n0 ≤ k → a.eval (.tmp k) = a0.eval (.tmp k)
  pre : L y = false → Below W.heap.size W w ∧ ∀ j, y < j → L j = false
  vals : ∀ j, j < y → L j = true → N j (a.eval (.tmp (s0 + j)))
  post : L y = true → (∀ j, j < y → L j = true) ∧ ∃ b : Bool, a.eval (.tmp (s0 + y)) = .bool b ∧ (b = true → T w) ∧ (b = false → Fa w) ∧ ∀ j, y < j → L j = true → Bz b j (a.eval (.tmp (s0 + j)))

section
variable {s0 y n0 : Nat} {a0 : Act} {W : World} {N : Nat → Value → Prop} {T Fa : World → Prop} {Bz : Bool → Nat → Value → Prop} {L : Nat → Bool} {a : Act} {w : World}
theorem YJ.start (h4 : Below W.heap.size W w) : YJ s0 y n0 a0 W N T Fa Bz (fun _ => false) a0 w :=
  ⟨rfl, rfl, fun _ _ => rfl, fun _ => ⟨h4, fun _ _ => rfl⟩, fun _ _ h => (by cases h), fun h => (by cases h)⟩
theorem YJ.below (h : YJ s0 y n0 a0 W N T Fa Bz L a w) {j : Nat} (hj : j < y) (hL : L j = false) : Below W.heap.size W w := by
  cases hy : L y
  · exact (h.pre hy).1
  · have := (h.post hy).1 j hj; rw [hL] at this; cases this
theorem YJ.stepPre (h : YJ s0 y n0 a0 W N T Fa Bz L a w) {j : Nat} (hj : j < y) (hL : L j = false) (hn : y < n0) (hsz : s0 + n0 ≤ a0.tmps.size) {v : Value} {w' : World} (hv : N j v) (hb : Below w.heap.size w w') {dst : Option Nat} (hd : dst = some (s0 + j)) :
    YJ s0 y n0 a0 W N T Fa Bz (fun k => decide (k = j) || L k) (a.put dst v) w' := by
  subst hd
  have hy : L y = false := by
    cases hy : L y
    · rfl
    · have := (h.post hy).1 j hj; rw [hL] at this; cases this
  have hs : s0 + j < a.tmps.size := by rw [h.size]; omega
  refine ⟨by rw [put_size]; exact h.size, by rw [put_defers]; exact h.defers, fun p hp => by rw [ev_ne (by omega)]; exact h.fixed p hp, fun _ => ⟨(h.pre hy).1.trans (hb.mono (h.pre hy).1.size), fun k hk => ?_⟩, fun k hk hl => ?_, fun hl => ?_⟩
  · simp only [Bool.or_eq_false_iff, decide_eq_false_iff_not]
    exact ⟨by omega, (h.pre hy).2 k hk⟩
  · by_cases hkj : k = j
    · subst hkj; rw [ev_same hs]; exact hv
    · rw [ev_ne (by omega)]
      exact h.vals k hk (by simpa [hkj] using hl)
  · have hne : ¬ y = j := by omega
    simp only [hne, decide_false, Bool.false_or] at hl
    rw [hy] at hl; cases hl
theorem YJ.stepY (h : YJ s0 y n0 a0 W N T Fa Bz L a w) (hall : ∀ j, j < y → L j = true) (hL : L y = false) (hn : y < n0) (hsz : s0 + n0 ≤ a0.tmps.size) {b : Bool} {w' : World} (hT : b = true → T w') (hF : b = false → Fa w') {dst : Option Nat} (hd : dst = some (s0 + y)) :
    YJ s0 y n0 a0 W N T Fa Bz (fun k => decide (k = y) || L k) (a.put dst (.bool b)) w' := by
  subst hd
  have hs : s0 + y < a.tmps.size := by rw [h.size]; omega
  refine ⟨by rw [put_size]; exact h.size, by rw [put_defers]; exact h.defers, fun p hp => by rw [ev_ne (by omega)]; exact h.fixed p hp, fun hl => by simp at hl, fun k hk hl => ?_, fun _ => ⟨fun k hk => by simp [hall k hk], b, ev_same hs, hT, hF, fun k hk hl => ?_⟩⟩
  · rw [ev_ne (by omega)]
    exact h.vals k hk (hall k hk)
  · have hne : ¬ k = y := by omega
    simp only [hne, decide_false, Bool.false_or] at hl
    rw [(h.pre hL).2 k hk] at hl; cases hl
theorem YJ.stepPost (h : YJ s0 y n0 a0 W N T Fa Bz L a w) {j : Nat} (hj : y < j) (hL : L j = false) (hLy : L y = true) (hn : j < n0) (hsz : s0 + n0 ≤ a0.tmps.size) {v : Value} (hv : ∀ b, a.eval (.tmp (s0 + y)) = .bool b → Bz b j v) {dst : Option Nat} (hd : dst = some (s0 + j)) :
    YJ s0 y n0 a0 W N T Fa Bz (fun k => decide (k = j) || L k) (a.put dst v) w := by
  subst hd
  have hs : s0 + j < a.tmps.size := by rw [h.size]; omega
  obtain ⟨p1, b, p2, p3, p4, p5⟩ := h.post hLy
  refine ⟨by rw [put_size]; exact h.size, by rw [put_defers]; exact h.defers, fun p hp => by rw [ev_ne (by omega)]; exact h.fixed p hp, fun hl => ?_, fun k hk hl => ?_, fun _ => ⟨fun k hk => by simp [p1 k hk], b, by rw [ev_ne (by omega)]; exact p2, p3, p4, fun k hk hl => ?_⟩⟩
  · simp [hLy] at hl
  · rw [ev_ne (by omega)]
    exact h.vals k hk (p1 k hk)
  · by_cases hkj : k = j
    · subst hkj; rw [ev_same hs]; exact hv b p2
    · rw [ev_ne (by omega)]
      exact p5 k hk (by simpa [hkj] using hl)
end

/-- the frame behind: what it was, but for the slots -/
theorem act_puts (s0 : Nat) : ∀ (m : Nat) (a a0 : Act), a.tmps.size = a0.tmps.size → a.defers = a0.defers → s0 + m ≤ a0.tmps.size → (∀ k : Nat, k < s0 ∨ s0 + m ≤ k → a.eval (.tmp k) = a0.eval (.tmp k)) →
    a = (List.range m).foldl (fun x j => x.put (some (s0 + j)) (a.eval (.tmp (s0 + j)))) a0 := by
  intro m a a0 hs hd hm hr
  have key : ∀ (m' : Nat), m' ≤ m → ((List.range m').foldl (fun x j => x.put (some (s0 + j)) (a.eval (.tmp (s0 + j)))) a0).tmps.size = a0.tmps.size ∧ ((List.range m').foldl (fun x j => x.put (some (s0 + j)) (a.eval (.tmp (s0 + j)))) a0).defers = a0.defers ∧
      ∀ k : Nat, ((List.range m').foldl (fun x j => x.put (some (s0 + j)) (a.eval (.tmp (s0 + j)))) a0).eval (.tmp k) = if s0 ≤ k ∧ k < s0 + m' then a.eval (.tmp k) else a0.eval (.tmp k) := by
    intro m'
    induction m' with
    | zero => intro _; exact ⟨rfl, rfl, fun k => by rw [if_neg (show ¬ (s0 ≤ k ∧ k < s0 + 0) by omega)]; rfl⟩
    | succ m' ih =>
      intro hm'
      obtain ⟨h1, h2, h3⟩ := ih (by omega)
      rw [List.range_succ, List.foldl_append]
      simp only [List.foldl_cons, List.foldl_nil]
      refine ⟨by rw [put_size]; exact h1, by rw [put_defers]; exact h2, fun k => ?_⟩
      by_cases hk : k = s0 + m'
      · subst hk
        rw [ev_same (by rw [h1]; omega), if_pos (show s0 ≤ s0 + m' ∧ s0 + m' < s0 + (m' + 1) by omega)]
      · rw [ev_ne hk, h3 k]
        by_cases hc : s0 ≤ k ∧ k < s0 + m'
        · rw [if_pos hc, if_pos (show s0 ≤ k ∧ k < s0 + (m' + 1) by omega)]
        · rw [if_neg hc, if_neg (show ¬ (s0 ≤ k ∧ k < s0 + (m' + 1)) by omega)]
  obtain ⟨h1, h2, h3⟩ := key m (Nat.le_refl _)
  have hev : ∀ k : Nat, a.eval (.tmp k) = ((List.range m).foldl (fun x j => x.put (some (s0 + j)) (a.eval (.tmp (s0 + j)))) a0).eval (.tmp k) := fun k => by
    rw [h3 k]
    by_cases hc : s0 ≤ k ∧ k < s0 + m
    · rw [if_pos hc]
    · rw [if_neg hc]; exact hr k (by omega)
  generalize (List.range m).foldl (fun x j => x.put (some (s0 + j)) (a.eval (.tmp (s0 + j)))) a0 = b at *
  obtain ⟨ta, da⟩ := a
  obtain ⟨tb, db⟩ := b
  simp only [] at hs hd h1 h2
  have e1 : ta = tb := by
    apply Array.ext
    · omega
    · intro i hi hi'
      have := hev i
      have e : ta.getD i undef = tb.getD i undef := this
      simpa [Array.getD, hi, hi'] using e
  rw [e1, hd, ← h2]
end Go.Proofs.YthpndgcaoeokeaaGreatDoor
