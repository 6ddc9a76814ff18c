/- An event's instances (the program's), as an iterator: the walk. Events: the document's rule and the program's, as functions on bytes, are one. A list in order, each once: what the document's list of times is, by its members alone. Sorted and each once: the program's list of times and the document's are one. The document's reading of an event and the program's are one. -/
import Derived.Test.YthpndgcaoeokeaaGreatDoorCm23
namespace Go.Proofs.YthpndgcaoeokeaaGreatDoor
open Go.RowKit Go.Sort
attribute [local go_sem] Oper.semAt_some
attribute [local go_sem] wide_fn wide_depth
attribute [local simp] wide_fn wide_depth

theorem slotsI (l be bf bt b4 : Nat) (W : World) (u : ByteArray) (st ln : Int) (hr : Bool) (r : RuleD) (m md wk pl : Value) (tx : ByteArray) (exv xtv : Value) (ex xt : List Int) (tr : Bool) (k : Int) (f to : Int) : Slots (fun i => 6 + i) (fixI l be bf bt b4) 25 9 (NI W u st ln hr r m md wk pl tx exv xtv ex xt tr k f to) :=
  ⟨fun i hi => by show 6 + i < 25; omega, fun i j hi hj h => by have h' : 6 + i = 6 + j := h; omega, fun p hp i hi => by
    simp only [fixI, List.mem_cons, List.not_mem_nil, or_false] at hp
    show p.1 ≠ 6 + i
    rcases hp with rfl | rfl | rfl | rfl | rfl <;> simp <;> omega, NI.grow⟩

set_option maxRecDepth 100000 in
set_option maxHeartbeats 8000000 in
theorem inst_it (u : ByteArray) (st ln : Int) (hr : Bool) (r : RuleD) (m md wk pl : Value) (tx : ByteArray) (exv xtv : Value) (ex xt : List Int) (tr : Bool) (k : Int) (f to : Int) (be bf bt : Nat) (w : World) (hl : EvLs w hr r m md wk pl exv xtv ex xt)
    (s0 : 0 ≤ st) (s1 : st ≤ 7258118400) (l0 : 0 ≤ ln) (l1 : ln ≤ 10000000) (f0 : -1000000000000 ≤ f) (f1 : f ≤ 7258118400) (t0 : 0 ≤ to) (t1 : to ≤ 7258118400) (hTb : ∀ t ∈ evT' hr r st f to ex xt, -100000000000 ≤ t ∧ t ≤ 100000000000)
    (q1 : RowAt w be (evL u st ln hr r m md wk pl tx exv xtv tr k) 79) (q2 : RowAt w bf [.int .i64 f] 3) (q3 : RowAt w bt [.int .i64 to] 3) :
    ItL Tryz.prog 157 #[.pointer (some ⟨be, 0, none⟩), .pointer (some ⟨bf, 0, none⟩), .pointer (some ⟨bt, 0, none⟩)] (spanL ln (evT' hr r st f to ex xt)) (fun k => k = be ∨ k = bf ∨ k = bt ∨ EBk m md wk pl exv xtv k) w := by
  intro l W O J Js Jp hsz hR hO h0J hY
  have hlW := hl.keep fun k hk => hR k (.inr (.inr (.inr hk)))
  replace q1 := q1.keep (hR be (.inl rfl))
  replace q2 := q2.keep (hR bf (.inr (.inl rfl)))
  replace q3 := q3.keep (hR bt (.inr (.inr (.inl rfl))))
  have nO1 : ¬ O be := fun h => hO be h (.inl rfl)
  have nOE : ∀ k, O k → ¬ EBk m md wk pl exv xtv k := fun k h h' => hO k h (.inr (.inr (.inr h')))
  have hlt1 := q1.lt
  have hRB : Hid (∀ wr, Below W.heap.size W wr → Calls Tryz.prog 159 #[.agg (evL u st ln hr r m md wk pl tx exv xtv tr k).toArray, .int .i64 f, .int .i64 to] wr (GivesIt (intL (rbL hr r st f to ex)) (EBk m md wk pl exv xtv) wr)) :=
    hide fun wr hb => ruleBegins_n u st ln hr r m md wk pl tx exv xtv ex xt tr k f to wr (hlW.on hb) s0 s1 f0 f1 t0 t1
  have hXB : Hid (∀ wr, Below W.heap.size W wr → Calls Tryz.prog 160 #[.agg (evL u st ln hr r m md wk pl tx exv xtv tr k).toArray, .int .i64 f, .int .i64 to] wr fun e w' => ∃ v, e = .returned v ∧ w'.ownsRow wr.heap.size 3 1 v (xbF st f to ex xt).length (ints (xbF st f to ex xt)) ∧ Below wr.heap.size wr w') :=
    hide fun wr hb => extraBegins_n u st ln hr r m md wk pl tx exv xtv ex xt tr k f to wr (hlW.on hb)
  have hEBlt : ∀ k, EBk m md wk pl exv xtv k → k < W.heap.size ∧ ¬ O k := fun k h => ⟨hlW.blk h, fun h' => nOE k h' h⟩
  clear hR hO hl hsz hlW nOE
  have hLb := hide (fun (i : Nat) (t : Int) (h : (evT' hr r st f to ex xt)[i]? = some t) => hY i _ (spanL_get h))
  clear hY
  rw [spanL_len]
  have egM : ∀ args w, (callFunc 214 args).run Tryz.prog w = .ok (.enter 214 args) w := enters_of Tryz.func214 (by kernel_rfl) rfl
  refine callsIn_of_wpF Tryz.func157 rfl ?_
  simp only [Tryz.ntmps157, List.size_toArray, List.length_cons, List.length_nil, Nat.reduceAdd, Nat.reduceSub, Array.replicate_succ, Array.replicate_zero, List.push_toArray, List.append_toArray, List.nil_append, List.cons_append]
  refine wpF_seq fun K hK => wpF_of ?_
  gi_wp2_with fail
  have r4 : RowAt (W.alloc (.cells #[.func (.yield l) #[] #[]] 194)) W.heap.size [.func (.yield l) #[] #[]] 194 := RowAt.new W [.func (.yield l) #[] #[]] 194
  have hbw : Below W.heap.size W (W.alloc (.cells #[.func (.yield l) #[] #[]] 194)) := (Below.refl _ _).alloc (Nat.le_refl _) _
  have hs1 : W.heap.size < (W.alloc (.cells #[.func (.yield l) #[] #[]] 194)).heap.size := by simp
  generalize W.alloc (.cells #[.func (.yield l) #[] #[]] 194) = W2 at *
  refine wpF_seq fun K1 hK1 => wpF_of (wpIn_wide.2 ?_)
  have S := slotsI l be bf bt W.heap.size W2 u st ln hr r m md wk pl tx exv xtv ex xt tr k f to
  have p1 := hide fun w' (h : Below W2.heap.size W2 w') => evLd_run ((q1.on hbw).on h)
  have p2 := hide fun w' (h : Below W2.heap.size W2 w') => intLd_run (((q2.on hbw).on h).cell (k := 0) rfl)
  have p3 := hide fun w' (h : Below W2.heap.size W2 w') => intLd_run (((q3.on hbw).on h).cell (k := 0) rfl)
  refine wp_region_plain (GV (fun i => 6 + i) (NI W2 u st ln hr r m md wk pl tx exv xtv ex xt tr k f to)) (JV 25 (fixI l be bf bt W.heap.size) W2) (by kernel_rfl) (by kernel_rfl) (by kernel_rfl) ?rops ?rdone ⟨rfl, rfl, fun p hp => by
    simp only [fixI, List.mem_cons, List.not_mem_nil, or_false] at hp
    rcases hp with rfl | rfl | rfl | rfl | rfl <;> rfl, (Below.refl _ _).drew⟩
  case rops =>
    intro i o ho a w' hI hG
    have hi : i < 9 := (Array.getElem?_eq_some_iff.1 ho).1
    have t1' : a.eval (.tmp 1) = .pointer (some ⟨be, 0, none⟩) := hI.fixed (1, _) (by simp [fixI])
    have t2' : a.eval (.tmp 2) = .pointer (some ⟨bf, 0, none⟩) := hI.fixed (2, _) (by simp [fixI])
    have t3' : a.eval (.tmp 3) = .pointer (some ⟨bt, 0, none⟩) := hI.fixed (3, _) (by simp [fixI])
    have hbx := hbw.trans (hI.below.mono hbw.size)
    have hor : i = 0 ∨ i = 1 ∨ i = 2 ∨ i = 3 ∨ i = 4 ∨ i = 5 ∨ i = 6 ∨ i = 7 ∨ i = 8 := by omega
    rcases hor with rfl | rfl | rfl | rfl | rfl | rfl | rfl | rfl | rfl <;> obtain rfl := Option.some.inj ho
    · exact op_value (ld_run rfl t1' (p1.out _ hI.below)) (stepV S rfl (by decide) hI (Below.refl _ _) rfl)
    · exact op_value (ld_run rfl t2' (p2.out _ hI.below)) (stepV S rfl (by decide) hI (Below.refl _ _) rfl)
    · exact op_value (ld_run rfl t3' (p3.out _ hI.below)) (stepV S rfl (by decide) hI (Below.refl _ _) rfl)
    · have e1 : a.eval (.tmp 6) = .agg (evL u st ln hr r m md wk pl tx exv xtv tr k).toArray := hG ⟨0, .data⟩ (by simp) rfl
      have e2 : a.eval (.tmp 7) = .int .i64 f := hG ⟨1, .data⟩ (by simp) rfl
      have e3 : a.eval (.tmp 8) = .int .i64 to := hG ⟨2, .data⟩ (by simp) rfl
      refine op_call (f := 159) (args := #[a.eval (.tmp 6), a.eval (.tmp 7), a.eval (.tmp 8)]) (by kernel_rfl) (by rw [e1, e2, e3]; exact hRB.out w' hbx) ?_ (by rintro c w'' ⟨_, _, _, e, _⟩; cases e) (by rintro w'' ⟨_, _, _, e, _⟩; cases e)
      rintro v w'' ⟨g, lb, R, e, h2, h3, h4, h5⟩
      cases e
      exact stepV S rfl (by decide) hI h5 ⟨g, lb, R, rfl, h2, fun k hk => ⟨(h3 k hk).1, (h3 k hk).2.imp id fun h => Nat.le_trans hI.below.size h⟩, h4⟩
    · exact op_value (ld_run rfl t1' (p1.out _ hI.below)) (stepV S rfl (by decide) hI (Below.refl _ _) rfl)
    · exact op_value (ld_run rfl t2' (p2.out _ hI.below)) (stepV S rfl (by decide) hI (Below.refl _ _) rfl)
    · exact op_value (ld_run rfl t3' (p3.out _ hI.below)) (stepV S rfl (by decide) hI (Below.refl _ _) rfl)
    · have e1 : a.eval (.tmp 10) = .agg (evL u st ln hr r m md wk pl tx exv xtv tr k).toArray := hG ⟨4, .data⟩ (by simp) rfl
      have e2 : a.eval (.tmp 11) = .int .i64 f := hG ⟨5, .data⟩ (by simp) rfl
      have e3 : a.eval (.tmp 12) = .int .i64 to := hG ⟨6, .data⟩ (by simp) rfl
      refine op_call (f := 160) (args := #[a.eval (.tmp 10), a.eval (.tmp 11), a.eval (.tmp 12)]) (by kernel_rfl) (by rw [e1, e2, e3]; exact hXB.out w' hbx) ?_ (by rintro c w'' ⟨_, e, _⟩; cases e) (by rintro w'' ⟨_, e, _⟩; cases e)
      rintro v w'' ⟨v', e, h2, h3⟩
      cases e
      exact stepV S rfl (by decide) hI h3 (own_low h2 hI.below.size)
    · obtain ⟨g, lb, R, e1, hit, hR, eg⟩ : ∃ g lb R, a.eval (.tmp 9) = .func (.func g) #[] lb ∧ ItL Tryz.prog g lb (intL (rbL hr r st f to ex)) R w' ∧ (∀ k, R k → k < w'.heap.size ∧ (EBk m md wk pl exv xtv k ∨ W2.heap.size ≤ k)) ∧ (∀ args w, (callFunc g args).run Tryz.prog w = .ok (.enter g args) w) := hG ⟨3, .data⟩ (by simp) rfl
      have e2 : w'.ownsRow W2.heap.size 3 1 (a.eval (.tmp 13)) (xbF st f to ex xt).length (ints (xbF st f to ex xt)) := hG ⟨7, .data⟩ (by simp) rfl
      obtain ⟨av, cv, e3⟩ := own_sl e2
      refine op_call (f := 158) (args := #[a.eval (.tmp 9), a.eval (.tmp 13)]) (by kernel_rfl) (by rw [e1, e3]; exact merged_n g lb av _ cv w') ?_ (by rintro c w'' ⟨e, _⟩; cases e) (by rintro w'' ⟨e, _⟩; cases e)
      rintro v w'' ⟨e, rfl⟩
      cases e
      have x0 := row_fst w' [.func (.func g) #[] lb] 196 (.cells #[.slice av (xbF st f to ex xt).length cv] 54)
      have x1 := row_snd w' [.slice av (xbF st f to ex xt).length cv] 54 (.cells #[.func (.func g) #[] lb] 196)
      have xb := bl_two w' (.cells #[.func (.func g) #[] lb] 196) (.cells #[.slice av (xbF st f to ex xt).length cv] 54)
      rw [e3] at e2
      have hls := LS.of_own (own_keep e2 (w' := (w'.alloc (.cells #[.func (.func g) #[] lb] 196)).alloc (.cells #[.slice av (xbF st f to ex xt).length cv] 54)) fun g hg => xb.block g (World.ownsRow.lt e2 g hg).2)
      have hsz2 : ((w'.alloc (.cells #[.func (.func g) #[] lb] 196)).alloc (.cells #[.slice av (xbF st f to ex xt).length cv] 54)).heap.size = w'.heap.size + 2 := by simp
      have hmi := merged_it (rbL hr r st f to ex) (xbF st f to ex xt) g lb R (w'.heap.size + 1) w'.heap.size _ _ (hit.later (fun k hk => (hR k hk).1) xb) eg (fun k hk => Nat.lt_of_lt_of_le (hR k hk).1 xb.size) x1 x0 hls (fun k hk => by have := (World.ownsRow.lt e2 k hk).2; omega)
      have hsI := hI.below.size
      refine stepV S rfl (by decide) hI xb ⟨_, _, _, rfl, hmi, fun k hk => ?_, egM⟩
      rcases hk with rfl | rfl | h | h
      · exact ⟨by omega, .inr (by omega)⟩
      · exact ⟨by omega, .inr (by omega)⟩
      · exact ⟨by have := (hR k h).1; omega, (hR k h).2⟩
      · have := World.ownsRow.lt e2 k h
        exact ⟨by omega, .inr this.1⟩
  case rdone =>
    intro a w3 hI hG
    obtain ⟨g, lb, R, e14, hit, hRR, eg⟩ : ∃ g lb R, a.eval (.tmp 14) = .func (.func g) #[] lb ∧ ItL Tryz.prog g lb (intL (evT' hr r st f to ex xt)) R w3 ∧ (∀ k, R k → k < w3.heap.size ∧ (EBk m md wk pl exv xtv k ∨ W2.heap.size ≤ k)) ∧ (∀ args w, (callFunc g args).run Tryz.prog w = .ok (.enter g args) w) := hG 8 (by decide)
    have t0' : a.eval (.tmp 0) = .func (.yield l) #[] #[] := hI.fixed (0, _) (by simp [fixI])
    have t1' : a.eval (.tmp 1) = .pointer (some ⟨be, 0, none⟩) := hI.fixed (1, _) (by simp [fixI])
    have t4' : a.eval (.tmp 4) = .pointer (some ⟨W.heap.size, 0, none⟩) := hI.fixed (4, _) (by simp [fixI])
    have hb3 := hI.below
    have hsz3 := hI.size
    have hdf := hI.defers
    clear hI hG S p1 p2 p3 hRB hXB egM
    refine hK1 a w3 ?_
    clear hK1
    obtain ⟨fr, rfl, hf⟩ := act_lit25 a hsz3 hdf
    have g0 := (hf 0).symm.trans t0'
    have g1 := (hf 1).symm.trans t1'
    have g4 := (hf 4).symm.trans t4'
    have g14 := (hf 14).symm.trans e14
    rw [g0, g1, g4, g14]
    clear hf hsz3 hdf t0' t1' t4' e14 g0 g1 g4 g14
    generalize evT' hr r st f to ex xt = XS at *
    replace r4 := r4.on hb3
    replace hbw := hbw.trans (hb3.mono hbw.size)
    have hs3 := hb3.size
    refine wpF_block ?_
    refine range_go (gf := g) (lb := lb) Tryz.func157 ?g eg hit (Nat.le_refl _) (fun _ _ => rfl) (fun k hk => (hRR k hk).1)
      O (fun k hk hk' => by
        rcases (hRR k hk').2 with h | h
        · exact (hEBlt k h).2 hk
        · have := h0J.1 k hk; omega) (DK O W J fun q i => q = i) (DyS O W (J XS.length) Js) (fun c => DX O W (Jp c)) ?ps ?start ?round ?done ?stop ?pan
    case g => rfl
    case ps => intro x hx; obtain ⟨d, _, rfl⟩ := List.mem_map.1 hx; rfl
    case start => exact DK.onD (fun k hk => by have := h0J.1 k hk; omega) ⟨0, O, ⟨fun k hk => hk, fun k hk => .inl hk, fun k hk => hk, h0J.below hbw⟩, rfl⟩
    case stop =>
      rintro c W4 ⟨hx, D, hd1, _, hon⟩ hs hdef
      have hx' : Exc O W (W4.putObj w3.heap.size (.deferred none)) := ((Exc.of_below hbw).trans1 hx).put (.inr (by omega)) _
      have hnd : ¬ D w3.heap.size := fun h => (hd1 _ h).elim (fun h => by have := h0J.1 _ h; omega) (by omega)
      obtain ⟨rfl, h⟩ := hon.out
      have hfin := hide (show PostL O W.heap.size (J XS.length) W (W4.putObj w3.heap.size (.deferred none)) ∨ PostL O W.heap.size Js W (W4.putObj w3.heap.size (.deferred none)) from by
        rcases h with ⟨D0, h⟩ | ⟨D0, h⟩
        · exact .inl ((h.put hnd _).fin hx')
        · exact .inr ((h.put hnd _).fin hx'))
      clear h hon hd1
      gi_wp2_with fail
      refine ⟨by simp, .inl ⟨_, _, rfl, run_takeDeferred hdef, ?_⟩⟩
      exact ⟨_, results_none rfl _ _ _, .inl ⟨⟨_, rfl⟩, hfin.out⟩⟩
    case pan =>
      rintro c W4 ⟨hx, D, hd1, _, hon⟩ hs hdef
      have hx' : Exc O W (W4.putObj w3.heap.size (.deferred none)) := ((Exc.of_below hbw).trans1 hx).put (.inr (by omega)) _
      have hnd : ¬ D w3.heap.size := fun h => (hd1 _ h).elim (fun h => by have := h0J.1 _ h; omega) (by omega)
      obtain ⟨D0, h⟩ := hon.out
      refine ⟨by simp, .inl ⟨_, _, rfl, run_takeDeferred hdef, ?_⟩⟩
      exact .inr ⟨c, rfl, (h.put hnd _).fin hx'⟩
    case done =>
      rw [intL_len]
      rintro W4 ⟨hx, D, hd1, _, hon⟩ hs hdef
      have hx' : Exc O W (W4.putObj w3.heap.size (.deferred none)) := ((Exc.of_below hbw).trans1 hx).put (.inr (by omega)) _
      have hnd : ¬ D w3.heap.size := fun h => (hd1 _ h).elim (fun h => by have := h0J.1 _ h; omega) (by omega)
      obtain ⟨q, D0, inn, hq⟩ := hon.out
      refine ⟨by simp, .inl ⟨_, _, rfl, run_takeDeferred hdef, ?_⟩⟩
      exact ⟨_, results_none rfl _ _ _, .inl ⟨⟨_, rfl⟩, .inl (by rw [← hq]; exact (inn.put hnd _).fin hx')⟩⟩
    case round =>
      intro l1' i x hx W4 D hxc hs hOD hon K hK
      obtain ⟨t, hd⟩ : ∃ t, XS[i]? = some t := ⟨_, List.getElem?_eq_getElem (by have := (List.getElem?_eq_some_iff.1 hx).1; rwa [intL_len] at this)⟩
      rw [intL_get hd] at hx
      cases hx
      have htb := hTb t (List.mem_of_getElem? hd)
      gi_wp2_with fail
      refine hK _ _ D (Below.refl _ _) (fun k hk => .inl hk) (fun k hk => hk) (fun k hk => hon.1 k hk) ?_
      intro l' W5 hk2 hx2 hs5
      have hon2 := hon.on (W' := W5) hk2
      have hxW : Exc O W W5 := (Exc.of_below hbw).trans1 hx2
      have y1 := (q1.exc hxW nO1).cell (k := 2) rfl
      have y4 := (r4.exc hx2 (fun h => by have := h0J.1 _ h; omega)).cell (k := 0) rfl
      have hD1 : ∀ k, D k → k < W5.heap.size := hon2.1
      have hW5 : W.heap.size ≤ W5.heap.size := by omega
      clear hK hk2 hit hon hRR hTb
      obtain ⟨q, D0, inn, rfl⟩ := hon2.out
      clear hon2
      obtain ⟨f1', t1', a1', b1', hy1, hR1⟩ := hLb.out q t hd W5 D0 hxW inn.dO inn.Od inn.on
      clear hd
      gi_wp2_with fail
      refine (RoundIn.inRound l' hR1).mono ?_
      clear hy1 hR1 y1 y4
      rintro e WX (⟨rfl, hp⟩ | ⟨rfl, hp⟩ | ⟨ch, rfl, hp⟩)
      case inl =>
        obtain ⟨D0X, innX, d0x, hxx⟩ := inn.post hW5 hp
        have excX : Exc D W5 WX := hxx.mono (fun k hk => .inl (inn.sub k hk))
        clear hp
        gi_wp2_with fail
        exact ⟨excX, fun k => D k ∨ D0X k, fun k hk => hk.elim .inl fun h => (d0x k h).elim (fun h => .inl (inn.sub k h)) .inr, fun _ hk => .inl hk, DK.onD (fun k hk => hk.elim (fun h => Nat.lt_of_lt_of_le (hD1 k h) excX.size) (fun h => innX.on.1 k h)) ⟨q + 1, D0X, innX, rfl⟩⟩
      case inr.inl =>
        obtain ⟨D0X, innX, d0x, hxx⟩ := inn.post hW5 hp
        have excX : Exc D W5 WX := hxx.mono (fun k hk => .inl (inn.sub k hk))
        clear hp
        gi_wp2_with fail
        exact ⟨excX, fun k => D k ∨ D0X k, fun k hk => hk.elim .inl fun h => (d0x k h).elim (fun h => .inl (inn.sub k h)) .inr, fun _ hk => .inl hk, DyS.onY (DX.onD (fun k hk => hk.elim (fun h => Nat.lt_of_lt_of_le (hD1 k h) excX.size) (fun h => innX.on.1 k h)) ⟨D0X, innX⟩)⟩
      case inr.inr =>
        obtain ⟨D0X, innX, d0x, hxx⟩ := inn.post hW5 hp
        have excX : Exc D W5 WX := hxx.mono (fun k hk => .inl (inn.sub k hk))
        clear hp
        gi_wp2_with fail
        exact ⟨rfl, excX, fun k => D k ∨ D0X k, fun k hk => hk.elim .inl fun h => (d0x k h).elim (fun h => .inl (inn.sub k h)) .inr, fun _ hk => .inl hk, DX.onD (fun k hk => hk.elim (fun h => Nat.lt_of_lt_of_le (hD1 k h) excX.size) (fun h => innX.on.1 k h)) ⟨D0X, innX⟩⟩

set_option maxRecDepth 100000 in
set_option maxHeartbeats 4000000 in
theorem evInstances_n (u : ByteArray) (st ln : Int) (hr : Bool) (r : RuleD) (m md wk pl : Value) (tx : ByteArray) (exv xtv : Value) (ex xt : List Int) (tr : Bool) (k : Int) (f to : Int) (w : World) (hl : EvLs w hr r m md wk pl exv xtv ex xt)
    (s0 : 0 ≤ st) (s1 : st ≤ 7258118400) (l0 : 0 ≤ ln) (l1 : ln ≤ 10000000) (f0 : -1000000000000 ≤ f) (f1 : f ≤ 7258118400) (t0 : 0 ≤ to) (t1 : to ≤ 7258118400) (hTb : ∀ t ∈ evT' hr r st f to ex xt, -100000000000 ≤ t ∧ t ≤ 100000000000) :
    Calls Tryz.prog 90 #[.agg (evL u st ln hr r m md wk pl tx exv xtv tr k).toArray, .int .i64 f, .int .i64 to] w (GivesIt (spanL ln (evT' hr r st f to ex xt)) (EBk m md wk pl exv xtv) w) := by
  have eg1 : ∀ args w, (callFunc 157 args).run Tryz.prog w = .ok (.enter 157 args) w := enters_of Tryz.func157 (by kernel_rfl) rfl
  replace eg1 := hide eg1
  have q0 := row3_0 w (evL u st ln hr r m md wk pl tx exv xtv tr k) 79 (.cells #[.int .i64 f] 3) (.cells #[.int .i64 to] 3)
  have q1 := row3_1 w (.cells (evL u st ln hr r m md wk pl tx exv xtv tr k).toArray 79) [.int .i64 f] 3 (.cells #[.int .i64 to] 3)
  have q2 := row3_2 w (.cells (evL u st ln hr r m md wk pl tx exv xtv tr k).toArray 79) (.cells #[.int .i64 f] 3) [.int .i64 to] 3
  have hbw := bl_three w (.cells (evL u st ln hr r m md wk pl tx exv xtv tr k).toArray 79) (.cells #[.int .i64 f] 3) (.cells #[.int .i64 to] 3)
  have hit := hide (inst_it u st ln hr r m md wk pl tx exv xtv ex xt tr k f to w.heap.size (w.heap.size + 1) (w.heap.size + 1 + 1) _ (hl.on hbw) s0 s1 l0 l1 f0 f1 t0 t1 hTb q0 q1 q2)
  have hblk := hide (fun k (h : EBk m md wk pl exv xtv k) => hl.blk h)
  clear hl q0 q1 q2 hTb
  generalize evL u st ln hr r m md wk pl tx exv xtv tr k = E at *
  go_enter Tryz.func90, Tryz.ntmps90
  go_wp2_with fail
  go_ret
  refine ⟨_, _, _, rfl, hit.out, fun k hk => ?_, eg1.out, hbw⟩
  rcases hk with rfl | rfl | rfl | h
  · exact ⟨by simp; omega, .inr (Nat.le_refl _)⟩
  · exact ⟨by simp, .inr (by omega)⟩
  · exact ⟨by simp, .inr (by omega)⟩
  · exact ⟨by have := hblk.out k h; simp; omega, .inl h⟩
end Go.Proofs.YthpndgcaoeokeaaGreatDoor
namespace Go.Proofs.YthpndgcaoeokeaaGreatDoor

theorem ba_list (l : ByteArray) : ba l.data.toList = l := by unfold ba; simp
theorem list_ba (l : List UInt8) : (ba l).data.toList = l := rfl
theorem split_spl (v : List UInt8) : (splitF (ba v) 44).map (·.data.toList) = spl 44 v := splitF_spl (ba v) 44
theorem pieces_spl (s : List UInt8) : piecesL 59 s = spl 59 s := splitF_spl (ba s) 59

theorem numB_head {l : List UInt8} (h : numB l = true) : ¬ l.head? = some 45 := fun e => by
  cases l with
  | nil => cases e
  | cons a r =>
    simp only [List.head?_cons, Option.some.injEq] at e
    have := numB_dig h a (by simp)
    rw [e] at this
    exact absurd this (by decide)
theorem sgn_yes {v : List UInt8} {m : Int} (h : wiB v 1 m = true) : sgn v m = numN v ∧ 0 < sgn v m := by
  have h2 := h
  unfold wiB at h2
  simp only [Bool.and_eq_true, decide_eq_true_eq] at h2
  have e : sgn v m = numN v := by
    unfold sgn
    rw [if_neg (numB_head h2.1.1), within_wiB, if_pos h]
  rw [e]
  exact ⟨rfl, by omega⟩
theorem sgn_no {v : List UInt8} {m : Int} (h : wiB v 1 m = false) : sgn v m ≤ 0 := by
  unfold sgn
  split
  · split
    · rename_i h2
      unfold within at h2
      simp only [Bool.and_eq_true, decide_eq_true_eq] at h2
      omega
    · omega
  · rw [within_wiB, h]
    simp
theorem wiF_sgn (v : List UInt8) (m : Int) : wiF 1 m v = if 0 < sgn v m then some (sgn v m) else none := by
  unfold wiF
  cases h : wiB v 1 m
  · rw [if_neg (by simp), if_neg (by have := sgn_no h; omega)]
  · have := sgn_yes h
    rw [if_pos rfl, if_pos this.2, this.1]

theorem lst_rds (most : Int) (signs : Bool) : ∀ (P : List ByteArray) (acc : List Int), lst most signs P acc = (rds (fun l => lst1 most signs (ba l)) (P.map (·.data.toList))).map (acc ++ ·)
  | [], acc => by simp [lst, rds]
  | l :: r, acc => by
    simp only [lst, List.map_cons, rds, ba_list]
    cases h : lst1 most signs l with
    | none => rfl
    | some z =>
      simp only []
      rw [lst_rds most signs r (acc ++ [z])]
      cases rds (fun l => lst1 most signs (ba l)) (r.map (·.data.toList)) <;> simp
theorem listF_lsF (v : List UInt8) (most : Int) (signs : Bool) : listF (ba v) most signs = lsF (fun l => lst1 most signs (ba l)) (some v) := by
  have e := split_spl v
  have hl : (splitF (ba v) 44).length = (spl 44 v).length := by rw [← e, List.length_map]
  unfold listF lsF
  simp only []
  rw [hl, lst_rds, e]
  split
  · cases rds (fun l => lst1 most signs (ba l)) (spl 44 v) <;> simp
  · rfl
theorem lst1_wi (m : Int) : (fun l => lst1 m false (ba l)) = wiF 1 m := by
  funext l
  rw [wiF_sgn]
  unfold lst1
  rw [list_ba]
  by_cases h : 0 < sgn l m
  · rw [if_neg (by omega), if_neg (by omega), if_pos h]
  · rw [if_neg h]
    by_cases h0 : sgn l m = 0
    · rw [if_pos h0]
    · rw [if_neg h0, if_pos ⟨by omega, rfl⟩]
theorem lst1_sg (m : Int) : (fun l => lst1 m true (ba l)) = sgF m := by
  funext l
  unfold lst1 sgF
  rw [list_ba]
  by_cases h0 : sgn l m = 0
  · rw [if_pos h0, if_pos h0]
  · rw [if_neg h0, if_neg h0, if_neg (by simp)]

theorem idx_len2 {v : List UInt8} (h : v.length ≠ 2) : idx wdays v = none := by
  refine idx_none fun j hj e => h ?_
  rw [← e]
  have : j = 0 ∨ j = 1 ∨ j = 2 ∨ j = 3 ∨ j = 4 ∨ j = 5 ∨ j = 6 := by have : wdays.length = 7 := rfl; omega
  rcases this with rfl | rfl | rfl | rfl | rfl | rfl | rfl <;> rfl
theorem wdI_some {v : List UInt8} {k : Nat} (h : idx wdays v = some k) : wdI v = k := by unfold wdI; rw [h]
theorem wdI_none {v : List UInt8} (h : idx wdays v = none) : wdI v = -1 := by unfold wdI; rw [h]
theorem day1_wk (l : List UInt8) : day1 (ba l) = (wkF l).map fun q => (q.2, q.1) := by
  have hs : (ba l).size = l.length := by unfold ba; simp [ByteArray.size]
  unfold day1 wkF
  rw [hs]
  by_cases h2 : l.length < 2
  · rw [if_pos h2, show l.length - 2 = 0 from by omega, List.drop_zero, idx_len2 (by omega)]
    rfl
  · have c1 : cut (ba l) (l.length - 2) 2 = l.drop (l.length - 2) := by
      unfold cut
      rw [list_ba]
      exact List.take_of_length_le (by rw [List.length_drop]; omega)
    have c2 : cut (ba l) 0 (l.length - 2) = l.take (l.length - 2) := by
      unfold cut
      rw [list_ba, List.drop_zero]
    rw [if_neg h2, c1, c2]
    cases hi : idx wdays (l.drop (l.length - 2)) with
    | none => rw [wdI_none hi, if_pos (by omega)]; rfl
    | some k =>
      rw [wdI_some hi, if_neg (by omega)]
      simp only []
      by_cases e2 : l.length = 2
      · rw [if_pos e2, if_pos (by omega)]; rfl
      · rw [if_neg e2, if_neg (show ¬ l.length ≤ 2 by omega)]
        split <;> rfl
theorem dys_rds : ∀ (P : List ByteArray) (acc : List Int × List Int), dys P acc = (rds wkF (P.map (·.data.toList))).map fun zs => (acc.1 ++ zs.map (·.2), acc.2 ++ zs.map (·.1))
  | [], acc => by simp [dys, rds]
  | l :: r, acc => by
    have e := day1_wk l.data.toList
    rw [ba_list] at e
    simp only [dys, List.map_cons, rds, e]
    cases h : wkF l.data.toList with
    | none => rfl
    | some z =>
      simp only [Option.map_some]
      rw [dys_rds r]
      cases rds wkF (r.map (·.data.toList)) <;> simp
theorem daysF_lsF (v : List UInt8) : daysF (ba v) = (lsF wkF (some v)).map fun zs => (zs.map (·.2), zs.map (·.1)) := by
  have e := split_spl v
  have hl : (splitF (ba v) 44).length = (spl 44 v).length := by rw [← e, List.length_map]
  unfold daysF lsF
  simp only []
  rw [hl, dys_rds, e]
  split
  · cases rds wkF (spl 44 v) <;> simp
  · rfl

theorem freqF_frq (v : List UInt8) : freqF (some v) = if 0 < frq v then some (frq v - 1) else none := by
  unfold freqF
  rw [Option.getD_some]
  by_cases h1 : v = [68, 65, 73, 76, 89]
  · subst h1; decide
  by_cases h2 : v = [87, 69, 69, 75, 76, 89]
  · subst h2; decide
  by_cases h3 : v = [77, 79, 78, 84, 72, 76, 89]
  · subst h3; decide
  by_cases h4 : v = [89, 69, 65, 82, 76, 89]
  · subst h4; decide
  have e : idx freqNames v = none := idx_none fun j hj e => by
    have : j = 0 ∨ j = 1 ∨ j = 2 ∨ j = 3 := by have : freqNames.length = 4 := rfl; omega
    rcases this with rfl | rfl | rfl | rfl
    · exact h1 e.symm
    · exact h2 e.symm
    · exact h3 e.symm
    · exact h4 e.symm
  rw [e]
  unfold frq wrd
  rw [if_neg h4, if_neg h1, if_neg h2, if_neg h3]
  rfl
theorem freqF_none : freqF none = none := by decide
theorem dayF_wd (v : List UInt8) : dayF v = if 0 ≤ wdI v then some (wdI v) else none := by
  unfold dayF
  cases h : idx wdays v with
  | none => rw [wdI_none h]; rfl
  | some k => rw [wdI_some h, if_pos (by omega)]; rfl

/-- each part's value, where it is as it must be -/
theorem eachOk_iff (F : Nat → Option (List UInt8)) : eachOk F = true ↔ ∀ k, k < 9 → ∀ v, F k = some v → partOk k v = true := by
  unfold eachOk
  rw [List.all_eq_true]
  constructor
  · intro h k hk v hv
    have := h k (List.mem_range.2 hk)
    rw [hv] at this
    exact this
  · intro h k hk
    cases hv : F k with
    | none => rfl
    | some v => exact h k (List.mem_range.1 hk) v hv
theorem isSome_of {α : Type} {o : Option α} (h : o.isSome = true) : ∃ z, o = some z := Option.isSome_iff_exists.1 h
theorem parts_iff (F : Nat → Option (List UInt8)) : (∃ r, Parts F r) ↔ has F 0 = true ∧ eachOk F = true := by
  rw [eachOk_iff]
  constructor
  · rintro ⟨r, h⟩
    refine ⟨?_, fun k hk v hv => ?_⟩
    · unfold has
      cases h0 : F 0 with
      | none => have := h.fq; rw [h0, freqF_none] at this; cases this
      | some v => rfl
    · have : k = 0 ∨ k = 1 ∨ k = 2 ∨ k = 3 ∨ k = 4 ∨ k = 5 ∨ k = 6 ∨ k = 7 ∨ k = 8 := by omega
      rcases this with rfl | rfl | rfl | rfl | rfl | rfl | rfl | rfl | rfl <;> unfold partOk <;> simp only []
      · have := h.fq
        rw [hv, freqF_frq] at this
        split at this
        · simpa using ‹_›
        · cases this
      · have := h.iv
        rw [hv, Option.getD_some, wiF_sgn] at this
        split at this
        · simpa using ‹_›
        · cases this
      · have := h.ct
        rw [hv] at this
        unfold cntF at this
        simp only [] at this
        rw [wiF_sgn] at this
        split at this
        · simpa using ‹_›
        · cases this
      · have := h.un
        rw [hv] at this
        unfold untF at this
        simp only [] at this
        split at this
        · rename_i ht
          exact ht
        · cases this
      · rw [listF_lsF, lst1_wi, ← hv, h.ms]; rfl
      · rw [listF_lsF, lst1_sg, ← hv, h.mds]; rfl
      · rw [daysF_lsF, ← hv, h.wks]; rfl
      · rw [listF_lsF, lst1_sg, ← hv, h.pls]; rfl
      · have := h.ws
        rw [hv, Option.getD_some, dayF_wd] at this
        split at this
        · simpa using ‹_›
        · cases this
  · rintro ⟨h0, h⟩
    obtain ⟨v0, hv0⟩ := isSome_of h0
    have p0 := h 0 (by decide) v0 hv0
    have q1 : ∃ z, wiF 1 100 ((F 1).getD [49]) = some z := by
      cases hv : F 1 with
      | none => exact ⟨1, by rw [Option.getD_none]; decide⟩
      | some v =>
        have p := h 1 (by decide) v hv
        unfold partOk at p
        simp only [decide_eq_true_eq] at p
        exact ⟨_, by rw [Option.getD_some, wiF_sgn, if_pos p]⟩
    have q2 : ∃ z, cntF (F 2) = some z := by
      cases hv : F 2 with
      | none => exact ⟨0, rfl⟩
      | some v =>
        have p := h 2 (by decide) v hv
        unfold partOk at p
        simp only [decide_eq_true_eq] at p
        exact ⟨_, by unfold cntF; simp only []; rw [wiF_sgn, if_pos p]⟩
    have q3 : ∃ z, untF (F 3) = some z := by
      cases hv : F 3 with
      | none => exact ⟨9223372036854775807, rfl⟩
      | some v =>
        have p : timeB (ofL v) = true := h 3 (by decide) v hv
        exact ⟨_, by unfold untF; simp only []; rw [if_pos p]⟩
    have q4 : ∃ z, lsF (wiF 1 12) (F 4) = some z := by
      cases hv : F 4 with
      | none => exact ⟨[], rfl⟩
      | some v =>
        have p : (listF (ba v) 12 false).isSome = true := h 4 (by decide) v hv
        rw [listF_lsF, lst1_wi] at p
        exact isSome_of p
    have q5 : ∃ z, lsF (sgF 31) (F 5) = some z := by
      cases hv : F 5 with
      | none => exact ⟨[], rfl⟩
      | some v =>
        have p : (listF (ba v) 31 true).isSome = true := h 5 (by decide) v hv
        rw [listF_lsF, lst1_sg] at p
        exact isSome_of p
    have q6 : ∃ z, lsF wkF (F 6) = some z := by
      cases hv : F 6 with
      | none => exact ⟨[], rfl⟩
      | some v =>
        have p : (daysF (ba v)).isSome = true := h 6 (by decide) v hv
        rw [daysF_lsF, Option.isSome_map] at p
        exact isSome_of p
    have q7 : ∃ z, lsF (sgF 366) (F 7) = some z := by
      cases hv : F 7 with
      | none => exact ⟨[], rfl⟩
      | some v =>
        have p : (listF (ba v) 366 true).isSome = true := h 7 (by decide) v hv
        rw [listF_lsF, lst1_sg] at p
        exact isSome_of p
    have q8 : ∃ z, dayF ((F 8).getD [77, 79]) = some z := by
      cases hv : F 8 with
      | none => exact ⟨0, by rw [Option.getD_none]; decide⟩
      | some v =>
        have p := h 8 (by decide) v hv
        unfold partOk at p
        simp only [decide_eq_true_eq] at p
        exact ⟨_, by rw [Option.getD_some, dayF_wd, if_pos p]⟩
    unfold partOk at p0
    simp only [decide_eq_true_eq] at p0
    obtain ⟨z1, q1⟩ := q1
    obtain ⟨z2, q2⟩ := q2
    obtain ⟨z3, q3⟩ := q3
    obtain ⟨z4, q4⟩ := q4
    obtain ⟨z5, q5⟩ := q5
    obtain ⟨z6, q6⟩ := q6
    obtain ⟨z7, q7⟩ := q7
    obtain ⟨z8, q8⟩ := q8
    exact ⟨⟨frq v0 - 1, z1, z2, z3, z4, z5, z6, z7, z8⟩, by rw [hv0, freqF_frq, if_pos p0], q1, q2, q3, q4, q5, q6, q7, q8⟩

theorem rds_pos {α : Type} {rd : List UInt8 → Option α} {v : List UInt8} {zs : List α} (h : lsF rd (some v) = some zs) : 0 < zs.length := by
  unfold lsF at h
  simp only [] at h
  split at h
  · rw [rds_len h]
    have := spl_ne 44 v
    cases hs : spl 44 v with
    | nil => exact absurd hs this
    | cons a r => simp
  · cases h
theorem has_len {α : Type} {rd : List UInt8 → Option α} {f : Option (List UInt8)} {zs : List α} (h : lsF rd f = some zs) : f.isSome = decide (0 < zs.length) := by
  cases f with
  | none =>
    have : zs = [] := (Option.some.inj h).symm
    subst this; rfl
  | some v => have := rds_pos h; simp [this]
theorem ord_eq {F : Nat → Option (List UInt8)} {zs : List (Int × Int)} (h : lsF wkF (F 6) = some zs) : ordinals F = hasOrd zs := by
  unfold ordinals
  cases hv : F 6 with
  | none =>
    rw [hv] at h
    have : zs = [] := (Option.some.inj h).symm
    subst this; rfl
  | some v =>
    rw [hv] at h
    simp only []
    rw [daysF_lsF, h]
    simp only [Option.map_some]
    unfold hasOrd
    rw [List.any_map]
    rfl
theorem freq_of {F : Nat → Option (List UInt8)} {z : Int} (h : freqF (F 0) = some z) : freqOf F = z + 1 ∧ has F 0 = true := by
  unfold freqOf has
  cases hv : F 0 with
  | none => rw [hv, freqF_none] at h; cases h
  | some v =>
    rw [hv, freqF_frq] at h
    split at h
    · have := Option.some.inj h
      exact ⟨by simp only []; omega, rfl⟩
    · cases h
theorem agree_iff {F : Nat → Option (List UInt8)} {r : RuleD} (h : Parts F r) : agree F = true ↔ ¬ ((F 2).isSome = true ∧ (F 3).isSome = true) ∧ agreeR r = true := by
  obtain ⟨hf, h0⟩ := freq_of h.fq
  have ho := ord_eq h.wks
  have b5 : has F 5 = decide (0 < r.mds.length) := has_len h.mds
  have b4 : has F 4 = decide (0 < r.ms.length) := has_len h.ms
  have b6 : has F 6 = decide (0 < r.wks.length) := has_len h.wks
  have b7 : has F 7 = decide (0 < r.pls.length) := has_len h.pls
  have hfb := freq_bd h.fq
  unfold agree agreeR agreeP
  rw [h0, hf, ho, b4, b5, b6, b7]
  unfold has
  generalize (F 2).isSome = x2
  generalize (F 3).isSome = x3
  generalize hasOrd r.wks = o
  generalize r.mds.length = nd at *
  generalize r.ms.length = nm at *
  generalize r.wks.length = nw at *
  generalize r.pls.length = np at *
  have hq : r.fq = 0 ∨ r.fq = 1 ∨ r.fq = 2 ∨ r.fq = 3 := by omega
  rcases hq with e | e | e | e <;> rw [e] <;> cases x2 <;> cases x3 <;> cases o <;> by_cases c1 : 0 < nd <;> by_cases c2 : 0 < nm <;> by_cases c3 : 0 < nw <;> by_cases c4 : 0 < np <;> simp [c1, c2, c3, c4] <;> omega
theorem rule_iff (s : List UInt8) (F : Nat → Option (List UInt8)) : ruleF s = some F ↔ ∃ r, IsRule s F r := by
  unfold ruleF IsRule partsOf
  rw [pieces_spl]
  cases hf : flds partNames 61 (spl 59 s) (fun _ => none) with
  | none => simp
  | some f =>
    simp only []
    constructor
    · intro h
      split at h
      · rename_i hc
        have e := Option.some.inj h
        subst e
        rw [Bool.and_eq_true] at hc
        have h0 : has f 0 = true := by
          have := hc.2
          unfold agree at this
          simp only [Bool.and_eq_true] at this
          exact this.1.1.1.1
        obtain ⟨r, hr⟩ := (parts_iff f).2 ⟨h0, hc.1⟩
        obtain ⟨a1, a2⟩ := (agree_iff hr).1 hc.2
        exact ⟨r, rfl, a1, hr, a2⟩
      · cases h
    · rintro ⟨r, h1, h2, h3, h4⟩
      have e := Option.some.inj h1
      subst e
      have a := (agree_iff h3).2 ⟨h2, h4⟩
      have b := ((parts_iff f).1 ⟨r, h3⟩).2
      rw [if_pos (by rw [a, b]; rfl)]
end Go.Proofs.YthpndgcaoeokeaaGreatDoor
namespace Go.Proofs.YthpndgcaoeokeaaGreatDoor

def Inc (l : List Int) : Prop := l.Pairwise (· < ·)
theorem wth_mem (n : Int) : ∀ (zs : List Int) (d : Bool) (x : Int), x ∈ wth n d zs ↔ (x = n ∧ d = false) ∨ (x ∈ zs ∧ x ≠ n)
  | [], d, x => by cases d <;> simp [wth]
  | a :: r, d, x => by
    rw [wth, List.mem_append, List.mem_append, wth_mem n r]
    cases d
    · by_cases h1 : n ≤ a
      · by_cases h2 : a = n
        · subst h2
          simp
          constructor
          · rintro (h | ⟨h, h'⟩)
            · exact .inl h
            · exact .inr ⟨.inr h, h'⟩
          · rintro (h | ⟨h | h, h'⟩)
            · exact .inl h
            · exact absurd h h'
            · exact .inr ⟨h, h'⟩
        · simp [h1, h2]
          constructor
          · rintro ((h | h) | ⟨h, h'⟩)
            · exact .inl h
            · exact .inr ⟨.inl h, by rw [h]; exact h2⟩
            · exact .inr ⟨.inr h, h'⟩
          · rintro (h | ⟨h | h, h'⟩)
            · exact .inl (.inl h)
            · exact .inl (.inr h)
            · exact .inr ⟨h, h'⟩
      · have h2 : ¬ a = n := by omega
        simp [h1, h2]
        constructor
        · rintro (h | h | ⟨h, h'⟩)
          · exact .inr ⟨.inl h, by rw [h]; exact h2⟩
          · exact .inl h
          · exact .inr ⟨.inr h, h'⟩
        · rintro (h | ⟨h | h, h'⟩)
          · exact .inr (.inl h)
          · exact .inl h
          · exact .inr (.inr ⟨h, h'⟩)
    · by_cases h2 : a = n
      · subst h2
        simp
        exact fun h h' => absurd h' h
      · simp [h2]
        constructor
        · rintro (h | ⟨h, h'⟩)
          · exact ⟨.inl h, by rw [h]; exact h2⟩
          · exact ⟨.inr h, h'⟩
        · rintro ⟨h | h, h'⟩
          · exact .inl h
          · exact .inr ⟨h, h'⟩
theorem wth_inc (n : Int) : ∀ (zs : List Int) (d : Bool), Inc zs → Inc (wth n d zs)
  | [], d, _ => by cases d <;> simp [wth, Inc]
  | a :: r, d, h => by
    obtain ⟨ha, hr⟩ := List.pairwise_cons.1 h
    have ihT := wth_inc n r true hr
    have ihF := wth_inc n r false hr
    rw [wth]
    cases d
    · by_cases h1 : n ≤ a
      · by_cases h2 : a = n
        · simp only [h2, Int.le_refl, and_self, if_true, List.append_nil, List.singleton_append, decide_true, Bool.or_true]
          refine List.pairwise_cons.2 ⟨fun x hx => ?_, ihT⟩
          rcases (wth_mem n r true x).1 hx with ⟨_, h⟩ | ⟨hx, _⟩
          · cases h
          · have := ha x hx; omega
        · simp only [h1, h2, and_self, if_true, if_false, List.cons_append, List.nil_append, decide_true, Bool.or_true]
          refine List.pairwise_cons.2 ⟨fun x hx => ?_, List.pairwise_cons.2 ⟨fun x hx => ?_, ihT⟩⟩
          · rcases List.mem_cons.1 hx with rfl | hx
            · omega
            · rcases (wth_mem n r true x).1 hx with ⟨_, h⟩ | ⟨hx, _⟩
              · cases h
              · have := ha x hx; omega
          · rcases (wth_mem n r true x).1 hx with ⟨_, h⟩ | ⟨hx, _⟩
            · cases h
            · exact ha x hx
      · have h2 : ¬ a = n := by omega
        have h3 : ¬ (false = false ∧ n ≤ a) := fun h => h1 h.2
        rw [if_neg h3, if_neg h2, show (false || decide (n ≤ a)) = false from by simp [h1]]
        simp only [List.nil_append, List.singleton_append]
        refine List.pairwise_cons.2 ⟨fun x hx => ?_, ihF⟩
        rcases (wth_mem n r false x).1 hx with ⟨h, _⟩ | ⟨hx, _⟩
        · omega
        · exact ha x hx
    · by_cases h2 : a = n
      · rw [if_neg (fun h => by cases h.1), if_pos h2]
        exact ihT
      · rw [if_neg (fun h => by cases h.1), if_neg h2]
        simp only [List.nil_append, List.singleton_append, Bool.true_or]
        refine List.pairwise_cons.2 ⟨fun x hx => ?_, ihT⟩
        rcases (wth_mem n r true x).1 hx with ⟨_, h⟩ | ⟨hx, _⟩
        · cases h
        · exact ha x hx
/-- two lists in order, each once, of the same members are one -/
theorem inc_eq : ∀ {l m : List Int}, Inc l → Inc m → (∀ x, x ∈ l ↔ x ∈ m) → l = m
  | [], [], _, _, _ => rfl
  | [], b :: m, _, _, h => absurd ((h b).2 (by simp)) (by simp)
  | a :: l, [], _, _, h => absurd ((h a).1 (by simp)) (by simp)
  | a :: l, b :: m, hl, hm, h => by
    obtain ⟨ha, hl'⟩ := List.pairwise_cons.1 hl
    obtain ⟨hb, hm'⟩ := List.pairwise_cons.1 hm
    have e : a = b := by
      have h1 := (h a).1 (by simp)
      have h2 := (h b).2 (by simp)
      rcases List.mem_cons.1 h1 with h1 | h1
      · exact h1
      · rcases List.mem_cons.1 h2 with h2 | h2
        · exact h2.symm
        · have := ha b h2; have := hb a h1; omega
    subst e
    rw [inc_eq hl' hm' fun x => ?_]
    constructor
    · intro hx
      rcases List.mem_cons.1 ((h x).1 (List.mem_cons_of_mem _ hx)) with e | h'
      · have := ha x hx; omega
      · exact h'
    · intro hx
      rcases List.mem_cons.1 ((h x).2 (List.mem_cons_of_mem _ hx)) with e | h'
      · have := hb x hx; omega
      · exact h'
end Go.Proofs.YthpndgcaoeokeaaGreatDoor
namespace Go.Proofs.YthpndgcaoeokeaaGreatDoor

theorem upTo_inc (zs : List Int) (hs : zs.Pairwise (· ≤ ·)) : ∀ m, m ≤ zs.length → Inc (Lib.compactUpTo zs.toArray m) ∧ ∀ x, x ∈ Lib.compactUpTo zs.toArray m ↔ x ∈ zs.take m
  | 0, _ => by
    have : Lib.compactUpTo zs.toArray 0 = [] := by simp [Lib.compactUpTo]
    rw [this]
    exact ⟨List.Pairwise.nil, by simp⟩
  | m + 1, h => by
    obtain ⟨h1, h2⟩ := upTo_inc zs hs m (by omega)
    have hm : m < zs.length := by omega
    have hg : zs.toArray[m]! = zs[m] := by simp [hm]
    rw [Lib.compactUpTo_succ, hg, List.take_succ_eq_append_getElem hm]
    by_cases hk : Lib.keeps zs.toArray m = true
    · rw [if_pos hk]
      refine ⟨?_, fun x => by rw [List.mem_append, List.mem_append, h2]⟩
      refine List.pairwise_append.2 ⟨h1, List.pairwise_singleton _ _, fun x hx y hy => ?_⟩
      rw [List.mem_singleton] at hy
      subst hy
      obtain ⟨j, hj, rfl⟩ := List.getElem_of_mem ((h2 x).1 hx)
      rw [List.length_take] at hj
      rw [List.getElem_take]
      have h3 : zs[m - 1] < zs[m] := by
        have hne : zs[m] ≠ zs[m - 1] := by
          unfold Lib.keeps at hk
          have hm1 : m - 1 < zs.length := by omega
          simp only [hg] at hk
          intro e
          have h0 : m ≠ 0 := by omega
          simp [h0, hm1, e] at hk
        have := List.pairwise_iff_getElem.1 hs (m - 1) m (by omega) hm (by omega)
        omega
      rcases Nat.lt_or_ge j (m - 1) with h4 | h4
      · have := List.pairwise_iff_getElem.1 hs j (m - 1) (by omega) (by omega) h4
        omega
      · have : j = m - 1 := by omega
        subst this
        exact h3
    · rw [if_neg hk, List.append_nil]
      refine ⟨h1, fun x => ?_⟩
      rw [h2, List.mem_append, List.mem_singleton]
      constructor
      · exact .inl
      · rintro (h | h)
        · exact h
        · subst h
          have h0 : m ≠ 0 := fun e => hk (by subst e; exact Lib.keeps_lt_one _ 0 (by omega))
          have hm1 : m - 1 < zs.length := by omega
          have e : zs[m] = zs[m - 1] := by
            unfold Lib.keeps at hk
            simp only [hg] at hk
            by_cases e : zs[m] = zs[m - 1]
            · exact e
            · exfalso; apply hk; simp [h0, hm1, e]
          rw [e]
          exact List.mem_take_iff_getElem.2 ⟨m - 1, by omega, rfl⟩
theorem sortC (zs : List Int) : Inc (Lib.compact (zs.mergeSort fun x y => decide (x ≤ y))) ∧ ∀ x, x ∈ Lib.compact (zs.mergeSort fun x y => decide (x ≤ y)) ↔ x ∈ zs := by
  have hs : (zs.mergeSort fun x y => decide (x ≤ y)).Pairwise (· ≤ ·) := by
    have := List.pairwise_mergeSort (le := fun x y : Int => decide (x ≤ y)) (by simp; omega) (by simp; omega) zs
    exact this.imp (by simp)
  obtain ⟨h1, h2⟩ := upTo_inc _ hs _ (Nat.le_refl _)
  refine ⟨h1, fun x => ?_⟩
  rw [show Lib.compact (zs.mergeSort fun x y => decide (x ≤ y)) = Lib.compactUpTo (zs.mergeSort fun x y => decide (x ≤ y)).toArray (zs.mergeSort fun x y => decide (x ≤ y)).length from rfl, h2, List.take_length]
  exact List.mem_mergeSort
theorem tms_rds : ∀ (P : List ByteArray) (acc : List Int), Inc acc → match rds timF (P.map (·.data.toList)) with
    | none => tms P acc = none
    | some zs => ∃ out, tms P acc = some out ∧ Inc out ∧ ∀ x, x ∈ out ↔ x ∈ zs ∨ x ∈ acc
  | [], acc, h => ⟨acc, rfl, h, fun x => by simp⟩
  | l :: r, acc, h => by
    rw [List.map_cons, rds, tms]
    have e : timF l.data.toList = if timeB l = true then some (timeN l) else none := by
      unfold timF ofL; simp
    rw [e]
    by_cases ht : timeB l = true
    · rw [if_pos ht, if_pos ht]
      have ih := tms_rds r (wth (timeN l) false acc) (wth_inc _ _ _ h)
      cases hz : rds timF (r.map (·.data.toList)) with
      | none => rw [hz] at ih; exact ih
      | some zs =>
        rw [hz] at ih
        obtain ⟨out, h1, h2, h3⟩ := ih
        refine ⟨out, h1, h2, fun x => ?_⟩
        rw [h3, wth_mem, List.mem_cons]
        simp only [and_true]
        by_cases hx : x = timeN l <;> simp [hx]
    · rw [if_neg ht, if_neg ht]
end Go.Proofs.YthpndgcaoeokeaaGreatDoor
namespace Go.Proofs.YthpndgcaoeokeaaGreatDoor

/-- DTEND and DURATION: the document has them the other way round -/
def swp (k : Nat) : Nat := if k = 2 then 3 else if k = 3 then 2 else k
def sw (f : Nat → Option (List UInt8)) : Nat → Option (List UInt8) := fun k => f (swp k)
theorem swp_swp (k : Nat) : swp (swp k) = k := by
  unfold swp
  by_cases h2 : k = 2
  · subst h2; rfl
  · by_cases h3 : k = 3
    · subst h3; rfl
    · simp [h2, h3]
theorem sw_upd (f : Nat → Option (List UInt8)) (j : Nat) (v : List UInt8) : sw (fun i => if i = j then some v else f i) = fun i => if i = swp j then some v else sw f i := by
  funext k
  unfold sw
  by_cases h : k = swp j
  · subst h
    rw [swp_swp]
    simp
  · have : ¬ swp k = j := fun e => h (by rw [← e, swp_swp])
    simp [h, this]
theorem idx_sw (n : List UInt8) : idx evNames n = (idx propNames n).map swp := by
  by_cases h0 : n = [85, 73, 68]
  · subst h0; decide
  by_cases h1 : n = [68, 84, 83, 84, 65, 82, 84]
  · subst h1; decide
  by_cases h2 : n = [68, 84, 69, 78, 68]
  · subst h2; decide
  by_cases h3 : n = [68, 85, 82, 65, 84, 73, 79, 78]
  · subst h3; decide
  by_cases h4 : n = [82, 82, 85, 76, 69]
  · subst h4; decide
  by_cases h5 : n = [69, 88, 68, 65, 84, 69]
  · subst h5; decide
  by_cases h6 : n = [82, 68, 65, 84, 69]
  · subst h6; decide
  by_cases h7 : n = [84, 82, 65, 78, 83, 80]
  · subst h7; decide
  by_cases h8 : n = [83, 84, 65, 84, 85, 83]
  · subst h8; decide
  unfold evNames propNames
  simp only [idx, if_neg (Ne.symm h0), if_neg (Ne.symm h1), if_neg (Ne.symm h2), if_neg (Ne.symm h3), if_neg (Ne.symm h4), if_neg (Ne.symm h5), if_neg (Ne.symm h6), if_neg (Ne.symm h7), if_neg (Ne.symm h8)]
  rfl
theorem plc_sw (l : List UInt8) : plc evNames 58 l = (plc propNames 58 l).map fun q => (swp q.1, q.2) := by
  unfold plc
  cases sp 58 l with
  | none => rfl
  | some q =>
    obtain ⟨n, v⟩ := q
    simp only []
    rw [idx_sw]
    cases idx propNames n <;> rfl
theorem flds_sw : ∀ (P : List (List UInt8)) (f : Nat → Option (List UInt8)), flds evNames 58 P (sw f) = (flds propNames 58 P f).map sw
  | [], f => rfl
  | l :: r, f => by
    rw [flds, flds, plc_sw]
    cases plc propNames 58 l with
    | none => rfl
    | some q =>
      obtain ⟨k, v⟩ := q
      simp only [Option.map_some]
      have e : sw f (swp k) = f k := by unfold sw; rw [swp_swp]
      rw [e]
      cases hb : (f k).isSome with
      | true => rfl
      | false =>
        simp only [Bool.false_eq_true, if_false]
        rw [← sw_upd]
        exact flds_sw r _
theorem wrd_st (o : Option (List UInt8)) : stF o = match o with | none => some 0 | some v => if wrd v confL tentL cancL = 0 then none else some (wrd v confL tentL cancL - 1) := by
  cases o with
  | none => decide
  | some v =>
    unfold stF
    simp only [Option.getD_some]
    by_cases h0 : v = confL
    · subst h0; decide
    by_cases h1 : v = tentL
    · subst h1; decide
    by_cases h2 : v = cancL
    · subst h2; decide
    have hw : wrd v confL tentL cancL = 0 := by unfold wrd; simp [h0, h1, h2]
    rw [if_pos hw]
    unfold statNames
    simp only [idx]
    unfold confL at h0
    unfold tentL at h1
    unfold cancL at h2
    simp only [if_neg (Ne.symm h0), if_neg (Ne.symm h1), if_neg (Ne.symm h2)]
    rfl
theorem wrd_tr (o : Option (List UInt8)) : trF o = match o with | none => some false | some v => if wrd v opaqL trspL [] = 0 ∨ v = [] then none else some (decide (v = trspL)) := by
  cases o with
  | none => decide
  | some v =>
    unfold trF
    simp only [Option.getD_some]
    by_cases h0 : v = opaqL
    · subst h0; decide
    by_cases h1 : v = trspL
    · subst h1; decide
    have hw : wrd v opaqL trspL [] = 0 ∨ v = [] := by
      by_cases h2 : v = []
      · exact .inr h2
      · exact .inl (by unfold wrd; simp [h0, h1, h2])
    rw [if_pos hw]
    unfold transpNames
    simp only [idx]
    unfold opaqL at h0
    unfold trspL at h1
    simp only [if_neg (Ne.symm h0), if_neg (Ne.symm h1)]
    rfl
/-- the lines of both -/
theorem lines_iff {s : List UInt8} {ls : List (List UInt8)} (h2 : 2 ≤ ls.length) : linesP s = some ls ↔ (lns (unf s) []).2 = true ∧ evLs s = ls := by
  unfold linesP evLs
  by_cases hx : ∃ i, unf s = i ++ [13, 10]
  · obtain ⟨i, hi⟩ := hx
    have h1 : Lib.hasSuffix (unf s) crlf = true := by rw [hi]; unfold Lib.hasSuffix; exact List.isSuffixOf_iff_suffix.2 ⟨i, rfl⟩
    have h3 : Lib.trimSuffix (unf s) crlf = i := by unfold Lib.trimSuffix; rw [if_pos h1, hi]; simp [crlf]
    rw [if_pos h1, h3, hi, lns_yes]
    simp
  · have h1 : ¬ Lib.hasSuffix (unf s) crlf = true := fun e => by
      unfold Lib.hasSuffix at e
      obtain ⟨t, ht⟩ := List.isSuffixOf_iff_suffix.1 e
      exact hx ⟨t, ht.symm⟩
    rw [if_neg h1]
    constructor
    · intro h; cases h
    · rintro ⟨h3, h4⟩
      by_cases h0 : unf s = []
      · rw [h0] at h4
        simp [lns] at h4
        subst h4
        simp at h2
      · rw [lns_no h0 (fun i e => hx ⟨i, e⟩)] at h3
        cases h3
theorem must_iff (f : Nat → Option (List UInt8)) : must f = true ↔ (sw f 0).isSome = true ∧ (sw f 1).isSome = true ∧ ((sw f 2).isSome != (sw f 3).isSome) = true ∧ nameB (ofL ((sw f 0).getD [])) = true := by
  have e0 : sw f 0 = f 0 := rfl
  have e1 : sw f 1 = f 1 := rfl
  have e2 : sw f 2 = f 3 := rfl
  have e3 : sw f 3 = f 2 := rfl
  rw [e0, e1, e2, e3]
  unfold must has val
  rw [Bool.and_eq_true, Bool.and_eq_true, Bool.and_eq_true]
  have : ((f 2).isSome != (f 3).isSome) = ((f 3).isSome != (f 2).isSome) := by cases (f 2).isSome <;> cases (f 3).isSome <;> rfl
  rw [this]
  exact ⟨fun ⟨⟨⟨a, b⟩, c⟩, d⟩ => ⟨a, b, c, d⟩, fun ⟨a, b, c, d⟩ => ⟨⟨⟨a, b⟩, c⟩, d⟩⟩
theorem words_iff (f : Nat → Option (List UInt8)) : words2 f = true ↔ trF (sw f 7) = some (openOf f) ∧ stF (sw f 8) = some (kindOf f - 1) := by
  have e7 : sw f 7 = f 7 := rfl
  have e8 : sw f 8 = f 8 := rfl
  rw [e7, e8, wrd_tr, wrd_st]
  unfold words2 openOf kindOf has val
  cases f 7 with
  | none =>
    cases f 8 with
    | none => simp [trspL]
    | some v => by_cases h : wrd v confL tentL cancL = 0 <;> simp [h, trspL]
  | some u =>
    cases f 8 with
    | none => by_cases h : wrd u opaqL trspL [] = 0 <;> by_cases h' : u = [] <;> simp [h, h']
    | some v => by_cases h : wrd u opaqL trspL [] = 0 <;> by_cases h' : u = [] <;> by_cases h2 : wrd v confL tentL cancL = 0 <;> simp [h, h', h2]
theorem begun_some {f : Nat → Option (List UInt8)} {tr : Bool} {k : Int} (h : Begun (sw f) tr k) : words2 f = true ∧ tr = openOf f ∧ k = kindOf f - 1 := by
  have h1 := h.tr
  have h2 := h.st
  have e7 : sw f 7 = f 7 := rfl
  have e8 : sw f 8 = f 8 := rfl
  have hw : words2 f = true := by
    rw [e7, wrd_tr] at h1
    rw [e8, wrd_st] at h2
    unfold words2 has val
    cases h7 : f 7 with
    | none =>
      cases h8 : f 8 with
      | none => rfl
      | some v => rw [h8] at h2; by_cases h : wrd v confL tentL cancL = 0 <;> simp [h] at h2 ⊢
    | some u =>
      rw [h7] at h1
      cases h8 : f 8 with
      | none => by_cases h : wrd u opaqL trspL [] = 0 <;> by_cases h' : u = [] <;> simp [h, h'] at h1 ⊢
      | some v => rw [h8] at h2; by_cases h : wrd u opaqL trspL [] = 0 <;> by_cases h' : u = [] <;> by_cases h3 : wrd v confL tentL cancL = 0 <;> simp [h, h', h3] at h1 h2 ⊢
  obtain ⟨a, b⟩ := (words_iff f).1 hw
  rw [h1] at a
  rw [h2] at b
  exact ⟨hw, Option.some.inj a, Option.some.inj b⟩
theorem framed_iff (s : List UInt8) : framed s = true ↔ s.length ≤ 2000 ∧ (lns (unf s) []).2 = true ∧ 2 ≤ (evLs s).length ∧ (evLs s).getD 0 [] = beginL ∧ (evLs s).getD ((evLs s).length - 1) [] = endL := by
  unfold framed
  simp only [Bool.and_eq_true, decide_eq_true_eq]
  exact ⟨fun ⟨⟨⟨⟨a, b⟩, c⟩, d⟩, e⟩ => ⟨b, a, c, d, e⟩, fun ⟨b, a, c, d, e⟩ => ⟨⟨⟨⟨a, b⟩, c⟩, d⟩, e⟩⟩
/-- what an event begins with: the program's and the document's are one -/
theorem head_iff (s : List UInt8) (F : Nat → Option (List UInt8)) (tr : Bool) (k : Int) : IsHead s F tr k ↔ ∃ f, fieldsF s = some f ∧ F = sw f ∧ tr = openOf f ∧ k = kindOf f - 1 := by
  have e0 : sw (fun _ => none) = fun _ => none := rfl
  constructor
  · rintro ⟨hp, hb⟩
    obtain ⟨ls, h1, h2, h3, h4, h5⟩ := hp.lines
    obtain ⟨hl, rfl⟩ := (lines_iff h2).1 h1
    have hf : framed s = true := (framed_iff s).2 ⟨hp.len, hl, h2, h3, h4⟩
    have h6 := flds_sw (innerL (evLs s)) (fun _ => none)
    rw [e0, h5] at h6
    obtain ⟨f, hf1, rfl⟩ := Option.map_eq_some_iff.1 h6.symm
    obtain ⟨hw, htr, hk⟩ := begun_some hb
    have hm : must f = true := (must_iff f).2 ⟨hp.uid, hp.start, hp.one, hb.uid⟩
    refine ⟨f, ?_, rfl, htr, hk⟩
    unfold fieldsF
    rw [if_pos hf, hf1]
    simp only []
    rw [hm, hw]
    rfl
  · rintro ⟨f, hf, rfl, rfl, rfl⟩
    unfold fieldsF at hf
    by_cases hfr : framed s = true
    · rw [if_pos hfr] at hf
      obtain ⟨h1, h2, h3, h4, h5⟩ := (framed_iff s).1 hfr
      cases h6 : flds propNames 58 (innerL (evLs s)) (fun _ => none) with
      | none => rw [h6] at hf; cases hf
      | some f' =>
        rw [h6] at hf
        simp only [] at hf
        split at hf
        · rename_i hc
          cases hf
          rw [Bool.and_eq_true] at hc
          obtain ⟨m1, m2, m3, m4⟩ := (must_iff f).1 hc.1
          obtain ⟨w1, w2⟩ := (words_iff f).1 hc.2
          have h7 := flds_sw (innerL (evLs s)) (fun _ => none)
          rw [e0, h6] at h7
          exact ⟨⟨h1, ⟨evLs s, (lines_iff h3).2 ⟨h2, rfl⟩, h3, h4, h5, h7⟩, m1, m2, m3⟩, ⟨m4, w1, w2⟩⟩
        · cases hf
    · rw [if_neg hfr] at hf
      cases hf
theorem times_one (o : Option (List UInt8)) : tmO o = tsF o := by
  cases o with
  | none => unfold tmO tsF lsF; simp [Lib.compact, Lib.compactUpTo]
  | some v =>
    unfold tmO tsF timesF lsF
    simp only []
    have hl : (splitF (ba v) 44).length = (spl 44 v).length := by rw [← split_spl, List.length_map]
    rw [hl]
    by_cases h20 : (spl 44 v).length ≤ 20
    · rw [if_pos h20, if_pos h20]
      have h := tms_rds (splitF (ba v) 44) [] List.Pairwise.nil
      rw [split_spl] at h
      cases hz : rds timF (spl 44 v) with
      | none => rw [hz] at h; rw [h]; rfl
      | some zs =>
        rw [hz] at h
        obtain ⟨out, h1, h2, h3⟩ := h
        rw [h1]
        obtain ⟨s1, s2⟩ := sortC zs
        simp only [Option.map_some]
        congr 1
        exact inc_eq h2 s1 fun x => by rw [h3, s2]; simp
    · rw [if_neg h20, if_neg h20]
      rfl
/-- the times of both -/
theorem times_iff {f : Nat → Option (List UInt8)} {st ln : Int} {ex xt : List Int} : TimesAre (sw f) st ln ex xt ↔ timF (val f 1) = some st ∧ lnF st (f 3) (f 2) = some ln ∧ tmO (f 5) = some ex ∧ tmO (f 6) = some xt := by
  rw [times_one, times_one]
  exact ⟨fun h => ⟨h.hst, h.hln, h.hex, h.hxt⟩, fun ⟨a, b, c, d⟩ => ⟨a, b, c, d⟩⟩
end Go.Proofs.YthpndgcaoeokeaaGreatDoor
