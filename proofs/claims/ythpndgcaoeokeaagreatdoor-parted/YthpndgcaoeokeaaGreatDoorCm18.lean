/- A period's choice (the program's). The periods in turn: bounds (of no program). -/
import Derived.Test.YthpndgcaoeokeaaGreatDoorCm17
namespace Go.Proofs.YthpndgcaoeokeaaGreatDoor
open Go.RowKit Go.Sort
attribute [local go_sem] Oper.semAt_some

def flatD (l : List Int) : List Value := (l.map dnC).flatten
def fitL (r : RuleD) (a : Int) (n : Nat) : List Int := (from' a n).filter (fitA r)
/-- those at the places that are said, of a list of so many, from the place i on -/
def plcd (pls : List Int) (len : Int) : Int → List Int → List Int
  | _, [] => []
  | i, d :: l => (if pls.contains (i + 1) || pls.contains (i - len) then [d] else []) ++ plcd pls len (i + 1) l
def choiceL (r : RuleD) (a : Int) (n : Nat) : List Int := if r.pls.length = 0 then fitL r a n else plcd r.pls (fitL r a n).length 0 (fitL r a n)

theorem flatD_get {l : List Int} {i : Nat} {d : Int} (h : l[i]? = some d) :
    (flatD l)[i * 3]? = some (.int .i64 (Cal.ofY d)) ∧ (flatD l)[i * 3 + 1]? = some (.int .i64 (Cal.ofM d)) ∧ (flatD l)[i * 3 + 2]? = some (.int .i64 (Cal.ofD d)) := by
  induction l generalizing i with
  | nil => simp at h
  | cons x r ih =>
    cases i with
    | zero => simp at h; subst h; unfold flatD dnC; simp
    | succ i =>
      have := ih (i := i) (by simpa using h)
      have e : flatD (x :: r) = dnC x ++ flatD r := by unfold flatD; simp
      rw [e]
      have hl : (dnC x).length = 3 := rfl
      refine ⟨?_, ?_, ?_⟩
      · rw [show (i + 1) * 3 = 3 + i * 3 from by omega, List.getElem?_append_right (by omega), hl, Nat.add_sub_cancel_left]; exact this.1
      · rw [show (i + 1) * 3 + 1 = 3 + (i * 3 + 1) from by omega, List.getElem?_append_right (by omega), hl, Nat.add_sub_cancel_left]; exact this.2.1
      · rw [show (i + 1) * 3 + 2 = 3 + (i * 3 + 2) from by omega, List.getElem?_append_right (by omega), hl, Nat.add_sub_cancel_left]; exact this.2.2
theorem plcd_step {pls : List Int} {len : Int} {F : List Int} {i : Nat} {d : Int} (h : F[i]? = some d) :
    plcd pls len i (F.drop i) = (if pls.contains (i + 1) || pls.contains (i - len) then [d] else []) ++ plcd pls len ((i + 1 : Nat) : Int) (F.drop (i + 1)) := by
  obtain ⟨hi, he⟩ := List.getElem?_eq_some_iff.1 h
  rw [List.drop_eq_getElem_cons hi, he, plcd]
  rfl
/-- the cells of a day in a list of one's own -/
theorem own_day {w : World} {B : Nat} {v : Value} {l : List Int} {i : Nat} {d : Int} (h : w.ownsRow B 106 3 v l.length (flatD l)) (hd : l[i]? = some d) :
    ∃ g cap, v = .slice (some ⟨g, 0, none⟩) l.length cap ∧ B ≤ g ∧ l.length ≤ cap ∧ w.cell? ⟨g, i * 3, none⟩ = some (.int .i64 (Cal.ofY d)) ∧ w.cell? ⟨g, i * 3 + 1, none⟩ = some (.int .i64 (Cal.ofM d)) ∧ w.cell? ⟨g, i * 3 + 2, none⟩ = some (.int .i64 (Cal.ofD d)) := by
  have hi := (List.getElem?_eq_some_iff.1 hd).1
  rcases h.2 with ⟨_, h0⟩ | ⟨g, cap, cur, rfl, hB, hg, hc, _⟩
  · omega
  · refine ⟨g, cap, rfl, hB, hc, ?_, ?_, ?_⟩
    · rw [h.cellAt _ (by omega)]; exact (flatD_get hd).1
    · rw [h.cellAt _ (by omega)]; exact (flatD_get hd).2.1
    · rw [h.cellAt _ (by omega)]; exact (flatD_get hd).2.2

theorem own_low {w : World} {B B' s n : Nat} {e : TypeId} {v : Value} {xs : List Value} (h : w.ownsRow B e s v n xs) (hb : B' ≤ B) : w.ownsRow B' e s v n xs :=
  ⟨h.1, h.2.imp id fun ⟨g, cap, cur, h1, h2, h3⟩ => ⟨g, cap, cur, h1, Nat.le_trans hb h2, h3⟩⟩
theorem infoDay : (Tryz.prog.info? 106).map (fun i => (i.zero, i.size, i.bytes)) = some (some (.agg #[.int .i64 0, .int .i64 0, .int .i64 0]), 3, 24) := by kernel_rfl
theorem fitL_step (r : RuleD) (a : Int) (i : Nat) : fitL r a (i + 1) = fitL r a i ++ if fitA r (a + i) then [a + i] else [] := by
  unfold fitL from'
  rw [List.range_succ, List.map_append, List.filter_append]
  simp [List.filter_cons]
theorem flatD_snoc (l : List Int) (x : Int) : flatD (l ++ [x]) = flatD l ++ dnC x := by unfold flatD; simp
theorem fitL_len (r : RuleD) (a : Int) (n : Nat) : (fitL r a n).length ≤ n := by
  unfold fitL; exact Nat.le_trans (List.length_filter_le _ _) (by rw [from_len]; exact Nat.le_refl _)

set_option maxRecDepth 100000 in
set_option maxHeartbeats 8000000 in
theorem choice_n (r : RuleD) (m md wk pl : Value) (tx : ByteArray) (a : Int) (n : Nat) (w : World) (hl : RuleL w r m md wk pl) (ho : RuleOk r) (h0 : -10000 ≤ a) (h1 : a + n ≤ 300000) (hn : n ≤ 400) :
    Calls Tryz.prog 343 #[ruleV r.fq r.iv r.ct r.un m md wk pl r.ws tx, spanV a (a + n)] w fun e w' => ∃ v, e = .returned v ∧ w'.ownsRow w.heap.size 106 3 v (choiceL r a n).length (flatD (choiceL r a n)) ∧ Below w.heap.size w w' := by
  have hF : Hid (∀ W k, Below w.heap.size w W → k < n → Calls Tryz.prog 356 #[ruleV r.fq r.iv r.ct r.un m md wk pl r.ws tx, dnV (a + (k : Nat))] W fun e w' => e = .returned (.bool (fitA r (a + (k : Nat)))) ∧ Below W.heap.size W w') :=
    hide fun W k hb hk => fits_n r m md wk pl tx (a + (k : Nat)) W (hl.on hb) ho (by omega) (by omega)
  have hA : Hid (∀ W, Calls Tryz.prog 355 #[spanV a (a + n)] W fun e w' => e = .returned (.func (.func 361) #[] #[.pointer (some ⟨W.heap.size, 0, none⟩)]) ∧ w' = W.alloc (.cells (spanC a (a + n)).toArray 370)) := hide fun W => all_n a (a + n) W
  obtain ⟨a1, e1⟩ := hl.ms.form
  obtain ⟨a2, e2⟩ := hl.mds.form
  obtain ⟨a3, e3⟩ := hl.wks.form
  obtain ⟨a4, e4⟩ := hl.pls.form
  have hpl := hide hl.pls
  have hple := ho.pls
  clear hl ho
  generalize r.ms.length = n1 at *
  generalize r.mds.length = n2 at *
  generalize r.wks.length = n3 at *
  subst e1 e2 e3 e4
  unfold ruleV at *
  unfold spanV dnV dayA at *
  refine (callsIn_wide (n := 0)).1 ?_
  refine callsIn_of_wpF Tryz.func343 rfl ?_
  simp only [Tryz.ntmps343, List.size_toArray, List.length_cons, List.length_nil, Nat.reduceAdd, Nat.reduceSub, Array.replicate_succ, Array.replicate_zero, List.push_toArray, List.append_toArray, List.nil_append, List.cons_append]
  refine wpF_seq fun K hK => wpF_of ?_
  gi_wp2_with fail
  refine wpF_seq fun K hK => wpF_of ?_
  gi_wp2_with fail
  refine wpF_seq fun K1 hK1 => ?_
  refine wpF_seq fun K hK => wpF_of ?_
  gi_wp2_with fail
  refine ⟨trivial, rfl, (callsIn_wide.2 (hA.out _)).mono ?_⟩
  rintro e w1 ⟨rfl, rfl⟩
  have r0 := ((RowAt.new w [.int .i64 r.fq, .int .i64 r.iv, .int .i64 r.ct, .int .i64 r.un, .slice a1 n1 n1, .slice a2 n2 n2, .slice a3 n3 n3, .slice a4 r.pls.length r.pls.length, .int .i64 r.ws, .string tx] 76).on ((Below.refl _ _).alloc (Nat.le_refl _) (.cells #[.int .i64 (Cal.ofY a), .int .i64 (Cal.ofM a), .int .i64 (Cal.ofD a), .int .i64 (Cal.ofY (a + n)), .int .i64 (Cal.ofM (a + n)), .int .i64 (Cal.ofD (a + n))] 370))).on ((Below.refl _ _).alloc (Nat.le_refl _) (.cells #[.slice none 0 0] 372))
  have r5 := RowAt.new ((w.alloc (.cells #[.int .i64 r.fq, .int .i64 r.iv, .int .i64 r.ct, .int .i64 r.un, .slice a1 n1 n1, .slice a2 n2 n2, .slice a3 n3 n3, .slice a4 r.pls.length r.pls.length, .int .i64 r.ws, .string tx] 76)).alloc (.cells #[.int .i64 (Cal.ofY a), .int .i64 (Cal.ofM a), .int .i64 (Cal.ofD a), .int .i64 (Cal.ofY (a + n)), .int .i64 (Cal.ofM (a + n)), .int .i64 (Cal.ofD (a + n))] 370)) [.slice none 0 0] 372
  simp only [World.size_alloc] at r5
  have hbw : Below w.heap.size w (((w.alloc (.cells #[.int .i64 r.fq, .int .i64 r.iv, .int .i64 r.ct, .int .i64 r.un, .slice a1 n1 n1, .slice a2 n2 n2, .slice a3 n3 n3, .slice a4 r.pls.length r.pls.length, .int .i64 r.ws, .string tx] 76)).alloc (.cells #[.int .i64 (Cal.ofY a), .int .i64 (Cal.ofM a), .int .i64 (Cal.ofD a), .int .i64 (Cal.ofY (a + n)), .int .i64 (Cal.ofM (a + n)), .int .i64 (Cal.ofD (a + n))] 370)).alloc (.cells #[.slice none 0 0] 372)) := (((Below.refl _ _).alloc (Nat.le_refl _) _).alloc (by simp) _).alloc (by simp; omega) _
  have hsz : (((w.alloc (.cells #[.int .i64 r.fq, .int .i64 r.iv, .int .i64 r.ct, .int .i64 r.un, .slice a1 n1 n1, .slice a2 n2 n2, .slice a3 n3 n3, .slice a4 r.pls.length r.pls.length, .int .i64 r.ws, .string tx] 76)).alloc (.cells #[.int .i64 (Cal.ofY a), .int .i64 (Cal.ofM a), .int .i64 (Cal.ofD a), .int .i64 (Cal.ofY (a + n)), .int .i64 (Cal.ofM (a + n)), .int .i64 (Cal.ofD (a + n))] 370)).alloc (.cells #[.slice none 0 0] 372)).heap.size = w.heap.size + 3 := by simp
  generalize (((w.alloc (.cells #[.int .i64 r.fq, .int .i64 r.iv, .int .i64 r.ct, .int .i64 r.un, .slice a1 n1 n1, .slice a2 n2 n2, .slice a3 n3 n3, .slice a4 r.pls.length r.pls.length, .int .i64 r.ws, .string tx] 76)).alloc (.cells #[.int .i64 (Cal.ofY a), .int .i64 (Cal.ofM a), .int .i64 (Cal.ofD a), .int .i64 (Cal.ofY (a + n)), .int .i64 (Cal.ofM (a + n)), .int .i64 (Cal.ofD (a + n))] 370)).alloc (.cells #[.slice none 0 0] 372)) = W0 at *
  have hb0 : Below W0.heap.size W0 (W0.alloc (.cells (spanC a (a + n)).toArray 370)) := (Below.refl _ _).alloc (Nat.le_refl _) _
  have hit := all_it a n W0.heap.size (W0.alloc (.cells (spanC a (a + n)).toArray 370)) (by omega) (by omega) (RowAt.new _ _ _)
  have hsz1 : (W0.alloc (.cells (spanC a (a + n)).toArray 370)).heap.size = w.heap.size + 4 := by simp; omega
  replace hbw := hbw.trans (hb0.mono hbw.size)
  replace r0 := r0.on hb0
  replace r5 := r5.on hb0
  rw [hsz] at hit
  generalize W0.alloc (.cells (spanC a (a + n)).toArray 370) = W1 at *
  clear hb0 hA
  gi_wp2_with fail
  refine wpF_block ?_
  have eg : ∀ args w, (callFunc 361 args).run Tryz.prog w = .ok (.enter 361 args) w := enters_of Tryz.func361 (by kernel_rfl) rfl
  refine range_go (gf := 361) (lb := #[.pointer (some ⟨w.heap.size + 3, 0, none⟩)]) Tryz.func343 ?g eg hit (Nat.le_refl _) (fun _ _ => rfl) (fun k hk => by omega)
    (fun k => k = w.heap.size + 1 + 1) (fun k hk => by omega) (fun i => SlJ (w.heap.size + 1 + 1) 372 106 3 w.heap.size ((fitL r a i).length) (flatD (fitL r a i))) (fun _ _ _ => False) (fun _ _ _ => False) ?ps ?start ?round ?done ?stop ?pan
  case g => rfl
  case ps => intro x hx; obtain ⟨d, _, rfl⟩ := List.mem_map.1 hx; rfl
  case start => exact SlJ.onD (fun k hk => by omega) ⟨rfl, .slice none 0 0, r5, fun k hk => by simp [Value.ownBlock] at hk, World.ownsRow_nil _ _ _ _⟩
  case stop =>
    rintro c W ⟨_, D, _, _, hon⟩
    exact hon.out.elim
  case pan =>
    rintro c W ⟨_, D, _, _, hon⟩
    exact hon.out.elim
  case round =>
    intro l i x hx W D hxc hs hOD hon K hK
    have hin : i < n := by
      have := (List.getElem?_eq_some_iff.1 hx).1
      rwa [dayL_len, from_len] at this
    rw [dayL_get (from_get a n i hin)] at hx
    cases hx
    unfold dnV dayA
    gi_wp2_with fail
    have hb6 : Below W.heap.size W (W.alloc (.cells #[.int .i64 (Cal.ofY (a + i)), .int .i64 (Cal.ofM (a + i)), .int .i64 (Cal.ofD (a + i))] 106)) := (Below.refl _ _).alloc (Nat.le_refl _) _
    refine hK _ _ (fun k => D k ∨ k = W.heap.size) hb6 (fun k hk => hk.imp id fun h => by omega) (fun k hk => .inl hk) (fun k hk => hk.elim (fun h => by have := hon.1 k h; simp; omega) (fun h => by simp; omega)) ?_
    intro l' W2 hk2 hx2 hs2
    have q0 := r0.exc hx2 (show ¬ (w.heap.size = w.heap.size + 1 + 1) by omega)
    have q6 := (RowAt.new W [.int .i64 (Cal.ofY (a + i)), .int .i64 (Cal.ofM (a + i)), .int .i64 (Cal.ofD (a + i))] 106).keep (hk2 _ (.inr rfl))
    have hon2 := hon.on (W' := W2) fun k hk => (hk2 k (.inl hk)).trans (hb6.block k (hon.1 k hk))
    have hbW := hbw.trans (hx2.below (B := w.heap.size) (by omega) (fun k hk => by omega))
    have hne : ¬ D W.heap.size := fun h => by have := hon.1 _ h; omega
    have hs6 := q6.lt
    clear hK hb6 hk2 r0 r5 hit hK1
    obtain ⟨hD2, v, q5, hvD, hown⟩ := hon2.out
    obtain ⟨g0, g1, g2, g3, g4, g5, g6, g7, g8, g9⟩ := cells10 q0
    obtain ⟨c0, c1, c2, _, _, _⟩ := cells3 q6
    gi_wp2_with fail
    refine ⟨trivial, rfl, (CallsIn.inRound l' (callsIn_wide.2 (hF.out _ i hbW hin))).mono ?_⟩
    rintro e W3 ⟨rfl, hb3⟩
    clear g0 g1 g2 g3 g4 g5 g6 g7 g8 g9 c0 c1 c2
    have hD1 : ∀ k, D k ∨ k = W.heap.size → k < W2.heap.size := fun k hk => hk.elim (hon2.1 k) (fun h => by omega)
    have hstep := fitL_step r a i
    have hfl := fitL_len r a i
    have z5 := q5.on hb3
    have z6 := q6.on hb3
    have hown3 := own_keep hown (w' := W3) fun g hg => hb3.block g (hown.lt g hg).2
    have hstep0 : Hid (fitA r (a + i) = false → fitL r a (i + 1) = fitL r a i) := hide fun h => by rw [hstep, h]; simp
    have hstep1 : Hid (fitA r (a + i) = true → fitL r a (i + 1) = fitL r a i ++ [a + i]) := hide fun h => by rw [hstep, h]; simp
    clear hstep
    generalize hf : fitA r (a + i) = B at *
    cases B
    · replace hstep0 := hide (hstep0.out rfl)
      clear hstep1
      gi_wp2_with fail
      refine ⟨Exc.of_below hb3, fun k => D k ∨ k = W.heap.size, fun k hk => .inl hk, fun k hk => hk, ?_⟩
      rw [hstep0.out]
      exact SlJ.onD (fun k hk => by have := hD1 k hk; have := hb3.size; omega) ⟨.inl hD2, v, z5, fun k hk => ⟨.inl (hvD k hk).1, (hvD k hk).2⟩, hown3⟩
    · replace hstep1 := hide (hstep1.out rfl)
      clear hstep0
      have c5 := z5.cell (k := 0) rfl
      have f5 := z5.free (k := 0)
      obtain ⟨c0, c1, c2, _, _, _⟩ := cells3 z6
      have hw3 : w.heap.size ≤ W3.heap.size := by have := hb3.size; omega
      gi_wp2_with (gi_at_builtin; refine Hid.out ?_)
      refine hide ?_
      refine app_in rfl (.tmp 16) (.tmp 18) 372 106 _ 3 24 rfl Tryz.underlying372 infoDay rfl (by decide) w.heap.size _ _ _ rfl (hown3.alloc _) (by simp; omega) W3.heap.size (dnC (a + i)) rfl rfl (fun j u hj => (RowAt.new W3 (dnC (a + i)) 106).cell hj) (by unfold dnC; simp [Value.oneCell']) (by omega) (by decide) ?_
      intro v' W4 hown4 hg4 hat4
      obtain ⟨g4, cap4, rfl⟩ := own_sl hown4
      replace hat4 := hide hat4
      have hba := (Below.refl W3.heap.size W3).alloc (Nat.le_refl _) (.cells (dnC (a + i)).toArray 106)
      have y5 := z5.on hba
      have y5' : RowAt W4 (w.heap.size + 1 + 1) [v] 372 := (hg4.block _ y5.lt (fun e => (hvD _ e.symm).2 rfl)).trans y5
      clear c5 f5 c0 c1 c2
      have c5 := y5'.cell (k := 0) rfl
      have f5 := y5'.free (k := 0)
      gi_wp2_with fail
      have hfin := post_app (D1 := fun k => D k ∨ k = W.heap.size) (W2 := W2) (p := w.heap.size + 1 + 1) (T := 372) hD1 (.inl hD2) ((Exc.of_below hb3).alloc _) y5 (fun k hk => ⟨.inl (hvD k hk).1, (hvD k hk).2⟩) hg4 hat4.out hown4
      show PostL _ _ _ _ _
      rw [hstep1.out, flatD_snoc, List.length_append]
      exact hfin
  case done =>
    rw [dayL_len, from_len]
    rintro W ⟨hx, D, hDO, hOD, hon⟩ hs hdef
    have q0 := r0.exc hx (show ¬ (w.heap.size = w.heap.size + 1 + 1) by omega)
    obtain ⟨hD2, v, q5, hvD, hown⟩ := hon.out
    have hbW := hbw.trans (hx.below (B := w.heap.size) (by omega) (fun k hk => by omega))
    clear r0 r5 hit hF
    obtain ⟨g0, g1, g2, g3, g4, g5, g6, g7, g8, g9⟩ := cells10 q0
    have c5 := q5.cell (k := 0) rfl
    simp only [Exit.inBlock, Exit.then]
    refine hK1 _ _ (wpF_of ?_)
    clear hK1
    by_cases hp : r.pls.length = 0
    case pos =>
      have hL : Hid (choiceL r a n = fitL r a n) := hide (by unfold choiceL; rw [if_pos hp])
      generalize choiceL r a n = L at *
      generalize r.pls.length = np at *
      subst hp
      gi_wp2_with fail
      rw [hsz1] at hdef
      refine ⟨by simp, .inl ⟨_, _, rfl, run_takeDeferred hdef, ?_⟩⟩
      refine ⟨_, results_tmp rfl _ _ _, v, rfl, ?_, ?_⟩
      · rw [hL.out]
        exact own_keep hown fun g hg => World.putObj_heap_other (by
          rcases hDO g (hvD g hg).1 with h | h <;> omega)
      · exact ⟨hbW.os, hbW.tape, hbW.output, by simp; omega, fun k hk => (World.putObj_heap_other (by omega)).trans (hbW.block k hk)⟩
    case neg =>
      have hp' : ((r.pls.length : Int) == 0) = false := by simpa using hp
      have hL : Hid (choiceL r a n = plcd r.pls (fitL r a n).length 0 (fitL r a n)) := hide (by unfold choiceL; rw [if_neg hp])
      have hfl := fitL_len r a n
      have hC : Hid (∀ W' x, Below w.heap.size w W' → Calls Tryz.prog 218 #[.slice a4 r.pls.length r.pls.length, .int .i64 x] W' fun e w' => e = .returned (.bool (r.pls.contains x)) ∧ Below W'.heap.size W' w') := hide fun W' x hb => contains_i x (hpl.out.on hb) (by omega)
      clear hpl
      rw [hsz1] at hdef
      obtain ⟨av, cv, rfl⟩ := own_sl hown
      generalize hFF : fitL r a n = F at *
      generalize choiceL r a n = L at *
      gi_wp2_with fail
      clear g0 g1 g2 g3 g4 g5 g6 g7 g8 g9 c5 hFF
      gi_loopg [7, 27] F.length (fun k pv cv wr => ∃ (i : Nat) (pre : List Int), i + k = F.length ∧ cv = .int .i64 i ∧ Below W.heap.size W wr ∧ wr.ownsRow W.heap.size 106 3 pv pre.length (flatD pre) ∧ pre.length ≤ i ∧ Hid (L = pre ++ plcd r.pls F.length i (F.drop i)))
      case atStart => exact ⟨0, [], by omega, rfl, Below.refl _ _, World.ownsRow_nil _ _ _ _, Nat.le_refl _, hide (by rw [hL.out]; rfl)⟩
      case round =>
        clear hL
        obtain ⟨i, pre, hik, rfl, hbr, hpre, hpl', HL⟩ := hrel
        have hdef' := (hbr.block _ (by omega : w.heap.size + 4 < W.heap.size)).trans hdef
        have hsr := hbr.size
        have hbwr := hbW.trans (hbr.mono hbW.size)
        by_cases hi : i = F.length
        case pos =>
          have HL' : Hid (L = pre) := hide (by rw [HL.out, hi, List.drop_length, plcd]; simp)
          clear HL
          subst hi
          gi_wp2_with fail
          refine ⟨by simp, .inl ⟨_, _, rfl, run_takeDeferred hdef', ?_⟩⟩
          refine ⟨_, results_tmp rfl _ _ _, u7, rfl, ?_, ?_⟩
          · rw [HL'.out]
            refine own_low (own_keep hpre fun g hg => World.putObj_heap_other ?_) (by omega)
            have := (hpre.lt g hg).1
            omega
          · exact ⟨hbwr.os, hbwr.tape, hbwr.output, by simp; omega, fun k hk => (World.putObj_heap_other (by omega)).trans (hbwr.block k hk)⟩
        case neg =>
          have hilt : i < F.length := by omega
          obtain ⟨d, hd⟩ : ∃ d, F[i]? = some d := ⟨_, List.getElem?_eq_getElem hilt⟩
          have hownr := own_keep hown (w' := wr) fun g hg => hbr.block g (hown.lt g hg).2
          obtain ⟨gv, cap, hav, hgB, hcap, d0, d1, d2⟩ := own_day hownr hd
          simp only [Value.slice.injEq] at hav
          obtain ⟨rfl, _, rfl⟩ := hav
          have q0' := q0.on hbr
          have q5' := q5.on hbr
          have hba : Below wr.heap.size wr (wr.alloc (.cells #[.int .i64 (Cal.ofY d), .int .i64 (Cal.ofM d), .int .i64 (Cal.ofD d)] 106)) := (Below.refl wr.heap.size wr).alloc (Nat.le_refl _) _
          have hg7 := (q0'.on hba).cell (k := 7) rfl
          have hg5 := (q5'.on hba).cell (k := 0) rfl
          have hst : Hid _ := hide (plcd_step (pls := r.pls) (len := F.length) hd)
          have r9 : RowAt (wr.alloc (.cells #[.int .i64 (Cal.ofY d), .int .i64 (Cal.ofM d), .int .i64 (Cal.ofD d)] 106)) wr.heap.size (dnC d) 106 := RowAt.new wr (dnC d) 106
          have ha9 := hide (hbwr.trans (hba.mono hbwr.size))
          clear hd
          gi_wp2_with fail
          refine ⟨trivial, rfl, (callsIn_wide.2 (hC.out _ _ ha9.out)).mono ?_⟩
          rintro e W5 ⟨rfl, hb5⟩
          replace r9 := r9.on hb5
          have q07 := ((q0'.on hba).on hb5).cell (k := 7) rfl
          have q05 := ((q5'.on hba).on hb5).cell (k := 0) rfl
          have hb5' := hide (hbr.trans ((hba.trans (hb5.mono (by simp))).mono (by omega)))
          have hown5 := own_keep hpre (w' := W5) fun g hg => (hb5.block g (by have := (hpre.lt g hg).2; simp; omega)).trans (hba.block g (hpre.lt g hg).2)
          have hs5 : wr.heap.size < W5.heap.size := r9.lt
          clear hg7 hg5 d0 d1 d2 hb5 hba
          generalize hB1 : r.pls.contains ((i : Int) + 1) = B1 at *
          clear hB1
          cases B1
          case true =>
            obtain ⟨c0, c1, c2, _, _, _⟩ := cells3 r9
            gi_wp2_with fail
            refine ⟨trivial, ?_⟩
            gi_wp2_with (gi_at_builtin; refine Hid.out ?_)
            refine hide ?_
            refine app_in rfl (.tmp 46) (.tmp 48) 372 106 _ 3 24 rfl Tryz.underlying372 infoDay rfl (by decide) W.heap.size u7 pre.length (flatD pre) rfl (hown5.alloc _) (by simp; omega) W5.heap.size (dnC d) rfl rfl (fun j u hj => (RowAt.new W5 (dnC d) 106).cell hj) (by unfold dnC; simp [Value.oneCell']) (by omega) (by decide) ?_
            intro v' W6 hown6 hg6 hat6
            clear hat6
            have hb6 := hide ((hb5'.out.alloc (by omega) _).grown hg6 (by simp; omega) (fun k hk => (hown5.lt k hk).1))
            gi_wp2_with fail
            gi_roundg (gk - 1)
            case measure => omega
            case rel => exact ⟨i + 1, pre ++ [d], by omega, by go_num, hb6.out, by rw [flatD_snoc, List.length_append]; exact hown6, by simp; omega, hide (by rw [HL.out, hst.out]; simp)⟩
          case false =>
            have hb5w := hide (hbW.trans (hb5'.out.mono hbW.size))
            gi_wp2_with fail
            refine ⟨trivial, rfl, (callsIn_wide.2 (hC.out _ _ hb5w.out)).mono ?_⟩
            rintro e W7 ⟨rfl, hb7⟩
            replace r9 := r9.on hb7
            have hb7' := hide (hb5'.out.trans (hb7.mono (by omega)))
            have hown7 := own_keep hown5 (w' := W7) fun g hg => hb7.block g (hown5.lt g hg).2
            have hs7 := hb7.size
            clear q07 q05 hb7 hb5'
            generalize hB2 : r.pls.contains ((i : Int) - F.length) = B2 at *
            clear hB2
            cases B2
            case true =>
              obtain ⟨c0, c1, c2, _, _, _⟩ := cells3 r9
              gi_wp2_with (gi_at_builtin; refine Hid.out ?_)
              refine hide ?_
              refine app_in rfl (.tmp 46) (.tmp 48) 372 106 _ 3 24 rfl Tryz.underlying372 infoDay rfl (by decide) W.heap.size u7 pre.length (flatD pre) rfl (hown7.alloc _) (by simp; omega) W7.heap.size (dnC d) rfl rfl (fun j u hj => (RowAt.new W7 (dnC d) 106).cell hj) (by unfold dnC; simp [Value.oneCell']) (by omega) (by decide) ?_
              intro v' W6 hown6 hg6 hat6
              clear hat6
              have hb6 := hide ((hb7'.out.alloc (by omega) _).grown hg6 (by simp; omega) (fun k hk => (hown7.lt k hk).1))
              gi_wp2_with fail
              gi_roundg (gk - 1)
              case measure => omega
              case rel => exact ⟨i + 1, pre ++ [d], by omega, by go_num, hb6.out, by rw [flatD_snoc, List.length_append]; exact hown6, by simp; omega, hide (by rw [HL.out, hst.out]; simp)⟩
            case false =>
              gi_wp2_with fail
              gi_roundg (gk - 1)
              case measure => omega
              case rel => exact ⟨i + 1, pre, by omega, by go_num, hb7'.out, hown7, by omega, hide (by rw [HL.out, hst.out]; simp)⟩
end Go.Proofs.YthpndgcaoeokeaaGreatDoor
namespace Go.Proofs.YthpndgcaoeokeaaGreatDoor

theorem jan_mBeg (y : Int) : Cal.num y 1 1 = mBeg y 1 := by unfold mBeg; simp
theorem per_bd (r : RuleD) (s k : Int) (s0 : 0 ≤ s) (s1 : s ≤ 84010) (k0 : 0 ≤ k) (k1 : k ≤ kMax r) :
    -400 ≤ perA r s k ∧ perA r s k ≤ perB r s k ∧ perB r s k ≤ perA r s k + 400 ∧ perB r s k ≤ 300000 ∧ (perA r s k ≤ 84010 → k + 100 ≤ kMax r) := by
  have hw := wkIn_bd (s + k * 7) r.ws
  have hm := month_around s (by omega)
  have hy := year_around s (by omega)
  obtain ⟨n, rfl⟩ : ∃ n : Nat, k = n := ⟨k.toNat, by omega⟩
  have h1 := mBeg_up (Cal.ofY s) (Cal.ofM s) n
  have h2 := mBeg_step (Cal.ofY s) (Cal.ofM s + n)
  have h3 := mBeg_up (Cal.ofY s) 1 (12 * n)
  have h4 := mBeg_up (Cal.ofY s) (1 + (12 * n : Nat)) 12
  have e0 := jan_mBeg (Cal.ofY s)
  have e1 : Cal.num (Cal.ofY s + n) 1 1 = mBeg (Cal.ofY s) (1 + (12 * n : Nat)) := by rw [jan_mBeg]; exact mBeg_same (by omega)
  have e2 : Cal.num (Cal.ofY s + n + 1) 1 1 = mBeg (Cal.ofY s) (1 + (12 * n : Nat) + (12 : Nat)) := by rw [jan_mBeg]; exact mBeg_same (by omega)
  unfold kMax at *
  unfold perA perB
  split
  · rw [if_pos (by assumption)] at k1; omega
  · rw [if_neg (by assumption)] at k1
    split
    · rw [if_pos (by assumption)] at k1; omega
    · rw [if_neg (by assumption)] at k1
      split
      · rw [if_pos (by assumption)] at k1; omega
      · rw [if_neg (by assumption)] at k1
        rw [e1, e2]; omega

theorem distD_max (r : RuleD) (s d : Int) (s0 : 0 ≤ s) (s1 : s ≤ d) (d1 : d ≤ 84010) : 0 ≤ distD r s d ∧ distD r s d + 100 ≤ kMax r := by
  have hr := rg_bd s (by omega) (by omega)
  have hrd := rg_bd d (by omega) (by omega)
  have hwi := wkIn_bd s r.ws
  have hle : Cal.ofY s ≤ Cal.ofY d := ofY_mono (by omega) s1
  have hlm := ofYM_mono (by omega) s1
  have hs : 1970 ≤ Cal.ofY s := by have := ofY_mono (a := 0) (b := s) (by omega) s0; have e : Cal.ofY 0 = 1970 := (by decide); omega
  have hd : Cal.ofY d ≤ 2200 := by have := ofY_mono (a := d) (b := 84010) (by omega) d1; have e : Cal.ofY 84010 = 2200 := (by decide); omega
  unfold distD kMax
  split
  · omega
  · split
    · omega
    · split <;> omega
theorem firstD_bd (r : RuleD) (ho : RuleOk r) (s f : Int) (s0 : 0 ≤ s) (s1 : s ≤ 7258118400) (f1 : f ≤ 7258118400) : 0 ≤ firstD r s f ∧ firstD r s f + 100 ≤ kMax r := by
  have hi1 := ho.iv1
  unfold firstD
  split
  · unfold kMax; split <;> (try split) <;> (try split) <;> omega
  · have h := distD_max r (s / 86400) (f / 86400) (by omega) (by omega) (by omega)
    have h1 := Int.emod_nonneg (distD r (s / 86400) (f / 86400)) (b := r.iv) (by omega)
    have h2 := Int.mul_ediv_add_emod (distD r (s / 86400) (f / 86400)) r.iv
    have h3 : 0 ≤ distD r (s / 86400) (f / 86400) / r.iv := Int.ediv_nonneg h.1 (by omega)
    have h4 : 0 ≤ r.iv * (distD r (s / 86400) (f / 86400) / r.iv) := Int.mul_nonneg (by omega) h3
    omega

/-- the days of a period -/
def perN (r : RuleD) (s k : Int) : Nat := (perB r s k - perA r s k).toNat
/-- the choices of the periods in turn, from a distance on, for so many rounds at most -/
def chL (r : RuleD) (s last : Int) : Nat → Int → List Int
  | 0, _ => []
  | g + 1, k => if last < perA r s k * 86400 then [] else choiceL r (perA r s k) (perN r s k) ++ chL r s last g (k + r.iv)
def chosenL (r : RuleD) (start from_ last : Int) : List Int := chL r (start / 86400) last (kMax r).toNat (firstD r start from_)

theorem chL_end (r : RuleD) (s last : Int) (g : Nat) (k : Int) (h : last < perA r s k * 86400) : chL r s last g k = [] := by
  cases g with
  | zero => rfl
  | succ g => rw [chL, if_pos h]
theorem chL_go (r : RuleD) (s last : Int) (g : Nat) (k : Int) (h : ¬ last < perA r s k * 86400) : chL r s last (g + 1) k = choiceL r (perA r s k) (perN r s k) ++ chL r s last g (k + r.iv) := by
  rw [chL, if_neg h]
end Go.Proofs.YthpndgcaoeokeaaGreatDoor
