/- The document's rule (fallowref.rule), whole. -/
import Derived.Test.YthpndgcaoeokeaaGreatDoorE10
namespace Go.Proofs.YthpndgcaoeokeaaGreatDoor
open Go.RowKit

theorem ints_form {w : World} {v : Value} {zs : List Int} (h : IntsAt w v zs) : ∃ a c, v = .slice a zs.length c ∧ ∀ j, j < zs.length → ∃ g off, a = some ⟨g, off, none⟩ ∧ w.cell? ⟨g, off + j, none⟩ = some (.int .i64 (zs.getD j 0)) := by
  rcases h.2 with ⟨rfl, rfl⟩ | ⟨g, off, cap, rfl, _, hc⟩
  · exact ⟨none, 0, rfl, fun j hj => by simp at hj⟩
  · exact ⟨some ⟨g, off, none⟩, cap, rfl, fun j hj => ⟨g, off, rfl, hc j hj⟩⟩
theorem not_run {o : Oper} {a : Act} {w : World} {x : Operand} {b : Bool} (ho : o.op = .unOp .not 4 x) (h : a.eval x = .bool b) : (execOp a.eval o).run Tryz.prog w = .ok (.value (.bool (!b))) w := by
  obtain ⟨_, _, _, _, _, _⟩ := o
  simp only [] at ho
  subst ho
  unfold execOp
  simp only [h]
  cases b <;> kernel_rfl
theorem move_run {o : Oper} {a : Act} {w : World} {x : Operand} {v : Value} (ho : o.op = .move x) (h : a.eval x = v) : (execOp a.eval o).run Tryz.prog w = .ok (.value v) w := by
  obtain ⟨_, _, _, _, _, _⟩ := o
  simp only [] at ho
  subst ho
  unfold execOp
  simp only [h]
  rfl
theorem beq_f {b : Bool} (h : (b == false) = true) : b = false := by cases b <;> simp_all
theorem not_f {b : Bool} (h : (!b) = false) : b = true := by cases b <;> simp_all
theorem assign_run {o : Oper} {a : Act} {w : World} {x : Operand} {v : Value} (ho : o.op = .assign x) (h : a.eval x = v) : (execOp a.eval o).run Tryz.prog w = .ok (.value v) w := by
  obtain ⟨_, _, _, _, _, _⟩ := o
  simp only [] at ho
  subst ho
  unfold execOp
  simp only [h]
  rfl
theorem pick_yes {o : Oper} {a : Act} {w : World} {x y : Operand} (ho : o.op = .pick x (.const (.bool true)) y) (h : a.eval x = .bool true) : (execOp a.eval o).run Tryz.prog w = .ok (.value (.bool true)) w := by
  obtain ⟨_, _, _, _, _, _⟩ := o
  simp only [] at ho
  subst ho
  unfold execOp
  simp only [h]
  kernel_rfl
theorem pick_no {o : Oper} {a : Act} {w : World} {x y : Operand} {b : Bool} (ho : o.op = .pick x (.const (.bool true)) y) (h : a.eval x = .bool false) (hy : a.eval y = .bool b) : (execOp a.eval o).run Tryz.prog w = .ok (.value (.bool b)) w := by
  obtain ⟨_, _, _, _, _, _⟩ := o
  simp only [] at ho
  subst ho
  unfold execOp
  simp only [h, hy]
  kernel_rfl
theorem agree_end {f : Nat → Option (List UInt8)} {os : List Int} {x2 x3 x4 x5 x6 x7 : Bool} {q : Int} (h0 : has f 0 = true) (h2 : has f 2 = x2) (h3 : has f 3 = x3) (h4 : has f 4 = x4) (h5 : has f 5 = x5) (h6 : has f 6 = x6) (h7 : has f 7 = x7) (hq : q = freqOf f) (ho : ordinals f = os.any fun o => decide (o ≠ 0))
    (h23 : (x2 && x3) = false) (h5q : (x5 && decide (q = 2)) = false) (hA : ∀ m, m < os.length → os.getD m 0 = 0 ∨ (decide (q < 3) || x5) = false) : agree f = (!x7 || x4 || x5 || x6) := by
  have hb : (ordinals f && (decide (q < 3) || x5)) = false := by
    cases hc : (decide (q < 3) || x5) with
    | false => rw [Bool.and_false]
    | true =>
      rw [Bool.and_true, ho, List.any_eq_false]
      intro z hz
      obtain ⟨m, hm, rfl⟩ := List.getElem_of_mem hz
      have := (hA m hm).resolve_right (by rw [hc]; simp)
      rw [List.getD_eq_getElem?_getD, List.getElem?_eq_getElem hm] at this
      simpa using this
  unfold agree
  rw [h0, h2, h3, h4, h5, h6, h7, ← hq, h23, h5q, hb]
  rfl
theorem ref_rule {wr w' : World} {p B N : Nat} {cs : List Value} {f : Nat → Option (List UInt8)} (hN : N ≤ B) (h : RuleAt B wr p f f) (cl : cs.length = 19) (co : ∀ x ∈ cs, x.oneCell' = true) (cr : wr.rangeAt p 0 cs) (hk : ∀ g, g < wr.heap.size → B ≤ g → w'.heap[g]? = wr.heap[g]?) : RefRule N w' (.agg cs.toArray) f := by
  have get : ∀ j, j < 19 → ∃ x, cs[j]? = some x ∧ wr.cell? ⟨p, j, none⟩ = some x := fun j hj => by
    have := cr j cs[j] (List.getElem?_eq_getElem (by omega))
    rw [Nat.zero_add] at this
    exact ⟨_, List.getElem?_eq_getElem (by omega), this⟩
  refine ⟨cs, rfl, cl, co, fun j hj => ?_, fun k h9 => ?_⟩
  · obtain ⟨x, h1, h2⟩ := get j (by omega)
    obtain ⟨v, h3, h4⟩ := h.cell j hj
    rw [h2] at h3
    cases h3
    exact ⟨x, B, hN, h1, h4.on hk⟩
  · obtain ⟨x, h1, h2⟩ := get (10 + k) (by omega)
    have h3 := h.text k h9
    rw [h2] at h3
    cases h3
    exact h1
/-- an ordinal where none may be -/
theorem rule_ord {f : Nat → Option (List UInt8)} {os : List Int} {x5 : Bool} {q z : Int} {n : Nat} (ho : ordinals f = os.any fun o => decide (o ≠ 0)) (h5 : has f 5 = x5) (hq : q = freqOf f) (hn : n < os.length) (hz : z = os.getD n 0) (z0 : ¬ z = 0) (hb : (decide (q < 3) || x5) = true) : agree f = false := by
  have : ordinals f = true := by
    rw [ho, List.any_eq_true]
    exact ⟨z, by rw [hz, List.getD_eq_getElem?_getD, List.getElem?_eq_getElem hn]; exact List.getElem_mem hn, by simpa using z0⟩
  unfold agree
  rw [this, h5, ← hq, hb]
  simp

set_option maxRecDepth 100000 in
set_option maxHeartbeats 8000000 in
theorem rule_ref (s : List UInt8) (w : World) (hs : s.length ≤ 1048575) (hn : NamesAt w 2 0 partNames) (hg : 2 < w.heap.size) :
    Calls Tryz.prog 237 #[.string (ba s)] w (RulPost s w) := by
  have hsz : (ba s).size = s.length := by unfold ba; simp [ByteArray.size]
  have q1 := RowAt.new w zero19 243
  have qb1 : Below w.heap.size w (w.alloc (.cells zero19.toArray 243)) := (Below.refl _ _).alloc (Nat.le_refl _) _
  have q2 := RowAt.new (w.alloc (.cells zero19.toArray 243)) zero19 243
  rw [World.size_alloc] at q2
  have q1' := q1.on ((Below.refl _ _).alloc (Nat.le_refl _) (.cells zero19.toArray 243))
  have qb2 : Below w.heap.size w ((w.alloc (.cells zero19.toArray 243)).alloc (.cells zero19.toArray 243)) := qb1.alloc (by simp) _
  have HT := hide (row19_there (n := rule0.toArray.size) q2 rfl)
  obtain ⟨_, qb3, q3⟩ := sets2 (vs := rule0) (o := 0) q2 qb2 (by omega)
  rw [setL_all rule0 zero19 rfl] at q3
  obtain ⟨w3, hw3⟩ : ∃ w3, w3 = ((w.alloc (.cells zero19.toArray 243)).alloc (.cells zero19.toArray 243)).setCells (w.heap.size + 1) 0 rule0 := ⟨_, rfl⟩
  have q4 : RowAt w3 w.heap.size zero19 243 := by rw [hw3]; exact q1'.setsOther (by omega)
  have z3 : w3.heap.size = w.heap.size + 2 := by rw [hw3, setCells_size]; simp
  rw [← hw3] at qb3 q3
  have HW3 := hide hw3
  clear hw3 q1 q1' q2 qb1 qb2
  obtain ⟨w1, hw1⟩ : ∃ w1, w1 = w3.alloc (.cells bools9.toArray 286) := ⟨_, rfl⟩
  have b1 : Below w.heap.size w w1 := by rw [hw1]; exact qb3.alloc (by omega) _
  have z1 : w1.heap.size = w.heap.size + 3 := by rw [hw1]; simp [z3]
  have r1 : RowAt w1 w.heap.size zero19 243 := by rw [hw1]; exact q4.on ((Below.refl _ _).alloc (Nat.le_refl _) _)
  have r2 : RowAt w1 (w.heap.size + 1) rule0 243 := by rw [hw1]; exact q3.on ((Below.refl _ _).alloc (Nat.le_refl _) _)
  have r3 : RowAt w1 (w.heap.size + 2) bools9 286 := by
    rw [hw1]
    have := RowAt.new w3 bools9 286
    rw [z3] at this
    exact this
  have HZ3 := hide z3
  clear q3 q4 qb3 z3
  have CS := split_any (ba s) 59 w1 (by omega)
  have HP := hide (splitF_pos (ba s) 59)
  have HL := hide (splitF_le (ba s) 59)
  have HM := hide (splitF_small (ba s) 59)
  have HQ : Hid (piecesL 59 s = (splitF (ba s) 59).map (·.data.toList)) := hide rfl
  obtain ⟨P, hP⟩ : ∃ P, P = splitF (ba s) 59 := ⟨_, rfl⟩
  rw [← hP] at CS HP HL HM HQ
  have CS := hide CS
  have HW1 := hide hw1
  clear hP hw1
  go_enter Tryz.func237, Tryz.ntmps237
  go_wp2_with (first
    | (refine wpl_value rfl (alloc_rule_run rfl _ _) ?_; try simp only [World.size_alloc])
    | (refine wpl_value rfl (build_rule_run rfl _ _) ?_)
    | (refine wpList_store_mid rfl 243 (.tmp 4) (.tmp 13) rfl (w.heap.size + 1) 0 rule0.toArray rfl rfl ?hT ?hI ?hO ?hW; (case hT => exact HT.out); (case hI => exact infoRefRule); (case hO => exact rule0_one); rw [show rule0.toArray.toList = rule0 from rfl, ← HW3.out])
    | (refine wpl_value rfl (alloc_have_run rfl _ _) ?_; rw [HZ3.out, ← HW1.out])
    | (go_at_call 292; refine (CS.out).mono ?_; rintro e w2 ⟨v, rfl, hown, hb2⟩; obtain ⟨g, cap, rfl, hgB, hat⟩ := own_strs hown HP.out; clear hown))
  have z2 := hb2.size
  have hPl : P.length ≤ 1048576 := by have := HL.out; omega
  have L0 : RuleLoop w w2.heap.size w.heap.size (w.heap.size + 1) (w.heap.size + 2) g P noF w2 :=
    ⟨rule_begin (r2.on hb2), have_begin (r3.on hb2), r1.on hb2, hat, b1.trans (hb2.mono (by omega)), Nat.le_refl _, fun j v h => by cases h⟩
  have HL0 := hide L0
  have hgl : g < w2.heap.size := hat.1
  have hN2 : Hid (NamesAt w2 2 0 partNames) := hide fun j hj => by rw [(b1.trans (hb2.mono (by omega))).cell (p := ⟨2, 0 + j, none⟩) hg]; exact hn j hj
  have HNM := hide hn
  clear L0 r1 r2 r3 CS hat HW1 hb2 hn hN2
  go_loopw [7] (fun i wr => ∃ (k : Nat) (f : Nat → Option (List UInt8)), k ≤ P.length ∧ i = .int .i64 k ∧ Hid (RuleLoop w w2.heap.size w.heap.size (w.heap.size + 1) (w.heap.size + 2) g P f wr) ∧ Hid (flds partNames 61 (piecesL 59 s) (fun _ => none) = flds partNames 61 ((P.map (·.data.toList)).drop k) f)) (fun i _ => P.length - (intOf i).toNat)
  case atStart => exact ⟨0, noF, Nat.zero_le _, rfl, HL0, hide (by rw [HQ.out]; rfl)⟩
  case round =>
    obtain ⟨k, f, hk, rfl, HR, HT⟩ := hrel
    by_cases hlt : k < P.length
    case neg =>
      have HFS : Hid (flds partNames 61 (piecesL 59 s) (fun _ => none) = some f) := hide (by rw [HT.out, List.drop_of_length_le (by rw [List.length_map]; omega)]; rfl)
      clear HT
      have hkl : k = P.length := by omega
      subst hkl
      clear hlt hk
      have c0 := HR.out.have_.cell 0 (by decide)
      have c2 := HR.out.have_.cell 2 (by decide)
      have c3 := HR.out.have_.cell 3 (by decide)
      have c5 := HR.out.have_.cell 5 (by decide)
      obtain ⟨vq, cq, hq⟩ := HR.out.rule.cell 0 (by decide)
      obtain ⟨v8, c8, h8, _⟩ := HR.out.rule.cell 8 (by decide)
      obtain rfl : vq = .int .i64 (freqOf f) := hq
      have HO : Hid (IntsAt wr v8 (dyO (f 6)).2) := hide (own_ints h8.1 h8.2)
      have HOD : Hid (ordinals f = (dyO (f 6)).2.any fun o => decide (o ≠ 0)) := hide (ord_dy f)
      obtain ⟨os, hos⟩ : ∃ os, os = (dyO (f 6)).2 := ⟨_, rfl⟩
      rw [← hos] at HO HOD
      obtain ⟨q, hqe⟩ : ∃ q, q = freqOf f := ⟨_, rfl⟩
      rw [← hqe] at cq
      have HQE := hide hqe
      obtain ⟨x0, hx0⟩ : ∃ x, x = (f 0).isSome := ⟨_, rfl⟩
      obtain ⟨x2, hx2⟩ : ∃ x, x = (f 2).isSome := ⟨_, rfl⟩
      obtain ⟨x3, hx3⟩ : ∃ x, x = (f 3).isSome := ⟨_, rfl⟩
      obtain ⟨x5, hx5⟩ : ∃ x, x = (f 5).isSome := ⟨_, rfl⟩
      rw [← hx0] at c0
      rw [← hx2] at c2
      rw [← hx3] at c3
      rw [← hx5] at c5
      have H0 : Hid (has f 0 = x0) := hide hx0.symm
      have H2 : Hid (has f 2 = x2) := hide hx2.symm
      have H3 : Hid (has f 3 = x3) := hide hx3.symm
      have H5 : Hid (has f 5 = x5) := hide hx5.symm
      clear hos hqe hx0 hx2 hx3 hx5 h8
      cases x0 with
      | false =>
        have HX : Hid (ruleF s = none) := hide (rule_no HFS.out (by unfold agree; rw [H0.out]; rfl))
        clear HO HOD c2 c3 c5 cq c8
        obtain ⟨cs, cl, co, cr⟩ : Cells19 wr (w.heap.size + 1) := HR.out.rule.cells
        have HCR := hide cr
        have HCL := hide cl
        have HCO : Hid (cs.toArray.all (·.oneCell') = true) := hide (all_oneCell_toArray co)
        have HCI : Hid ((Tryz.prog.info? 243).map (·.size) = some cs.length) := hide (by rw [cl]; exact infoRefRule)
        have HRW : Hid (RowAt wr w.heap.size zero19 243) := hide HR.out.res
        have HBL : Hid (Below w.heap.size w wr) := hide HR.out.below
        have HCT : Hid (wr.there w.heap.size 0 cs.toArray.size) := hide (row19_there HRW.out (by simpa using HCL.out))
        have HCJ : Hid ((Tryz.prog.info? 243).map (·.size) = some cs.toArray.size) := hide (by rw [List.size_toArray]; exact HCI.out)
        clear cr cl co
        go_upto_region 16 with fail
        go_wp2_with (first
          | (refine wpList_load_mid rfl 243 (.tmp 4) rfl (w.heap.size + 1) 0 rfl cs _ HCR.out Tryz.underlying243 rfl HCI.out ?_)
          | (refine wpList_store_mid rfl 243 (.tmp 2) (.tmp 75) rfl w.heap.size 0 cs.toArray rfl rfl HCT.out HCJ.out HCO.out ?_))
        exact rule_end (b := false) HRW.out HBL.out HCL.out HCO.out (by rfl) (by rfl) (fun _ => HX.out) (fun h => by cases h)
      | true =>
        by_cases h23 : x2 = true ∧ x3 = true
        case pos =>
          obtain ⟨rfl, rfl⟩ := h23
          have HX : Hid (ruleF s = none) := hide (rule_no HFS.out (by unfold agree; rw [H0.out, H2.out, H3.out]; rfl))
          clear HO HOD c5 cq c8
          obtain ⟨cs, cl, co, cr⟩ : Cells19 wr (w.heap.size + 1) := HR.out.rule.cells
          have HCR := hide cr
          have HCL := hide cl
          have HCO : Hid (cs.toArray.all (·.oneCell') = true) := hide (all_oneCell_toArray co)
          have HCI : Hid ((Tryz.prog.info? 243).map (·.size) = some cs.length) := hide (by rw [cl]; exact infoRefRule)
          have HRW : Hid (RowAt wr w.heap.size zero19 243) := hide HR.out.res
          have HBL : Hid (Below w.heap.size w wr) := hide HR.out.below
          have HCT : Hid (wr.there w.heap.size 0 cs.toArray.size) := hide (row19_there HRW.out (by simpa using HCL.out))
          have HCJ : Hid ((Tryz.prog.info? 243).map (·.size) = some cs.toArray.size) := hide (by rw [List.size_toArray]; exact HCI.out)
          clear cr cl co
          go_upto_region 16 with fail
          go_wp2_with (first
            | (refine wpList_load_mid rfl 243 (.tmp 4) rfl (w.heap.size + 1) 0 rfl cs _ HCR.out Tryz.underlying243 rfl HCI.out ?_)
            | (refine wpList_store_mid rfl 243 (.tmp 2) (.tmp 75) rfl w.heap.size 0 cs.toArray rfl rfl HCT.out HCJ.out HCO.out ?_))
          exact rule_end (b := false) HRW.out HBL.out HCL.out HCO.out (by rfl) (by rfl) (fun _ => HX.out) (fun h => by cases h)
        case neg =>
          by_cases h5q : x5 = true ∧ q = 2
          case pos =>
            obtain ⟨rfl, rfl⟩ := h5q
            have HX : Hid (ruleF s = none) := hide (rule_no HFS.out (by unfold agree; rw [H5.out, ← HQE.out]; simp))
            clear HO HOD c8
            rcases (show x2 = false ∨ (x2 = true ∧ x3 = false) by cases x2 <;> cases x3 <;> simp_all) with rfl | ⟨rfl, rfl⟩
            · clear h23
              obtain ⟨cs, cl, co, cr⟩ : Cells19 wr (w.heap.size + 1) := HR.out.rule.cells
              have HCR := hide cr
              have HCL := hide cl
              have HCO : Hid (cs.toArray.all (·.oneCell') = true) := hide (all_oneCell_toArray co)
              have HCI : Hid ((Tryz.prog.info? 243).map (·.size) = some cs.length) := hide (by rw [cl]; exact infoRefRule)
              have HRW : Hid (RowAt wr w.heap.size zero19 243) := hide HR.out.res
              have HBL : Hid (Below w.heap.size w wr) := hide HR.out.below
              have HCT : Hid (wr.there w.heap.size 0 cs.toArray.size) := hide (row19_there HRW.out (by simpa using HCL.out))
              have HCJ : Hid ((Tryz.prog.info? 243).map (·.size) = some cs.toArray.size) := hide (by rw [List.size_toArray]; exact HCI.out)
              clear cr cl co
              go_upto_region 16 with fail
              go_wp2_with (first
                | (refine wpList_load_mid rfl 243 (.tmp 4) rfl (w.heap.size + 1) 0 rfl cs _ HCR.out Tryz.underlying243 rfl HCI.out ?_)
                | (refine wpList_store_mid rfl 243 (.tmp 2) (.tmp 75) rfl w.heap.size 0 cs.toArray rfl rfl HCT.out HCJ.out HCO.out ?_))
              exact rule_end (b := false) HRW.out HBL.out HCL.out HCO.out (by rfl) (by rfl) (fun _ => HX.out) (fun h => by cases h)
            · clear h23
              obtain ⟨cs, cl, co, cr⟩ : Cells19 wr (w.heap.size + 1) := HR.out.rule.cells
              have HCR := hide cr
              have HCL := hide cl
              have HCO : Hid (cs.toArray.all (·.oneCell') = true) := hide (all_oneCell_toArray co)
              have HCI : Hid ((Tryz.prog.info? 243).map (·.size) = some cs.length) := hide (by rw [cl]; exact infoRefRule)
              have HRW : Hid (RowAt wr w.heap.size zero19 243) := hide HR.out.res
              have HBL : Hid (Below w.heap.size w wr) := hide HR.out.below
              have HCT : Hid (wr.there w.heap.size 0 cs.toArray.size) := hide (row19_there HRW.out (by simpa using HCL.out))
              have HCJ : Hid ((Tryz.prog.info? 243).map (·.size) = some cs.toArray.size) := hide (by rw [List.size_toArray]; exact HCI.out)
              clear cr cl co
              go_upto_region 16 with fail
              go_wp2_with (first
                | (refine wpList_load_mid rfl 243 (.tmp 4) rfl (w.heap.size + 1) 0 rfl cs _ HCR.out Tryz.underlying243 rfl HCI.out ?_)
                | (refine wpList_store_mid rfl 243 (.tmp 2) (.tmp 75) rfl w.heap.size 0 cs.toArray rfl rfl HCT.out HCJ.out HCO.out ?_))
              exact rule_end (b := false) HRW.out HBL.out HCL.out HCO.out (by rfl) (by rfl) (fun _ => HX.out) (fun h => by cases h)
          case neg =>
            obtain ⟨a8, e8, rfl, hcs8⟩ := ints_form HO.out
            have HC8 := hide hcs8
            have hol : os.length ≤ 1048576 := HO.out.1
            clear HO hcs8
            rcases (show x2 = false ∨ (x2 = true ∧ x3 = false) by cases x2 <;> cases x3 <;> simp_all) with rfl | ⟨rfl, rfl⟩
            · cases x5 with
              | false =>
                clear h23 h5q
                go_wp2
                go_loop [12] (fun i => ∃ n : Nat, n ≤ os.length ∧ i = .int .i64 n ∧ Hid (∀ m, m < n → os.getD m 0 = 0 ∨ (decide (q < 3) || false) = false)) (fun i => os.length - (intOf i).toNat)
                case atStart => exact ⟨0, Nat.zero_le _, rfl, hide (fun m hm => absurd hm (by omega))⟩
                case round =>
                  obtain ⟨n, hn, rfl, HA⟩ := hrel
                  by_cases hlt : n < os.length
                  case pos =>
                    obtain ⟨g8, o8, rfl, hz⟩ := HC8.out n hlt
                    obtain ⟨z, hze⟩ : ∃ z, z = os.getD n 0 := ⟨_, rfl⟩
                    rw [← hze] at hz
                    have HZ := hide hze
                    clear hze
                    by_cases z0 : z = 0
                    case pos =>
                      subst z0
                      go_wp2
                      go_round
                      case rel => exact ⟨n + 1, by omega, by go_num, hide (fun m hm => by
                        by_cases e : m = n
                        · subst e; exact .inl HZ.out.symm
                        · exact HA.out m (by omega))⟩
                      case measure => simp [intOf]; omega
                    case neg =>
                      have g0 : (z != 0) = true := by simpa using z0
                      have HX : Hid ((decide (q < 3) || false) = true → ruleF s = none) := hide (fun hb => rule_no HFS.out (rule_ord HOD.out H5.out HQE.out hlt HZ.out z0 hb))
                      clear z0
                      by_cases q3 : q < 3
                      case pos =>
                        have HX2 : Hid (ruleF s = none) := hide (HX.out (by simp [q3]))
                        clear HX
                        obtain ⟨cs, cl, co, cr⟩ : Cells19 wr (w.heap.size + 1) := HR.out.rule.cells
                        have HCR := hide cr
                        have HCL := hide cl
                        have HCO : Hid (cs.toArray.all (·.oneCell') = true) := hide (all_oneCell_toArray co)
                        have HCI : Hid ((Tryz.prog.info? 243).map (·.size) = some cs.length) := hide (by rw [cl]; exact infoRefRule)
                        have HRW : Hid (RowAt wr w.heap.size zero19 243) := hide HR.out.res
                        have HBL : Hid (Below w.heap.size w wr) := hide HR.out.below
                        have HCT : Hid (wr.there w.heap.size 0 cs.toArray.size) := hide (row19_there HRW.out (by simpa using HCL.out))
                        have HCJ : Hid ((Tryz.prog.info? 243).map (·.size) = some cs.toArray.size) := hide (by rw [List.size_toArray]; exact HCI.out)
                        clear cr cl co
                        go_upto_region 21 with fail
                        go_wp2_with (first
                          | (refine wpList_load_mid rfl 243 (.tmp 4) rfl (w.heap.size + 1) 0 rfl cs _ HCR.out Tryz.underlying243 rfl HCI.out ?_)
                          | (refine wpList_store_mid rfl 243 (.tmp 2) (.tmp 98) rfl w.heap.size 0 cs.toArray rfl rfl HCT.out HCJ.out HCO.out ?_))
                        exact rule_end (b := false) HRW.out HBL.out HCL.out HCO.out (by rfl) (by rfl) (fun _ => HX2.out) (fun h => by cases h)
                      case neg =>
                        clear HX
                        go_wp2
                        go_round
                        case rel => exact ⟨n + 1, by omega, by go_num, hide (fun m hm => by
                          by_cases e : m = n
                          · subst e; exact .inr (by simp [q3])
                          · exact HA.out m (by omega))⟩
                        case measure => simp [intOf]; omega
                  case neg =>
                    have hnl : n = os.length := by omega
                    subst hnl
                    clear hn hlt
                    go_upto_region 22 with fail
                    rename_i K0 hK0
                    obtain ⟨cs, cl, co, cr⟩ : Cells19 wr (w.heap.size + 1) := HR.out.rule.cells
                    have hin : (Tryz.prog.info? 243).map (·.size) = some cs.length := by rw [cl]; exact infoRefRule
                    obtain ⟨x4, hx4⟩ : ∃ x, x = (f 4).isSome := ⟨_, rfl⟩
                    obtain ⟨x6, hx6⟩ : ∃ x, x = (f 6).isSome := ⟨_, rfl⟩
                    obtain ⟨x7, hx7⟩ : ∃ x, x = (f 7).isSome := ⟨_, rfl⟩
                    have d4 := HR.out.have_.cell 4 (by decide)
                    have d6 := HR.out.have_.cell 6 (by decide)
                    have d7 := HR.out.have_.cell 7 (by decide)
                    rw [← hx4] at d4
                    rw [← hx6] at d6
                    rw [← hx7] at d7
                    refine wp_region_gd (G22 w.heap.size (w.heap.size + 2) cs x4 false x6 x7) (J22 wr w.heap.size (w.heap.size + 1) (w.heap.size + 2) cs x4 false x6 x7) (by kernel_rfl) (by kernel_rfl) ?_ ?_ ?_
                    rotate_left 2
                    · exact ⟨rfl, rfl, rfl, rfl, rfl, d4, c5, d6, d7, cr, ⟨zero19, rfl, HR.out.res⟩, (Exc.refl _ _).drew⟩
                    · intro i o ho a w' hI hG
                      have hi : i < 18 := (Array.getElem?_eq_some_iff.1 ho).1
                      have hor : i = 0 ∨ i = 1 ∨ i = 2 ∨ i = 3 ∨ i = 4 ∨ i = 5 ∨ i = 6 ∨ i = 7 ∨ i = 8 ∨ i = 9 ∨ i = 10 ∨ i = 11 ∨ i = 12 ∨ i = 13 ∨ i = 14 ∨ i = 15 ∨ i = 16 ∨ i = 17 := by omega
                      rcases hor with rfl | rfl | rfl | rfl | rfl | rfl | rfl | rfl | rfl | rfl | rfl | rfl | rfl | rfl | rfl | rfl | rfl | rfl <;> obtain rfl := Option.some.inj ho
                      · -- 0
                        rw [if_pos (wanted_none rfl)]
                        exact op_value (v := .agg cs.toArray) (run_value (by show (Instr.loadAt 243 (a.eval (.tmp 4))).run _ _ = _; rw [hI.s4]; exact run_loadAt_mid w' (w.heap.size + 1) 0 243 cs _ hI.rule Tryz.underlying243 rfl hin)) (step22 rfl (by decide) hI (show N22 _ cs x4 false x6 x7 0 _ from rfl) rfl)
                      · -- 1
                        rw [if_pos (wanted_none rfl)]
                        exact op_value (v := .pointer (some ⟨w.heap.size + 2, 7, none⟩)) (run_value (by show (Instr.indexAt 286 (a.eval (.tmp 5)) (.int .i64 7)).run _ _ = _; rw [hI.s5]; exact haveAt_run _ 7 (by decide) w')) (step22 rfl (by decide) hI (show N22 _ cs x4 false x6 x7 1 _ from rfl) rfl)
                      · -- 2
                        rw [if_pos (wanted_none rfl)]
                        have e : a.eval (.tmp 100) = .pointer (some ⟨w.heap.size + 2, 7, none⟩) := G22_val (hG ⟨1, .data⟩ (by simp) rfl) (by decide)
                        exact op_value (v := .bool x7) (run_value (by show (Instr.loadAt 4 (a.eval (.tmp 100))).run _ _ = _; rw [e]; exact boolLoad_run hI.c7)) (step22 rfl (by decide) hI (show N22 _ cs x4 false x6 x7 2 _ from rfl) rfl)
                      · -- 3
                        rw [if_pos (wanted_none rfl)]
                        have e : a.eval (.tmp 101) = .bool x7 := G22_val (hG ⟨2, .data⟩ (by simp) rfl) (by decide)
                        exact op_value (v := .bool (!x7)) (not_run rfl e) (step22 rfl (by decide) hI (show N22 _ cs x4 false x6 x7 3 _ from rfl) rfl)
                      · -- 4
                        rw [if_pos (wanted_none rfl)]
                        have e : a.eval (.tmp 102) = .bool (!x7) := G22_val (hG ⟨3, .data⟩ (by simp) rfl) (by decide)
                        exact op_value (v := .bool (!x7)) (move_run rfl e) (step22 rfl (by decide) hI (show N22 _ cs x4 false x6 x7 4 _ from rfl) rfl)
                      · -- 5
                        have e : a.eval (.tmp 103) = .bool (!x7) := G22_val (hG ⟨4, .guard⟩ (by simp) rfl) (by decide)
                        rw [wanted_some (j := 4) (d := 103) (want := false) rfl rfl rfl (by rw [hI.size]; decide) e]
                        split
                        · exact op_value (v := .pointer (some ⟨w.heap.size + 2, 4, none⟩)) (run_value (by show (Instr.indexAt 286 (a.eval (.tmp 5)) (.int .i64 4)).run _ _ = _; rw [hI.s5]; exact haveAt_run _ 4 (by decide) w')) (step22 rfl (by decide) hI (show N22 _ cs x4 false x6 x7 5 _ from fun _ => rfl) rfl)
                        · rename_i hnw
                          exact step22 rfl (by decide) hI (show N22 _ cs x4 false x6 x7 5 _ from fun h => by rw [h] at hnw; exact absurd rfl hnw) rfl
                      · -- 6
                        have e : a.eval (.tmp 103) = .bool (!x7) := G22_val (hG ⟨4, .guard⟩ (by simp) rfl) (by decide)
                        have e5 : x7 = true → a.eval (.tmp 104) = .pointer (some ⟨w.heap.size + 2, 4, none⟩) := G22_val (hG ⟨5, .data⟩ (by simp) rfl) (by decide)
                        rw [wanted_some (j := 4) (d := 103) (want := false) rfl rfl rfl (by rw [hI.size]; decide) e]
                        split
                        · rename_i hw
                          exact op_value (v := .bool x4) (run_value (by show (Instr.loadAt 4 (a.eval (.tmp 104))).run _ _ = _; rw [e5 (not_f (beq_f hw))]; exact boolLoad_run hI.c4)) (step22 rfl (by decide) hI (show N22 _ cs x4 false x6 x7 6 _ from fun _ => rfl) rfl)
                        · rename_i hnw
                          exact step22 rfl (by decide) hI (show N22 _ cs x4 false x6 x7 6 _ from fun h => by rw [h] at hnw; exact absurd rfl hnw) rfl
                      · -- 7
                        rw [if_pos (wanted_none rfl)]
                        have e : a.eval (.tmp 103) = .bool (!x7) := G22_val (hG ⟨4, .data⟩ (by simp) rfl) (by decide)
                        have e2 : x7 = true → a.eval (.tmp 105) = .bool x4 := G22_val (hG ⟨6, .data⟩ (by simp) rfl) (by decide)
                        cases hb : (!x7) with
                        | true => exact op_value (v := .bool true) (pick_yes rfl (e.trans (by rw [hb]))) (step22 rfl (by decide) hI (show N22 _ cs x4 false x6 x7 7 _ from by show Value.bool true = .bool ((!x7) || x4); rw [hb]; rfl) rfl)
                        | false => exact op_value (v := .bool x4) (pick_no rfl (e.trans (by rw [hb])) (e2 (not_f hb))) (step22 rfl (by decide) hI (show N22 _ cs x4 false x6 x7 7 _ from by show Value.bool x4 = .bool ((!x7) || x4); rw [hb]; rfl) rfl)
                      · -- 8
                        rw [if_pos (wanted_none rfl)]
                        have e : a.eval (.tmp 106) = .bool (!x7 || x4) := G22_val (hG ⟨7, .data⟩ (by simp) rfl) (by decide)
                        exact op_value (v := .bool (!x7 || x4)) (move_run rfl e) (step22 rfl (by decide) hI (show N22 _ cs x4 false x6 x7 8 _ from rfl) rfl)
                      · -- 9
                        have e : a.eval (.tmp 107) = .bool (!x7 || x4) := G22_val (hG ⟨8, .guard⟩ (by simp) rfl) (by decide)
                        rw [wanted_some (j := 8) (d := 107) (want := false) rfl rfl rfl (by rw [hI.size]; decide) e]
                        split
                        · exact op_value (v := .pointer (some ⟨w.heap.size + 2, 5, none⟩)) (run_value (by show (Instr.indexAt 286 (a.eval (.tmp 5)) (.int .i64 5)).run _ _ = _; rw [hI.s5]; exact haveAt_run _ 5 (by decide) w')) (step22 rfl (by decide) hI (show N22 _ cs x4 false x6 x7 9 _ from fun _ => rfl) rfl)
                        · rename_i hnw
                          exact step22 rfl (by decide) hI (show N22 _ cs x4 false x6 x7 9 _ from fun h => by rw [h] at hnw; exact absurd rfl hnw) rfl
                      · -- 10
                        have e : a.eval (.tmp 107) = .bool (!x7 || x4) := G22_val (hG ⟨8, .guard⟩ (by simp) rfl) (by decide)
                        have e5 : (!x7 || x4) = false → a.eval (.tmp 108) = .pointer (some ⟨w.heap.size + 2, 5, none⟩) := G22_val (hG ⟨9, .data⟩ (by simp) rfl) (by decide)
                        rw [wanted_some (j := 8) (d := 107) (want := false) rfl rfl rfl (by rw [hI.size]; decide) e]
                        split
                        · rename_i hw
                          exact op_value (v := .bool false) (run_value (by show (Instr.loadAt 4 (a.eval (.tmp 108))).run _ _ = _; rw [e5 (beq_f hw)]; exact boolLoad_run hI.c5)) (step22 rfl (by decide) hI (show N22 _ cs x4 false x6 x7 10 _ from fun _ => rfl) rfl)
                        · rename_i hnw
                          exact step22 rfl (by decide) hI (show N22 _ cs x4 false x6 x7 10 _ from fun h => by rw [h] at hnw; exact absurd rfl hnw) rfl
                      · -- 11
                        rw [if_pos (wanted_none rfl)]
                        have e : a.eval (.tmp 107) = .bool (!x7 || x4) := G22_val (hG ⟨8, .data⟩ (by simp) rfl) (by decide)
                        have e2 : (!x7 || x4) = false → a.eval (.tmp 109) = .bool false := G22_val (hG ⟨10, .data⟩ (by simp) rfl) (by decide)
                        cases hb : (!x7 || x4) with
                        | true => exact op_value (v := .bool true) (pick_yes rfl (e.trans (by rw [hb]))) (step22 rfl (by decide) hI (show N22 _ cs x4 false x6 x7 11 _ from by show Value.bool true = .bool ((!x7 || x4) || false); rw [hb]; rfl) rfl)
                        | false => exact op_value (v := .bool false) (pick_no rfl (e.trans (by rw [hb])) (e2 hb)) (step22 rfl (by decide) hI (show N22 _ cs x4 false x6 x7 11 _ from by show Value.bool false = .bool ((!x7 || x4) || false); rw [hb]; rfl) rfl)
                      · -- 12
                        rw [if_pos (wanted_none rfl)]
                        have e : a.eval (.tmp 110) = .bool (!x7 || x4 || false) := G22_val (hG ⟨11, .data⟩ (by simp) rfl) (by decide)
                        exact op_value (v := .bool (!x7 || x4 || false)) (move_run rfl e) (step22 rfl (by decide) hI (show N22 _ cs x4 false x6 x7 12 _ from rfl) rfl)
                      · -- 13
                        have e : a.eval (.tmp 111) = .bool (!x7 || x4 || false) := G22_val (hG ⟨12, .guard⟩ (by simp) rfl) (by decide)
                        rw [wanted_some (j := 12) (d := 111) (want := false) rfl rfl rfl (by rw [hI.size]; decide) e]
                        split
                        · exact op_value (v := .pointer (some ⟨w.heap.size + 2, 6, none⟩)) (run_value (by show (Instr.indexAt 286 (a.eval (.tmp 5)) (.int .i64 6)).run _ _ = _; rw [hI.s5]; exact haveAt_run _ 6 (by decide) w')) (step22 rfl (by decide) hI (show N22 _ cs x4 false x6 x7 13 _ from fun _ => rfl) rfl)
                        · rename_i hnw
                          exact step22 rfl (by decide) hI (show N22 _ cs x4 false x6 x7 13 _ from fun h => by rw [h] at hnw; exact absurd rfl hnw) rfl
                      · -- 14
                        have e : a.eval (.tmp 111) = .bool (!x7 || x4 || false) := G22_val (hG ⟨12, .guard⟩ (by simp) rfl) (by decide)
                        have e5 : (!x7 || x4 || false) = false → a.eval (.tmp 112) = .pointer (some ⟨w.heap.size + 2, 6, none⟩) := G22_val (hG ⟨13, .data⟩ (by simp) rfl) (by decide)
                        rw [wanted_some (j := 12) (d := 111) (want := false) rfl rfl rfl (by rw [hI.size]; decide) e]
                        split
                        · rename_i hw
                          exact op_value (v := .bool x6) (run_value (by show (Instr.loadAt 4 (a.eval (.tmp 112))).run _ _ = _; rw [e5 (beq_f hw)]; exact boolLoad_run hI.c6)) (step22 rfl (by decide) hI (show N22 _ cs x4 false x6 x7 14 _ from fun _ => rfl) rfl)
                        · rename_i hnw
                          exact step22 rfl (by decide) hI (show N22 _ cs x4 false x6 x7 14 _ from fun h => by rw [h] at hnw; exact absurd rfl hnw) rfl
                      · -- 15
                        rw [if_pos (wanted_none rfl)]
                        have e : a.eval (.tmp 111) = .bool (!x7 || x4 || false) := G22_val (hG ⟨12, .data⟩ (by simp) rfl) (by decide)
                        have e2 : (!x7 || x4 || false) = false → a.eval (.tmp 113) = .bool x6 := G22_val (hG ⟨14, .data⟩ (by simp) rfl) (by decide)
                        cases hb : (!x7 || x4 || false) with
                        | true => exact op_value (v := .bool true) (pick_yes rfl (e.trans (by rw [hb]))) (step22 rfl (by decide) hI (show N22 _ cs x4 false x6 x7 15 _ from by show Value.bool true = .bool ((!x7 || x4 || false) || x6); rw [hb]; rfl) rfl)
                        | false => exact op_value (v := .bool x6) (pick_no rfl (e.trans (by rw [hb])) (e2 hb)) (step22 rfl (by decide) hI (show N22 _ cs x4 false x6 x7 15 _ from by show Value.bool x6 = .bool ((!x7 || x4 || false) || x6); rw [hb]; rfl) rfl)
                      · -- 16
                        rw [if_pos (wanted_none rfl)]
                        have e : a.eval (.tmp 99) = .agg cs.toArray := G22_val (hG ⟨0, .data⟩ (by simp) rfl) (by decide)
                        obtain ⟨ht, hend⟩ := store22 (ops := _) hI cl (by omega) (by omega)
                        exact op_skip (run_unit (by show (Instr.storeAt 243 (a.eval (.tmp 2)) (a.eval (.tmp 99))).run _ _ = _; rw [hI.s2, e]; exact run_storeAt_mid w' w.heap.size 0 243 cs.toArray ht (by rw [List.size_toArray]; exact hin) (all_oneCell_toArray co))) hend
                      · -- 17
                        rw [if_pos (wanted_none rfl)]
                        have e : a.eval (.tmp 114) = .bool (!x7 || x4 || false || x6) := G22_val (hG ⟨15, .data⟩ (by simp) rfl) (by decide)
                        exact op_value (v := .bool (!x7 || x4 || false || x6)) (assign_run rfl e) (answer22 hI rfl rfl)
                    · intro a w' hI hG
                      refine hK0 _ _ ?_
                      have g16 := hG 16 (by decide)
                      have g17 := hG 17 (by decide)
                      unfold G22 at g16 g17
                      rw [if_pos rfl] at g16
                      rw [if_neg (by decide), if_pos rfl] at g17
                      have hag : agree f = (!x7 || x4 || false || x6) := agree_end H0.out H2.out H3.out hx4.symm H5.out hx6.symm hx7.symm HQE.out HOD.out (by simp) (by simp_all) HA.out
                      have hs2 := hI.s2
                      have hdf := hI.defers
                      have hbl : Below w.heap.size w w' := HR.out.below.trans (hI.exc.below HR.out.below.size (fun k hk => by omega))
                      have hrr : RefRule w.heap.size w' (.agg cs.toArray) f := ref_rule (N := w.heap.size) (by omega) HR.out.rule cl co cr (fun g _ hg => hI.exc.block g (by omega) (by omega))
                      obtain ⟨tm, df⟩ := a
                      simp only [] at hdf
                      subst hdf
                      refine wp_ret ?_
                      exact rule_end2 (b := (!x7 || x4 || false || x6)) g16 hbl cl (all_oneCell_toArray co) hs2 g17 (fun hb => rule_no HFS.out (hag.trans hb)) (fun hb => ⟨f, rule_yes HFS.out HR.out.ok (hag.trans hb), hrr⟩)
              | true =>
                have hq2 : (q == 2) = false := by simpa using h5q
                clear h23 h5q
                go_wp2
                go_loop [12] (fun i => ∃ n : Nat, n ≤ os.length ∧ i = .int .i64 n ∧ Hid (∀ m, m < n → os.getD m 0 = 0 ∨ (decide (q < 3) || true) = false)) (fun i => os.length - (intOf i).toNat)
                case atStart => exact ⟨0, Nat.zero_le _, rfl, hide (fun m hm => absurd hm (by omega))⟩
                case round =>
                  obtain ⟨n, hn, rfl, HA⟩ := hrel
                  by_cases hlt : n < os.length
                  case pos =>
                    obtain ⟨g8, o8, rfl, hz⟩ := HC8.out n hlt
                    obtain ⟨z, hze⟩ : ∃ z, z = os.getD n 0 := ⟨_, rfl⟩
                    rw [← hze] at hz
                    have HZ := hide hze
                    clear hze
                    by_cases z0 : z = 0
                    case pos =>
                      subst z0
                      go_wp2
                      go_round
                      case rel => exact ⟨n + 1, by omega, by go_num, hide (fun m hm => by
                        by_cases e : m = n
                        · subst e; exact .inl HZ.out.symm
                        · exact HA.out m (by omega))⟩
                      case measure => simp [intOf]; omega
                    case neg =>
                      have g0 : (z != 0) = true := by simpa using z0
                      have HX : Hid ((decide (q < 3) || true) = true → ruleF s = none) := hide (fun hb => rule_no HFS.out (rule_ord HOD.out H5.out HQE.out hlt HZ.out z0 hb))
                      clear z0
                      by_cases q3 : q < 3
                      case pos =>
                        have HX2 : Hid (ruleF s = none) := hide (HX.out (by simp [q3]))
                        clear HX
                        obtain ⟨cs, cl, co, cr⟩ : Cells19 wr (w.heap.size + 1) := HR.out.rule.cells
                        have HCR := hide cr
                        have HCL := hide cl
                        have HCO : Hid (cs.toArray.all (·.oneCell') = true) := hide (all_oneCell_toArray co)
                        have HCI : Hid ((Tryz.prog.info? 243).map (·.size) = some cs.length) := hide (by rw [cl]; exact infoRefRule)
                        have HRW : Hid (RowAt wr w.heap.size zero19 243) := hide HR.out.res
                        have HBL : Hid (Below w.heap.size w wr) := hide HR.out.below
                        have HCT : Hid (wr.there w.heap.size 0 cs.toArray.size) := hide (row19_there HRW.out (by simpa using HCL.out))
                        have HCJ : Hid ((Tryz.prog.info? 243).map (·.size) = some cs.toArray.size) := hide (by rw [List.size_toArray]; exact HCI.out)
                        clear cr cl co
                        go_upto_region 21 with fail
                        go_wp2_with (first
                          | (refine wpList_load_mid rfl 243 (.tmp 4) rfl (w.heap.size + 1) 0 rfl cs _ HCR.out Tryz.underlying243 rfl HCI.out ?_)
                          | (refine wpList_store_mid rfl 243 (.tmp 2) (.tmp 98) rfl w.heap.size 0 cs.toArray rfl rfl HCT.out HCJ.out HCO.out ?_))
                        exact rule_end (b := false) HRW.out HBL.out HCL.out HCO.out (by rfl) (by rfl) (fun _ => HX2.out) (fun h => by cases h)
                      case neg =>
                        have HX2 : Hid (ruleF s = none) := hide (HX.out (by simp))
                        clear HX
                        obtain ⟨cs, cl, co, cr⟩ : Cells19 wr (w.heap.size + 1) := HR.out.rule.cells
                        have HCR := hide cr
                        have HCL := hide cl
                        have HCO : Hid (cs.toArray.all (·.oneCell') = true) := hide (all_oneCell_toArray co)
                        have HCI : Hid ((Tryz.prog.info? 243).map (·.size) = some cs.length) := hide (by rw [cl]; exact infoRefRule)
                        have HRW : Hid (RowAt wr w.heap.size zero19 243) := hide HR.out.res
                        have HBL : Hid (Below w.heap.size w wr) := hide HR.out.below
                        have HCT : Hid (wr.there w.heap.size 0 cs.toArray.size) := hide (row19_there HRW.out (by simpa using HCL.out))
                        have HCJ : Hid ((Tryz.prog.info? 243).map (·.size) = some cs.toArray.size) := hide (by rw [List.size_toArray]; exact HCI.out)
                        clear cr cl co
                        go_upto_region 21 with fail
                        go_wp2_with (first
                          | (refine wpList_load_mid rfl 243 (.tmp 4) rfl (w.heap.size + 1) 0 rfl cs _ HCR.out Tryz.underlying243 rfl HCI.out ?_)
                          | (refine wpList_store_mid rfl 243 (.tmp 2) (.tmp 98) rfl w.heap.size 0 cs.toArray rfl rfl HCT.out HCJ.out HCO.out ?_))
                        exact rule_end (b := false) HRW.out HBL.out HCL.out HCO.out (by rfl) (by rfl) (fun _ => HX2.out) (fun h => by cases h)
                  case neg =>
                    have hnl : n = os.length := by omega
                    subst hnl
                    clear hn hlt
                    go_upto_region 22 with fail
                    rename_i K0 hK0
                    obtain ⟨cs, cl, co, cr⟩ : Cells19 wr (w.heap.size + 1) := HR.out.rule.cells
                    have hin : (Tryz.prog.info? 243).map (·.size) = some cs.length := by rw [cl]; exact infoRefRule
                    obtain ⟨x4, hx4⟩ : ∃ x, x = (f 4).isSome := ⟨_, rfl⟩
                    obtain ⟨x6, hx6⟩ : ∃ x, x = (f 6).isSome := ⟨_, rfl⟩
                    obtain ⟨x7, hx7⟩ : ∃ x, x = (f 7).isSome := ⟨_, rfl⟩
                    have d4 := HR.out.have_.cell 4 (by decide)
                    have d6 := HR.out.have_.cell 6 (by decide)
                    have d7 := HR.out.have_.cell 7 (by decide)
                    rw [← hx4] at d4
                    rw [← hx6] at d6
                    rw [← hx7] at d7
                    refine wp_region_gd (G22 w.heap.size (w.heap.size + 2) cs x4 true x6 x7) (J22 wr w.heap.size (w.heap.size + 1) (w.heap.size + 2) cs x4 true x6 x7) (by kernel_rfl) (by kernel_rfl) ?_ ?_ ?_
                    rotate_left 2
                    · exact ⟨rfl, rfl, rfl, rfl, rfl, d4, c5, d6, d7, cr, ⟨zero19, rfl, HR.out.res⟩, (Exc.refl _ _).drew⟩
                    · intro i o ho a w' hI hG
                      have hi : i < 18 := (Array.getElem?_eq_some_iff.1 ho).1
                      have hor : i = 0 ∨ i = 1 ∨ i = 2 ∨ i = 3 ∨ i = 4 ∨ i = 5 ∨ i = 6 ∨ i = 7 ∨ i = 8 ∨ i = 9 ∨ i = 10 ∨ i = 11 ∨ i = 12 ∨ i = 13 ∨ i = 14 ∨ i = 15 ∨ i = 16 ∨ i = 17 := by omega
                      rcases hor with rfl | rfl | rfl | rfl | rfl | rfl | rfl | rfl | rfl | rfl | rfl | rfl | rfl | rfl | rfl | rfl | rfl | rfl <;> obtain rfl := Option.some.inj ho
                      · -- 0
                        rw [if_pos (wanted_none rfl)]
                        exact op_value (v := .agg cs.toArray) (run_value (by show (Instr.loadAt 243 (a.eval (.tmp 4))).run _ _ = _; rw [hI.s4]; exact run_loadAt_mid w' (w.heap.size + 1) 0 243 cs _ hI.rule Tryz.underlying243 rfl hin)) (step22 rfl (by decide) hI (show N22 _ cs x4 true x6 x7 0 _ from rfl) rfl)
                      · -- 1
                        rw [if_pos (wanted_none rfl)]
                        exact op_value (v := .pointer (some ⟨w.heap.size + 2, 7, none⟩)) (run_value (by show (Instr.indexAt 286 (a.eval (.tmp 5)) (.int .i64 7)).run _ _ = _; rw [hI.s5]; exact haveAt_run _ 7 (by decide) w')) (step22 rfl (by decide) hI (show N22 _ cs x4 true x6 x7 1 _ from rfl) rfl)
                      · -- 2
                        rw [if_pos (wanted_none rfl)]
                        have e : a.eval (.tmp 100) = .pointer (some ⟨w.heap.size + 2, 7, none⟩) := G22_val (hG ⟨1, .data⟩ (by simp) rfl) (by decide)
                        exact op_value (v := .bool x7) (run_value (by show (Instr.loadAt 4 (a.eval (.tmp 100))).run _ _ = _; rw [e]; exact boolLoad_run hI.c7)) (step22 rfl (by decide) hI (show N22 _ cs x4 true x6 x7 2 _ from rfl) rfl)
                      · -- 3
                        rw [if_pos (wanted_none rfl)]
                        have e : a.eval (.tmp 101) = .bool x7 := G22_val (hG ⟨2, .data⟩ (by simp) rfl) (by decide)
                        exact op_value (v := .bool (!x7)) (not_run rfl e) (step22 rfl (by decide) hI (show N22 _ cs x4 true x6 x7 3 _ from rfl) rfl)
                      · -- 4
                        rw [if_pos (wanted_none rfl)]
                        have e : a.eval (.tmp 102) = .bool (!x7) := G22_val (hG ⟨3, .data⟩ (by simp) rfl) (by decide)
                        exact op_value (v := .bool (!x7)) (move_run rfl e) (step22 rfl (by decide) hI (show N22 _ cs x4 true x6 x7 4 _ from rfl) rfl)
                      · -- 5
                        have e : a.eval (.tmp 103) = .bool (!x7) := G22_val (hG ⟨4, .guard⟩ (by simp) rfl) (by decide)
                        rw [wanted_some (j := 4) (d := 103) (want := false) rfl rfl rfl (by rw [hI.size]; decide) e]
                        split
                        · exact op_value (v := .pointer (some ⟨w.heap.size + 2, 4, none⟩)) (run_value (by show (Instr.indexAt 286 (a.eval (.tmp 5)) (.int .i64 4)).run _ _ = _; rw [hI.s5]; exact haveAt_run _ 4 (by decide) w')) (step22 rfl (by decide) hI (show N22 _ cs x4 true x6 x7 5 _ from fun _ => rfl) rfl)
                        · rename_i hnw
                          exact step22 rfl (by decide) hI (show N22 _ cs x4 true x6 x7 5 _ from fun h => by rw [h] at hnw; exact absurd rfl hnw) rfl
                      · -- 6
                        have e : a.eval (.tmp 103) = .bool (!x7) := G22_val (hG ⟨4, .guard⟩ (by simp) rfl) (by decide)
                        have e5 : x7 = true → a.eval (.tmp 104) = .pointer (some ⟨w.heap.size + 2, 4, none⟩) := G22_val (hG ⟨5, .data⟩ (by simp) rfl) (by decide)
                        rw [wanted_some (j := 4) (d := 103) (want := false) rfl rfl rfl (by rw [hI.size]; decide) e]
                        split
                        · rename_i hw
                          exact op_value (v := .bool x4) (run_value (by show (Instr.loadAt 4 (a.eval (.tmp 104))).run _ _ = _; rw [e5 (not_f (beq_f hw))]; exact boolLoad_run hI.c4)) (step22 rfl (by decide) hI (show N22 _ cs x4 true x6 x7 6 _ from fun _ => rfl) rfl)
                        · rename_i hnw
                          exact step22 rfl (by decide) hI (show N22 _ cs x4 true x6 x7 6 _ from fun h => by rw [h] at hnw; exact absurd rfl hnw) rfl
                      · -- 7
                        rw [if_pos (wanted_none rfl)]
                        have e : a.eval (.tmp 103) = .bool (!x7) := G22_val (hG ⟨4, .data⟩ (by simp) rfl) (by decide)
                        have e2 : x7 = true → a.eval (.tmp 105) = .bool x4 := G22_val (hG ⟨6, .data⟩ (by simp) rfl) (by decide)
                        cases hb : (!x7) with
                        | true => exact op_value (v := .bool true) (pick_yes rfl (e.trans (by rw [hb]))) (step22 rfl (by decide) hI (show N22 _ cs x4 true x6 x7 7 _ from by show Value.bool true = .bool ((!x7) || x4); rw [hb]; rfl) rfl)
                        | false => exact op_value (v := .bool x4) (pick_no rfl (e.trans (by rw [hb])) (e2 (not_f hb))) (step22 rfl (by decide) hI (show N22 _ cs x4 true x6 x7 7 _ from by show Value.bool x4 = .bool ((!x7) || x4); rw [hb]; rfl) rfl)
                      · -- 8
                        rw [if_pos (wanted_none rfl)]
                        have e : a.eval (.tmp 106) = .bool (!x7 || x4) := G22_val (hG ⟨7, .data⟩ (by simp) rfl) (by decide)
                        exact op_value (v := .bool (!x7 || x4)) (move_run rfl e) (step22 rfl (by decide) hI (show N22 _ cs x4 true x6 x7 8 _ from rfl) rfl)
                      · -- 9
                        have e : a.eval (.tmp 107) = .bool (!x7 || x4) := G22_val (hG ⟨8, .guard⟩ (by simp) rfl) (by decide)
                        rw [wanted_some (j := 8) (d := 107) (want := false) rfl rfl rfl (by rw [hI.size]; decide) e]
                        split
                        · exact op_value (v := .pointer (some ⟨w.heap.size + 2, 5, none⟩)) (run_value (by show (Instr.indexAt 286 (a.eval (.tmp 5)) (.int .i64 5)).run _ _ = _; rw [hI.s5]; exact haveAt_run _ 5 (by decide) w')) (step22 rfl (by decide) hI (show N22 _ cs x4 true x6 x7 9 _ from fun _ => rfl) rfl)
                        · rename_i hnw
                          exact step22 rfl (by decide) hI (show N22 _ cs x4 true x6 x7 9 _ from fun h => by rw [h] at hnw; exact absurd rfl hnw) rfl
                      · -- 10
                        have e : a.eval (.tmp 107) = .bool (!x7 || x4) := G22_val (hG ⟨8, .guard⟩ (by simp) rfl) (by decide)
                        have e5 : (!x7 || x4) = false → a.eval (.tmp 108) = .pointer (some ⟨w.heap.size + 2, 5, none⟩) := G22_val (hG ⟨9, .data⟩ (by simp) rfl) (by decide)
                        rw [wanted_some (j := 8) (d := 107) (want := false) rfl rfl rfl (by rw [hI.size]; decide) e]
                        split
                        · rename_i hw
                          exact op_value (v := .bool true) (run_value (by show (Instr.loadAt 4 (a.eval (.tmp 108))).run _ _ = _; rw [e5 (beq_f hw)]; exact boolLoad_run hI.c5)) (step22 rfl (by decide) hI (show N22 _ cs x4 true x6 x7 10 _ from fun _ => rfl) rfl)
                        · rename_i hnw
                          exact step22 rfl (by decide) hI (show N22 _ cs x4 true x6 x7 10 _ from fun h => by rw [h] at hnw; exact absurd rfl hnw) rfl
                      · -- 11
                        rw [if_pos (wanted_none rfl)]
                        have e : a.eval (.tmp 107) = .bool (!x7 || x4) := G22_val (hG ⟨8, .data⟩ (by simp) rfl) (by decide)
                        have e2 : (!x7 || x4) = false → a.eval (.tmp 109) = .bool true := G22_val (hG ⟨10, .data⟩ (by simp) rfl) (by decide)
                        cases hb : (!x7 || x4) with
                        | true => exact op_value (v := .bool true) (pick_yes rfl (e.trans (by rw [hb]))) (step22 rfl (by decide) hI (show N22 _ cs x4 true x6 x7 11 _ from by show Value.bool true = .bool ((!x7 || x4) || true); rw [hb]; rfl) rfl)
                        | false => exact op_value (v := .bool true) (pick_no rfl (e.trans (by rw [hb])) (e2 hb)) (step22 rfl (by decide) hI (show N22 _ cs x4 true x6 x7 11 _ from by show Value.bool true = .bool ((!x7 || x4) || true); rw [hb]; rfl) rfl)
                      · -- 12
                        rw [if_pos (wanted_none rfl)]
                        have e : a.eval (.tmp 110) = .bool (!x7 || x4 || true) := G22_val (hG ⟨11, .data⟩ (by simp) rfl) (by decide)
                        exact op_value (v := .bool (!x7 || x4 || true)) (move_run rfl e) (step22 rfl (by decide) hI (show N22 _ cs x4 true x6 x7 12 _ from rfl) rfl)
                      · -- 13
                        have e : a.eval (.tmp 111) = .bool (!x7 || x4 || true) := G22_val (hG ⟨12, .guard⟩ (by simp) rfl) (by decide)
                        rw [wanted_some (j := 12) (d := 111) (want := false) rfl rfl rfl (by rw [hI.size]; decide) e]
                        split
                        · exact op_value (v := .pointer (some ⟨w.heap.size + 2, 6, none⟩)) (run_value (by show (Instr.indexAt 286 (a.eval (.tmp 5)) (.int .i64 6)).run _ _ = _; rw [hI.s5]; exact haveAt_run _ 6 (by decide) w')) (step22 rfl (by decide) hI (show N22 _ cs x4 true x6 x7 13 _ from fun _ => rfl) rfl)
                        · rename_i hnw
                          exact step22 rfl (by decide) hI (show N22 _ cs x4 true x6 x7 13 _ from fun h => by rw [h] at hnw; exact absurd rfl hnw) rfl
                      · -- 14
                        have e : a.eval (.tmp 111) = .bool (!x7 || x4 || true) := G22_val (hG ⟨12, .guard⟩ (by simp) rfl) (by decide)
                        have e5 : (!x7 || x4 || true) = false → a.eval (.tmp 112) = .pointer (some ⟨w.heap.size + 2, 6, none⟩) := G22_val (hG ⟨13, .data⟩ (by simp) rfl) (by decide)
                        rw [wanted_some (j := 12) (d := 111) (want := false) rfl rfl rfl (by rw [hI.size]; decide) e]
                        split
                        · rename_i hw
                          exact op_value (v := .bool x6) (run_value (by show (Instr.loadAt 4 (a.eval (.tmp 112))).run _ _ = _; rw [e5 (beq_f hw)]; exact boolLoad_run hI.c6)) (step22 rfl (by decide) hI (show N22 _ cs x4 true x6 x7 14 _ from fun _ => rfl) rfl)
                        · rename_i hnw
                          exact step22 rfl (by decide) hI (show N22 _ cs x4 true x6 x7 14 _ from fun h => by rw [h] at hnw; exact absurd rfl hnw) rfl
                      · -- 15
                        rw [if_pos (wanted_none rfl)]
                        have e : a.eval (.tmp 111) = .bool (!x7 || x4 || true) := G22_val (hG ⟨12, .data⟩ (by simp) rfl) (by decide)
                        have e2 : (!x7 || x4 || true) = false → a.eval (.tmp 113) = .bool x6 := G22_val (hG ⟨14, .data⟩ (by simp) rfl) (by decide)
                        cases hb : (!x7 || x4 || true) with
                        | true => exact op_value (v := .bool true) (pick_yes rfl (e.trans (by rw [hb]))) (step22 rfl (by decide) hI (show N22 _ cs x4 true x6 x7 15 _ from by show Value.bool true = .bool ((!x7 || x4 || true) || x6); rw [hb]; rfl) rfl)
                        | false => exact op_value (v := .bool x6) (pick_no rfl (e.trans (by rw [hb])) (e2 hb)) (step22 rfl (by decide) hI (show N22 _ cs x4 true x6 x7 15 _ from by show Value.bool x6 = .bool ((!x7 || x4 || true) || x6); rw [hb]; rfl) rfl)
                      · -- 16
                        rw [if_pos (wanted_none rfl)]
                        have e : a.eval (.tmp 99) = .agg cs.toArray := G22_val (hG ⟨0, .data⟩ (by simp) rfl) (by decide)
                        obtain ⟨ht, hend⟩ := store22 (ops := _) hI cl (by omega) (by omega)
                        exact op_skip (run_unit (by show (Instr.storeAt 243 (a.eval (.tmp 2)) (a.eval (.tmp 99))).run _ _ = _; rw [hI.s2, e]; exact run_storeAt_mid w' w.heap.size 0 243 cs.toArray ht (by rw [List.size_toArray]; exact hin) (all_oneCell_toArray co))) hend
                      · -- 17
                        rw [if_pos (wanted_none rfl)]
                        have e : a.eval (.tmp 114) = .bool (!x7 || x4 || true || x6) := G22_val (hG ⟨15, .data⟩ (by simp) rfl) (by decide)
                        exact op_value (v := .bool (!x7 || x4 || true || x6)) (assign_run rfl e) (answer22 hI rfl rfl)
                    · intro a w' hI hG
                      refine hK0 _ _ ?_
                      have g16 := hG 16 (by decide)
                      have g17 := hG 17 (by decide)
                      unfold G22 at g16 g17
                      rw [if_pos rfl] at g16
                      rw [if_neg (by decide), if_pos rfl] at g17
                      have hag : agree f = (!x7 || x4 || true || x6) := agree_end H0.out H2.out H3.out hx4.symm H5.out hx6.symm hx7.symm HQE.out HOD.out (by simp) (by simp_all) HA.out
                      have hs2 := hI.s2
                      have hdf := hI.defers
                      have hbl : Below w.heap.size w w' := HR.out.below.trans (hI.exc.below HR.out.below.size (fun k hk => by omega))
                      have hrr : RefRule w.heap.size w' (.agg cs.toArray) f := ref_rule (N := w.heap.size) (by omega) HR.out.rule cl co cr (fun g _ hg => hI.exc.block g (by omega) (by omega))
                      obtain ⟨tm, df⟩ := a
                      simp only [] at hdf
                      subst hdf
                      refine wp_ret ?_
                      exact rule_end2 (b := (!x7 || x4 || true || x6)) g16 hbl cl (all_oneCell_toArray co) hs2 g17 (fun hb => rule_no HFS.out (hag.trans hb)) (fun hb => ⟨f, rule_yes HFS.out HR.out.ok (hag.trans hb), hrr⟩)
            · cases x5 with
              | false =>
                clear h23 h5q
                go_wp2
                go_loop [12] (fun i => ∃ n : Nat, n ≤ os.length ∧ i = .int .i64 n ∧ Hid (∀ m, m < n → os.getD m 0 = 0 ∨ (decide (q < 3) || false) = false)) (fun i => os.length - (intOf i).toNat)
                case atStart => exact ⟨0, Nat.zero_le _, rfl, hide (fun m hm => absurd hm (by omega))⟩
                case round =>
                  obtain ⟨n, hn, rfl, HA⟩ := hrel
                  by_cases hlt : n < os.length
                  case pos =>
                    obtain ⟨g8, o8, rfl, hz⟩ := HC8.out n hlt
                    obtain ⟨z, hze⟩ : ∃ z, z = os.getD n 0 := ⟨_, rfl⟩
                    rw [← hze] at hz
                    have HZ := hide hze
                    clear hze
                    by_cases z0 : z = 0
                    case pos =>
                      subst z0
                      go_wp2
                      go_round
                      case rel => exact ⟨n + 1, by omega, by go_num, hide (fun m hm => by
                        by_cases e : m = n
                        · subst e; exact .inl HZ.out.symm
                        · exact HA.out m (by omega))⟩
                      case measure => simp [intOf]; omega
                    case neg =>
                      have g0 : (z != 0) = true := by simpa using z0
                      have HX : Hid ((decide (q < 3) || false) = true → ruleF s = none) := hide (fun hb => rule_no HFS.out (rule_ord HOD.out H5.out HQE.out hlt HZ.out z0 hb))
                      clear z0
                      by_cases q3 : q < 3
                      case pos =>
                        have HX2 : Hid (ruleF s = none) := hide (HX.out (by simp [q3]))
                        clear HX
                        obtain ⟨cs, cl, co, cr⟩ : Cells19 wr (w.heap.size + 1) := HR.out.rule.cells
                        have HCR := hide cr
                        have HCL := hide cl
                        have HCO : Hid (cs.toArray.all (·.oneCell') = true) := hide (all_oneCell_toArray co)
                        have HCI : Hid ((Tryz.prog.info? 243).map (·.size) = some cs.length) := hide (by rw [cl]; exact infoRefRule)
                        have HRW : Hid (RowAt wr w.heap.size zero19 243) := hide HR.out.res
                        have HBL : Hid (Below w.heap.size w wr) := hide HR.out.below
                        have HCT : Hid (wr.there w.heap.size 0 cs.toArray.size) := hide (row19_there HRW.out (by simpa using HCL.out))
                        have HCJ : Hid ((Tryz.prog.info? 243).map (·.size) = some cs.toArray.size) := hide (by rw [List.size_toArray]; exact HCI.out)
                        clear cr cl co
                        go_upto_region 21 with fail
                        go_wp2_with (first
                          | (refine wpList_load_mid rfl 243 (.tmp 4) rfl (w.heap.size + 1) 0 rfl cs _ HCR.out Tryz.underlying243 rfl HCI.out ?_)
                          | (refine wpList_store_mid rfl 243 (.tmp 2) (.tmp 98) rfl w.heap.size 0 cs.toArray rfl rfl HCT.out HCJ.out HCO.out ?_))
                        exact rule_end (b := false) HRW.out HBL.out HCL.out HCO.out (by rfl) (by rfl) (fun _ => HX2.out) (fun h => by cases h)
                      case neg =>
                        clear HX
                        go_wp2
                        go_round
                        case rel => exact ⟨n + 1, by omega, by go_num, hide (fun m hm => by
                          by_cases e : m = n
                          · subst e; exact .inr (by simp [q3])
                          · exact HA.out m (by omega))⟩
                        case measure => simp [intOf]; omega
                  case neg =>
                    have hnl : n = os.length := by omega
                    subst hnl
                    clear hn hlt
                    go_upto_region 22 with fail
                    rename_i K0 hK0
                    obtain ⟨cs, cl, co, cr⟩ : Cells19 wr (w.heap.size + 1) := HR.out.rule.cells
                    have hin : (Tryz.prog.info? 243).map (·.size) = some cs.length := by rw [cl]; exact infoRefRule
                    obtain ⟨x4, hx4⟩ : ∃ x, x = (f 4).isSome := ⟨_, rfl⟩
                    obtain ⟨x6, hx6⟩ : ∃ x, x = (f 6).isSome := ⟨_, rfl⟩
                    obtain ⟨x7, hx7⟩ : ∃ x, x = (f 7).isSome := ⟨_, rfl⟩
                    have d4 := HR.out.have_.cell 4 (by decide)
                    have d6 := HR.out.have_.cell 6 (by decide)
                    have d7 := HR.out.have_.cell 7 (by decide)
                    rw [← hx4] at d4
                    rw [← hx6] at d6
                    rw [← hx7] at d7
                    refine wp_region_gd (G22 w.heap.size (w.heap.size + 2) cs x4 false x6 x7) (J22 wr w.heap.size (w.heap.size + 1) (w.heap.size + 2) cs x4 false x6 x7) (by kernel_rfl) (by kernel_rfl) ?_ ?_ ?_
                    rotate_left 2
                    · exact ⟨rfl, rfl, rfl, rfl, rfl, d4, c5, d6, d7, cr, ⟨zero19, rfl, HR.out.res⟩, (Exc.refl _ _).drew⟩
                    · intro i o ho a w' hI hG
                      have hi : i < 18 := (Array.getElem?_eq_some_iff.1 ho).1
                      have hor : i = 0 ∨ i = 1 ∨ i = 2 ∨ i = 3 ∨ i = 4 ∨ i = 5 ∨ i = 6 ∨ i = 7 ∨ i = 8 ∨ i = 9 ∨ i = 10 ∨ i = 11 ∨ i = 12 ∨ i = 13 ∨ i = 14 ∨ i = 15 ∨ i = 16 ∨ i = 17 := by omega
                      rcases hor with rfl | rfl | rfl | rfl | rfl | rfl | rfl | rfl | rfl | rfl | rfl | rfl | rfl | rfl | rfl | rfl | rfl | rfl <;> obtain rfl := Option.some.inj ho
                      · -- 0
                        rw [if_pos (wanted_none rfl)]
                        exact op_value (v := .agg cs.toArray) (run_value (by show (Instr.loadAt 243 (a.eval (.tmp 4))).run _ _ = _; rw [hI.s4]; exact run_loadAt_mid w' (w.heap.size + 1) 0 243 cs _ hI.rule Tryz.underlying243 rfl hin)) (step22 rfl (by decide) hI (show N22 _ cs x4 false x6 x7 0 _ from rfl) rfl)
                      · -- 1
                        rw [if_pos (wanted_none rfl)]
                        exact op_value (v := .pointer (some ⟨w.heap.size + 2, 7, none⟩)) (run_value (by show (Instr.indexAt 286 (a.eval (.tmp 5)) (.int .i64 7)).run _ _ = _; rw [hI.s5]; exact haveAt_run _ 7 (by decide) w')) (step22 rfl (by decide) hI (show N22 _ cs x4 false x6 x7 1 _ from rfl) rfl)
                      · -- 2
                        rw [if_pos (wanted_none rfl)]
                        have e : a.eval (.tmp 100) = .pointer (some ⟨w.heap.size + 2, 7, none⟩) := G22_val (hG ⟨1, .data⟩ (by simp) rfl) (by decide)
                        exact op_value (v := .bool x7) (run_value (by show (Instr.loadAt 4 (a.eval (.tmp 100))).run _ _ = _; rw [e]; exact boolLoad_run hI.c7)) (step22 rfl (by decide) hI (show N22 _ cs x4 false x6 x7 2 _ from rfl) rfl)
                      · -- 3
                        rw [if_pos (wanted_none rfl)]
                        have e : a.eval (.tmp 101) = .bool x7 := G22_val (hG ⟨2, .data⟩ (by simp) rfl) (by decide)
                        exact op_value (v := .bool (!x7)) (not_run rfl e) (step22 rfl (by decide) hI (show N22 _ cs x4 false x6 x7 3 _ from rfl) rfl)
                      · -- 4
                        rw [if_pos (wanted_none rfl)]
                        have e : a.eval (.tmp 102) = .bool (!x7) := G22_val (hG ⟨3, .data⟩ (by simp) rfl) (by decide)
                        exact op_value (v := .bool (!x7)) (move_run rfl e) (step22 rfl (by decide) hI (show N22 _ cs x4 false x6 x7 4 _ from rfl) rfl)
                      · -- 5
                        have e : a.eval (.tmp 103) = .bool (!x7) := G22_val (hG ⟨4, .guard⟩ (by simp) rfl) (by decide)
                        rw [wanted_some (j := 4) (d := 103) (want := false) rfl rfl rfl (by rw [hI.size]; decide) e]
                        split
                        · exact op_value (v := .pointer (some ⟨w.heap.size + 2, 4, none⟩)) (run_value (by show (Instr.indexAt 286 (a.eval (.tmp 5)) (.int .i64 4)).run _ _ = _; rw [hI.s5]; exact haveAt_run _ 4 (by decide) w')) (step22 rfl (by decide) hI (show N22 _ cs x4 false x6 x7 5 _ from fun _ => rfl) rfl)
                        · rename_i hnw
                          exact step22 rfl (by decide) hI (show N22 _ cs x4 false x6 x7 5 _ from fun h => by rw [h] at hnw; exact absurd rfl hnw) rfl
                      · -- 6
                        have e : a.eval (.tmp 103) = .bool (!x7) := G22_val (hG ⟨4, .guard⟩ (by simp) rfl) (by decide)
                        have e5 : x7 = true → a.eval (.tmp 104) = .pointer (some ⟨w.heap.size + 2, 4, none⟩) := G22_val (hG ⟨5, .data⟩ (by simp) rfl) (by decide)
                        rw [wanted_some (j := 4) (d := 103) (want := false) rfl rfl rfl (by rw [hI.size]; decide) e]
                        split
                        · rename_i hw
                          exact op_value (v := .bool x4) (run_value (by show (Instr.loadAt 4 (a.eval (.tmp 104))).run _ _ = _; rw [e5 (not_f (beq_f hw))]; exact boolLoad_run hI.c4)) (step22 rfl (by decide) hI (show N22 _ cs x4 false x6 x7 6 _ from fun _ => rfl) rfl)
                        · rename_i hnw
                          exact step22 rfl (by decide) hI (show N22 _ cs x4 false x6 x7 6 _ from fun h => by rw [h] at hnw; exact absurd rfl hnw) rfl
                      · -- 7
                        rw [if_pos (wanted_none rfl)]
                        have e : a.eval (.tmp 103) = .bool (!x7) := G22_val (hG ⟨4, .data⟩ (by simp) rfl) (by decide)
                        have e2 : x7 = true → a.eval (.tmp 105) = .bool x4 := G22_val (hG ⟨6, .data⟩ (by simp) rfl) (by decide)
                        cases hb : (!x7) with
                        | true => exact op_value (v := .bool true) (pick_yes rfl (e.trans (by rw [hb]))) (step22 rfl (by decide) hI (show N22 _ cs x4 false x6 x7 7 _ from by show Value.bool true = .bool ((!x7) || x4); rw [hb]; rfl) rfl)
                        | false => exact op_value (v := .bool x4) (pick_no rfl (e.trans (by rw [hb])) (e2 (not_f hb))) (step22 rfl (by decide) hI (show N22 _ cs x4 false x6 x7 7 _ from by show Value.bool x4 = .bool ((!x7) || x4); rw [hb]; rfl) rfl)
                      · -- 8
                        rw [if_pos (wanted_none rfl)]
                        have e : a.eval (.tmp 106) = .bool (!x7 || x4) := G22_val (hG ⟨7, .data⟩ (by simp) rfl) (by decide)
                        exact op_value (v := .bool (!x7 || x4)) (move_run rfl e) (step22 rfl (by decide) hI (show N22 _ cs x4 false x6 x7 8 _ from rfl) rfl)
                      · -- 9
                        have e : a.eval (.tmp 107) = .bool (!x7 || x4) := G22_val (hG ⟨8, .guard⟩ (by simp) rfl) (by decide)
                        rw [wanted_some (j := 8) (d := 107) (want := false) rfl rfl rfl (by rw [hI.size]; decide) e]
                        split
                        · exact op_value (v := .pointer (some ⟨w.heap.size + 2, 5, none⟩)) (run_value (by show (Instr.indexAt 286 (a.eval (.tmp 5)) (.int .i64 5)).run _ _ = _; rw [hI.s5]; exact haveAt_run _ 5 (by decide) w')) (step22 rfl (by decide) hI (show N22 _ cs x4 false x6 x7 9 _ from fun _ => rfl) rfl)
                        · rename_i hnw
                          exact step22 rfl (by decide) hI (show N22 _ cs x4 false x6 x7 9 _ from fun h => by rw [h] at hnw; exact absurd rfl hnw) rfl
                      · -- 10
                        have e : a.eval (.tmp 107) = .bool (!x7 || x4) := G22_val (hG ⟨8, .guard⟩ (by simp) rfl) (by decide)
                        have e5 : (!x7 || x4) = false → a.eval (.tmp 108) = .pointer (some ⟨w.heap.size + 2, 5, none⟩) := G22_val (hG ⟨9, .data⟩ (by simp) rfl) (by decide)
                        rw [wanted_some (j := 8) (d := 107) (want := false) rfl rfl rfl (by rw [hI.size]; decide) e]
                        split
                        · rename_i hw
                          exact op_value (v := .bool false) (run_value (by show (Instr.loadAt 4 (a.eval (.tmp 108))).run _ _ = _; rw [e5 (beq_f hw)]; exact boolLoad_run hI.c5)) (step22 rfl (by decide) hI (show N22 _ cs x4 false x6 x7 10 _ from fun _ => rfl) rfl)
                        · rename_i hnw
                          exact step22 rfl (by decide) hI (show N22 _ cs x4 false x6 x7 10 _ from fun h => by rw [h] at hnw; exact absurd rfl hnw) rfl
                      · -- 11
                        rw [if_pos (wanted_none rfl)]
                        have e : a.eval (.tmp 107) = .bool (!x7 || x4) := G22_val (hG ⟨8, .data⟩ (by simp) rfl) (by decide)
                        have e2 : (!x7 || x4) = false → a.eval (.tmp 109) = .bool false := G22_val (hG ⟨10, .data⟩ (by simp) rfl) (by decide)
                        cases hb : (!x7 || x4) with
                        | true => exact op_value (v := .bool true) (pick_yes rfl (e.trans (by rw [hb]))) (step22 rfl (by decide) hI (show N22 _ cs x4 false x6 x7 11 _ from by show Value.bool true = .bool ((!x7 || x4) || false); rw [hb]; rfl) rfl)
                        | false => exact op_value (v := .bool false) (pick_no rfl (e.trans (by rw [hb])) (e2 hb)) (step22 rfl (by decide) hI (show N22 _ cs x4 false x6 x7 11 _ from by show Value.bool false = .bool ((!x7 || x4) || false); rw [hb]; rfl) rfl)
                      · -- 12
                        rw [if_pos (wanted_none rfl)]
                        have e : a.eval (.tmp 110) = .bool (!x7 || x4 || false) := G22_val (hG ⟨11, .data⟩ (by simp) rfl) (by decide)
                        exact op_value (v := .bool (!x7 || x4 || false)) (move_run rfl e) (step22 rfl (by decide) hI (show N22 _ cs x4 false x6 x7 12 _ from rfl) rfl)
                      · -- 13
                        have e : a.eval (.tmp 111) = .bool (!x7 || x4 || false) := G22_val (hG ⟨12, .guard⟩ (by simp) rfl) (by decide)
                        rw [wanted_some (j := 12) (d := 111) (want := false) rfl rfl rfl (by rw [hI.size]; decide) e]
                        split
                        · exact op_value (v := .pointer (some ⟨w.heap.size + 2, 6, none⟩)) (run_value (by show (Instr.indexAt 286 (a.eval (.tmp 5)) (.int .i64 6)).run _ _ = _; rw [hI.s5]; exact haveAt_run _ 6 (by decide) w')) (step22 rfl (by decide) hI (show N22 _ cs x4 false x6 x7 13 _ from fun _ => rfl) rfl)
                        · rename_i hnw
                          exact step22 rfl (by decide) hI (show N22 _ cs x4 false x6 x7 13 _ from fun h => by rw [h] at hnw; exact absurd rfl hnw) rfl
                      · -- 14
                        have e : a.eval (.tmp 111) = .bool (!x7 || x4 || false) := G22_val (hG ⟨12, .guard⟩ (by simp) rfl) (by decide)
                        have e5 : (!x7 || x4 || false) = false → a.eval (.tmp 112) = .pointer (some ⟨w.heap.size + 2, 6, none⟩) := G22_val (hG ⟨13, .data⟩ (by simp) rfl) (by decide)
                        rw [wanted_some (j := 12) (d := 111) (want := false) rfl rfl rfl (by rw [hI.size]; decide) e]
                        split
                        · rename_i hw
                          exact op_value (v := .bool x6) (run_value (by show (Instr.loadAt 4 (a.eval (.tmp 112))).run _ _ = _; rw [e5 (beq_f hw)]; exact boolLoad_run hI.c6)) (step22 rfl (by decide) hI (show N22 _ cs x4 false x6 x7 14 _ from fun _ => rfl) rfl)
                        · rename_i hnw
                          exact step22 rfl (by decide) hI (show N22 _ cs x4 false x6 x7 14 _ from fun h => by rw [h] at hnw; exact absurd rfl hnw) rfl
                      · -- 15
                        rw [if_pos (wanted_none rfl)]
                        have e : a.eval (.tmp 111) = .bool (!x7 || x4 || false) := G22_val (hG ⟨12, .data⟩ (by simp) rfl) (by decide)
                        have e2 : (!x7 || x4 || false) = false → a.eval (.tmp 113) = .bool x6 := G22_val (hG ⟨14, .data⟩ (by simp) rfl) (by decide)
                        cases hb : (!x7 || x4 || false) with
                        | true => exact op_value (v := .bool true) (pick_yes rfl (e.trans (by rw [hb]))) (step22 rfl (by decide) hI (show N22 _ cs x4 false x6 x7 15 _ from by show Value.bool true = .bool ((!x7 || x4 || false) || x6); rw [hb]; rfl) rfl)
                        | false => exact op_value (v := .bool x6) (pick_no rfl (e.trans (by rw [hb])) (e2 hb)) (step22 rfl (by decide) hI (show N22 _ cs x4 false x6 x7 15 _ from by show Value.bool x6 = .bool ((!x7 || x4 || false) || x6); rw [hb]; rfl) rfl)
                      · -- 16
                        rw [if_pos (wanted_none rfl)]
                        have e : a.eval (.tmp 99) = .agg cs.toArray := G22_val (hG ⟨0, .data⟩ (by simp) rfl) (by decide)
                        obtain ⟨ht, hend⟩ := store22 (ops := _) hI cl (by omega) (by omega)
                        exact op_skip (run_unit (by show (Instr.storeAt 243 (a.eval (.tmp 2)) (a.eval (.tmp 99))).run _ _ = _; rw [hI.s2, e]; exact run_storeAt_mid w' w.heap.size 0 243 cs.toArray ht (by rw [List.size_toArray]; exact hin) (all_oneCell_toArray co))) hend
                      · -- 17
                        rw [if_pos (wanted_none rfl)]
                        have e : a.eval (.tmp 114) = .bool (!x7 || x4 || false || x6) := G22_val (hG ⟨15, .data⟩ (by simp) rfl) (by decide)
                        exact op_value (v := .bool (!x7 || x4 || false || x6)) (assign_run rfl e) (answer22 hI rfl rfl)
                    · intro a w' hI hG
                      refine hK0 _ _ ?_
                      have g16 := hG 16 (by decide)
                      have g17 := hG 17 (by decide)
                      unfold G22 at g16 g17
                      rw [if_pos rfl] at g16
                      rw [if_neg (by decide), if_pos rfl] at g17
                      have hag : agree f = (!x7 || x4 || false || x6) := agree_end H0.out H2.out H3.out hx4.symm H5.out hx6.symm hx7.symm HQE.out HOD.out (by simp) (by simp_all) HA.out
                      have hs2 := hI.s2
                      have hdf := hI.defers
                      have hbl : Below w.heap.size w w' := HR.out.below.trans (hI.exc.below HR.out.below.size (fun k hk => by omega))
                      have hrr : RefRule w.heap.size w' (.agg cs.toArray) f := ref_rule (N := w.heap.size) (by omega) HR.out.rule cl co cr (fun g _ hg => hI.exc.block g (by omega) (by omega))
                      obtain ⟨tm, df⟩ := a
                      simp only [] at hdf
                      subst hdf
                      refine wp_ret ?_
                      exact rule_end2 (b := (!x7 || x4 || false || x6)) g16 hbl cl (all_oneCell_toArray co) hs2 g17 (fun hb => rule_no HFS.out (hag.trans hb)) (fun hb => ⟨f, rule_yes HFS.out HR.out.ok (hag.trans hb), hrr⟩)
              | true =>
                have hq2 : (q == 2) = false := by simpa using h5q
                clear h23 h5q
                go_wp2
                go_loop [12] (fun i => ∃ n : Nat, n ≤ os.length ∧ i = .int .i64 n ∧ Hid (∀ m, m < n → os.getD m 0 = 0 ∨ (decide (q < 3) || true) = false)) (fun i => os.length - (intOf i).toNat)
                case atStart => exact ⟨0, Nat.zero_le _, rfl, hide (fun m hm => absurd hm (by omega))⟩
                case round =>
                  obtain ⟨n, hn, rfl, HA⟩ := hrel
                  by_cases hlt : n < os.length
                  case pos =>
                    obtain ⟨g8, o8, rfl, hz⟩ := HC8.out n hlt
                    obtain ⟨z, hze⟩ : ∃ z, z = os.getD n 0 := ⟨_, rfl⟩
                    rw [← hze] at hz
                    have HZ := hide hze
                    clear hze
                    by_cases z0 : z = 0
                    case pos =>
                      subst z0
                      go_wp2
                      go_round
                      case rel => exact ⟨n + 1, by omega, by go_num, hide (fun m hm => by
                        by_cases e : m = n
                        · subst e; exact .inl HZ.out.symm
                        · exact HA.out m (by omega))⟩
                      case measure => simp [intOf]; omega
                    case neg =>
                      have g0 : (z != 0) = true := by simpa using z0
                      have HX : Hid ((decide (q < 3) || true) = true → ruleF s = none) := hide (fun hb => rule_no HFS.out (rule_ord HOD.out H5.out HQE.out hlt HZ.out z0 hb))
                      clear z0
                      by_cases q3 : q < 3
                      case pos =>
                        have HX2 : Hid (ruleF s = none) := hide (HX.out (by simp [q3]))
                        clear HX
                        obtain ⟨cs, cl, co, cr⟩ : Cells19 wr (w.heap.size + 1) := HR.out.rule.cells
                        have HCR := hide cr
                        have HCL := hide cl
                        have HCO : Hid (cs.toArray.all (·.oneCell') = true) := hide (all_oneCell_toArray co)
                        have HCI : Hid ((Tryz.prog.info? 243).map (·.size) = some cs.length) := hide (by rw [cl]; exact infoRefRule)
                        have HRW : Hid (RowAt wr w.heap.size zero19 243) := hide HR.out.res
                        have HBL : Hid (Below w.heap.size w wr) := hide HR.out.below
                        have HCT : Hid (wr.there w.heap.size 0 cs.toArray.size) := hide (row19_there HRW.out (by simpa using HCL.out))
                        have HCJ : Hid ((Tryz.prog.info? 243).map (·.size) = some cs.toArray.size) := hide (by rw [List.size_toArray]; exact HCI.out)
                        clear cr cl co
                        go_upto_region 21 with fail
                        go_wp2_with (first
                          | (refine wpList_load_mid rfl 243 (.tmp 4) rfl (w.heap.size + 1) 0 rfl cs _ HCR.out Tryz.underlying243 rfl HCI.out ?_)
                          | (refine wpList_store_mid rfl 243 (.tmp 2) (.tmp 98) rfl w.heap.size 0 cs.toArray rfl rfl HCT.out HCJ.out HCO.out ?_))
                        exact rule_end (b := false) HRW.out HBL.out HCL.out HCO.out (by rfl) (by rfl) (fun _ => HX2.out) (fun h => by cases h)
                      case neg =>
                        have HX2 : Hid (ruleF s = none) := hide (HX.out (by simp))
                        clear HX
                        obtain ⟨cs, cl, co, cr⟩ : Cells19 wr (w.heap.size + 1) := HR.out.rule.cells
                        have HCR := hide cr
                        have HCL := hide cl
                        have HCO : Hid (cs.toArray.all (·.oneCell') = true) := hide (all_oneCell_toArray co)
                        have HCI : Hid ((Tryz.prog.info? 243).map (·.size) = some cs.length) := hide (by rw [cl]; exact infoRefRule)
                        have HRW : Hid (RowAt wr w.heap.size zero19 243) := hide HR.out.res
                        have HBL : Hid (Below w.heap.size w wr) := hide HR.out.below
                        have HCT : Hid (wr.there w.heap.size 0 cs.toArray.size) := hide (row19_there HRW.out (by simpa using HCL.out))
                        have HCJ : Hid ((Tryz.prog.info? 243).map (·.size) = some cs.toArray.size) := hide (by rw [List.size_toArray]; exact HCI.out)
                        clear cr cl co
                        go_upto_region 21 with fail
                        go_wp2_with (first
                          | (refine wpList_load_mid rfl 243 (.tmp 4) rfl (w.heap.size + 1) 0 rfl cs _ HCR.out Tryz.underlying243 rfl HCI.out ?_)
                          | (refine wpList_store_mid rfl 243 (.tmp 2) (.tmp 98) rfl w.heap.size 0 cs.toArray rfl rfl HCT.out HCJ.out HCO.out ?_))
                        exact rule_end (b := false) HRW.out HBL.out HCL.out HCO.out (by rfl) (by rfl) (fun _ => HX2.out) (fun h => by cases h)
                  case neg =>
                    have hnl : n = os.length := by omega
                    subst hnl
                    clear hn hlt
                    go_upto_region 22 with fail
                    rename_i K0 hK0
                    obtain ⟨cs, cl, co, cr⟩ : Cells19 wr (w.heap.size + 1) := HR.out.rule.cells
                    have hin : (Tryz.prog.info? 243).map (·.size) = some cs.length := by rw [cl]; exact infoRefRule
                    obtain ⟨x4, hx4⟩ : ∃ x, x = (f 4).isSome := ⟨_, rfl⟩
                    obtain ⟨x6, hx6⟩ : ∃ x, x = (f 6).isSome := ⟨_, rfl⟩
                    obtain ⟨x7, hx7⟩ : ∃ x, x = (f 7).isSome := ⟨_, rfl⟩
                    have d4 := HR.out.have_.cell 4 (by decide)
                    have d6 := HR.out.have_.cell 6 (by decide)
                    have d7 := HR.out.have_.cell 7 (by decide)
                    rw [← hx4] at d4
                    rw [← hx6] at d6
                    rw [← hx7] at d7
                    refine wp_region_gd (G22 w.heap.size (w.heap.size + 2) cs x4 true x6 x7) (J22 wr w.heap.size (w.heap.size + 1) (w.heap.size + 2) cs x4 true x6 x7) (by kernel_rfl) (by kernel_rfl) ?_ ?_ ?_
                    rotate_left 2
                    · exact ⟨rfl, rfl, rfl, rfl, rfl, d4, c5, d6, d7, cr, ⟨zero19, rfl, HR.out.res⟩, (Exc.refl _ _).drew⟩
                    · intro i o ho a w' hI hG
                      have hi : i < 18 := (Array.getElem?_eq_some_iff.1 ho).1
                      have hor : i = 0 ∨ i = 1 ∨ i = 2 ∨ i = 3 ∨ i = 4 ∨ i = 5 ∨ i = 6 ∨ i = 7 ∨ i = 8 ∨ i = 9 ∨ i = 10 ∨ i = 11 ∨ i = 12 ∨ i = 13 ∨ i = 14 ∨ i = 15 ∨ i = 16 ∨ i = 17 := by omega
                      rcases hor with rfl | rfl | rfl | rfl | rfl | rfl | rfl | rfl | rfl | rfl | rfl | rfl | rfl | rfl | rfl | rfl | rfl | rfl <;> obtain rfl := Option.some.inj ho
                      · -- 0
                        rw [if_pos (wanted_none rfl)]
                        exact op_value (v := .agg cs.toArray) (run_value (by show (Instr.loadAt 243 (a.eval (.tmp 4))).run _ _ = _; rw [hI.s4]; exact run_loadAt_mid w' (w.heap.size + 1) 0 243 cs _ hI.rule Tryz.underlying243 rfl hin)) (step22 rfl (by decide) hI (show N22 _ cs x4 true x6 x7 0 _ from rfl) rfl)
                      · -- 1
                        rw [if_pos (wanted_none rfl)]
                        exact op_value (v := .pointer (some ⟨w.heap.size + 2, 7, none⟩)) (run_value (by show (Instr.indexAt 286 (a.eval (.tmp 5)) (.int .i64 7)).run _ _ = _; rw [hI.s5]; exact haveAt_run _ 7 (by decide) w')) (step22 rfl (by decide) hI (show N22 _ cs x4 true x6 x7 1 _ from rfl) rfl)
                      · -- 2
                        rw [if_pos (wanted_none rfl)]
                        have e : a.eval (.tmp 100) = .pointer (some ⟨w.heap.size + 2, 7, none⟩) := G22_val (hG ⟨1, .data⟩ (by simp) rfl) (by decide)
                        exact op_value (v := .bool x7) (run_value (by show (Instr.loadAt 4 (a.eval (.tmp 100))).run _ _ = _; rw [e]; exact boolLoad_run hI.c7)) (step22 rfl (by decide) hI (show N22 _ cs x4 true x6 x7 2 _ from rfl) rfl)
                      · -- 3
                        rw [if_pos (wanted_none rfl)]
                        have e : a.eval (.tmp 101) = .bool x7 := G22_val (hG ⟨2, .data⟩ (by simp) rfl) (by decide)
                        exact op_value (v := .bool (!x7)) (not_run rfl e) (step22 rfl (by decide) hI (show N22 _ cs x4 true x6 x7 3 _ from rfl) rfl)
                      · -- 4
                        rw [if_pos (wanted_none rfl)]
                        have e : a.eval (.tmp 102) = .bool (!x7) := G22_val (hG ⟨3, .data⟩ (by simp) rfl) (by decide)
                        exact op_value (v := .bool (!x7)) (move_run rfl e) (step22 rfl (by decide) hI (show N22 _ cs x4 true x6 x7 4 _ from rfl) rfl)
                      · -- 5
                        have e : a.eval (.tmp 103) = .bool (!x7) := G22_val (hG ⟨4, .guard⟩ (by simp) rfl) (by decide)
                        rw [wanted_some (j := 4) (d := 103) (want := false) rfl rfl rfl (by rw [hI.size]; decide) e]
                        split
                        · exact op_value (v := .pointer (some ⟨w.heap.size + 2, 4, none⟩)) (run_value (by show (Instr.indexAt 286 (a.eval (.tmp 5)) (.int .i64 4)).run _ _ = _; rw [hI.s5]; exact haveAt_run _ 4 (by decide) w')) (step22 rfl (by decide) hI (show N22 _ cs x4 true x6 x7 5 _ from fun _ => rfl) rfl)
                        · rename_i hnw
                          exact step22 rfl (by decide) hI (show N22 _ cs x4 true x6 x7 5 _ from fun h => by rw [h] at hnw; exact absurd rfl hnw) rfl
                      · -- 6
                        have e : a.eval (.tmp 103) = .bool (!x7) := G22_val (hG ⟨4, .guard⟩ (by simp) rfl) (by decide)
                        have e5 : x7 = true → a.eval (.tmp 104) = .pointer (some ⟨w.heap.size + 2, 4, none⟩) := G22_val (hG ⟨5, .data⟩ (by simp) rfl) (by decide)
                        rw [wanted_some (j := 4) (d := 103) (want := false) rfl rfl rfl (by rw [hI.size]; decide) e]
                        split
                        · rename_i hw
                          exact op_value (v := .bool x4) (run_value (by show (Instr.loadAt 4 (a.eval (.tmp 104))).run _ _ = _; rw [e5 (not_f (beq_f hw))]; exact boolLoad_run hI.c4)) (step22 rfl (by decide) hI (show N22 _ cs x4 true x6 x7 6 _ from fun _ => rfl) rfl)
                        · rename_i hnw
                          exact step22 rfl (by decide) hI (show N22 _ cs x4 true x6 x7 6 _ from fun h => by rw [h] at hnw; exact absurd rfl hnw) rfl
                      · -- 7
                        rw [if_pos (wanted_none rfl)]
                        have e : a.eval (.tmp 103) = .bool (!x7) := G22_val (hG ⟨4, .data⟩ (by simp) rfl) (by decide)
                        have e2 : x7 = true → a.eval (.tmp 105) = .bool x4 := G22_val (hG ⟨6, .data⟩ (by simp) rfl) (by decide)
                        cases hb : (!x7) with
                        | true => exact op_value (v := .bool true) (pick_yes rfl (e.trans (by rw [hb]))) (step22 rfl (by decide) hI (show N22 _ cs x4 true x6 x7 7 _ from by show Value.bool true = .bool ((!x7) || x4); rw [hb]; rfl) rfl)
                        | false => exact op_value (v := .bool x4) (pick_no rfl (e.trans (by rw [hb])) (e2 (not_f hb))) (step22 rfl (by decide) hI (show N22 _ cs x4 true x6 x7 7 _ from by show Value.bool x4 = .bool ((!x7) || x4); rw [hb]; rfl) rfl)
                      · -- 8
                        rw [if_pos (wanted_none rfl)]
                        have e : a.eval (.tmp 106) = .bool (!x7 || x4) := G22_val (hG ⟨7, .data⟩ (by simp) rfl) (by decide)
                        exact op_value (v := .bool (!x7 || x4)) (move_run rfl e) (step22 rfl (by decide) hI (show N22 _ cs x4 true x6 x7 8 _ from rfl) rfl)
                      · -- 9
                        have e : a.eval (.tmp 107) = .bool (!x7 || x4) := G22_val (hG ⟨8, .guard⟩ (by simp) rfl) (by decide)
                        rw [wanted_some (j := 8) (d := 107) (want := false) rfl rfl rfl (by rw [hI.size]; decide) e]
                        split
                        · exact op_value (v := .pointer (some ⟨w.heap.size + 2, 5, none⟩)) (run_value (by show (Instr.indexAt 286 (a.eval (.tmp 5)) (.int .i64 5)).run _ _ = _; rw [hI.s5]; exact haveAt_run _ 5 (by decide) w')) (step22 rfl (by decide) hI (show N22 _ cs x4 true x6 x7 9 _ from fun _ => rfl) rfl)
                        · rename_i hnw
                          exact step22 rfl (by decide) hI (show N22 _ cs x4 true x6 x7 9 _ from fun h => by rw [h] at hnw; exact absurd rfl hnw) rfl
                      · -- 10
                        have e : a.eval (.tmp 107) = .bool (!x7 || x4) := G22_val (hG ⟨8, .guard⟩ (by simp) rfl) (by decide)
                        have e5 : (!x7 || x4) = false → a.eval (.tmp 108) = .pointer (some ⟨w.heap.size + 2, 5, none⟩) := G22_val (hG ⟨9, .data⟩ (by simp) rfl) (by decide)
                        rw [wanted_some (j := 8) (d := 107) (want := false) rfl rfl rfl (by rw [hI.size]; decide) e]
                        split
                        · rename_i hw
                          exact op_value (v := .bool true) (run_value (by show (Instr.loadAt 4 (a.eval (.tmp 108))).run _ _ = _; rw [e5 (beq_f hw)]; exact boolLoad_run hI.c5)) (step22 rfl (by decide) hI (show N22 _ cs x4 true x6 x7 10 _ from fun _ => rfl) rfl)
                        · rename_i hnw
                          exact step22 rfl (by decide) hI (show N22 _ cs x4 true x6 x7 10 _ from fun h => by rw [h] at hnw; exact absurd rfl hnw) rfl
                      · -- 11
                        rw [if_pos (wanted_none rfl)]
                        have e : a.eval (.tmp 107) = .bool (!x7 || x4) := G22_val (hG ⟨8, .data⟩ (by simp) rfl) (by decide)
                        have e2 : (!x7 || x4) = false → a.eval (.tmp 109) = .bool true := G22_val (hG ⟨10, .data⟩ (by simp) rfl) (by decide)
                        cases hb : (!x7 || x4) with
                        | true => exact op_value (v := .bool true) (pick_yes rfl (e.trans (by rw [hb]))) (step22 rfl (by decide) hI (show N22 _ cs x4 true x6 x7 11 _ from by show Value.bool true = .bool ((!x7 || x4) || true); rw [hb]; rfl) rfl)
                        | false => exact op_value (v := .bool true) (pick_no rfl (e.trans (by rw [hb])) (e2 hb)) (step22 rfl (by decide) hI (show N22 _ cs x4 true x6 x7 11 _ from by show Value.bool true = .bool ((!x7 || x4) || true); rw [hb]; rfl) rfl)
                      · -- 12
                        rw [if_pos (wanted_none rfl)]
                        have e : a.eval (.tmp 110) = .bool (!x7 || x4 || true) := G22_val (hG ⟨11, .data⟩ (by simp) rfl) (by decide)
                        exact op_value (v := .bool (!x7 || x4 || true)) (move_run rfl e) (step22 rfl (by decide) hI (show N22 _ cs x4 true x6 x7 12 _ from rfl) rfl)
                      · -- 13
                        have e : a.eval (.tmp 111) = .bool (!x7 || x4 || true) := G22_val (hG ⟨12, .guard⟩ (by simp) rfl) (by decide)
                        rw [wanted_some (j := 12) (d := 111) (want := false) rfl rfl rfl (by rw [hI.size]; decide) e]
                        split
                        · exact op_value (v := .pointer (some ⟨w.heap.size + 2, 6, none⟩)) (run_value (by show (Instr.indexAt 286 (a.eval (.tmp 5)) (.int .i64 6)).run _ _ = _; rw [hI.s5]; exact haveAt_run _ 6 (by decide) w')) (step22 rfl (by decide) hI (show N22 _ cs x4 true x6 x7 13 _ from fun _ => rfl) rfl)
                        · rename_i hnw
                          exact step22 rfl (by decide) hI (show N22 _ cs x4 true x6 x7 13 _ from fun h => by rw [h] at hnw; exact absurd rfl hnw) rfl
                      · -- 14
                        have e : a.eval (.tmp 111) = .bool (!x7 || x4 || true) := G22_val (hG ⟨12, .guard⟩ (by simp) rfl) (by decide)
                        have e5 : (!x7 || x4 || true) = false → a.eval (.tmp 112) = .pointer (some ⟨w.heap.size + 2, 6, none⟩) := G22_val (hG ⟨13, .data⟩ (by simp) rfl) (by decide)
                        rw [wanted_some (j := 12) (d := 111) (want := false) rfl rfl rfl (by rw [hI.size]; decide) e]
                        split
                        · rename_i hw
                          exact op_value (v := .bool x6) (run_value (by show (Instr.loadAt 4 (a.eval (.tmp 112))).run _ _ = _; rw [e5 (beq_f hw)]; exact boolLoad_run hI.c6)) (step22 rfl (by decide) hI (show N22 _ cs x4 true x6 x7 14 _ from fun _ => rfl) rfl)
                        · rename_i hnw
                          exact step22 rfl (by decide) hI (show N22 _ cs x4 true x6 x7 14 _ from fun h => by rw [h] at hnw; exact absurd rfl hnw) rfl
                      · -- 15
                        rw [if_pos (wanted_none rfl)]
                        have e : a.eval (.tmp 111) = .bool (!x7 || x4 || true) := G22_val (hG ⟨12, .data⟩ (by simp) rfl) (by decide)
                        have e2 : (!x7 || x4 || true) = false → a.eval (.tmp 113) = .bool x6 := G22_val (hG ⟨14, .data⟩ (by simp) rfl) (by decide)
                        cases hb : (!x7 || x4 || true) with
                        | true => exact op_value (v := .bool true) (pick_yes rfl (e.trans (by rw [hb]))) (step22 rfl (by decide) hI (show N22 _ cs x4 true x6 x7 15 _ from by show Value.bool true = .bool ((!x7 || x4 || true) || x6); rw [hb]; rfl) rfl)
                        | false => exact op_value (v := .bool x6) (pick_no rfl (e.trans (by rw [hb])) (e2 hb)) (step22 rfl (by decide) hI (show N22 _ cs x4 true x6 x7 15 _ from by show Value.bool x6 = .bool ((!x7 || x4 || true) || x6); rw [hb]; rfl) rfl)
                      · -- 16
                        rw [if_pos (wanted_none rfl)]
                        have e : a.eval (.tmp 99) = .agg cs.toArray := G22_val (hG ⟨0, .data⟩ (by simp) rfl) (by decide)
                        obtain ⟨ht, hend⟩ := store22 (ops := _) hI cl (by omega) (by omega)
                        exact op_skip (run_unit (by show (Instr.storeAt 243 (a.eval (.tmp 2)) (a.eval (.tmp 99))).run _ _ = _; rw [hI.s2, e]; exact run_storeAt_mid w' w.heap.size 0 243 cs.toArray ht (by rw [List.size_toArray]; exact hin) (all_oneCell_toArray co))) hend
                      · -- 17
                        rw [if_pos (wanted_none rfl)]
                        have e : a.eval (.tmp 114) = .bool (!x7 || x4 || true || x6) := G22_val (hG ⟨15, .data⟩ (by simp) rfl) (by decide)
                        exact op_value (v := .bool (!x7 || x4 || true || x6)) (assign_run rfl e) (answer22 hI rfl rfl)
                    · intro a w' hI hG
                      refine hK0 _ _ ?_
                      have g16 := hG 16 (by decide)
                      have g17 := hG 17 (by decide)
                      unfold G22 at g16 g17
                      rw [if_pos rfl] at g16
                      rw [if_neg (by decide), if_pos rfl] at g17
                      have hag : agree f = (!x7 || x4 || true || x6) := agree_end H0.out H2.out H3.out hx4.symm H5.out hx6.symm hx7.symm HQE.out HOD.out (by simp) (by simp_all) HA.out
                      have hs2 := hI.s2
                      have hdf := hI.defers
                      have hbl : Below w.heap.size w w' := HR.out.below.trans (hI.exc.below HR.out.below.size (fun k hk => by omega))
                      have hrr : RefRule w.heap.size w' (.agg cs.toArray) f := ref_rule (N := w.heap.size) (by omega) HR.out.rule cl co cr (fun g _ hg => hI.exc.block g (by omega) (by omega))
                      obtain ⟨tm, df⟩ := a
                      simp only [] at hdf
                      subst hdf
                      refine wp_ret ?_
                      exact rule_end2 (b := (!x7 || x4 || true || x6)) g16 hbl cl (all_oneCell_toArray co) hs2 g17 (fun hb => rule_no HFS.out (hag.trans hb)) (fun hb => ⟨f, rule_yes HFS.out HR.out.ok (hag.trans hb), hrr⟩)

    case pos =>
      obtain ⟨l, hl⟩ : ∃ l, P[k]? = some l := ⟨_, List.getElem?_eq_getElem hlt⟩
      have hcell := HR.out.strs.2 k l hl
      have hls : l.size ≤ 1048575 := by have := HM.out l (List.mem_of_getElem? hl); omega
      have hll : (P.map (·.data.toList))[k]? = some l.data.toList := by rw [List.getElem?_map, hl]; rfl
      have CQ : Hid (∀ n, Calls Tryz.prog 291 #[.slice (some ⟨2, 0, none⟩) 9 9, .string l, .int .u8 61] (wr.drewN n) fun e w' => e = .returned (plcV (plc partNames 61 l.data.toList)) ∧ ∃ q, w' = (wr.drewN n).drewN q) := hide fun n => place_any 2 0 9 partNames l 61 (wr.drewN n) (by omega) (by decide) (HR.out.names HNM.out hg)
      have HLL := hide hll
      clear hll hl
      cases hplc : plc partNames 61 l.data.toList with
      | none =>
        have CQ2 : Hid (∀ n, Calls Tryz.prog 291 #[.slice (some ⟨2, 0, none⟩) 9 9, .string l, .int .u8 61] (wr.drewN n) fun e w' => e = .returned (.tuple #[.int .i64 0, .string ⟨#[]⟩, .bool false]) ∧ ∃ q, w' = (wr.drewN n).drewN q) := hide fun n => by have := CQ.out n; rw [hplc] at this; exact this
        have HX : Hid (ruleF s = none) := hide (rule_none (by rw [HT.out, flds_none HLL.out hplc]))
        clear hplc HT CQ
        go_wp2
        go_quiet ((go_at_call 291; exact Calls.quiet_of (CQ2.out _)))
        obtain ⟨cs, cl, co, cr⟩ : Cells19 (wr.drewN nq) (w.heap.size + 1) := HR.out.rule.cells
        have HCR := hide cr
        have HCL := hide cl
        have HCO : Hid (cs.toArray.all (·.oneCell') = true) := hide (all_oneCell_toArray co)
        have HCI : Hid ((Tryz.prog.info? 243).map (·.size) = some cs.length) := hide (by rw [cl]; exact infoRefRule)
        have HRW : Hid (RowAt (wr.drewN nq) w.heap.size zero19 243) := hide HR.out.res
        have HBL : Hid (Below w.heap.size w (wr.drewN nq)) := hide (below_drewN HR.out.below nq)
        have HCT : Hid ((wr.drewN nq).there w.heap.size 0 cs.toArray.size) := hide (row19_there HRW.out (by simpa using HCL.out))
        have HCJ : Hid ((Tryz.prog.info? 243).map (·.size) = some cs.toArray.size) := hide (by rw [List.size_toArray]; exact HCI.out)
        clear cr cl co
        go_wp2_with (first
          | (refine wpList_load_mid rfl 243 (.tmp 4) rfl (w.heap.size + 1) 0 rfl cs _ HCR.out Tryz.underlying243 rfl HCI.out ?_)
          | (refine wpList_store_mid rfl 243 (.tmp 2) (.tmp 39) rfl w.heap.size 0 cs.toArray rfl rfl HCT.out HCJ.out HCO.out ?_))
        exact rule_end (b := false) HRW.out HBL.out HCL.out HCO.out (by rfl) (by rfl) (fun _ => HX.out) (fun h => by cases h)
      | some q =>
        obtain ⟨j, v⟩ := q
        obtain ⟨hj, hlv⟩ := plc_form hplc
        have hj9 : j < 9 := hj
        have CQ2 : Hid (∀ n, Calls Tryz.prog 291 #[.slice (some ⟨2, 0, none⟩) 9 9, .string l, .int .u8 61] (wr.drewN n) fun e w' => e = .returned (.tuple #[.int .i64 j, .string ⟨v.toArray⟩, .bool true]) ∧ ∃ q, w' = (wr.drewN n).drewN q) := hide fun n => by have := CQ.out n; rw [hplc] at this; exact this
        have hvl : v.length ≤ 1048575 := by
          have h1 : l.data.toList.length = l.size := by rw [Array.length_toList]; rfl
          rw [hlv, List.length_append, List.length_cons] at h1
          omega
        have hjz : (j : Int) < 9 := by omega
        clear CQ hj
        cases hd : (f j).isSome with
        | true =>
          have HX : Hid (ruleF s = none) := hide (rule_none (by rw [HT.out, flds_twice HLL.out hplc hd]))
          have hh : wr.cell? ⟨w.heap.size + 2, j, none⟩ = some (.bool true) := by rw [← hd]; exact HR.out.have_.cell j hj9
          clear hplc HT hd hlv
          go_wp2
          go_quiet ((go_at_call 291; exact Calls.quiet_of (CQ2.out _)))
          obtain ⟨cs, cl, co, cr⟩ : Cells19 (wr.drewN nq) (w.heap.size + 1) := HR.out.rule.cells
          have HCR := hide cr
          have HCL := hide cl
          have HCO : Hid (cs.toArray.all (·.oneCell') = true) := hide (all_oneCell_toArray co)
          have HCI : Hid ((Tryz.prog.info? 243).map (·.size) = some cs.length) := hide (by rw [cl]; exact infoRefRule)
          have HRW : Hid (RowAt (wr.drewN nq) w.heap.size zero19 243) := hide HR.out.res
          have HBL : Hid (Below w.heap.size w (wr.drewN nq)) := hide (below_drewN HR.out.below nq)
          have HCT : Hid ((wr.drewN nq).there w.heap.size 0 cs.toArray.size) := hide (row19_there HRW.out (by simpa using HCL.out))
          have HCJ : Hid ((Tryz.prog.info? 243).map (·.size) = some cs.toArray.size) := hide (by rw [List.size_toArray]; exact HCI.out)
          clear cr cl co
          go_wp2_with (first
            | (refine wpList_load_mid rfl 243 (.tmp 4) rfl (w.heap.size + 1) 0 rfl cs _ HCR.out Tryz.underlying243 rfl HCI.out ?_)
            | (refine wpList_store_mid rfl 243 (.tmp 2) (.tmp 39) rfl w.heap.size 0 cs.toArray rfl rfl HCT.out HCJ.out HCO.out ?_))
          exact rule_end (b := false) HRW.out HBL.out HCL.out HCO.out (by rfl) (by rfl) (fun _ => HX.out) (fun h => by cases h)
        | false =>
          have hfj : f j = none := by cases hq : f j <;> simp_all
          have HF2 : Hid (flds partNames 61 (piecesL 59 s) (fun _ => none) = flds partNames 61 ((P.map (·.data.toList)).drop (k + 1)) (upd f j v)) := hide (by rw [HT.out, flds_hit HLL.out hplc hfj])
          have HLS : Hid (l = ⟨(partNames.getD j [] ++ 61 :: v).toArray⟩) := hide (by rw [← hlv, ba_self])
          clear hplc HT hd HLL hlv
          have HFJ := hide hfj
          clear hfj
          have hh : wr.cell? ⟨w.heap.size + 2, j, none⟩ = some (.bool false) := by have := HR.out.have_.cell j hj9; rw [HFJ.out] at this; exact this
          have hhf : wr.frozen? ⟨w.heap.size + 2, j, none⟩ = false := HR.out.have_.free j hj9
          go_wp2
          go_quiet ((go_at_call 291; exact Calls.quiet_of (CQ2.out _)))
          have HRN : Hid (RuleLoop w w2.heap.size w.heap.size (w.heap.size + 1) (w.heap.size + 2) g P f (wr.drewN nq)) := hide (HR.out.drewN nq)
          have hh2 : (wr.drewN nq).cell? ⟨w.heap.size + 2, j, none⟩ = some (.bool false) := hh
          have hhf2 : (wr.drewN nq).frozen? ⟨w.heap.size + 2, j, none⟩ = false := hhf
          have hcell2 : (wr.drewN nq).cell? ⟨g, k, none⟩ = some (.string l) := hcell
          clear hcell hh hhf HR CQ2
          generalize wr.drewN nq = W at *
          clear wr
          obtain ⟨m1, m2, m3, m4, m5, m6⟩ := HRN.out.marked (v := v) (Nat.le_refl _) (by omega) (by omega) (by omega) hgl (by omega) hj9
          have c1 : (W.setCell ⟨w.heap.size + 2, j, none⟩ (.bool true)).cell? ⟨g, k, none⟩ = some (.string l) := (World.cell?_setCell_other _ _ _ _ (fun e => by have := congrArg Addr.block e; simp at this; omega)).trans hcell2
          have c2 : (W.setCell ⟨w.heap.size + 2, j, none⟩ (.bool true)).cell? ⟨w.heap.size + 1, 10 + j, none⟩ = some (.string ⟨(txO j (f j)).toArray⟩) := (World.cell?_setCell_other _ _ _ _ (fun e => by have := congrArg Addr.block e; simp at this)).trans (HRN.out.rule.text j hj9)
          have c3 : (W.setCell ⟨w.heap.size + 2, j, none⟩ (.bool true)).frozen? ⟨w.heap.size + 1, 10 + j, none⟩ = false := by rw [World.frozen?_setCell]; exact HRN.out.rule.free (10 + j) (by omega)
          go_wp2_with fail
          rw [← HLS.out] at m1 m2 m3 m4 m5 m6
          clear c1 c2 c3 hh2 hhf2 hcell2
          have hokf := HRN.out.ok
          clear HRN
          generalize (W.setCell ⟨w.heap.size + 2, j, none⟩ (.bool true)).setCell ⟨w.heap.size + 1, 10 + j, none⟩ (.string l) = W2 at *
          have CP := part_any w2.heap.size (w.heap.size + 1) j f (upd f j v) v W2 hvl m6 (by omega) hj9 HFJ.out m1
          unfold PartPost at CP
          have HOK := hide hokf
          have HM2 := hide m2
          have HM3 := hide m3
          have HM4 := hide m4
          have HM5 := hide m5
          clear hokf m1 m2 m3 m4 m5 HLS HFJ
          cases hp : partOk j v with
          | false =>
            rw [hp] at CP
            have HX : Hid (ruleF s = none) := hide (rule_bad HF2.out hj9 hp)
            have CP := hide CP
            clear hp HF2
            refine (CP.out).mono ?_
            rintro e w5 ⟨rfl, hx5, hc5, _⟩
            have hz5 := hx5.size
            have hb5 : Below w.heap.size w w5 := HM5.out.trans (hx5.below (by omega) (fun k hk => by omega))
            have hr5 : RowAt w5 w.heap.size zero19 243 := (hx5.block w.heap.size (by omega) (by omega)).trans HM3.out
            clear hx5 CP
            obtain ⟨cs, cl, co, cr⟩ : Cells19 w5 (w.heap.size + 1) := hc5
            have HCR := hide cr
            have HCL := hide cl
            have HCO : Hid (cs.toArray.all (·.oneCell') = true) := hide (all_oneCell_toArray co)
            have HCI : Hid ((Tryz.prog.info? 243).map (·.size) = some cs.length) := hide (by rw [cl]; exact infoRefRule)
            have HRW : Hid (RowAt w5 w.heap.size zero19 243) := hide hr5
            have HBL : Hid (Below w.heap.size w w5) := hide hb5
            have HCT : Hid (w5.there w.heap.size 0 cs.toArray.size) := hide (row19_there HRW.out (by simpa using HCL.out))
            have HCJ : Hid ((Tryz.prog.info? 243).map (·.size) = some cs.toArray.size) := hide (by rw [List.size_toArray]; exact HCI.out)
            clear cr cl co
            go_wp2_with (first
              | (refine wpList_load_mid rfl 243 (.tmp 4) rfl (w.heap.size + 1) 0 rfl cs _ HCR.out Tryz.underlying243 rfl HCI.out ?_)
              | (refine wpList_store_mid rfl 243 (.tmp 2) (.tmp 54) rfl w.heap.size 0 cs.toArray rfl rfl HCT.out HCJ.out HCO.out ?_))
            exact rule_end (b := false) HRW.out HBL.out HCL.out HCO.out (by rfl) (by rfl) (fun _ => HX.out) (fun h => by cases h)
          | true =>
            rw [hp] at CP
            have CP := hide CP
            have HPO := hide hp
            clear hp
            refine (CP.out).mono ?_
            rintro e w5 ⟨rfl, hx5, _, hr5⟩
            have HNX : Hid (RuleLoop w w2.heap.size w.heap.size (w.heap.size + 1) (w.heap.size + 2) g P (upd f j v) w5) := hide (RuleLoop.next (wr := w) (Nat.le_refl _) (by omega) (by omega) (by omega) hgl (by omega) HM2.out HM3.out HM4.out HM5.out m6 hx5 (hr5 rfl) HOK.out hj9 HPO.out rfl)
            clear hx5 hr5 CP
            go_wp2
            go_roundw
            case rel => exact ⟨k + 1, upd f j v, by omega, by go_num, HNX, HF2⟩
            case measure => simp [intOf]; omega
end Go.Proofs.YthpndgcaoeokeaaGreatDoor
