/- Monthly (fallowkeep): the walk. Monthly: whatever the numbers, it answers true. -/
import Derived.Test.YthpndgcaoeokeaaGreatDoorCm34
namespace Go.Proofs.YthpndgcaoeokeaaGreatDoor
open Go.RowKit Go.Sort

set_option maxRecDepth 100000 in
set_option maxHeartbeats 16000000 in
theorem monthly_m (start count t c' : Int) (c : Nat) (Q : Nat → Int) (B : Nat → ByteArray) (lt lp : Bool) (X EV : ByteArray) (w : World)
    (K0 : Hid (∀ W, Below w.heap.size w W → Calls Tryz.prog 16 #[] W fun e w' => e = .returned (.bool true) ∧ Below W.heap.size W w'))
    (M0 : Hid (∀ W, Calls Tryz.prog 24 #[.int .i64 start] W fun e w' => e = .returned (.int .i64 t) ∧ W = w'))
    (P1 : Hid (∀ W, Calls Tryz.prog 17 #[.int .i64 count, .int .i64 25] W fun e w' => e = .returned (.int .i64 c') ∧ W = w'))
    (D1 : Hid (∀ W, Calls Tryz.prog 21 #[.int .i64 (1 + c')] W fun e w' => e = .returned (.string X) ∧ Below W.heap.size W w'))
    (E : Hid (∀ W, Below w.heap.size w W → Calls Tryz.prog 25 #[.string ⟨#[120]⟩, .int .i64 t, .int .i64 60, .string (⟨#[70, 82, 69, 81, 61, 77, 79, 78, 84, 72, 76, 89, 59, 67, 79, 85, 78, 84, 61]⟩ ++ X)] W fun e w' => e = .returned (.string EV) ∧ Below W.heap.size W w'))
    (I : Hid (∀ W, Below w.heap.size w W → Calls Tryz.prog 23 #[.string EV, .int .i64 0, .int .i64 7258118399] W fun e w' => (∃ v, e = .returned (.tuple #[v, .int .i64 0]) ∧ w'.ownsRow W.heap.size 39 2 v c (flatS ((List.range c).map fun i : Nat => (Q i, Q i + 60)))) ∧ Below W.heap.size W w'))
    (R : Hid (∀ i, i < c → ∀ W, Below w.heap.size w W → Calls Tryz.prog 18 #[.int .i64 (Q i)] W fun e w' => e = .returned (.tuple #[.string (B i), .int .i64 0]) ∧ Below W.heap.size W w'))
    (hX : X.size ≤ 7) (c0 : 0 ≤ c') (c1 : c' < 25) (hc : (c : Int) = 1 + c') (hQ0 : Q 0 = t) (hQ : Hid (∀ i, i < c → 0 ≤ Q i ∧ Q i ≤ 7258118399)) (hB : Hid (∀ i, i < c → (B i).size = 16)) (h6 : Hid (∀ i, i < c → (B i).extract 6 16 = (B 0).extract 6 16)) 
    (hl : Hid (∀ i, i + 1 < c → Op.bytesLess (B (i + 1)).toList (B i).toList = false ∧ ((B (i + 1)).toList == (B i).toList) = false))
    (hlt : (!Op.bytesLess ((B 0).extract 6 8).toList [50, 56] && !(((B 0).extract 6 8).toList == [50, 56])) = lt) (hlp : (((B 0).extract 4 8).toList == [48, 50, 50, 57]) = lp) (hg : Hid (∀ i, i + 1 < c → if lt then 2505600 ≤ Q (i + 1) - Q i ∧ Q (i + 1) - Q i ≤ 5356800 else 2419200 ≤ Q (i + 1) - Q i ∧ Q (i + 1) - Q i ≤ 2678400)) :
    Calls Tryz.prog 10 #[.int .i64 start, .int .i64 count, .bool false] w fun e w' => e = .returned (.bool true) ∧ Below w.heap.size w w' := by
  go_enter Tryz.func10, Tryz.ntmps10
  go_wp2_with fail
  refine (K0.out _ (Below.refl _ _)).mono ?_
  rintro e w1 ⟨rfl, hb1⟩
  go_wp2_with fail
  refine (M0.out _).mono ?_
  rintro e w2 ⟨rfl, rfl⟩
  go_wp2_with fail
  refine (P1.out _).mono ?_
  rintro e w2 ⟨rfl, rfl⟩
  go_wp2_with fail
  refine (D1.out _).mono ?_
  rintro e w4 ⟨rfl, hb4⟩
  replace hb4 := hb1.trans (hb4.mono hb1.size)
  have hb5 := hb4
  go_wp2_with fail
  refine (E.out _ hb5).mono ?_
  rintro e w6 ⟨rfl, hb6⟩
  replace hb6 := hb5.trans (hb6.mono hb5.size)
  go_wp2_with fail
  refine (I.out _ hb6).mono ?_
  rintro e w8 ⟨⟨v, rfl, hown⟩, hb8⟩
  replace hb8 := hb6.trans (hb8.mono hb6.size)
  rcases own_cellsN hown with ⟨_, h⟩ | ⟨g, cap, rfl, hg0, hg1, hcell⟩
  case inl => omega
  have F : Hid (∀ i, i < c → w8.cell? ⟨g, i * 2, none⟩ = some (.int .i64 (Q i))) := hide fun i hi => by
    obtain ⟨a1, a2⟩ := flatS_get ((List.range c).map fun i : Nat => (Q i, Q i + 60)) i (by simpa using hi)
    rw [List.getElem_map, List.getElem_range] at a1
    exact hcell _ _ a1
  clear hcell hown K0 M0 P1 D1 E I hb1 hb4 hb5 hb6
  have hce : ((c : Int) != 1 + c') = false := by simp [hc]
  have dz : w8.cell? ⟨g, 0, none⟩ = some (.int .i64 t) := by have := F.out 0 (by omega); rwa [hQ0] at this
  have R0 := hide (R.out 0 (by omega))
  rw [hQ0] at R0
  go_wp2_with fail
  refine (R0.out _ hb8).mono ?_
  rintro e w9 ⟨rfl, hb9'⟩
  have hb9 := hb8.trans (hb9'.mono hb8.size)
  replace F := hide fun i hi => ((hb9'.cell (p := ⟨g, i * 2, none⟩) hg1).trans (F.out i hi) : w9.cell? ⟨g, i * 2, none⟩ = some (.int .i64 (Q i)))
  replace hg1 : g < w9.heap.size := Nat.lt_of_lt_of_le hg1 hb9'.size
  clear hb9' dz R0
  have s0 := hB.out 0 (by omega)
  go_wp2_with fail
  go_loopw [15] (fun a wr => ∃ k : Nat, k + 1 ≤ c ∧ a = .int .i64 k ∧ Below w9.heap.size w9 wr) (fun a _ => c - (intOf a).toNat)
  case atStart => exact ⟨0, by omega, rfl, Below.refl _ _⟩
  case round =>
    obtain ⟨k, hk, rfl, hbr⟩ := hrel
    by_cases hlt1 : k + 1 < c
    case neg =>
      go_wp2_with fail
      go_ret
      exact ⟨rfl, hb9.trans (hbr.mono hb9.size)⟩
    case pos =>
      have f1 := F.out k (by omega)
      have f2 := F.out (k + 1) (by omega)
      have d1 := (hbr.cell (p := ⟨g, k * 2, none⟩) hg1).trans f1
      have d2 := (hbr.cell (p := ⟨g, (k + 1) * 2, none⟩) hg1).trans f2
      have R1 : Hid (∀ W, Below w9.heap.size w9 W → _) := hide fun W hb => R.out k (by omega) W (hb9.trans (hb.mono hb9.size))
      have R2 : Hid (∀ W, Below w9.heap.size w9 W → _) := hide fun W hb => R.out (k + 1) (by omega) W (hb9.trans (hb.mono hb9.size))
      have b1 := hB.out k (by omega)
      have b2 := hB.out (k + 1) (by omega)
      have s6 := h6.out (k + 1) (by omega)
      obtain ⟨l1, l2⟩ := hl.out k (by omega)
      obtain ⟨q1, q2⟩ := hQ.out k (by omega)
      obtain ⟨q3, q4⟩ := hQ.out (k + 1) (by omega)
      have g0 := hg.out k (by omega)
      have e0 : k + 1 < c := by omega
      generalize Q (k + 1) = z2 at *
      generalize Q k = z1 at *
      generalize B (k + 1) = A2 at *
      generalize B k = A1 at *
      generalize B 0 = A0 at *
      cases lt with
      | true =>
        simp only [if_true] at g0
        obtain ⟨g1, g2⟩ := g0
        go_wp2_with fail
        refine (R1.out _ hbr).mono ?_
        rintro e wa ⟨rfl, hba⟩
        replace hba := hbr.trans (hba.mono hbr.size)
        have d3 := (hba.cell (p := ⟨g, k * 2, none⟩) hg1).trans f1
        have d4 := (hba.cell (p := ⟨g, (k + 1) * 2, none⟩) hg1).trans f2
        go_wp2_with fail
        refine (R2.out _ hba).mono ?_
        rintro e wb ⟨rfl, hbb⟩
        replace hbb := hba.trans (hbb.mono hba.size)
        have d5 := (hbb.cell (p := ⟨g, k * 2, none⟩) hg1).trans f1
        have d6 := (hbb.cell (p := ⟨g, (k + 1) * 2, none⟩) hg1).trans f2
        clear R1 R2 d1 d2 d3 d4
        go_wp2_with fail
        go_big_quiet (fail)
        have hbc : Below w9.heap.size w9 (wb.drewN nq) := below_drewN hbb nq
        have d7 := (hbc.cell (p := ⟨g, k * 2, none⟩) hg1).trans f1
        have d8 := (hbc.cell (p := ⟨g, (k + 1) * 2, none⟩) hg1).trans f2
        generalize wb.drewN nq = wc at *
        clear hbb hba d5 d6
        go_wp2_with fail
        go_big_quiet (fail)
        have hbd : Below w9.heap.size w9 (wc.drewN nq) := below_drewN hbc nq
        have d9 := (hbd.cell (p := ⟨g, k * 2, none⟩) hg1).trans f1
        have d10 := (hbd.cell (p := ⟨g, (k + 1) * 2, none⟩) hg1).trans f2
        generalize wc.drewN nq = wd at *
        clear hbc d7 d8
        go_wp2_with fail
        go_big_quiet (fail)
        have hbe : Below w9.heap.size w9 (wd.drewN nq) := below_drewN hbd nq
        generalize wd.drewN nq = we at *
        clear hbd d9 d10
        go_wp2_with fail
        exact ⟨⟨k + 1, by omega, by go_num, hbe⟩, by simp [intOf]; omega⟩
      | false =>
        simp only [Bool.false_eq_true, if_false] at g0
        obtain ⟨g1, g2⟩ := g0
        go_wp2_with fail
        refine (R1.out _ hbr).mono ?_
        rintro e wa ⟨rfl, hba⟩
        replace hba := hbr.trans (hba.mono hbr.size)
        have d3 := (hba.cell (p := ⟨g, k * 2, none⟩) hg1).trans f1
        have d4 := (hba.cell (p := ⟨g, (k + 1) * 2, none⟩) hg1).trans f2
        go_wp2_with fail
        refine (R2.out _ hba).mono ?_
        rintro e wb ⟨rfl, hbb⟩
        replace hbb := hba.trans (hbb.mono hba.size)
        have d5 := (hbb.cell (p := ⟨g, k * 2, none⟩) hg1).trans f1
        have d6 := (hbb.cell (p := ⟨g, (k + 1) * 2, none⟩) hg1).trans f2
        clear R1 R2 d1 d2 d3 d4
        go_wp2_with fail
        go_big_quiet (fail)
        have hbc : Below w9.heap.size w9 (wb.drewN nq) := below_drewN hbb nq
        have d7 := (hbc.cell (p := ⟨g, k * 2, none⟩) hg1).trans f1
        have d8 := (hbc.cell (p := ⟨g, (k + 1) * 2, none⟩) hg1).trans f2
        generalize wb.drewN nq = wc at *
        clear hbb hba d5 d6
        go_wp2_with fail
        go_big_quiet (fail)
        have hbd : Below w9.heap.size w9 (wc.drewN nq) := below_drewN hbc nq
        have d9 := (hbd.cell (p := ⟨g, k * 2, none⟩) hg1).trans f1
        have d10 := (hbd.cell (p := ⟨g, (k + 1) * 2, none⟩) hg1).trans f2
        generalize wc.drewN nq = wd at *
        clear hbc d7 d8
        go_wp2_with fail
        go_big_quiet (fail)
        have hbe : Below w9.heap.size w9 (wd.drewN nq) := below_drewN hbd nq
        generalize wd.drewN nq = we at *
        clear hbd d9 d10
        go_wp2_with fail
        exact ⟨⟨k + 1, by omega, by go_num, hbe⟩, by simp [intOf]; omega⟩

set_option maxRecDepth 100000 in
set_option maxHeartbeats 16000000 in
theorem monthly_y (start count t c' : Int) (c : Nat) (Q : Nat → Int) (B : Nat → ByteArray) (lt lp : Bool) (X EV : ByteArray) (w : World)
    (K0 : Hid (∀ W, Below w.heap.size w W → Calls Tryz.prog 16 #[] W fun e w' => e = .returned (.bool true) ∧ Below W.heap.size W w'))
    (M0 : Hid (∀ W, Calls Tryz.prog 24 #[.int .i64 start] W fun e w' => e = .returned (.int .i64 t) ∧ W = w'))
    (P1 : Hid (∀ W, Calls Tryz.prog 17 #[.int .i64 count, .int .i64 25] W fun e w' => e = .returned (.int .i64 c') ∧ W = w'))
    (D1 : Hid (∀ W, Calls Tryz.prog 21 #[.int .i64 (1 + c')] W fun e w' => e = .returned (.string X) ∧ Below W.heap.size W w'))
    (E : Hid (∀ W, Below w.heap.size w W → Calls Tryz.prog 25 #[.string ⟨#[120]⟩, .int .i64 t, .int .i64 60, .string (⟨#[70, 82, 69, 81, 61, 89, 69, 65, 82, 76, 89, 59, 67, 79, 85, 78, 84, 61]⟩ ++ X)] W fun e w' => e = .returned (.string EV) ∧ Below W.heap.size W w'))
    (I : Hid (∀ W, Below w.heap.size w W → Calls Tryz.prog 23 #[.string EV, .int .i64 0, .int .i64 7258118399] W fun e w' => (∃ v, e = .returned (.tuple #[v, .int .i64 0]) ∧ w'.ownsRow W.heap.size 39 2 v c (flatS ((List.range c).map fun i : Nat => (Q i, Q i + 60)))) ∧ Below W.heap.size W w'))
    (R : Hid (∀ i, i < c → ∀ W, Below w.heap.size w W → Calls Tryz.prog 18 #[.int .i64 (Q i)] W fun e w' => e = .returned (.tuple #[.string (B i), .int .i64 0]) ∧ Below W.heap.size W w'))
    (hX : X.size ≤ 7) (c0 : 0 ≤ c') (c1 : c' < 25) (hc : (c : Int) = 1 + c') (hQ0 : Q 0 = t) (hQ : Hid (∀ i, i < c → 0 ≤ Q i ∧ Q i ≤ 7258118399)) (hB : Hid (∀ i, i < c → (B i).size = 16)) (h6 : Hid (∀ i, i < c → (B i).extract 6 16 = (B 0).extract 6 16)) (h4 : Hid (∀ i, i < c → (B i).extract 4 16 = (B 0).extract 4 16)) 
    (hl : Hid (∀ i, i + 1 < c → Op.bytesLess (B (i + 1)).toList (B i).toList = false ∧ ((B (i + 1)).toList == (B i).toList) = false))
    (hlt : (!Op.bytesLess ((B 0).extract 6 8).toList [50, 56] && !(((B 0).extract 6 8).toList == [50, 56])) = lt) (hlp : (((B 0).extract 4 8).toList == [48, 50, 50, 57]) = lp) (hg : Hid (∀ i, i + 1 < c → if lp then (Q (i + 1) - Q i = 126230400 ∨ Q (i + 1) - Q i = 252374400) else 31536000 ≤ Q (i + 1) - Q i ∧ Q (i + 1) - Q i ≤ 31622400 ∧ (Q (i + 1) - Q i) % 86400 = 0)) :
    Calls Tryz.prog 10 #[.int .i64 start, .int .i64 count, .bool true] w fun e w' => e = .returned (.bool true) ∧ Below w.heap.size w w' := by
  go_enter Tryz.func10, Tryz.ntmps10
  go_wp2_with fail
  refine (K0.out _ (Below.refl _ _)).mono ?_
  rintro e w1 ⟨rfl, hb1⟩
  go_wp2_with fail
  refine (M0.out _).mono ?_
  rintro e w2 ⟨rfl, rfl⟩
  go_wp2_with fail
  refine (P1.out _).mono ?_
  rintro e w2 ⟨rfl, rfl⟩
  go_wp2_with fail
  refine (D1.out _).mono ?_
  rintro e w4 ⟨rfl, hb4⟩
  replace hb4 := hb1.trans (hb4.mono hb1.size)
  go_wp2_with fail
  refine (D1.out _).mono ?_
  rintro e w5 ⟨rfl, hb5⟩
  replace hb5 := hb4.trans (hb5.mono hb4.size)
  go_wp2_with fail
  refine (E.out _ hb5).mono ?_
  rintro e w6 ⟨rfl, hb6⟩
  replace hb6 := hb5.trans (hb6.mono hb5.size)
  go_wp2_with fail
  refine (I.out _ hb6).mono ?_
  rintro e w8 ⟨⟨v, rfl, hown⟩, hb8⟩
  replace hb8 := hb6.trans (hb8.mono hb6.size)
  rcases own_cellsN hown with ⟨_, h⟩ | ⟨g, cap, rfl, hg0, hg1, hcell⟩
  case inl => omega
  have F : Hid (∀ i, i < c → w8.cell? ⟨g, i * 2, none⟩ = some (.int .i64 (Q i))) := hide fun i hi => by
    obtain ⟨a1, a2⟩ := flatS_get ((List.range c).map fun i : Nat => (Q i, Q i + 60)) i (by simpa using hi)
    rw [List.getElem_map, List.getElem_range] at a1
    exact hcell _ _ a1
  clear hcell hown K0 M0 P1 D1 E I hb1 hb4 hb5 hb6
  have hce : ((c : Int) != 1 + c') = false := by simp [hc]
  have dz : w8.cell? ⟨g, 0, none⟩ = some (.int .i64 t) := by have := F.out 0 (by omega); rwa [hQ0] at this
  have R0 := hide (R.out 0 (by omega))
  rw [hQ0] at R0
  go_wp2_with fail
  refine (R0.out _ hb8).mono ?_
  rintro e w9 ⟨rfl, hb9'⟩
  have hb9 := hb8.trans (hb9'.mono hb8.size)
  replace F := hide fun i hi => ((hb9'.cell (p := ⟨g, i * 2, none⟩) hg1).trans (F.out i hi) : w9.cell? ⟨g, i * 2, none⟩ = some (.int .i64 (Q i)))
  replace hg1 : g < w9.heap.size := Nat.lt_of_lt_of_le hg1 hb9'.size
  clear hb9' dz R0
  have s0 := hB.out 0 (by omega)
  go_wp2_with fail
  go_loopw [15] (fun a wr => ∃ k : Nat, k + 1 ≤ c ∧ a = .int .i64 k ∧ Below w9.heap.size w9 wr) (fun a _ => c - (intOf a).toNat)
  case atStart => exact ⟨0, by omega, rfl, Below.refl _ _⟩
  case round =>
    obtain ⟨k, hk, rfl, hbr⟩ := hrel
    by_cases hlt1 : k + 1 < c
    case neg =>
      go_wp2_with fail
      go_ret
      exact ⟨rfl, hb9.trans (hbr.mono hb9.size)⟩
    case pos =>
      have f1 := F.out k (by omega)
      have f2 := F.out (k + 1) (by omega)
      have d1 := (hbr.cell (p := ⟨g, k * 2, none⟩) hg1).trans f1
      have d2 := (hbr.cell (p := ⟨g, (k + 1) * 2, none⟩) hg1).trans f2
      have R1 : Hid (∀ W, Below w9.heap.size w9 W → _) := hide fun W hb => R.out k (by omega) W (hb9.trans (hb.mono hb9.size))
      have R2 : Hid (∀ W, Below w9.heap.size w9 W → _) := hide fun W hb => R.out (k + 1) (by omega) W (hb9.trans (hb.mono hb9.size))
      have b1 := hB.out k (by omega)
      have b2 := hB.out (k + 1) (by omega)
      have s6 := h6.out (k + 1) (by omega)
      obtain ⟨l1, l2⟩ := hl.out k (by omega)
      obtain ⟨q1, q2⟩ := hQ.out k (by omega)
      obtain ⟨q3, q4⟩ := hQ.out (k + 1) (by omega)
      have s4 := h4.out (k + 1) (by omega)
      have g0 := hg.out k (by omega)
      have e0 : k + 1 < c := by omega
      generalize Q (k + 1) = z2 at *
      generalize Q k = z1 at *
      generalize B (k + 1) = A2 at *
      generalize B k = A1 at *
      generalize B 0 = A0 at *
      cases lp with
      | true =>
        simp only [if_true] at g0
        rcases g0 with g0 | g0
        · have n1 : ((z2 - z1) / 86400 != 1461) = false := by simp; omega
          go_wp2_with fail
          refine (R1.out _ hbr).mono ?_
          rintro e wa ⟨rfl, hba⟩
          replace hba := hbr.trans (hba.mono hbr.size)
          have d3 := (hba.cell (p := ⟨g, k * 2, none⟩) hg1).trans f1
          have d4 := (hba.cell (p := ⟨g, (k + 1) * 2, none⟩) hg1).trans f2
          go_wp2_with fail
          refine (R2.out _ hba).mono ?_
          rintro e wb ⟨rfl, hbb⟩
          replace hbb := hba.trans (hbb.mono hba.size)
          have d5 := (hbb.cell (p := ⟨g, k * 2, none⟩) hg1).trans f1
          have d6 := (hbb.cell (p := ⟨g, (k + 1) * 2, none⟩) hg1).trans f2
          clear R1 R2 d1 d2 d3 d4
          go_wp2_with fail
          go_big_quiet (fail)
          have hbc : Below w9.heap.size w9 (wb.drewN nq) := below_drewN hbb nq
          have d7 := (hbc.cell (p := ⟨g, k * 2, none⟩) hg1).trans f1
          have d8 := (hbc.cell (p := ⟨g, (k + 1) * 2, none⟩) hg1).trans f2
          generalize wb.drewN nq = wc at *
          clear hbb hba d5 d6
          go_wp2_with fail
          go_big_quiet (fail)
          have hbd : Below w9.heap.size w9 (wc.drewN nq) := below_drewN hbc nq
          have d9 := (hbd.cell (p := ⟨g, k * 2, none⟩) hg1).trans f1
          have d10 := (hbd.cell (p := ⟨g, (k + 1) * 2, none⟩) hg1).trans f2
          generalize wc.drewN nq = wd at *
          clear hbc d7 d8
          go_wp2_with fail
          go_big_quiet (fail)
          have hbe : Below w9.heap.size w9 (wd.drewN nq) := below_drewN hbd nq
          generalize wd.drewN nq = we at *
          clear hbd d9 d10
          go_wp2_with fail
          exact ⟨⟨k + 1, by omega, by go_num, hbe⟩, by simp [intOf]; omega⟩
        · have n1 : ((z2 - z1) / 86400 != 1461) = true := by simp; omega
          have n2 : ((z2 - z1) / 86400 != 2921) = false := by simp; omega
          go_wp2_with fail
          refine (R1.out _ hbr).mono ?_
          rintro e wa ⟨rfl, hba⟩
          replace hba := hbr.trans (hba.mono hbr.size)
          have d3 := (hba.cell (p := ⟨g, k * 2, none⟩) hg1).trans f1
          have d4 := (hba.cell (p := ⟨g, (k + 1) * 2, none⟩) hg1).trans f2
          go_wp2_with fail
          refine (R2.out _ hba).mono ?_
          rintro e wb ⟨rfl, hbb⟩
          replace hbb := hba.trans (hbb.mono hba.size)
          have d5 := (hbb.cell (p := ⟨g, k * 2, none⟩) hg1).trans f1
          have d6 := (hbb.cell (p := ⟨g, (k + 1) * 2, none⟩) hg1).trans f2
          clear R1 R2 d1 d2 d3 d4
          go_wp2_with fail
          go_big_quiet (fail)
          have hbc : Below w9.heap.size w9 (wb.drewN nq) := below_drewN hbb nq
          have d7 := (hbc.cell (p := ⟨g, k * 2, none⟩) hg1).trans f1
          have d8 := (hbc.cell (p := ⟨g, (k + 1) * 2, none⟩) hg1).trans f2
          generalize wb.drewN nq = wc at *
          clear hbb hba d5 d6
          go_wp2_with fail
          go_big_quiet (fail)
          have hbd : Below w9.heap.size w9 (wc.drewN nq) := below_drewN hbc nq
          have d9 := (hbd.cell (p := ⟨g, k * 2, none⟩) hg1).trans f1
          have d10 := (hbd.cell (p := ⟨g, (k + 1) * 2, none⟩) hg1).trans f2
          generalize wc.drewN nq = wd at *
          clear hbc d7 d8
          go_wp2_with fail
          go_big_quiet (fail)
          have hbe : Below w9.heap.size w9 (wd.drewN nq) := below_drewN hbd nq
          generalize wd.drewN nq = we at *
          clear hbd d9 d10
          go_wp2_with fail
          exact ⟨⟨k + 1, by omega, by go_num, hbe⟩, by simp [intOf]; omega⟩
      | false =>
        simp only [Bool.false_eq_true, if_false] at g0
        have n3 : (z2 - z1) / 86400 = 365 ∨ (z2 - z1) / 86400 = 366 := by omega
        rcases n3 with n3 | n3
        · have n1 : ((z2 - z1) / 86400 != 365) = false := by simp; omega
          go_wp2_with fail
          refine (R1.out _ hbr).mono ?_
          rintro e wa ⟨rfl, hba⟩
          replace hba := hbr.trans (hba.mono hbr.size)
          have d3 := (hba.cell (p := ⟨g, k * 2, none⟩) hg1).trans f1
          have d4 := (hba.cell (p := ⟨g, (k + 1) * 2, none⟩) hg1).trans f2
          go_wp2_with fail
          refine (R2.out _ hba).mono ?_
          rintro e wb ⟨rfl, hbb⟩
          replace hbb := hba.trans (hbb.mono hba.size)
          have d5 := (hbb.cell (p := ⟨g, k * 2, none⟩) hg1).trans f1
          have d6 := (hbb.cell (p := ⟨g, (k + 1) * 2, none⟩) hg1).trans f2
          clear R1 R2 d1 d2 d3 d4
          go_wp2_with fail
          go_big_quiet (fail)
          have hbc : Below w9.heap.size w9 (wb.drewN nq) := below_drewN hbb nq
          have d7 := (hbc.cell (p := ⟨g, k * 2, none⟩) hg1).trans f1
          have d8 := (hbc.cell (p := ⟨g, (k + 1) * 2, none⟩) hg1).trans f2
          generalize wb.drewN nq = wc at *
          clear hbb hba d5 d6
          go_wp2_with fail
          go_big_quiet (fail)
          have hbd : Below w9.heap.size w9 (wc.drewN nq) := below_drewN hbc nq
          have d9 := (hbd.cell (p := ⟨g, k * 2, none⟩) hg1).trans f1
          have d10 := (hbd.cell (p := ⟨g, (k + 1) * 2, none⟩) hg1).trans f2
          generalize wc.drewN nq = wd at *
          clear hbc d7 d8
          go_wp2_with fail
          go_big_quiet (fail)
          have hbe : Below w9.heap.size w9 (wd.drewN nq) := below_drewN hbd nq
          generalize wd.drewN nq = we at *
          clear hbd d9 d10
          go_wp2_with fail
          exact ⟨⟨k + 1, by omega, by go_num, hbe⟩, by simp [intOf]; omega⟩
        · have n1 : ((z2 - z1) / 86400 != 365) = true := by simp; omega
          have n2 : ((z2 - z1) / 86400 != 366) = false := by simp; omega
          go_wp2_with fail
          refine (R1.out _ hbr).mono ?_
          rintro e wa ⟨rfl, hba⟩
          replace hba := hbr.trans (hba.mono hbr.size)
          have d3 := (hba.cell (p := ⟨g, k * 2, none⟩) hg1).trans f1
          have d4 := (hba.cell (p := ⟨g, (k + 1) * 2, none⟩) hg1).trans f2
          go_wp2_with fail
          refine (R2.out _ hba).mono ?_
          rintro e wb ⟨rfl, hbb⟩
          replace hbb := hba.trans (hbb.mono hba.size)
          have d5 := (hbb.cell (p := ⟨g, k * 2, none⟩) hg1).trans f1
          have d6 := (hbb.cell (p := ⟨g, (k + 1) * 2, none⟩) hg1).trans f2
          clear R1 R2 d1 d2 d3 d4
          go_wp2_with fail
          go_big_quiet (fail)
          have hbc : Below w9.heap.size w9 (wb.drewN nq) := below_drewN hbb nq
          have d7 := (hbc.cell (p := ⟨g, k * 2, none⟩) hg1).trans f1
          have d8 := (hbc.cell (p := ⟨g, (k + 1) * 2, none⟩) hg1).trans f2
          generalize wb.drewN nq = wc at *
          clear hbb hba d5 d6
          go_wp2_with fail
          go_big_quiet (fail)
          have hbd : Below w9.heap.size w9 (wc.drewN nq) := below_drewN hbc nq
          have d9 := (hbd.cell (p := ⟨g, k * 2, none⟩) hg1).trans f1
          have d10 := (hbd.cell (p := ⟨g, (k + 1) * 2, none⟩) hg1).trans f2
          generalize wc.drewN nq = wd at *
          clear hbc d7 d8
          go_wp2_with fail
          go_big_quiet (fail)
          have hbe : Below w9.heap.size w9 (wd.drewN nq) := below_drewN hbd nq
          generalize wd.drewN nq = we at *
          clear hbd d9 d10
          go_wp2_with fail
          exact ⟨⟨k + 1, by omega, by go_num, hbe⟩, by simp [intOf]; omega⟩
end Go.Proofs.YthpndgcaoeokeaaGreatDoor
namespace Go.Proofs.YthpndgcaoeokeaaGreatDoor
open Go.RowKit Go.Sort

theorem monthly_n (start count : Int) (yr : Bool) (w : World) (hm : ML w) (ht : Tab w) (r0 : -9223372036854775808 ≤ start ∧ start ≤ 9223372036854775807) (r1 : -9223372036854775808 ≤ count ∧ count ≤ 9223372036854775807) :
    Calls Tryz.prog 10 #[.int .i64 start, .int .i64 count, .bool yr] w fun e w' => e = .returned (.bool true) ∧ Below w.heap.size w w' := by
  have K0 : Hid (∀ W, Below w.heap.size w W → Calls Tryz.prog 16 #[] W fun e w' => e = .returned (.bool true) ∧ Below W.heap.size W w') := hide fun W hb => works_n W (hm.on hb) (ht.on hb)
  have M0 := hide fun W => moment_n start W r0.1 r0.2
  have P1 := hide fun W => pick_n count 25 W r1.1 r1.2 (by omega) (by omega)
  have ht0 := pick_bd start 3155760000 (by omega)
  have hc0 := pick_bd count 25 (by omega)
  obtain ⟨t, et⟩ : ∃ t, t = 315532800 + pickI start 3155760000 := ⟨_, rfl⟩
  rw [← et] at M0
  have ht1 : 315532800 ≤ t ∧ t ≤ 3471292799 := by omega
  clear et ht0
  generalize pickI count 25 = c at *
  have D1 : Hid (∀ W, Calls Tryz.prog 21 #[.int .i64 (1 + c)] W fun e w' => e = .returned (.string ⟨(dgs (1 + c)).toArray⟩) ∧ Below W.heap.size W w') := hide fun W => digits_n _ W (by omega) (by omega) (by omega)
  obtain ⟨q, hi, q0, hq, hgap⟩ := mon_ins t (1 + c) yr (by omega) (by omega) ht1.1 ht1.2
  obtain ⟨hn, _⟩ := moRule_nice (1 + c) yr (by omega) (by omega)
  have hQQ : ∀ i, (q i * 86400 + t % 86400) / 86400 = q i ∧ (q i * 86400 + t % 86400) % 86400 = t % 86400 := fun i => by omega
  have hQ0 : q 0 * 86400 + t % 86400 = t := by rw [q0]; omega
  have hQ : Hid (∀ i, i < (1 + c).toNat → 0 ≤ q i * 86400 + t % 86400 ∧ q i * 86400 + t % 86400 ≤ 7258118399) := hide fun i hi' => by have := hq i hi'; omega
  obtain ⟨v1, v2, v3, v4⟩ := Cal.of_valid (t / 86400) (by omega)
  have vm := Cal.md_bd (Cal.ofY (t / 86400)) (Cal.ofM (t / 86400))
  have I : Hid (∀ W, Below w.heap.size w W → Calls Tryz.prog 23 #[.string ⟨(evTx [120] t 60 (moRule (1 + c) yr)).toArray⟩, .int .i64 0, .int .i64 7258118399] W fun e w' => (∃ v, e = .returned (.tuple #[v, .int .i64 0]) ∧ w'.ownsRow W.heap.size 39 2 v (1 + c).toNat (flatS ((List.range (1 + c).toNat).map fun i : Nat => (q i * 86400 + t % 86400, q i * 86400 + t % 86400 + 60)))) ∧ Below W.heap.size W w') := hide fun W hb =>
    (inst_all _ 0 7258118399 W (hm.on hb) (ht.on hb)).mono fun e w' h => by
      unfold InstP at h
      rw [hi] at h
      simpa only [List.length_map, List.length_range] using h
  have R : Hid (∀ i, i < (1 + c).toNat → ∀ W, Below w.heap.size w W → Calls Tryz.prog 18 #[.int .i64 (q i * 86400 + t % 86400)] W fun e w' => e = .returned (.tuple #[.string ⟨(printL (q i * 86400 + t % 86400)).toArray⟩, .int .i64 0]) ∧ Below W.heap.size W w') := hide fun i hi' W hb => by
    have := print_any (q i * 86400 + t % 86400) W (ht.on hb)
    have h := hQ.out i hi'
    rwa [printV_in h.1 (by omega)] at this
  have h6 : Hid (∀ i, i < (1 + c).toNat → (⟨(printL (q i * 86400 + t % 86400)).toArray⟩ : ByteArray).extract 6 16 = (⟨(printL (q 0 * 86400 + t % 86400)).toArray⟩ : ByteArray).extract 6 16) := hide fun i hi' => by
    rw [print_six, print_six, (hQQ i).1, (hQQ i).2, (hQQ 0).1, (hQQ 0).2, (hq i hi').2.2.1, q0]
  have hl : Hid (∀ i, i + 1 < (1 + c).toNat → Op.bytesLess (⟨(printL (q (i + 1) * 86400 + t % 86400)).toArray⟩ : ByteArray).toList (⟨(printL (q i * 86400 + t % 86400)).toArray⟩ : ByteArray).toList = false ∧ ((⟨(printL (q (i + 1) * 86400 + t % 86400)).toArray⟩ : ByteArray).toList == (⟨(printL (q i * 86400 + t % 86400)).toArray⟩ : ByteArray).toList) = false) := hide fun i hi' => by
    have h1 := hQ.out i (by omega)
    have h2 := hQ.out (i + 1) hi'
    have h3 := gap_pos (hgap i hi')
    refine ⟨?_, (toA_ne _ _).2 fun e => ?_⟩
    · rw [toL, toL]
      exact print_less h1.1 (by omega) (by omega)
    · have := print_inj h2.1 (by omega) h1.1 (by omega) e
      omega
  have hlt : (!Op.bytesLess ((⟨(printL (q 0 * 86400 + t % 86400)).toArray⟩ : ByteArray).extract 6 8).toList [50, 56] && !(((⟨(printL (q 0 * 86400 + t % 86400)).toArray⟩ : ByteArray).extract 6 8).toList == [50, 56])) = decide (28 < Cal.ofD (t / 86400)) := by
    rw [print_day, toL, (hQQ 0).1, q0]
    exact late_is (by omega) (by omega)
  have hlp : (((⟨(printL (q 0 * 86400 + t % 86400)).toArray⟩ : ByteArray).extract 4 8).toList == [48, 50, 50, 57]) = decide (Cal.ofM (t / 86400) = 2 ∧ Cal.ofD (t / 86400) = 29) := by
    rw [print_md, toL, (hQQ 0).1, q0]
    exact leap_is (by omega) (by omega) (by omega) (by omega)
  cases yr with
  | false =>
    have eR : (⟨#[70, 82, 69, 81, 61, 77, 79, 78, 84, 72, 76, 89, 59, 67, 79, 85, 78, 84, 61]⟩ : ByteArray) ++ ⟨(dgs (1 + c)).toArray⟩ = ⟨(moRule (1 + c) false).toArray⟩ := by
      unfold moRule
      simp only [Bool.false_eq_true, if_false]
      rw [ba_app]
    exact monthly_m start count t c (1 + c).toNat (fun i => q i * 86400 + t % 86400) (fun i => ⟨(printL (q i * 86400 + t % 86400)).toArray⟩) (decide (28 < Cal.ofD (t / 86400))) (decide (Cal.ofM (t / 86400) = 2 ∧ Cal.ofD (t / 86400) = 29)) ⟨(dgs (1 + c)).toArray⟩ ⟨(evTx [120] t 60 (moRule (1 + c) false)).toArray⟩ w K0 M0 P1 D1
      (hide fun W hb => by rw [eR]; exact event_n [120] t 60 _ W (ht.on hb) (by decide) (Nat.le_trans hn.1 (by omega)) (by omega) (by omega) (by omega) (by omega))
      I R (dgs_nice (1 + c) (by omega) (by omega)).1 hc0.1 hc0.2 (by omega) hQ0 hQ (hide fun i _ => printL_len _) h6 hl hlt hlp
      (hide fun i hi => by
        have hg := hgap i hi
        unfold gapOk at hg
        simp only [Bool.false_eq_true, if_false] at hg
        by_cases hp : 28 < Cal.ofD (t / 86400)
        · rw [if_pos hp] at hg
          rw [if_pos (decide_eq_true hp)]
          omega
        · rw [if_neg hp] at hg
          rw [if_neg (by simpa using hp)]
          omega)
  | true =>
    have eR : (⟨#[70, 82, 69, 81, 61, 89, 69, 65, 82, 76, 89, 59, 67, 79, 85, 78, 84, 61]⟩ : ByteArray) ++ ⟨(dgs (1 + c)).toArray⟩ = ⟨(moRule (1 + c) true).toArray⟩ := by
      unfold moRule
      simp only [if_true]
      rw [ba_app]
    exact monthly_y start count t c (1 + c).toNat (fun i => q i * 86400 + t % 86400) (fun i => ⟨(printL (q i * 86400 + t % 86400)).toArray⟩) (decide (28 < Cal.ofD (t / 86400))) (decide (Cal.ofM (t / 86400) = 2 ∧ Cal.ofD (t / 86400) = 29)) ⟨(dgs (1 + c)).toArray⟩ ⟨(evTx [120] t 60 (moRule (1 + c) true)).toArray⟩ w K0 M0 P1 D1
      (hide fun W hb => by rw [eR]; exact event_n [120] t 60 _ W (ht.on hb) (by decide) (Nat.le_trans hn.1 (by omega)) (by omega) (by omega) (by omega) (by omega))
      I R (dgs_nice (1 + c) (by omega) (by omega)).1 hc0.1 hc0.2 (by omega) hQ0 hQ (hide fun i _ => printL_len _) h6 (hide fun i hi => by
        show (⟨(printL (q i * 86400 + t % 86400)).toArray⟩ : ByteArray).extract 4 16 = (⟨(printL (q 0 * 86400 + t % 86400)).toArray⟩ : ByteArray).extract 4 16
        rw [print_four, print_four, (hQQ i).1, (hQQ i).2, (hQQ 0).1, (hQQ 0).2, (hq i hi).2.2.1, (hq i hi).2.2.2 rfl, q0]) hl hlt hlp
      (hide fun i hi => by
        have hg := hgap i hi
        unfold gapOk at hg
        rw [if_pos rfl] at hg
        by_cases hp : Cal.ofM (t / 86400) = 2 ∧ Cal.ofD (t / 86400) = 29
        · rw [if_pos hp] at hg
          rw [if_pos (decide_eq_true hp)]
          omega
        · rw [if_neg hp] at hg
          rw [if_neg (by simpa using hp)]
          omega)
end Go.Proofs.YthpndgcaoeokeaaGreatDoor
