/- Ticks (fallowkeep): the walk. Ticks: times as they are written: read as themselves, in order; lengths as they are written. Of no program. Ticks: whatever the numbers, it answers true. -/
import Derived.Test.YthpndgcaoeokeaaGreatDoorCm27
namespace Go.Proofs.YthpndgcaoeokeaaGreatDoor
open Go.RowKit Go.Sort

set_option maxRecDepth 100000 in
set_option maxHeartbeats 8000000 in
theorem ticks_w (raw d h m s t d' h' m' s' : Int) (A B C X1 X2 X3 X4 : ByteArray) (w : World)
    (K0 : Hid (∀ W, Below w.heap.size w W → Calls Tryz.prog 16 #[] W fun e w' => e = .returned (.bool true) ∧ Below W.heap.size W w'))
    (P0 : Hid (∀ W, Calls Tryz.prog 17 #[.int .i64 raw, .int .i64 7258032000] W fun e w' => e = .returned (.int .i64 t) ∧ W = w'))
    (P1 : Hid (∀ W, Calls Tryz.prog 17 #[.int .i64 d, .int .i64 10000000] W fun e w' => e = .returned (.int .i64 d') ∧ W = w'))
    (P2 : Hid (∀ W, Calls Tryz.prog 17 #[.int .i64 h, .int .i64 10000000] W fun e w' => e = .returned (.int .i64 h') ∧ W = w'))
    (P3 : Hid (∀ W, Calls Tryz.prog 17 #[.int .i64 m, .int .i64 10000000] W fun e w' => e = .returned (.int .i64 m') ∧ W = w'))
    (P4 : Hid (∀ W, Calls Tryz.prog 17 #[.int .i64 s, .int .i64 10000000] W fun e w' => e = .returned (.int .i64 s') ∧ W = w'))
    (Q1 : Hid (∀ W, Below w.heap.size w W → Calls Tryz.prog 18 #[.int .i64 t] W fun e w' => e = .returned (.tuple #[.string A, .int .i64 0]) ∧ Below W.heap.size W w'))
    (Q2 : Hid (∀ W, Below w.heap.size w W → Calls Tryz.prog 19 #[.string A] W fun e w' => e = .returned (.tuple #[.int .i64 t, .int .i64 0]) ∧ Below W.heap.size W w'))
    (Q3 : Hid (∀ W, Below w.heap.size w W → Calls Tryz.prog 18 #[.int .i64 (t + 1)] W fun e w' => e = .returned (.tuple #[.string B, .int .i64 0]) ∧ Below W.heap.size W w'))
    (Q4 : Hid (∀ W, Below w.heap.size w W → Calls Tryz.prog 18 #[.int .i64 (t + 86400)] W fun e w' => e = .returned (.tuple #[.string C, .int .i64 0]) ∧ Below W.heap.size W w'))
    (D1 : Hid (∀ W, Calls Tryz.prog 21 #[.int .i64 d'] W fun e w' => e = .returned (.string X1) ∧ Below W.heap.size W w'))
    (D2 : Hid (∀ W, Calls Tryz.prog 21 #[.int .i64 h'] W fun e w' => e = .returned (.string X2) ∧ Below W.heap.size W w'))
    (D3 : Hid (∀ W, Calls Tryz.prog 21 #[.int .i64 m'] W fun e w' => e = .returned (.string X3) ∧ Below W.heap.size W w'))
    (D4 : Hid (∀ W, Calls Tryz.prog 21 #[.int .i64 s'] W fun e w' => e = .returned (.string X4) ∧ Below W.heap.size W w'))
    (L : Hid (∀ W, Calls Tryz.prog 20 #[.string ((⟨#[80]⟩ : ByteArray) ++ X1 ++ ⟨#[68, 84]⟩ ++ X2 ++ ⟨#[72]⟩ ++ X3 ++ ⟨#[77]⟩ ++ X4 ++ ⟨#[83]⟩)] W fun e w' => e = .returned (.tuple #[.int .i64 (d' * 86400 + h' * 3600 + m' * 60 + s'), .int .i64 0]) ∧ Below W.heap.size W w'))
    (Q5 : Hid (∀ W, Below w.heap.size w W → Calls Tryz.prog 18 #[.int .i64 (-1 - t)] W fun e w' => e = .returned (.tuple #[.string ⟨#[]⟩, .int .i64 1]) ∧ Below W.heap.size W w'))
    (Q6 : Hid (∀ W, Below w.heap.size w W → Calls Tryz.prog 18 #[.int .i64 (7258118400 + t)] W fun e w' => e = .returned (.tuple #[.string ⟨#[]⟩, .int .i64 1]) ∧ Below W.heap.size W w'))
    (x1 : X1.size ≤ 7) (x2 : X2.size ≤ 7) (x3 : X3.size ≤ 7) (x4 : X4.size ≤ 7) (e1 : 0 ≤ d' ∧ d' < 10000000) (e2 : 0 ≤ h' ∧ h' < 10000000) (e3 : 0 ≤ m' ∧ m' < 10000000) (e4 : 0 ≤ s' ∧ s' < 10000000)
    (t0 : 0 ≤ t) (t1 : t < 7258032000) (hA : A.size = 16) (hC : C.size = 16) (hBA : Op.bytesLess B.toList A.toList = false) (hBA2 : (B.toList == A.toList) = false) (hCA : Op.bytesLess C.toList A.toList = false) (hCA2 : (C.toList == A.toList) = false) (hS : C.extract 8 16 = A.extract 8 16) :
    Calls Tryz.prog 4 #[.int .i64 raw, .int .i64 d, .int .i64 h, .int .i64 m, .int .i64 s] w fun e w' => e = .returned (.bool true) ∧ Below w.heap.size w w' := by
  go_enter Tryz.func4, Tryz.ntmps4
  go_wp2_with fail
  refine (K0.out _ (Below.refl _ _)).mono ?_
  rintro e w1 ⟨rfl, hb1⟩
  go_wp2_with fail
  refine (P0.out _).mono ?_
  rintro e w2 ⟨rfl, rfl⟩
  go_wp2_with fail
  refine (Q1.out _ hb1).mono ?_
  rintro e w2 ⟨rfl, hb2⟩
  replace hb2 := hb1.trans (hb2.mono hb1.size)
  go_wp2_with fail
  refine (Q2.out _ hb2).mono ?_
  rintro e w3 ⟨rfl, hb3⟩
  replace hb3 := hb2.trans (hb3.mono hb2.size)
  go_wp2_with fail
  refine (Q3.out _ hb3).mono ?_
  rintro e w4 ⟨rfl, hb4⟩
  replace hb4 := hb3.trans (hb4.mono hb3.size)
  go_wp2_with fail
  refine (Q4.out _ hb4).mono ?_
  rintro e w5 ⟨rfl, hb5⟩
  replace hb5 := hb4.trans (hb5.mono hb4.size)
  clear K0 P0 Q1 Q2 Q3 Q4 hb1 hb2 hb3 hb4
  go_wp2_with fail
  go_big_quiet (fail)
  have hb6 : Below w.heap.size w (w5.drewN nq) := below_drewN hb5 nq
  generalize w5.drewN nq = w6 at *
  clear hb5 hBA hBA2 hCA hCA2 hS hA hC
  go_wp2_with fail
  refine (P1.out _).mono ?_
  rintro e w7 ⟨rfl, rfl⟩
  go_wp2_with fail
  refine (P2.out _).mono ?_
  rintro e w7 ⟨rfl, rfl⟩
  go_wp2_with fail
  refine (P3.out _).mono ?_
  rintro e w7 ⟨rfl, rfl⟩
  go_wp2_with fail
  refine (P4.out _).mono ?_
  rintro e w7 ⟨rfl, rfl⟩
  clear P1 P2 P3 P4
  go_wp2_with fail
  refine (D1.out _).mono ?_
  rintro e w7 ⟨rfl, hb7⟩
  replace hb7 := hb6.trans (hb7.mono hb6.size)
  go_wp2_with fail
  refine (D2.out _).mono ?_
  rintro e w8 ⟨rfl, hb8⟩
  replace hb8 := hb7.trans (hb8.mono hb7.size)
  go_wp2_with fail
  refine (D3.out _).mono ?_
  rintro e w9 ⟨rfl, hb9⟩
  replace hb9 := hb8.trans (hb9.mono hb8.size)
  go_wp2_with fail
  refine (D4.out _).mono ?_
  rintro e w10 ⟨rfl, hb10⟩
  replace hb10 := hb9.trans (hb10.mono hb9.size)
  go_wp2_with fail
  refine (L.out _).mono ?_
  rintro e w11 ⟨rfl, hb11⟩
  replace hb11 := hb10.trans (hb11.mono hb10.size)
  clear D1 D2 D3 D4 L hb6 hb7 hb8 hb9 hb10
  go_wp2_with fail
  refine (Q5.out _ hb11).mono ?_
  rintro e w12 ⟨rfl, hb12⟩
  replace hb12 := hb11.trans (hb12.mono hb11.size)
  go_wp2_with fail
  refine (Q6.out _ hb12).mono ?_
  rintro e w13 ⟨rfl, hb13⟩
  replace hb13 := hb12.trans (hb13.mono hb12.size)
  clear Q5 Q6 hb11 hb12
  go_wp2_with fail
  go_ret
  exact ⟨rfl, hb13⟩
end Go.Proofs.YthpndgcaoeokeaaGreatDoor
namespace Go.Proofs.YthpndgcaoeokeaaGreatDoor
open Go.RowKit

theorem print_parse {n : Int} (h0 : 0 ≤ n) (h1 : n < 7258118400) : parseV ⟨(printL n).toArray⟩ = .tuple #[.int .i64 n, .int .i64 0] := by
  obtain ⟨a, b⟩ := print_ok h0 h1
  rw [parseV_yes a, b]
theorem print_tail (n : Int) : (⟨(printL n).toArray⟩ : ByteArray).extract 8 16 = ⟨([84] ++ pad 2 (n % 86400 / 3600) ++ pad 2 (n % 86400 / 60 % 60) ++ pad 2 (n % 86400 % 60) ++ [90]).toArray⟩ := by
  apply ByteArray.ext
  rw [ByteArray.data_extract]
  simp only [printL, pad]
  simp

theorem lenL_written (d h m s : Int) (d0 : 0 ≤ d ∧ d < 10000000) (h0 : 0 ≤ h ∧ h < 10000000) (m0 : 0 ≤ m ∧ m < 10000000) (s0 : 0 ≤ s ∧ s < 10000000) :
    lenL ([80] ++ dgs d ++ [68, 84] ++ dgs h ++ [72] ++ dgs m ++ [77] ++ dgs s ++ [83]) = some (d * 86400 + h * 3600 + m * 60 + s) := by
  obtain ⟨a1, a2, a3, _⟩ := dgs_num d d0.1 d0.2
  obtain ⟨b1, b2, b3, _⟩ := dgs_num h h0.1 h0.2
  obtain ⟨c1, c2, c3, _⟩ := dgs_num m m0.1 m0.2
  obtain ⟨e1, e2, e3, _⟩ := dgs_num s s0.1 s0.2
  have hne := dgs_ne h
  simp only [List.append_assoc, List.cons_append, List.nil_append, lenL]
  rw [if_pos (by rfl), lenGo_digs _ _ _ _ _ _ _ a3, List.nil_append, lenGo_mark 68 _ _ 0 0 false _ _ (by decide) (by decide) a1 (by decide) (by decide) (by decide), a2]
  rw [lenGo, if_neg (by decide), if_pos (by rfl), if_neg (by rintro (h | h | h); · cases h
                                                             · exact h rfl
                                                             · simp at h)]
  rw [lenGo_digs _ _ _ _ _ _ _ b3, List.nil_append, lenGo_mark 72 _ _ 1 1 true _ _ (by decide) (by decide) b1 (by decide) (by decide) (by decide), b2]
  rw [lenGo_digs _ _ _ _ _ _ _ c3, List.nil_append, lenGo_mark 77 _ _ 2 2 true _ _ (by decide) (by decide) c1 (by decide) (by decide) (by decide), c2]
  rw [lenGo_digs _ _ _ _ _ _ _ e3, List.nil_append, lenGo_mark 83 _ _ 3 3 true _ _ (by decide) (by decide) e1 (by decide) (by decide) (by decide), e2]
  rw [lenGo, if_neg (by simp)]
  simp [sizeU]
end Go.Proofs.YthpndgcaoeokeaaGreatDoor
namespace Go.Proofs.YthpndgcaoeokeaaGreatDoor
open Go.RowKit Go.Sort

theorem printV_out {n : Int} (h : n < 0 ∨ 7258118400 ≤ n) : printV n = .tuple #[.string ⟨#[]⟩, .int .i64 1] := by
  unfold printV; rw [if_neg (by unfold isTimeB; simp; omega)]
theorem ticks_n (raw d h m s : Int) (w : World) (hm : ML w) (ht : Tab w) (r0 : -9223372036854775808 ≤ raw ∧ raw ≤ 9223372036854775807) (d0 : -9223372036854775808 ≤ d ∧ d ≤ 9223372036854775807) (h0 : -9223372036854775808 ≤ h ∧ h ≤ 9223372036854775807) (m0 : -9223372036854775808 ≤ m ∧ m ≤ 9223372036854775807) (s0 : -9223372036854775808 ≤ s ∧ s ≤ 9223372036854775807) :
    Calls Tryz.prog 4 #[.int .i64 raw, .int .i64 d, .int .i64 h, .int .i64 m, .int .i64 s] w fun e w' => e = .returned (.bool true) ∧ Below w.heap.size w w' := by
  have t0 := pick_bd raw 7258032000 (by omega)
  have d1 := pick_bd d 10000000 (by omega)
  have h1 := pick_bd h 10000000 (by omega)
  have m1 := pick_bd m 10000000 (by omega)
  have s1 := pick_bd s 10000000 (by omega)
  have hne : ∀ b, pickI raw 7258032000 < b → b < 7258118400 → ((⟨(printL b).toArray⟩ : ByteArray).toList == (⟨(printL (pickI raw 7258032000)).toArray⟩ : ByteArray).toList) = false := fun b hb hb1 =>
    (toA_ne _ _).2 fun e => by
      have := print_inj (by omega) hb1 t0.1 (by omega) e
      omega
  refine ticks_w raw d h m s (pickI raw 7258032000) (pickI d 10000000) (pickI h 10000000) (pickI m 10000000) (pickI s 10000000) ⟨(printL (pickI raw 7258032000)).toArray⟩ ⟨(printL (pickI raw 7258032000 + 1)).toArray⟩ ⟨(printL (pickI raw 7258032000 + 86400)).toArray⟩
    ⟨(dgs (pickI d 10000000)).toArray⟩ ⟨(dgs (pickI h 10000000)).toArray⟩ ⟨(dgs (pickI m 10000000)).toArray⟩ ⟨(dgs (pickI s 10000000)).toArray⟩ w
    (hide fun W hb => works_n W (hm.on hb) (ht.on hb)) (hide fun W => pick_n _ _ W r0.1 r0.2 (by omega) (by omega)) (hide fun W => pick_n _ _ W d0.1 d0.2 (by omega) (by omega)) (hide fun W => pick_n _ _ W h0.1 h0.2 (by omega) (by omega)) (hide fun W => pick_n _ _ W m0.1 m0.2 (by omega) (by omega)) (hide fun W => pick_n _ _ W s0.1 s0.2 (by omega) (by omega))
    (hide fun W hb => by have := print_any (pickI raw 7258032000) W (ht.on hb); rwa [printV_in (by omega) (by omega)] at this)
    (hide fun W hb => by have := parse_any ⟨(printL (pickI raw 7258032000)).toArray⟩ W; rwa [print_parse (by omega) (by omega)] at this)
    (hide fun W hb => by have := print_any (pickI raw 7258032000 + 1) W (ht.on hb); rwa [printV_in (by omega) (by omega)] at this)
    (hide fun W hb => by have := print_any (pickI raw 7258032000 + 86400) W (ht.on hb); rwa [printV_in (by omega) (by omega)] at this)
    (hide fun W => digits_n _ W d1.1 (by omega) (by omega)) (hide fun W => digits_n _ W h1.1 (by omega) (by omega)) (hide fun W => digits_n _ W m1.1 (by omega) (by omega)) (hide fun W => digits_n _ W s1.1 (by omega) (by omega))
    (hide fun W => ?len)
    (hide fun W hb => by have := print_any (-1 - pickI raw 7258032000) W (ht.on hb); rwa [printV_out (by omega)] at this)
    (hide fun W hb => by have := print_any (7258118400 + pickI raw 7258032000) W (ht.on hb); rwa [printV_out (by omega)] at this)
    (dgs_num _ d1.1 d1.2).2.2.2 (dgs_num _ h1.1 h1.2).2.2.2 (dgs_num _ m1.1 m1.2).2.2.2 (dgs_num _ s1.1 s1.2).2.2.2 d1 h1 m1 s1 t0.1 t0.2
    (printL_len _) (printL_len _) ?a (hne _ (by omega) (by omega)) ?b (hne _ (by omega) (by omega)) ?c
  case len =>
    have hx : ((⟨#[80]⟩ : ByteArray) ++ ⟨(dgs (pickI d 10000000)).toArray⟩ ++ ⟨#[68, 84]⟩ ++ ⟨(dgs (pickI h 10000000)).toArray⟩ ++ ⟨#[72]⟩ ++ ⟨(dgs (pickI m 10000000)).toArray⟩ ++ ⟨#[77]⟩ ++ ⟨(dgs (pickI s 10000000)).toArray⟩ ++ ⟨#[83]⟩) = ⟨([80] ++ dgs (pickI d 10000000) ++ [68, 84] ++ dgs (pickI h 10000000) ++ [72] ++ dgs (pickI m 10000000) ++ [77] ++ dgs (pickI s 10000000) ++ [83]).toArray⟩ := by simp only [← ba_app]
    rw [hx]
    have hl : ([80] ++ dgs (pickI d 10000000) ++ [68, 84] ++ dgs (pickI h 10000000) ++ [72] ++ dgs (pickI m 10000000) ++ [77] ++ dgs (pickI s 10000000) ++ [83]).length ≤ 40 := by
      have := (dgs_num _ d1.1 d1.2).2.2.2
      have := (dgs_num _ h1.1 h1.2).2.2.2
      have := (dgs_num _ m1.1 m1.2).2.2.2
      have := (dgs_num _ s1.1 s1.2).2.2.2
      simp; omega
    have := length_any ⟨([80] ++ dgs (pickI d 10000000) ++ [68, 84] ++ dgs (pickI h 10000000) ++ [72] ++ dgs (pickI m 10000000) ++ [77] ++ dgs (pickI s 10000000) ++ [83]).toArray⟩ W (by show _ ≤ _; unfold maxLen; exact Nat.le_trans hl (by decide))
    have e9 : lenL (⟨([80] ++ dgs (pickI d 10000000) ++ [68, 84] ++ dgs (pickI h 10000000) ++ [72] ++ dgs (pickI m 10000000) ++ [77] ++ dgs (pickI s 10000000) ++ [83]).toArray⟩ : ByteArray).data.toList = _ := lenL_written _ _ _ _ d1 h1 m1 s1
    rw [e9] at this
    exact this
  case a => rw [toL, toL]; exact print_less t0.1 (by omega) (by omega)
  case b => rw [toL, toL]; exact print_less t0.1 (by omega) (by omega)
  case c =>
    rw [print_tail, print_tail, show (pickI raw 7258032000 + 86400) % 86400 = pickI raw 7258032000 % 86400 by omega]
end Go.Proofs.YthpndgcaoeokeaaGreatDoor
