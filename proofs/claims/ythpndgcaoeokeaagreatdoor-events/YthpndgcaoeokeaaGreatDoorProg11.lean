/- The program's own: when.writeTime, when.Print. -/
import Derived.Test.YthpndgcaoeokeaaGreatDoorProg10
namespace Go.Proofs.YthpndgcaoeokeaaGreatDoor
open Go.RowKit Go.Sort

theorem printL_eq2 (n : Int) : (⟨(pad 4 (Cal.ofY (n / 86400))).toArray⟩ : ByteArray) ++ ⟨(pad 2 (Cal.ofM (n / 86400))).toArray⟩ ++ ⟨(pad 2 (Cal.ofD (n / 86400))).toArray⟩ ++ ⟨#[84]⟩ ++
    ⟨(pad 2 (n % 86400 / 3600)).toArray⟩ ++ ⟨(pad 2 (n % 3600 / 60)).toArray⟩ ++ ⟨(pad 2 (n % 60)).toArray⟩ ++ ⟨#[90]⟩ = ⟨(printL n).toArray⟩ := by
  rw [show n % 3600 / 60 = n % 86400 / 60 % 60 from by omega]
  exact printL_eq n

theorem whenPadded_in (W : World) (n width : Int) (D : Nat) (os : Array Obj) (ht : Tab W) (h0 : 0 ≤ n) (h1 : 0 ≤ width) (h : (width = 2 ∧ n < 100) ∨ (width = 4 ∧ 1000 ≤ n ∧ n < 10000)) :
    Calls Tryz.prog 67 #[.int .i64 n, .int .i64 width] (grow (redrawn W D) os) fun e w'' => e = .returned (.string ⟨(pad width.toNat n).toArray⟩) ∧ ∃ p : Regrown, w'' = grow (redrawn W p.d) p.os := by
  obtain ⟨k, rfl⟩ := Int.eq_ofNat_of_zero_le h1
  obtain ⟨u, rfl⟩ := Int.eq_ofNat_of_zero_le h0
  exact Calls.regrown_of (whenPadded_any u k _ (ht.on (below_regrown W D os)) (by omega))

set_option maxRecDepth 100000 in
set_option maxHeartbeats 4000000 in
theorem writeTime_no (n : Int) (w : World) (h : isTimeB n = false) :
    Calls Tryz.prog 36 #[.int .i64 n] w fun e w' => e = .panicked (rsn 1) ∧ Below w.heap.size w w' := by
  have e1 : Cal.num 2200 1 1 * 86400 = 7258118400 := by rw [Cal.num_end]; rfl
  have E1 := hide e1
  clear e1
  by_cases h0 : 0 ≤ n
  · have h1 : ¬ n < 7258118400 := by simp [isTimeB, h0] at h; omega
    have h1' : decide (n < 7258118400) = false := by simpa using h1
    clear h
    go_enter Tryz.func36, Tryz.ntmps36
    go_wp2_with (first
      | (go_at_call 64; refine (dayBegin_any _ _ _ _ (by omega) (by omega) (by omega) (by omega) (by omega) (by omega)).mono ?_; rintro e w1 ⟨rfl, hb⟩; rw [E1.out])
      | (go_at_call_of 65 (Value.bool false); refine (unless_no _ _).mono ?_; rintro e w' ⟨rfl, rfl⟩))
    exact ⟨rfl, rfl, hb⟩
  · have h0' : decide (0 ≤ n) = false := by simpa using h0
    clear h
    go_enter Tryz.func36, Tryz.ntmps36
    go_wp2_with (first
      | (go_at_call 64; refine (dayBegin_any _ _ _ _ (by omega) (by omega) (by omega) (by omega) (by omega) (by omega)).mono ?_; rintro e w1 ⟨rfl, hb⟩; rw [E1.out])
      | (go_at_call_of 65 (Value.bool false); refine (unless_no _ _).mono ?_; rintro e w' ⟨rfl, rfl⟩))
    exact ⟨rfl, rfl, hb⟩

set_option maxRecDepth 100000 in
set_option maxHeartbeats 4000000 in
theorem writeTime_yes (n : Int) (w : World) (ht : Tab w) (h : isTimeB n = true) :
    Calls Tryz.prog 36 #[.int .i64 n] w fun e w' => e = .returned (.string ⟨(printL n).toArray⟩) ∧ Below w.heap.size w w' := by
  have E1 : Hid (Cal.num 2200 1 1 * 86400 = 7258118400) := hide (by rw [Cal.num_end]; rfl)
  have hb : 0 ≤ n ∧ n < 7258118400 := by simpa [isTimeB] using h
  have hd := ofY_bd (n := n / 86400) (by omega) (by omega)
  obtain ⟨d1, d2, d3, d4, d5, d6⟩ := hd
  have hm := Cal.md_bd (Cal.ofY (n / 86400)) (Cal.ofM (n / 86400))
  clear h
  go_enter Tryz.func36, Tryz.ntmps36
  go_wp2_with (first
    | (go_at_call 64; refine (dayBegin_any _ _ _ _ (by omega) (by omega) (by omega) (by omega) (by omega) (by omega)).mono ?_; rintro e w1 ⟨rfl, hb1⟩; rw [E1.out])
    | (go_at_call_of 65 (Value.bool true); refine (unless_yes _ _).mono ?_; rintro e w' ⟨rfl, rfl⟩)
    | (go_at_call 66; refine (ofTime_any _ _ (by omega) (by omega)).mono ?_; rintro e w2 ⟨rfl, hb2⟩; unfold dayA))
  have hw2 : Below w.heap.size w w2 := hb1.trans (hb2.mono hb1.size)
  have hbw : Below w.heap.size w (w2.alloc (.cells #[.int .i64 (Cal.ofY (n / 86400)), .int .i64 (Cal.ofM (n / 86400)), .int .i64 (Cal.ofD (n / 86400))] 106)) := hw2.alloc hw2.size _
  have c0 : (w2.alloc (.cells #[.int .i64 (Cal.ofY (n / 86400)), .int .i64 (Cal.ofM (n / 86400)), .int .i64 (Cal.ofD (n / 86400))] 106)).cell? ⟨w2.heap.size, 0, none⟩ = some (.int .i64 (Cal.ofY (n / 86400))) := by simp [go_sem]
  have c1 : (w2.alloc (.cells #[.int .i64 (Cal.ofY (n / 86400)), .int .i64 (Cal.ofM (n / 86400)), .int .i64 (Cal.ofD (n / 86400))] 106)).cell? ⟨w2.heap.size, 1, none⟩ = some (.int .i64 (Cal.ofM (n / 86400))) := by simp [go_sem]
  have c2 : (w2.alloc (.cells #[.int .i64 (Cal.ofY (n / 86400)), .int .i64 (Cal.ofM (n / 86400)), .int .i64 (Cal.ofD (n / 86400))] 106)).cell? ⟨w2.heap.size, 2, none⟩ = some (.int .i64 (Cal.ofD (n / 86400))) := by simp [go_sem]
  generalize (w2.alloc (.cells #[.int .i64 (Cal.ofY (n / 86400)), .int .i64 (Cal.ofM (n / 86400)), .int .i64 (Cal.ofD (n / 86400))] 106)) = W at *
  have k0 := cell_regrown c0
  have k1 := cell_regrown c1
  have k2 := cell_regrown c2
  have hT := hide (ht.on hbw)
  clear c0 c1 c2 hb1 hb2 hw2 ht
  have hl := pad_length
  refine wp_region_quiet_below (by kernel_rfl) (by kernel_rfl) ?_
  repeat (go_big_quiet_step (first | exact whenPadded_in W _ _ _ _ hT.out (by omega) (by omega) (by omega)))
  refine wpQuiet_nil ?_
  intro _ hw'
  obtain ⟨⟨dq, osq⟩, hw''⟩ := hw'
  subst hw''
  go_wp2
  go_ret
  exact ⟨ret_str (printL_eq2 n), hbw.trans ((below_regrown W dq osq).mono hbw.size)⟩

theorem print1_yes (n : Int) (p : Addr) (W : World) (ht : Tab W) (hc : W.cell? p = some (.int .i64 n)) (h : isTimeB n = true) :
    Calls Tryz.prog 35 #[.pointer (some p)] W fun E w' => E = .returned (.string ⟨(printL n).toArray⟩) ∧ Below W.heap.size W w' := by
  have C := hide (writeTime_yes n W ht h)
  clear h ht
  go_enter Tryz.func35, Tryz.ntmps35
  go_wp2_with (go_at_call 36; refine (C.out).mono ?_; rintro e w1 ⟨rfl, hb⟩)
  go_ret
  exact ⟨rfl, hb⟩
theorem print1_no (n : Int) (p : Addr) (W : World) (hc : W.cell? p = some (.int .i64 n)) (h : isTimeB n = false) :
    Calls Tryz.prog 35 #[.pointer (some p)] W fun E w' => E = .panicked (rsn 1) ∧ Below W.heap.size W w' := by
  have C := hide (writeTime_no n W h)
  clear h
  go_enter Tryz.func35, Tryz.ntmps35
  go_wp2_with (go_at_call 36; refine (C.out).mono ?_; rintro e w1 ⟨rfl, hb⟩)
  exact ⟨rfl, rfl, hb⟩

theorem print_any (n : Int) (w : World) (ht : Tab w) :
    Calls Tryz.prog 18 #[.int .i64 n] w fun E w' => E = .returned (printV n) ∧ Below w.heap.size w w' := by
  have hmf : ∀ (fn : Fn) (first cap : Array Value) (w : World), (Instr.makeFunc fn first cap).run Tryz.prog w = .ok (.func fn first cap) w := fun _ _ _ _ => rfl
  have hcl : ∀ W, Below (w.alloc (.cells #[.int .i64 n] 3)).heap.size (w.alloc (.cells #[.int .i64 n] 3)) W → W.cell? ⟨w.heap.size, 0, none⟩ = some (.int .i64 n) := fun W hb => by
    rw [hb.cell (p := ⟨w.heap.size, 0, none⟩) (by simp)]; simp [go_sem]
  have hT : ∀ W, Below (w.alloc (.cells #[.int .i64 n] 3)).heap.size (w.alloc (.cells #[.int .i64 n] 3)) W → Tab W := fun W hb =>
    ht.on (((Below.refl _ _).alloc (Nat.le_refl _) _).trans (hb.mono (by simp)))
  cases h : isTimeB n
  · have hv : printV n = .tuple #[.string ⟨#[]⟩, .int .i64 1] := by unfold printV; rw [h]; rfl
    rw [hv]
    have C := hide (answerPrint_no ⟨w.heap.size, 0, none⟩ 1 (w.alloc (.cells #[.int .i64 n] 3)) (fun W hb => print1_no n _ W (hcl W hb) h))
    clear hcl hT ht hv h
    go_enter Tryz.func18, Tryz.ntmps18
    go_wp2_with (go_at_call 34; refine (C.out).mono ?_; rintro e w1 ⟨rfl, hb⟩)
    go_ret2
    exact ⟨rfl, ((Below.refl _ _).alloc (Nat.le_refl _) _).trans (hb.mono (by simp))⟩
  · have hv : printV n = .tuple #[.string ⟨(printL n).toArray⟩, .int .i64 0] := by unfold printV; rw [h]; rfl
    rw [hv]
    have C := hide (answerPrint_yes ⟨w.heap.size, 0, none⟩ ⟨(printL n).toArray⟩ (w.alloc (.cells #[.int .i64 n] 3)) (fun W hb => print1_yes n _ W (hT W hb) (hcl W hb) h))
    clear hcl hT ht hv h
    go_enter Tryz.func18, Tryz.ntmps18
    go_wp2_with (go_at_call 34; refine (C.out).mono ?_; rintro e w1 ⟨rfl, hb⟩)
    go_ret2
    exact ⟨rfl, ((Below.refl _ _).alloc (Nat.le_refl _) _).trans (hb.mono (by simp))⟩
end Go.Proofs.YthpndgcaoeokeaaGreatDoor
