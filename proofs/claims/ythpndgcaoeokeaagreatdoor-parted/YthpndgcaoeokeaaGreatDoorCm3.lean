/- The program's own: when.readTime, where its text has a time's shape. The program's own: when.readTime whole; giveup.Answer; when.Parse. The program's own: giveup.Answer's deferred function, and Answer. The program's own: giveup.Answer, of each of the functions that it is handed. The program's own: when.Parse. The program's own: when.padded, when.writeTime. -/
import Derived.Test.YthpndgcaoeokeaaGreatDoorCm2
import Derived.Test.YthpndgcaoeokeaaGreatDoorShelf
import Derived.Defers
import Derived.Recover
import Derived.Lib.AppendIntMem
namespace Go.Proofs.YthpndgcaoeokeaaGreatDoor
open Go.RowKit Go.Sort


set_option maxRecDepth 100000 in
set_option maxHeartbeats 4000000 in
theorem readTime_ok (s : ByteArray) (w : World) (y m d h i c : Int) (hz : s.size = 16) (h8 : at0 s 8 = 84) (h15 : at0 s 15 = 90) (y0 : 1970 ≤ y) (y1 : y ≤ 2199) (vd : Cal.Valid y m d) (h0 : 0 ≤ h) (h1 : h ≤ 59) (i0 : 0 ≤ i) (i1 : i ≤ 59) (c0 : 0 ≤ c) (c1 : c ≤ 59) 
    (cc0 : ∀ W, Calls Tryz.prog 69 #[.string (s.extract 0 8)] W fun E w' => E = .returned (.agg #[.int .i64 y, .int .i64 m, .int .i64 d]) ∧ Below W.heap.size W w')
    (cc1 : ∀ W, Calls Tryz.prog 70 #[.string (s.extract 9 11), .int .i64 23] W fun E w' => E = .returned (.int .i64 h) ∧ Below W.heap.size W w')
    (cc2 : ∀ W, Calls Tryz.prog 70 #[.string (s.extract 11 13), .int .i64 59] W fun E w' => E = .returned (.int .i64 i) ∧ Below W.heap.size W w')
    (cc3 : ∀ W, Calls Tryz.prog 70 #[.string (s.extract 13 15), .int .i64 59] W fun E w' => E = .returned (.int .i64 c) ∧ Below W.heap.size W w') :
    Calls Tryz.prog 39 #[.string s] w fun E w' => E = .returned (.int .i64 (Cal.num y m d * 86400 + h * 3600 + i * 60 + c)) ∧ Below w.heap.size w w' := by
  have z0 : ((s.size : Int) == 16) = true := by simp [hz]
  have z1 : (15 : Int) < s.size := by omega
  have z15 : 15 < s.size := by omega
  have z8 : (8 : Int) ≤ s.size := by omega
  have z11 : (11 : Int) ≤ s.size := by omega
  have z13 : (13 : Int) ≤ s.size := by omega
  have z16 : (15 : Int) ≤ s.size := by omega
  have HZ := hide hz
  clear hz
  have h8' : (((s[8]'(by omega)).toNat : Int) == 84) = true := by rw [at0_get s 8 (by omega), h8]; rfl
  have h15' : (((s[15]'(by omega)).toNat : Int) == 90) = true := by rw [at0_get s 15 (by omega), h15]; rfl
  have nb := num_bd y0 y1 vd
  obtain ⟨v1, v2, v3, v4⟩ := vd
  have md := Cal.md_bd y m
  have C0 := hide cc0
  have C1 := hide cc1
  have C2 := hide cc2
  have C3 := hide cc3
  clear h8 h15 cc0 cc1 cc2 cc3
  go_enter Tryz.func39, Tryz.ntmps39
  go_wp2_with (first
    | (go_at_call_of 65 (Value.bool true); refine (unless_yes _ _).mono ?_; rintro e w' ⟨rfl, rfl⟩))
  refine wp_region_any (by kernel_rfl) ?_
  change wpAny _ _ _ _ _ _ _ (World.drew _)
  refine wpAny_take (i := 0) (v := ?_) rfl (by kernel_rfl) (by kernel_rfl) (by kernel_rfl) (fun _ _ _ h => h) (Or.inl ⟨by rfl, ?_⟩) ?_
  rotate_left 1
  · intro w; go_simp <;> with_reducible rfl
  refine wpAny_take (i := 1) (v := ?_) rfl (by kernel_rfl) (by kernel_rfl) (by kernel_rfl) (fun _ _ _ h => h) (Or.inl ⟨by rfl, ?_⟩) ?_
  rotate_left 1
  · intro w; go_simp <;> with_reducible rfl
  refine wpAny_take (i := 4) (v := ?_) rfl (by kernel_rfl) (by kernel_rfl) (by kernel_rfl) (fun _ _ _ h => h) (Or.inl ⟨by rfl, ?_⟩) ?_
  rotate_left 1
  · intro w; go_simp <;> with_reducible rfl
  refine wpAny_take (i := 5) (v := ?_) rfl (by kernel_rfl) (by kernel_rfl) (by kernel_rfl) (fun _ _ _ h => h) (Or.inl ⟨by rfl, ?_⟩) ?_
  rotate_left 1
  · intro w; go_simp <;> with_reducible rfl
  refine wpAny_take (i := 9) (v := ?_) rfl (by kernel_rfl) (by kernel_rfl) (by kernel_rfl) (fun _ _ _ h => h) (Or.inl ⟨by rfl, ?_⟩) ?_
  rotate_left 1
  · intro w; go_simp <;> with_reducible rfl
  refine wpAny_take (i := 10) (v := ?_) rfl (by kernel_rfl) (by kernel_rfl) (by kernel_rfl) (fun _ _ _ h => h) (Or.inl ⟨by rfl, ?_⟩) ?_
  rotate_left 1
  · intro w; go_simp <;> with_reducible rfl
  refine wpAny_take (i := 14) (v := ?_) rfl (by kernel_rfl) (by kernel_rfl) (by kernel_rfl) (fun _ _ _ h => h) (Or.inl ⟨by rfl, ?_⟩) ?_
  rotate_left 1
  · intro w; go_simp <;> with_reducible rfl
  refine wpAny_take (i := 15) (v := ?_) rfl (by kernel_rfl) (by kernel_rfl) (by kernel_rfl) (fun _ _ _ h => h) (Or.inl ⟨by rfl, ?_⟩) ?_
  rotate_left 1
  · intro w; go_simp <;> with_reducible rfl
  refine wpAny_ready (rs := [2]) (by kernel_rfl) (by simp) ?_
  refine AllReady.cons rfl (fun K hK => ?_) AllReady.nil
  go_simp
  go_wp2_with (go_at_call 69; refine (C0.out _).mono ?_; rintro e u0 ⟨rfl, hb0⟩)
  try (refine hK _ _ ?_; clear hK K)
  refine wpAny_ready (rs := [3]) (by kernel_rfl) (by simp) ?_
  refine AllReady.cons rfl (fun K hK => ?_) AllReady.nil
  go_simp
  go_wp2_with (go_at_call 64; refine (dayBegin_any _ _ _ _ (by omega) (by omega) (by omega) (by omega) (by omega) (by omega)).mono ?_; rintro e un ⟨rfl, hbn⟩)
  try (refine hK _ _ ?_; clear hK K)
  have bn : Below w.heap.size w un := ((Below.refl _ _).drew.trans hb0).trans (hbn.mono hb0.size)
  refine wpAny_ready (rs := [6]) (by kernel_rfl) (by simp) ?_
  refine AllReady.cons rfl (fun K hK => ?_) AllReady.nil
  go_simp
  go_wp2_with (go_at_call 70; refine (C1.out _).mono ?_; rintro e u1 ⟨rfl, hb1⟩)
  try (refine hK _ _ ?_; clear hK K)
  have b1 : Below w.heap.size w u1 := bn.trans (hb1.mono bn.size)
  have e1m : IntKind.i64.wrap (h * 3600) = h * 3600 := wrap_ok (by omega) (by omega)
  refine wpAny_take (i := 7) (v := ?_) rfl (by kernel_rfl) (by kernel_rfl) (by kernel_rfl) (fun _ _ _ h => h) (Or.inl ⟨by rfl, ?_⟩) ?_
  rotate_left 1
  · intro w; go_simp <;> with_reducible rfl
  have e1a : IntKind.i64.wrap (Cal.num y m d * 86400 + h * 3600) = Cal.num y m d * 86400 + h * 3600 := wrap_ok (by omega) (by omega)
  refine wpAny_take (i := 8) (v := ?_) rfl (by kernel_rfl) (by kernel_rfl) (by kernel_rfl) (fun _ _ _ h => h) (Or.inl ⟨by rfl, ?_⟩) ?_
  rotate_left 1
  · intro w; go_simp <;> with_reducible rfl
  refine wpAny_ready (rs := [11]) (by kernel_rfl) (by simp) ?_
  refine AllReady.cons rfl (fun K hK => ?_) AllReady.nil
  go_simp
  go_wp2_with (go_at_call 70; refine (C2.out _).mono ?_; rintro e u2 ⟨rfl, hb2⟩)
  try (refine hK _ _ ?_; clear hK K)
  have b2 : Below w.heap.size w u2 := b1.trans (hb2.mono b1.size)
  have e2m : IntKind.i64.wrap (i * 60) = i * 60 := wrap_ok (by omega) (by omega)
  refine wpAny_take (i := 12) (v := ?_) rfl (by kernel_rfl) (by kernel_rfl) (by kernel_rfl) (fun _ _ _ h => h) (Or.inl ⟨by rfl, ?_⟩) ?_
  rotate_left 1
  · intro w; go_simp <;> with_reducible rfl
  have e2a : IntKind.i64.wrap (Cal.num y m d * 86400 + h * 3600 + i * 60) = Cal.num y m d * 86400 + h * 3600 + i * 60 := wrap_ok (by omega) (by omega)
  refine wpAny_take (i := 13) (v := ?_) rfl (by kernel_rfl) (by kernel_rfl) (by kernel_rfl) (fun _ _ _ h => h) (Or.inl ⟨by rfl, ?_⟩) ?_
  rotate_left 1
  · intro w; go_simp <;> with_reducible rfl
  refine wpAny_ready (rs := [16]) (by kernel_rfl) (by simp) ?_
  refine AllReady.cons rfl (fun K hK => ?_) AllReady.nil
  go_simp
  go_wp2_with (go_at_call 70; refine (C3.out _).mono ?_; rintro e u3 ⟨rfl, hb3⟩)
  try (refine hK _ _ ?_; clear hK K)
  have b3 : Below w.heap.size w u3 := b2.trans (hb3.mono b2.size)
  have e3a : IntKind.i64.wrap (Cal.num y m d * 86400 + h * 3600 + i * 60 + c) = Cal.num y m d * 86400 + h * 3600 + i * 60 + c := wrap_ok (by omega) (by omega)
  refine wpAny_take (i := 17) (v := ?_) rfl (by kernel_rfl) (by kernel_rfl) (by kernel_rfl) (fun _ _ _ h => h) (Or.inl ⟨by rfl, ?_⟩) ?_
  rotate_left 1
  · intro w; go_simp <;> with_reducible rfl
  refine wpAny_take (i := 18) (v := ?_) rfl (by kernel_rfl) (by kernel_rfl) (by kernel_rfl) (fun _ _ _ h => h) (Or.inl ⟨by rfl, ?_⟩) ?_
  rotate_left 1
  · intro w; go_simp <;> with_reducible rfl
  refine wpAny_done (by kernel_rfl) ?_ _
  go_wp2
  go_ret
  exact ⟨rfl, b3⟩

set_option maxRecDepth 100000 in
set_option maxHeartbeats 4000000 in
theorem readTime_bad0 (s : ByteArray) (w : World) (hz : s.size = 16) (h8 : at0 s 8 = 84) (h15 : at0 s 15 = 90) 
    (cc0 : ∀ W, Calls Tryz.prog 69 #[.string (s.extract 0 8)] W fun E w' => E = .panicked (rsn 1) ∧ Below W.heap.size W w') :
    Calls Tryz.prog 39 #[.string s] w fun E w' => E = .panicked (rsn 1) ∧ Below w.heap.size w w' := by
  have z0 : ((s.size : Int) == 16) = true := by simp [hz]
  have z1 : (15 : Int) < s.size := by omega
  have z15 : 15 < s.size := by omega
  have z8 : (8 : Int) ≤ s.size := by omega
  have z11 : (11 : Int) ≤ s.size := by omega
  have z13 : (13 : Int) ≤ s.size := by omega
  have z16 : (15 : Int) ≤ s.size := by omega
  have HZ := hide hz
  clear hz
  have h8' : (((s[8]'(by omega)).toNat : Int) == 84) = true := by rw [at0_get s 8 (by omega), h8]; rfl
  have h15' : (((s[15]'(by omega)).toNat : Int) == 90) = true := by rw [at0_get s 15 (by omega), h15]; rfl
  have C0 := hide cc0
  clear h8 h15 cc0
  go_enter Tryz.func39, Tryz.ntmps39
  go_wp2_with (first
    | (go_at_call_of 65 (Value.bool true); refine (unless_yes _ _).mono ?_; rintro e w' ⟨rfl, rfl⟩))
  refine wp_region_any (by kernel_rfl) ?_
  change wpAny _ _ _ _ _ _ _ (World.drew _)
  refine wpAny_take (i := 0) (v := ?_) rfl (by kernel_rfl) (by kernel_rfl) (by kernel_rfl) (fun _ _ _ h => h) (Or.inl ⟨by rfl, ?_⟩) ?_
  rotate_left 1
  · intro w; go_simp <;> with_reducible rfl
  refine wpAny_take (i := 1) (v := ?_) rfl (by kernel_rfl) (by kernel_rfl) (by kernel_rfl) (fun _ _ _ h => h) (Or.inl ⟨by rfl, ?_⟩) ?_
  rotate_left 1
  · intro w; go_simp <;> with_reducible rfl
  refine wpAny_take (i := 4) (v := ?_) rfl (by kernel_rfl) (by kernel_rfl) (by kernel_rfl) (fun _ _ _ h => h) (Or.inl ⟨by rfl, ?_⟩) ?_
  rotate_left 1
  · intro w; go_simp <;> with_reducible rfl
  refine wpAny_take (i := 5) (v := ?_) rfl (by kernel_rfl) (by kernel_rfl) (by kernel_rfl) (fun _ _ _ h => h) (Or.inl ⟨by rfl, ?_⟩) ?_
  rotate_left 1
  · intro w; go_simp <;> with_reducible rfl
  refine wpAny_take (i := 9) (v := ?_) rfl (by kernel_rfl) (by kernel_rfl) (by kernel_rfl) (fun _ _ _ h => h) (Or.inl ⟨by rfl, ?_⟩) ?_
  rotate_left 1
  · intro w; go_simp <;> with_reducible rfl
  refine wpAny_take (i := 10) (v := ?_) rfl (by kernel_rfl) (by kernel_rfl) (by kernel_rfl) (fun _ _ _ h => h) (Or.inl ⟨by rfl, ?_⟩) ?_
  rotate_left 1
  · intro w; go_simp <;> with_reducible rfl
  refine wpAny_take (i := 14) (v := ?_) rfl (by kernel_rfl) (by kernel_rfl) (by kernel_rfl) (fun _ _ _ h => h) (Or.inl ⟨by rfl, ?_⟩) ?_
  rotate_left 1
  · intro w; go_simp <;> with_reducible rfl
  refine wpAny_take (i := 15) (v := ?_) rfl (by kernel_rfl) (by kernel_rfl) (by kernel_rfl) (fun _ _ _ h => h) (Or.inl ⟨by rfl, ?_⟩) ?_
  rotate_left 1
  · intro w; go_simp <;> with_reducible rfl
  refine wpAny_ready (rs := [2]) (by kernel_rfl) (by simp) ?_
  refine AllReady.cons rfl (fun K hK => ?_) AllReady.nil
  go_simp
  go_wp2_with (go_at_call 69; refine (C0.out _).mono ?_; rintro e u0 ⟨rfl, hb0⟩)
  exact ⟨rfl, rfl, (Below.refl _ _).drew.trans hb0⟩

set_option maxRecDepth 100000 in
set_option maxHeartbeats 4000000 in
theorem readTime_bad1 (s : ByteArray) (w : World) (y m d : Int) (hz : s.size = 16) (h8 : at0 s 8 = 84) (h15 : at0 s 15 = 90) (y0 : 1970 ≤ y) (y1 : y ≤ 2199) (vd : Cal.Valid y m d) 
    (cc0 : ∀ W, Calls Tryz.prog 69 #[.string (s.extract 0 8)] W fun E w' => E = .returned (.agg #[.int .i64 y, .int .i64 m, .int .i64 d]) ∧ Below W.heap.size W w')
    (cc1 : ∀ W, Calls Tryz.prog 70 #[.string (s.extract 9 11), .int .i64 23] W fun E w' => E = .panicked (rsn 1) ∧ Below W.heap.size W w') :
    Calls Tryz.prog 39 #[.string s] w fun E w' => E = .panicked (rsn 1) ∧ Below w.heap.size w w' := by
  have z0 : ((s.size : Int) == 16) = true := by simp [hz]
  have z1 : (15 : Int) < s.size := by omega
  have z15 : 15 < s.size := by omega
  have z8 : (8 : Int) ≤ s.size := by omega
  have z11 : (11 : Int) ≤ s.size := by omega
  have z13 : (13 : Int) ≤ s.size := by omega
  have z16 : (15 : Int) ≤ s.size := by omega
  have HZ := hide hz
  clear hz
  have h8' : (((s[8]'(by omega)).toNat : Int) == 84) = true := by rw [at0_get s 8 (by omega), h8]; rfl
  have h15' : (((s[15]'(by omega)).toNat : Int) == 90) = true := by rw [at0_get s 15 (by omega), h15]; rfl
  have nb := num_bd y0 y1 vd
  obtain ⟨v1, v2, v3, v4⟩ := vd
  have md := Cal.md_bd y m
  have C0 := hide cc0
  have C1 := hide cc1
  clear h8 h15 cc0 cc1
  go_enter Tryz.func39, Tryz.ntmps39
  go_wp2_with (first
    | (go_at_call_of 65 (Value.bool true); refine (unless_yes _ _).mono ?_; rintro e w' ⟨rfl, rfl⟩))
  refine wp_region_any (by kernel_rfl) ?_
  change wpAny _ _ _ _ _ _ _ (World.drew _)
  refine wpAny_take (i := 0) (v := ?_) rfl (by kernel_rfl) (by kernel_rfl) (by kernel_rfl) (fun _ _ _ h => h) (Or.inl ⟨by rfl, ?_⟩) ?_
  rotate_left 1
  · intro w; go_simp <;> with_reducible rfl
  refine wpAny_take (i := 1) (v := ?_) rfl (by kernel_rfl) (by kernel_rfl) (by kernel_rfl) (fun _ _ _ h => h) (Or.inl ⟨by rfl, ?_⟩) ?_
  rotate_left 1
  · intro w; go_simp <;> with_reducible rfl
  refine wpAny_take (i := 4) (v := ?_) rfl (by kernel_rfl) (by kernel_rfl) (by kernel_rfl) (fun _ _ _ h => h) (Or.inl ⟨by rfl, ?_⟩) ?_
  rotate_left 1
  · intro w; go_simp <;> with_reducible rfl
  refine wpAny_take (i := 5) (v := ?_) rfl (by kernel_rfl) (by kernel_rfl) (by kernel_rfl) (fun _ _ _ h => h) (Or.inl ⟨by rfl, ?_⟩) ?_
  rotate_left 1
  · intro w; go_simp <;> with_reducible rfl
  refine wpAny_take (i := 9) (v := ?_) rfl (by kernel_rfl) (by kernel_rfl) (by kernel_rfl) (fun _ _ _ h => h) (Or.inl ⟨by rfl, ?_⟩) ?_
  rotate_left 1
  · intro w; go_simp <;> with_reducible rfl
  refine wpAny_take (i := 10) (v := ?_) rfl (by kernel_rfl) (by kernel_rfl) (by kernel_rfl) (fun _ _ _ h => h) (Or.inl ⟨by rfl, ?_⟩) ?_
  rotate_left 1
  · intro w; go_simp <;> with_reducible rfl
  refine wpAny_take (i := 14) (v := ?_) rfl (by kernel_rfl) (by kernel_rfl) (by kernel_rfl) (fun _ _ _ h => h) (Or.inl ⟨by rfl, ?_⟩) ?_
  rotate_left 1
  · intro w; go_simp <;> with_reducible rfl
  refine wpAny_take (i := 15) (v := ?_) rfl (by kernel_rfl) (by kernel_rfl) (by kernel_rfl) (fun _ _ _ h => h) (Or.inl ⟨by rfl, ?_⟩) ?_
  rotate_left 1
  · intro w; go_simp <;> with_reducible rfl
  refine wpAny_ready (rs := [2]) (by kernel_rfl) (by simp) ?_
  refine AllReady.cons rfl (fun K hK => ?_) AllReady.nil
  go_simp
  go_wp2_with (go_at_call 69; refine (C0.out _).mono ?_; rintro e u0 ⟨rfl, hb0⟩)
  try (refine hK _ _ ?_; clear hK K)
  refine wpAny_ready (rs := [3]) (by kernel_rfl) (by simp) ?_
  refine AllReady.cons rfl (fun K hK => ?_) AllReady.nil
  go_simp
  go_wp2_with (go_at_call 64; refine (dayBegin_any _ _ _ _ (by omega) (by omega) (by omega) (by omega) (by omega) (by omega)).mono ?_; rintro e un ⟨rfl, hbn⟩)
  try (refine hK _ _ ?_; clear hK K)
  have bn : Below w.heap.size w un := ((Below.refl _ _).drew.trans hb0).trans (hbn.mono hb0.size)
  refine wpAny_ready (rs := [6]) (by kernel_rfl) (by simp) ?_
  refine AllReady.cons rfl (fun K hK => ?_) AllReady.nil
  go_simp
  go_wp2_with (go_at_call 70; refine (C1.out _).mono ?_; rintro e u1 ⟨rfl, hb1⟩)
  exact ⟨rfl, rfl, bn.trans (hb1.mono bn.size)⟩

set_option maxRecDepth 100000 in
set_option maxHeartbeats 4000000 in
theorem readTime_bad2 (s : ByteArray) (w : World) (y m d h : Int) (hz : s.size = 16) (h8 : at0 s 8 = 84) (h15 : at0 s 15 = 90) (y0 : 1970 ≤ y) (y1 : y ≤ 2199) (vd : Cal.Valid y m d) (h0 : 0 ≤ h) (h1 : h ≤ 59) 
    (cc0 : ∀ W, Calls Tryz.prog 69 #[.string (s.extract 0 8)] W fun E w' => E = .returned (.agg #[.int .i64 y, .int .i64 m, .int .i64 d]) ∧ Below W.heap.size W w')
    (cc1 : ∀ W, Calls Tryz.prog 70 #[.string (s.extract 9 11), .int .i64 23] W fun E w' => E = .returned (.int .i64 h) ∧ Below W.heap.size W w')
    (cc2 : ∀ W, Calls Tryz.prog 70 #[.string (s.extract 11 13), .int .i64 59] W fun E w' => E = .panicked (rsn 1) ∧ Below W.heap.size W w') :
    Calls Tryz.prog 39 #[.string s] w fun E w' => E = .panicked (rsn 1) ∧ Below w.heap.size w w' := by
  have z0 : ((s.size : Int) == 16) = true := by simp [hz]
  have z1 : (15 : Int) < s.size := by omega
  have z15 : 15 < s.size := by omega
  have z8 : (8 : Int) ≤ s.size := by omega
  have z11 : (11 : Int) ≤ s.size := by omega
  have z13 : (13 : Int) ≤ s.size := by omega
  have z16 : (15 : Int) ≤ s.size := by omega
  have HZ := hide hz
  clear hz
  have h8' : (((s[8]'(by omega)).toNat : Int) == 84) = true := by rw [at0_get s 8 (by omega), h8]; rfl
  have h15' : (((s[15]'(by omega)).toNat : Int) == 90) = true := by rw [at0_get s 15 (by omega), h15]; rfl
  have nb := num_bd y0 y1 vd
  obtain ⟨v1, v2, v3, v4⟩ := vd
  have md := Cal.md_bd y m
  have C0 := hide cc0
  have C1 := hide cc1
  have C2 := hide cc2
  clear h8 h15 cc0 cc1 cc2
  go_enter Tryz.func39, Tryz.ntmps39
  go_wp2_with (first
    | (go_at_call_of 65 (Value.bool true); refine (unless_yes _ _).mono ?_; rintro e w' ⟨rfl, rfl⟩))
  refine wp_region_any (by kernel_rfl) ?_
  change wpAny _ _ _ _ _ _ _ (World.drew _)
  refine wpAny_take (i := 0) (v := ?_) rfl (by kernel_rfl) (by kernel_rfl) (by kernel_rfl) (fun _ _ _ h => h) (Or.inl ⟨by rfl, ?_⟩) ?_
  rotate_left 1
  · intro w; go_simp <;> with_reducible rfl
  refine wpAny_take (i := 1) (v := ?_) rfl (by kernel_rfl) (by kernel_rfl) (by kernel_rfl) (fun _ _ _ h => h) (Or.inl ⟨by rfl, ?_⟩) ?_
  rotate_left 1
  · intro w; go_simp <;> with_reducible rfl
  refine wpAny_take (i := 4) (v := ?_) rfl (by kernel_rfl) (by kernel_rfl) (by kernel_rfl) (fun _ _ _ h => h) (Or.inl ⟨by rfl, ?_⟩) ?_
  rotate_left 1
  · intro w; go_simp <;> with_reducible rfl
  refine wpAny_take (i := 5) (v := ?_) rfl (by kernel_rfl) (by kernel_rfl) (by kernel_rfl) (fun _ _ _ h => h) (Or.inl ⟨by rfl, ?_⟩) ?_
  rotate_left 1
  · intro w; go_simp <;> with_reducible rfl
  refine wpAny_take (i := 9) (v := ?_) rfl (by kernel_rfl) (by kernel_rfl) (by kernel_rfl) (fun _ _ _ h => h) (Or.inl ⟨by rfl, ?_⟩) ?_
  rotate_left 1
  · intro w; go_simp <;> with_reducible rfl
  refine wpAny_take (i := 10) (v := ?_) rfl (by kernel_rfl) (by kernel_rfl) (by kernel_rfl) (fun _ _ _ h => h) (Or.inl ⟨by rfl, ?_⟩) ?_
  rotate_left 1
  · intro w; go_simp <;> with_reducible rfl
  refine wpAny_take (i := 14) (v := ?_) rfl (by kernel_rfl) (by kernel_rfl) (by kernel_rfl) (fun _ _ _ h => h) (Or.inl ⟨by rfl, ?_⟩) ?_
  rotate_left 1
  · intro w; go_simp <;> with_reducible rfl
  refine wpAny_take (i := 15) (v := ?_) rfl (by kernel_rfl) (by kernel_rfl) (by kernel_rfl) (fun _ _ _ h => h) (Or.inl ⟨by rfl, ?_⟩) ?_
  rotate_left 1
  · intro w; go_simp <;> with_reducible rfl
  refine wpAny_ready (rs := [2]) (by kernel_rfl) (by simp) ?_
  refine AllReady.cons rfl (fun K hK => ?_) AllReady.nil
  go_simp
  go_wp2_with (go_at_call 69; refine (C0.out _).mono ?_; rintro e u0 ⟨rfl, hb0⟩)
  try (refine hK _ _ ?_; clear hK K)
  refine wpAny_ready (rs := [3]) (by kernel_rfl) (by simp) ?_
  refine AllReady.cons rfl (fun K hK => ?_) AllReady.nil
  go_simp
  go_wp2_with (go_at_call 64; refine (dayBegin_any _ _ _ _ (by omega) (by omega) (by omega) (by omega) (by omega) (by omega)).mono ?_; rintro e un ⟨rfl, hbn⟩)
  try (refine hK _ _ ?_; clear hK K)
  have bn : Below w.heap.size w un := ((Below.refl _ _).drew.trans hb0).trans (hbn.mono hb0.size)
  refine wpAny_ready (rs := [6]) (by kernel_rfl) (by simp) ?_
  refine AllReady.cons rfl (fun K hK => ?_) AllReady.nil
  go_simp
  go_wp2_with (go_at_call 70; refine (C1.out _).mono ?_; rintro e u1 ⟨rfl, hb1⟩)
  try (refine hK _ _ ?_; clear hK K)
  have b1 : Below w.heap.size w u1 := bn.trans (hb1.mono bn.size)
  have e1m : IntKind.i64.wrap (h * 3600) = h * 3600 := wrap_ok (by omega) (by omega)
  refine wpAny_take (i := 7) (v := ?_) rfl (by kernel_rfl) (by kernel_rfl) (by kernel_rfl) (fun _ _ _ h => h) (Or.inl ⟨by rfl, ?_⟩) ?_
  rotate_left 1
  · intro w; go_simp <;> with_reducible rfl
  have e1a : IntKind.i64.wrap (Cal.num y m d * 86400 + h * 3600) = Cal.num y m d * 86400 + h * 3600 := wrap_ok (by omega) (by omega)
  refine wpAny_take (i := 8) (v := ?_) rfl (by kernel_rfl) (by kernel_rfl) (by kernel_rfl) (fun _ _ _ h => h) (Or.inl ⟨by rfl, ?_⟩) ?_
  rotate_left 1
  · intro w; go_simp <;> with_reducible rfl
  refine wpAny_ready (rs := [11]) (by kernel_rfl) (by simp) ?_
  refine AllReady.cons rfl (fun K hK => ?_) AllReady.nil
  go_simp
  go_wp2_with (go_at_call 70; refine (C2.out _).mono ?_; rintro e u2 ⟨rfl, hb2⟩)
  exact ⟨rfl, rfl, b1.trans (hb2.mono b1.size)⟩

set_option maxRecDepth 100000 in
set_option maxHeartbeats 4000000 in
theorem readTime_bad3 (s : ByteArray) (w : World) (y m d h i : Int) (hz : s.size = 16) (h8 : at0 s 8 = 84) (h15 : at0 s 15 = 90) (y0 : 1970 ≤ y) (y1 : y ≤ 2199) (vd : Cal.Valid y m d) (h0 : 0 ≤ h) (h1 : h ≤ 59) (i0 : 0 ≤ i) (i1 : i ≤ 59) 
    (cc0 : ∀ W, Calls Tryz.prog 69 #[.string (s.extract 0 8)] W fun E w' => E = .returned (.agg #[.int .i64 y, .int .i64 m, .int .i64 d]) ∧ Below W.heap.size W w')
    (cc1 : ∀ W, Calls Tryz.prog 70 #[.string (s.extract 9 11), .int .i64 23] W fun E w' => E = .returned (.int .i64 h) ∧ Below W.heap.size W w')
    (cc2 : ∀ W, Calls Tryz.prog 70 #[.string (s.extract 11 13), .int .i64 59] W fun E w' => E = .returned (.int .i64 i) ∧ Below W.heap.size W w')
    (cc3 : ∀ W, Calls Tryz.prog 70 #[.string (s.extract 13 15), .int .i64 59] W fun E w' => E = .panicked (rsn 1) ∧ Below W.heap.size W w') :
    Calls Tryz.prog 39 #[.string s] w fun E w' => E = .panicked (rsn 1) ∧ Below w.heap.size w w' := by
  have z0 : ((s.size : Int) == 16) = true := by simp [hz]
  have z1 : (15 : Int) < s.size := by omega
  have z15 : 15 < s.size := by omega
  have z8 : (8 : Int) ≤ s.size := by omega
  have z11 : (11 : Int) ≤ s.size := by omega
  have z13 : (13 : Int) ≤ s.size := by omega
  have z16 : (15 : Int) ≤ s.size := by omega
  have HZ := hide hz
  clear hz
  have h8' : (((s[8]'(by omega)).toNat : Int) == 84) = true := by rw [at0_get s 8 (by omega), h8]; rfl
  have h15' : (((s[15]'(by omega)).toNat : Int) == 90) = true := by rw [at0_get s 15 (by omega), h15]; rfl
  have nb := num_bd y0 y1 vd
  obtain ⟨v1, v2, v3, v4⟩ := vd
  have md := Cal.md_bd y m
  have C0 := hide cc0
  have C1 := hide cc1
  have C2 := hide cc2
  have C3 := hide cc3
  clear h8 h15 cc0 cc1 cc2 cc3
  go_enter Tryz.func39, Tryz.ntmps39
  go_wp2_with (first
    | (go_at_call_of 65 (Value.bool true); refine (unless_yes _ _).mono ?_; rintro e w' ⟨rfl, rfl⟩))
  refine wp_region_any (by kernel_rfl) ?_
  change wpAny _ _ _ _ _ _ _ (World.drew _)
  refine wpAny_take (i := 0) (v := ?_) rfl (by kernel_rfl) (by kernel_rfl) (by kernel_rfl) (fun _ _ _ h => h) (Or.inl ⟨by rfl, ?_⟩) ?_
  rotate_left 1
  · intro w; go_simp <;> with_reducible rfl
  refine wpAny_take (i := 1) (v := ?_) rfl (by kernel_rfl) (by kernel_rfl) (by kernel_rfl) (fun _ _ _ h => h) (Or.inl ⟨by rfl, ?_⟩) ?_
  rotate_left 1
  · intro w; go_simp <;> with_reducible rfl
  refine wpAny_take (i := 4) (v := ?_) rfl (by kernel_rfl) (by kernel_rfl) (by kernel_rfl) (fun _ _ _ h => h) (Or.inl ⟨by rfl, ?_⟩) ?_
  rotate_left 1
  · intro w; go_simp <;> with_reducible rfl
  refine wpAny_take (i := 5) (v := ?_) rfl (by kernel_rfl) (by kernel_rfl) (by kernel_rfl) (fun _ _ _ h => h) (Or.inl ⟨by rfl, ?_⟩) ?_
  rotate_left 1
  · intro w; go_simp <;> with_reducible rfl
  refine wpAny_take (i := 9) (v := ?_) rfl (by kernel_rfl) (by kernel_rfl) (by kernel_rfl) (fun _ _ _ h => h) (Or.inl ⟨by rfl, ?_⟩) ?_
  rotate_left 1
  · intro w; go_simp <;> with_reducible rfl
  refine wpAny_take (i := 10) (v := ?_) rfl (by kernel_rfl) (by kernel_rfl) (by kernel_rfl) (fun _ _ _ h => h) (Or.inl ⟨by rfl, ?_⟩) ?_
  rotate_left 1
  · intro w; go_simp <;> with_reducible rfl
  refine wpAny_take (i := 14) (v := ?_) rfl (by kernel_rfl) (by kernel_rfl) (by kernel_rfl) (fun _ _ _ h => h) (Or.inl ⟨by rfl, ?_⟩) ?_
  rotate_left 1
  · intro w; go_simp <;> with_reducible rfl
  refine wpAny_take (i := 15) (v := ?_) rfl (by kernel_rfl) (by kernel_rfl) (by kernel_rfl) (fun _ _ _ h => h) (Or.inl ⟨by rfl, ?_⟩) ?_
  rotate_left 1
  · intro w; go_simp <;> with_reducible rfl
  refine wpAny_ready (rs := [2]) (by kernel_rfl) (by simp) ?_
  refine AllReady.cons rfl (fun K hK => ?_) AllReady.nil
  go_simp
  go_wp2_with (go_at_call 69; refine (C0.out _).mono ?_; rintro e u0 ⟨rfl, hb0⟩)
  try (refine hK _ _ ?_; clear hK K)
  refine wpAny_ready (rs := [3]) (by kernel_rfl) (by simp) ?_
  refine AllReady.cons rfl (fun K hK => ?_) AllReady.nil
  go_simp
  go_wp2_with (go_at_call 64; refine (dayBegin_any _ _ _ _ (by omega) (by omega) (by omega) (by omega) (by omega) (by omega)).mono ?_; rintro e un ⟨rfl, hbn⟩)
  try (refine hK _ _ ?_; clear hK K)
  have bn : Below w.heap.size w un := ((Below.refl _ _).drew.trans hb0).trans (hbn.mono hb0.size)
  refine wpAny_ready (rs := [6]) (by kernel_rfl) (by simp) ?_
  refine AllReady.cons rfl (fun K hK => ?_) AllReady.nil
  go_simp
  go_wp2_with (go_at_call 70; refine (C1.out _).mono ?_; rintro e u1 ⟨rfl, hb1⟩)
  try (refine hK _ _ ?_; clear hK K)
  have b1 : Below w.heap.size w u1 := bn.trans (hb1.mono bn.size)
  have e1m : IntKind.i64.wrap (h * 3600) = h * 3600 := wrap_ok (by omega) (by omega)
  refine wpAny_take (i := 7) (v := ?_) rfl (by kernel_rfl) (by kernel_rfl) (by kernel_rfl) (fun _ _ _ h => h) (Or.inl ⟨by rfl, ?_⟩) ?_
  rotate_left 1
  · intro w; go_simp <;> with_reducible rfl
  have e1a : IntKind.i64.wrap (Cal.num y m d * 86400 + h * 3600) = Cal.num y m d * 86400 + h * 3600 := wrap_ok (by omega) (by omega)
  refine wpAny_take (i := 8) (v := ?_) rfl (by kernel_rfl) (by kernel_rfl) (by kernel_rfl) (fun _ _ _ h => h) (Or.inl ⟨by rfl, ?_⟩) ?_
  rotate_left 1
  · intro w; go_simp <;> with_reducible rfl
  refine wpAny_ready (rs := [11]) (by kernel_rfl) (by simp) ?_
  refine AllReady.cons rfl (fun K hK => ?_) AllReady.nil
  go_simp
  go_wp2_with (go_at_call 70; refine (C2.out _).mono ?_; rintro e u2 ⟨rfl, hb2⟩)
  try (refine hK _ _ ?_; clear hK K)
  have b2 : Below w.heap.size w u2 := b1.trans (hb2.mono b1.size)
  have e2m : IntKind.i64.wrap (i * 60) = i * 60 := wrap_ok (by omega) (by omega)
  refine wpAny_take (i := 12) (v := ?_) rfl (by kernel_rfl) (by kernel_rfl) (by kernel_rfl) (fun _ _ _ h => h) (Or.inl ⟨by rfl, ?_⟩) ?_
  rotate_left 1
  · intro w; go_simp <;> with_reducible rfl
  have e2a : IntKind.i64.wrap (Cal.num y m d * 86400 + h * 3600 + i * 60) = Cal.num y m d * 86400 + h * 3600 + i * 60 := wrap_ok (by omega) (by omega)
  refine wpAny_take (i := 13) (v := ?_) rfl (by kernel_rfl) (by kernel_rfl) (by kernel_rfl) (fun _ _ _ h => h) (Or.inl ⟨by rfl, ?_⟩) ?_
  rotate_left 1
  · intro w; go_simp <;> with_reducible rfl
  refine wpAny_ready (rs := [16]) (by kernel_rfl) (by simp) ?_
  refine AllReady.cons rfl (fun K hK => ?_) AllReady.nil
  go_simp
  go_wp2_with (go_at_call 70; refine (C3.out _).mono ?_; rintro e u3 ⟨rfl, hb3⟩)
  exact ⟨rfl, rfl, b2.trans (hb3.mono b2.size)⟩
end Go.Proofs.YthpndgcaoeokeaaGreatDoor
namespace Go.Proofs.YthpndgcaoeokeaaGreatDoor
open Go.RowKit Go.Sort

/-- how the reading of a time ends -/
def timeE (s : ByteArray) : Ending := if timeB s = true then .returned (.int .i64 (timeN s)) else .panicked (rsn 1)
theorem timeE_yes {s : ByteArray} (h : TimeOk s) : timeE s = .returned (.int .i64 (timeN s)) := by unfold timeE; rw [if_pos (timeB_iff.2 h)]
theorem timeE_no {s : ByteArray} (h : ¬ TimeOk s) : timeE s = .panicked (rsn 1) := by unfold timeE; rw [if_neg (fun e => h (timeB_iff.1 e))]

theorem cut_cut (s : ByteArray) (a b c d : Nat) (h : c + d ≤ b - a) : cut (s.extract a b) c d = cut s (a + c) d := by
  unfold cut
  have : (s.extract a b).data.toList = cut s a (b - a) := extract_cut s a b
  rw [this]
  unfold cut
  rw [List.drop_take, List.take_take, List.drop_drop, Nat.min_eq_left (by omega)]

theorem readTime_any (s : ByteArray) (w : World) :
    Calls Tryz.prog 39 #[.string s] w fun E w' => E = timeE s ∧ Below w.heap.size w w' := by
  by_cases hz : s.size = 16
  case neg =>
    rw [timeE_no (fun h => hz h.1)]
    have hz' : ((s.size : Int) == 16) = false := by rw [beq_eq_false_iff_ne]; omega
    clear hz
    go_enter Tryz.func39, Tryz.ntmps39
    go_wp2_with (go_at_call_of 65 (Value.bool false); refine (unless_no _ _).mono ?_; rintro e w' ⟨rfl, rfl⟩)
    exact ⟨rfl, rfl, Below.refl _ _⟩
  have z0 : ((s.size : Int) == 16) = true := by simp [hz]
  have z15 : 15 < s.size := by omega
  have e8 := at0_get s 8 (by omega)
  have e15 := at0_get s 15 (by omega)
  by_cases h8 : at0 s 8 = 84
  case neg =>
    rw [timeE_no (fun h => h8 h.2.1)]
    have h8' : (((s[8]'(by omega)).toNat : Int) == 84) = false := by rw [beq_eq_false_iff_ne, e8]; exact h8
    clear h8 e8 e15
    go_enter Tryz.func39, Tryz.ntmps39
    go_wp2_with (first
      | (go_at_call_of 65 (Value.bool true); refine (unless_yes _ _).mono ?_; rintro e w' ⟨rfl, rfl⟩)
      | (go_at_call_of 65 (Value.bool false); refine (unless_no _ _).mono ?_; rintro e w' ⟨rfl, rfl⟩))
    exact ⟨rfl, rfl, Below.refl _ _⟩
  by_cases h15 : at0 s 15 = 90
  case neg =>
    rw [timeE_no (fun h => h15 h.2.2.1)]
    have h8' : (((s[8]'(by omega)).toNat : Int) == 84) = true := by rw [e8, h8]; rfl
    have h15' : (((s[15]'(by omega)).toNat : Int) == 90) = false := by rw [beq_eq_false_iff_ne, e15]; exact h15
    clear h8 e8 e15 h15
    go_enter Tryz.func39, Tryz.ntmps39
    go_wp2_with (first
      | (go_at_call_of 65 (Value.bool true); refine (unless_yes _ _).mono ?_; rintro e w' ⟨rfl, rfl⟩)
      | (go_at_call_of 65 (Value.bool false); refine (unless_no _ _).mono ?_; rintro e w' ⟨rfl, rfl⟩))
    exact ⟨rfl, rfl, Below.refl _ _⟩
  clear e8 e15 z0
  have k0 : ∀ W, Calls Tryz.prog 69 #[.string (s.extract 0 8)] W fun E w' => E = dayE (digs (cut s 0 4)) (digs (cut s 4 2)) (digs (cut s 6 2)) ∧ Below W.heap.size W w' := fun W => by
    have := readDay_any (s.extract 0 8) W (by simp [ByteArray.size_extract]; omega)
    rw [cut_cut s 0 8 0 4 (by omega), cut_cut s 0 8 4 2 (by omega), cut_cut s 0 8 6 2 (by omega)] at this
    exact this
  have kc : ∀ (a b : Nat) (last : Int) (W : World), b - a = 2 → b ≤ s.size → Calls Tryz.prog 70 #[.string (s.extract a b), .int .i64 last] W fun E w' => E = clockE (digs (cut s a 2)) last ∧ Below W.heap.size W w' := fun a b last W hab hb => by
    have := readClock_any (s.extract a b) last W (by simp [ByteArray.size_extract]; omega)
    rw [extract_cut, hab] at this
    exact this.mono fun E w' ⟨q1, q2⟩ => ⟨q1, by rw [← q2]; exact Below.refl _ _⟩
  have k1 := fun W => kc 9 11 23 W rfl (by omega)
  have k2 := fun W => kc 11 13 59 W rfl (by omega)
  have k3 := fun W => kc 13 15 59 W rfl (by omega)
  by_cases hd : 1970 ≤ digs (cut s 0 4) ∧ digs (cut s 0 4) ≤ 2199 ∧ validB (digs (cut s 0 4)) (digs (cut s 4 2)) (digs (cut s 6 2)) = true
  case neg =>
    rw [timeE_no (fun h => hd ⟨h.2.2.2.1, h.2.2.2.2.1, (validB_iff _ _ _).2 h.2.2.2.2.2.1⟩)]
    rw [dayE_no hd] at k0
    exact readTime_bad0 s w hz h8 h15 k0
  rw [dayE_yes hd] at k0
  have hv := (validB_iff _ _ _).1 hd.2.2
  by_cases hh : 0 ≤ digs (cut s 9 2) ∧ digs (cut s 9 2) ≤ 23
  case neg =>
    rw [timeE_no (fun h => hh ⟨h.2.2.2.2.2.2.1, h.2.2.2.2.2.2.2.1⟩)]
    rw [clockE_no hh] at k1
    exact readTime_bad1 s w _ _ _ hz h8 h15 hd.1 hd.2.1 hv k0 k1
  rw [clockE_yes hh] at k1
  by_cases hi : 0 ≤ digs (cut s 11 2) ∧ digs (cut s 11 2) ≤ 59
  case neg =>
    rw [timeE_no (fun h => hi ⟨h.2.2.2.2.2.2.2.2.1, h.2.2.2.2.2.2.2.2.2.1⟩)]
    rw [clockE_no hi] at k2
    exact readTime_bad2 s w _ _ _ _ hz h8 h15 hd.1 hd.2.1 hv hh.1 (by omega) k0 k1 k2
  rw [clockE_yes hi] at k2
  by_cases hc : 0 ≤ digs (cut s 13 2) ∧ digs (cut s 13 2) ≤ 59
  case neg =>
    rw [timeE_no (fun h => hc ⟨h.2.2.2.2.2.2.2.2.2.2.1, h.2.2.2.2.2.2.2.2.2.2.2⟩)]
    rw [clockE_no hc] at k3
    exact readTime_bad3 s w _ _ _ _ _ hz h8 h15 hd.1 hd.2.1 hv hh.1 (by omega) hi.1 hi.2 k0 k1 k2 k3
  rw [clockE_yes hc] at k3
  rw [timeE_yes ⟨hz, h8, h15, hd.1, hd.2.1, hv, hh.1, hh.2, hi.1, hi.2, hc.1, hc.2⟩]
  exact readTime_ok s w _ _ _ _ _ _ hz h8 h15 hd.1 hd.2.1 hv hh.1 (by omega) hi.1 hi.2 hc.1 hc.2 k0 k1 k2 k3
end Go.Proofs.YthpndgcaoeokeaaGreatDoor
namespace Go.Proofs.YthpndgcaoeokeaaGreatDoor
open Go.RowKit Go.Sort

/-- one statement, what follows behind a letter -/
theorem wpS_seqK {P : Program} {Q : Exit → Act → List Frame → World → Prop} {a : Act} {cs : List Frame} {w : World} {x y : Code}
    (h : ∀ K : Act → List Frame → World → Prop, (∀ a cs w, y.wpS P Q a cs w → K a cs w) → x.wpS P (Exit.thenS K Q) a cs w) : (Code.seq x y).wpS P Q a cs w :=
  wpS_seq (h _ (fun _ _ _ h => h))

theorem frame_put (p : Addr) (v : Value) : #[Value.pointer (some p)] ++ ((Array.replicate 16 undef).setIfInBounds 3 v).setIfInBounds 0 v = #[.pointer (some p), v, undef, undef, v, undef, undef, undef, undef, undef, undef, undef, undef, undef, undef, undef, undef] := rfl

theorem run_assert (e : Int) (w : World) : (Instr.typeAssert (.iface 103 (.agg #[.int .i64 e])) 20 103 true).run Tryz.prog w = .ok (.tuple #[.agg #[.int .i64 e], .bool true]) w := by
  kernel_rfl

theorem catchInt_idle (p : Addr) (w : World) :
    CallsD Tryz.prog 68 #[.pointer (some p)] .returning w fun e u' w' => e = .returned (.tuple #[]) ∧ u' = .returning ∧ w' = w := by
  have hf := frame_put p .nilIface
  refine callsD_of_wpS Tryz.func68 rfl fun c₀ cs hu => ?_
  refine wpS_seqK fun K hK => ?_
  refine wpS_region ?_
  simp [wpOpsS, go_sem, recoverD, hu, Tryz.ntmps68, Exit.thenS]
  rw [hf]
  refine hK _ _ _ ?_
  clear hK K hf
  refine wpS_of_wp ?_
  go_wp2
  cases c₀
  simp_all [bodyPostS, results, Tryz.results68]

set_option maxRecDepth 100000 in
set_option maxHeartbeats 1000000 in
theorem catchInt_panicking (p : Addr) (e : Int) (x : Value) (older : List PanicEntry) (w : World) (hc : w.cell? p = some x) (hz : w.frozen? p = false) (hp : p.block < w.heap.size) :
    CallsD Tryz.prog 68 #[.pointer (some p)] (.panicking ({ v := .iface 103 (.agg #[.int .i64 e]), recovered := false } :: older)) w fun E u' w' =>
      E = .returned (.tuple #[]) ∧ u' = .panicking ({ v := .iface 103 (.agg #[.int .i64 e]), recovered := true } :: older) ∧ w' = (w.alloc (.cells #[.int .i64 e] 103)).setCell p (.int .i64 e) := by
  have hta := run_assert
  have hz2 : ∀ o, (w.alloc o).frozen? p = false := fun o => by rw [World.frozen?_alloc_old w o p (by omega)]; exact hz
  have hf := frame_put p (.iface 103 (.agg #[.int .i64 e]))
  refine callsD_of_wpS Tryz.func68 rfl fun c₀ cs hu => ?_
  refine wpS_seqK fun K hK => ?_
  refine wpS_region ?_
  simp [wpOpsS, go_sem, recoverD, hu, Tryz.ntmps68, Exit.thenS]
  rw [hf]
  refine hK _ _ _ ?_
  clear hK K hf
  refine wpS_of_wp ?_
  go_wp2
  exact ⟨rfl, _, rfl, .tuple #[], by simp [results, Tryz.results68], rfl, rfl, rfl⟩

theorem catchString_idle (p : Addr) (w : World) :
    CallsD Tryz.prog 63 #[.pointer (some p)] .returning w fun e u' w' => e = .returned (.tuple #[]) ∧ u' = .returning ∧ w' = w := by
  have hf := frame_put p .nilIface
  refine callsD_of_wpS Tryz.func63 rfl fun c₀ cs hu => ?_
  refine wpS_seqK fun K hK => ?_
  refine wpS_region ?_
  simp [wpOpsS, go_sem, recoverD, hu, Tryz.ntmps63, Exit.thenS]
  rw [hf]
  refine hK _ _ _ ?_
  clear hK K hf
  refine wpS_of_wp ?_
  go_wp2
  cases c₀
  simp_all [bodyPostS, results, Tryz.results63]

set_option maxRecDepth 100000 in
set_option maxHeartbeats 1000000 in
theorem catchString_panicking (p : Addr) (e : Int) (x : Value) (older : List PanicEntry) (w : World) (hc : w.cell? p = some x) (hz : w.frozen? p = false) (hp : p.block < w.heap.size) :
    CallsD Tryz.prog 63 #[.pointer (some p)] (.panicking ({ v := .iface 103 (.agg #[.int .i64 e]), recovered := false } :: older)) w fun E u' w' =>
      E = .returned (.tuple #[]) ∧ u' = .panicking ({ v := .iface 103 (.agg #[.int .i64 e]), recovered := true } :: older) ∧ w' = (w.alloc (.cells #[.int .i64 e] 103)).setCell p (.int .i64 e) := by
  have hta := run_assert
  have hz2 : ∀ o, (w.alloc o).frozen? p = false := fun o => by rw [World.frozen?_alloc_old w o p (by omega)]; exact hz
  have hf := frame_put p (.iface 103 (.agg #[.int .i64 e]))
  refine callsD_of_wpS Tryz.func63 rfl fun c₀ cs hu => ?_
  refine wpS_seqK fun K hK => ?_
  refine wpS_region ?_
  simp [wpOpsS, go_sem, recoverD, hu, Tryz.ntmps63, Exit.thenS]
  rw [hf]
  refine hK _ _ _ ?_
  clear hK K hf
  refine wpS_of_wp ?_
  go_wp2
  exact ⟨rfl, _, rfl, .tuple #[], by simp [results, Tryz.results63], rfl, rfl, rfl⟩
end Go.Proofs.YthpndgcaoeokeaaGreatDoor
namespace Go.Proofs.YthpndgcaoeokeaaGreatDoor
open Go.RowKit Go.Sort

set_option maxRecDepth 100000 in
set_option maxHeartbeats 1000000 in
theorem answerParse_yes (p : Addr) (n : Int) (w : World)
    (hf : ∀ W, Below w.heap.size w W → Calls Tryz.prog 38 #[.pointer (some p)] W fun E w' => E = .returned (.int .i64 n) ∧ Below W.heap.size W w') :
    Calls Tryz.prog 37 #[.func (.func 38) #[] #[.pointer (some p)]] w fun E w' => E = .returned (.tuple #[.int .i64 n, .int .i64 0]) ∧ Below w.heap.size w w' := by
  have hmf : ∀ (fn : Fn) (first cap : Array Value) (w : World), (Instr.makeFunc fn first cap).run Tryz.prog w = .ok (.func fn first cap) w := fun _ _ _ _ => rfl
  have HF := hide hf
  clear hf
  go_enter_defers Tryz.func37, Tryz.ntmps37
  go_wp2_with fail
  refine (HF.out _ ((Below.refl _ _).alloc (Nat.le_refl _) _)).mono ?_
  rintro e w1 ⟨rfl, hb1⟩
  obtain ⟨hc, hfz⟩ := bcell hb1
  have hz := hb1.size
  have h0 : w1.cell? ⟨w.heap.size, 0, none⟩ = some (.int .i64 0) := by rw [hc _ _ (by simp)]; simp [go_sem]
  have h1 : w1.frozen? ⟨w.heap.size, 0, none⟩ = false := by rw [hfz _ _ (by simp)]; simp [go_sem]
  have hlt : w.heap.size < w1.heap.size := by simp at hz; omega
  have hb : Below w.heap.size w w1 := ((Below.refl _ _).alloc (Nat.le_refl _) _).trans (hb1.mono (by simp))
  clear hc hfz hb1 hz
  go_wp2
  refine leaves_cons (f := 68) (args := #[.pointer (some ⟨w.heap.size, 0, none⟩)]) (by simp) (by simp [go_sem]) ?_
  refine (catchInt_idle _ _).mono ?_
  rintro e u' w'' ⟨rfl, rfl, rfl⟩
  refine ⟨.tuple #[.int .i64 n, .int .i64 0], ?_, rfl, hb.setCell (Nat.le_refl _) _⟩
  simp [results, Tryz.results37, go_sem, h0]

set_option maxRecDepth 100000 in
set_option maxHeartbeats 1000000 in
theorem answerParse_no (p : Addr) (x : Int) (w : World)
    (hf : ∀ W, Below w.heap.size w W → Calls Tryz.prog 38 #[.pointer (some p)] W fun E w' => E = .panicked (rsn x) ∧ Below W.heap.size W w') :
    Calls Tryz.prog 37 #[.func (.func 38) #[] #[.pointer (some p)]] w fun E w' => E = .returned (.tuple #[.int .i64 0, .int .i64 x]) ∧ Below w.heap.size w w' := by
  have hmf : ∀ (fn : Fn) (first cap : Array Value) (w : World), (Instr.makeFunc fn first cap).run Tryz.prog w = .ok (.func fn first cap) w := fun _ _ _ _ => rfl
  have HF := hide hf
  clear hf
  go_enter_defers Tryz.func37, Tryz.ntmps37
  go_wp2_with fail
  refine (HF.out _ ((Below.refl _ _).alloc (Nat.le_refl _) _)).mono ?_
  rintro e w1 ⟨rfl, hb1⟩
  obtain ⟨hc, hfz⟩ := bcell hb1
  have hz := hb1.size
  have h0 : w1.cell? ⟨w.heap.size, 0, none⟩ = some (.int .i64 0) := by rw [hc _ _ (by simp)]; simp [go_sem]
  have h1 : w1.frozen? ⟨w.heap.size, 0, none⟩ = false := by rw [hfz _ _ (by simp)]; simp [go_sem]
  have hlt : w.heap.size < w1.heap.size := by simp at hz; omega
  have hb : Below w.heap.size w w1 := ((Below.refl _ _).alloc (Nat.le_refl _) _).trans (hb1.mono (by simp))
  clear hc hfz hb1 hz
  refine leaves_cons (f := 68) (args := #[.pointer (some ⟨w.heap.size, 0, none⟩)]) (by simp) (by simp [go_sem]) ?_
  refine (catchInt_panicking ⟨w.heap.size, 0, none⟩ x (.int .i64 0) [] _ h0 h1 hlt).mono ?_
  rintro e u' w'' ⟨rfl, rfl, rfl⟩
  refine ⟨.tuple #[.int .i64 0, .int .i64 x], ?_, rfl, (hb.alloc (Nat.le_of_lt hlt) _).setCell (Nat.le_refl _) _⟩
  have h2 : ((w1.alloc (.cells #[.int .i64 x] 103)).cell? ⟨w.heap.size, 0, none⟩).isSome = true := by
    rw [World.cell?_alloc_past _ _ _ hlt, h0]; rfl
  simp [results, Tryz.results37, go_sem, h2]

set_option maxRecDepth 100000 in
set_option maxHeartbeats 1000000 in
theorem answerLength_yes (p : Addr) (n : Int) (w : World)
    (hf : ∀ W, Below w.heap.size w W → Calls Tryz.prog 40 #[.pointer (some p)] W fun E w' => E = .returned (.int .i64 n) ∧ Below W.heap.size W w') :
    Calls Tryz.prog 37 #[.func (.func 40) #[] #[.pointer (some p)]] w fun E w' => E = .returned (.tuple #[.int .i64 n, .int .i64 0]) ∧ Below w.heap.size w w' := by
  have hmf : ∀ (fn : Fn) (first cap : Array Value) (w : World), (Instr.makeFunc fn first cap).run Tryz.prog w = .ok (.func fn first cap) w := fun _ _ _ _ => rfl
  have HF := hide hf
  clear hf
  go_enter_defers Tryz.func37, Tryz.ntmps37
  go_wp2_with fail
  refine (HF.out _ ((Below.refl _ _).alloc (Nat.le_refl _) _)).mono ?_
  rintro e w1 ⟨rfl, hb1⟩
  obtain ⟨hc, hfz⟩ := bcell hb1
  have hz := hb1.size
  have h0 : w1.cell? ⟨w.heap.size, 0, none⟩ = some (.int .i64 0) := by rw [hc _ _ (by simp)]; simp [go_sem]
  have h1 : w1.frozen? ⟨w.heap.size, 0, none⟩ = false := by rw [hfz _ _ (by simp)]; simp [go_sem]
  have hlt : w.heap.size < w1.heap.size := by simp at hz; omega
  have hb : Below w.heap.size w w1 := ((Below.refl _ _).alloc (Nat.le_refl _) _).trans (hb1.mono (by simp))
  clear hc hfz hb1 hz
  go_wp2
  refine leaves_cons (f := 68) (args := #[.pointer (some ⟨w.heap.size, 0, none⟩)]) (by simp) (by simp [go_sem]) ?_
  refine (catchInt_idle _ _).mono ?_
  rintro e u' w'' ⟨rfl, rfl, rfl⟩
  refine ⟨.tuple #[.int .i64 n, .int .i64 0], ?_, rfl, hb.setCell (Nat.le_refl _) _⟩
  simp [results, Tryz.results37, go_sem, h0]

set_option maxRecDepth 100000 in
set_option maxHeartbeats 1000000 in
theorem answerLength_no (p : Addr) (x : Int) (w : World)
    (hf : ∀ W, Below w.heap.size w W → Calls Tryz.prog 40 #[.pointer (some p)] W fun E w' => E = .panicked (rsn x) ∧ Below W.heap.size W w') :
    Calls Tryz.prog 37 #[.func (.func 40) #[] #[.pointer (some p)]] w fun E w' => E = .returned (.tuple #[.int .i64 0, .int .i64 x]) ∧ Below w.heap.size w w' := by
  have hmf : ∀ (fn : Fn) (first cap : Array Value) (w : World), (Instr.makeFunc fn first cap).run Tryz.prog w = .ok (.func fn first cap) w := fun _ _ _ _ => rfl
  have HF := hide hf
  clear hf
  go_enter_defers Tryz.func37, Tryz.ntmps37
  go_wp2_with fail
  refine (HF.out _ ((Below.refl _ _).alloc (Nat.le_refl _) _)).mono ?_
  rintro e w1 ⟨rfl, hb1⟩
  obtain ⟨hc, hfz⟩ := bcell hb1
  have hz := hb1.size
  have h0 : w1.cell? ⟨w.heap.size, 0, none⟩ = some (.int .i64 0) := by rw [hc _ _ (by simp)]; simp [go_sem]
  have h1 : w1.frozen? ⟨w.heap.size, 0, none⟩ = false := by rw [hfz _ _ (by simp)]; simp [go_sem]
  have hlt : w.heap.size < w1.heap.size := by simp at hz; omega
  have hb : Below w.heap.size w w1 := ((Below.refl _ _).alloc (Nat.le_refl _) _).trans (hb1.mono (by simp))
  clear hc hfz hb1 hz
  refine leaves_cons (f := 68) (args := #[.pointer (some ⟨w.heap.size, 0, none⟩)]) (by simp) (by simp [go_sem]) ?_
  refine (catchInt_panicking ⟨w.heap.size, 0, none⟩ x (.int .i64 0) [] _ h0 h1 hlt).mono ?_
  rintro e u' w'' ⟨rfl, rfl, rfl⟩
  refine ⟨.tuple #[.int .i64 0, .int .i64 x], ?_, rfl, (hb.alloc (Nat.le_of_lt hlt) _).setCell (Nat.le_refl _) _⟩
  have h2 : ((w1.alloc (.cells #[.int .i64 x] 103)).cell? ⟨w.heap.size, 0, none⟩).isSome = true := by
    rw [World.cell?_alloc_past _ _ _ hlt, h0]; rfl
  simp [results, Tryz.results37, go_sem, h2]

set_option maxRecDepth 100000 in
set_option maxHeartbeats 1000000 in
theorem answerPrint_yes (p : Addr) (n : ByteArray) (w : World)
    (hf : ∀ W, Below w.heap.size w W → Calls Tryz.prog 35 #[.pointer (some p)] W fun E w' => E = .returned (.string n) ∧ Below W.heap.size W w') :
    Calls Tryz.prog 34 #[.func (.func 35) #[] #[.pointer (some p)]] w fun E w' => E = .returned (.tuple #[.string n, .int .i64 0]) ∧ Below w.heap.size w w' := by
  have hmf : ∀ (fn : Fn) (first cap : Array Value) (w : World), (Instr.makeFunc fn first cap).run Tryz.prog w = .ok (.func fn first cap) w := fun _ _ _ _ => rfl
  have HF := hide hf
  clear hf
  go_enter_defers Tryz.func34, Tryz.ntmps34
  go_wp2_with fail
  refine (HF.out _ ((Below.refl _ _).alloc (Nat.le_refl _) _)).mono ?_
  rintro e w1 ⟨rfl, hb1⟩
  obtain ⟨hc, hfz⟩ := bcell hb1
  have hz := hb1.size
  have h0 : w1.cell? ⟨w.heap.size, 0, none⟩ = some (.int .i64 0) := by rw [hc _ _ (by simp)]; simp [go_sem]
  have h1 : w1.frozen? ⟨w.heap.size, 0, none⟩ = false := by rw [hfz _ _ (by simp)]; simp [go_sem]
  have hlt : w.heap.size < w1.heap.size := by simp at hz; omega
  have hb : Below w.heap.size w w1 := ((Below.refl _ _).alloc (Nat.le_refl _) _).trans (hb1.mono (by simp))
  clear hc hfz hb1 hz
  go_wp2
  refine leaves_cons (f := 63) (args := #[.pointer (some ⟨w.heap.size, 0, none⟩)]) (by simp) (by simp [go_sem]) ?_
  refine (catchString_idle _ _).mono ?_
  rintro e u' w'' ⟨rfl, rfl, rfl⟩
  refine ⟨.tuple #[.string n, .int .i64 0], ?_, rfl, hb.setCell (Nat.le_refl _) _⟩
  simp [results, Tryz.results34, go_sem, h0]

set_option maxRecDepth 100000 in
set_option maxHeartbeats 1000000 in
theorem answerPrint_no (p : Addr) (x : Int) (w : World)
    (hf : ∀ W, Below w.heap.size w W → Calls Tryz.prog 35 #[.pointer (some p)] W fun E w' => E = .panicked (rsn x) ∧ Below W.heap.size W w') :
    Calls Tryz.prog 34 #[.func (.func 35) #[] #[.pointer (some p)]] w fun E w' => E = .returned (.tuple #[.string ⟨#[]⟩, .int .i64 x]) ∧ Below w.heap.size w w' := by
  have hmf : ∀ (fn : Fn) (first cap : Array Value) (w : World), (Instr.makeFunc fn first cap).run Tryz.prog w = .ok (.func fn first cap) w := fun _ _ _ _ => rfl
  have HF := hide hf
  clear hf
  go_enter_defers Tryz.func34, Tryz.ntmps34
  go_wp2_with fail
  refine (HF.out _ ((Below.refl _ _).alloc (Nat.le_refl _) _)).mono ?_
  rintro e w1 ⟨rfl, hb1⟩
  obtain ⟨hc, hfz⟩ := bcell hb1
  have hz := hb1.size
  have h0 : w1.cell? ⟨w.heap.size, 0, none⟩ = some (.int .i64 0) := by rw [hc _ _ (by simp)]; simp [go_sem]
  have h1 : w1.frozen? ⟨w.heap.size, 0, none⟩ = false := by rw [hfz _ _ (by simp)]; simp [go_sem]
  have hlt : w.heap.size < w1.heap.size := by simp at hz; omega
  have hb : Below w.heap.size w w1 := ((Below.refl _ _).alloc (Nat.le_refl _) _).trans (hb1.mono (by simp))
  clear hc hfz hb1 hz
  refine leaves_cons (f := 63) (args := #[.pointer (some ⟨w.heap.size, 0, none⟩)]) (by simp) (by simp [go_sem]) ?_
  refine (catchString_panicking ⟨w.heap.size, 0, none⟩ x (.int .i64 0) [] _ h0 h1 hlt).mono ?_
  rintro e u' w'' ⟨rfl, rfl, rfl⟩
  refine ⟨.tuple #[.string ⟨#[]⟩, .int .i64 x], ?_, rfl, (hb.alloc (Nat.le_of_lt hlt) _).setCell (Nat.le_refl _) _⟩
  have h2 : ((w1.alloc (.cells #[.int .i64 x] 103)).cell? ⟨w.heap.size, 0, none⟩).isSome = true := by
    rw [World.cell?_alloc_past _ _ _ hlt, h0]; rfl
  simp [results, Tryz.results34, go_sem, h2]

end Go.Proofs.YthpndgcaoeokeaaGreatDoor
namespace Go.Proofs.YthpndgcaoeokeaaGreatDoor
open Go.RowKit Go.Sort

theorem parse1_any (s : ByteArray) (p : Addr) (W : World) (hc : W.cell? p = some (.string s)) :
    Calls Tryz.prog 38 #[.pointer (some p)] W fun E w' => E = timeE s ∧ Below W.heap.size W w' := by
  by_cases h : TimeOk s
  · have c := fun W => readTime_any s W
    rw [timeE_yes h] at c ⊢
    have C := hide c
    clear c h
    go_enter Tryz.func38, Tryz.ntmps38
    go_wp2_with (go_at_call 39; refine (C.out _).mono ?_; rintro e w1 ⟨rfl, hb⟩)
    go_ret
    exact ⟨rfl, hb⟩
  · have c := fun W => readTime_any s W
    rw [timeE_no h] at c ⊢
    have C := hide c
    clear c h
    go_enter Tryz.func38, Tryz.ntmps38
    go_wp2_with (go_at_call 39; refine (C.out _).mono ?_; rintro e w1 ⟨rfl, hb⟩)
    exact ⟨rfl, rfl, hb⟩

theorem parse_any (s : ByteArray) (w : World) :
    Calls Tryz.prog 19 #[.string s] w fun E w' => E = .returned (parseV s) ∧ Below w.heap.size w w' := by
  have hmf : ∀ (fn : Fn) (first cap : Array Value) (w : World), (Instr.makeFunc fn first cap).run Tryz.prog w = .ok (.func fn first cap) w := fun _ _ _ _ => rfl
  have hcl : ∀ W, Below (w.alloc (.cells #[.string s] 9)).heap.size (w.alloc (.cells #[.string s] 9)) W → W.cell? ⟨w.heap.size, 0, none⟩ = some (.string s) := fun W hb => by
    rw [hb.cell (p := ⟨w.heap.size, 0, none⟩) (by simp)]; simp [go_sem]
  by_cases h : TimeOk s
  · rw [parseV_yes h]
    have c := answerParse_yes ⟨w.heap.size, 0, none⟩ (timeN s) (w.alloc (.cells #[.string s] 9)) (fun W hb => by
      have := parse1_any s ⟨w.heap.size, 0, none⟩ W (hcl W hb)
      rw [timeE_yes h] at this; exact this)
    have C := hide c
    clear c hcl h
    go_enter Tryz.func19, Tryz.ntmps19
    go_wp2_with (go_at_call 37; refine (C.out).mono ?_; rintro e w1 ⟨rfl, hb⟩)
    go_ret2
    exact ⟨rfl, ((Below.refl _ _).alloc (Nat.le_refl _) _).trans (hb.mono (by simp))⟩
  · rw [parseV_no h]
    have c := answerParse_no ⟨w.heap.size, 0, none⟩ 1 (w.alloc (.cells #[.string s] 9)) (fun W hb => by
      have := parse1_any s ⟨w.heap.size, 0, none⟩ W (hcl W hb)
      rw [timeE_no h] at this; exact this)
    have C := hide c
    clear c hcl h
    go_enter Tryz.func19, Tryz.ntmps19
    go_wp2_with (go_at_call 37; refine (C.out).mono ?_; rintro e w1 ⟨rfl, hb⟩)
    go_ret2
    exact ⟨rfl, ((Below.refl _ _).alloc (Nat.le_refl _) _).trans (hb.mono (by simp))⟩
end Go.Proofs.YthpndgcaoeokeaaGreatDoor
namespace Go.Proofs.YthpndgcaoeokeaaGreatDoor
open Go.RowKit Go.Sort

/-- the library's table of powers of ten, as the row lists it -/
def Tab (w : World) : Prop := Lib.TabIs Tryz.prog w "internal/strconv.uint64pow10" .u64 Lib.pow10Tab
theorem Tab.on {w w' : World} (h : Tab w) (hb : Below w.heap.size w w') : Tab w' := Lib.tabBelow_of_tabIs h w' hb

set_option maxRecDepth 100000 in
theorem repeat0 (s : ByteArray) (w : World) : Calls Tryz.prog 122 #[.string s, .int .i64 0] w fun e w' => e = .returned (.string ⟨#[]⟩) ∧ w = w' := by
  go_enter Tryz.func122, Tryz.ntmps122
  go_wp2
  go_ret
  exact ⟨rfl, rfl⟩
set_option maxRecDepth 100000 in
theorem repeat1 (s : ByteArray) (w : World) : Calls Tryz.prog 122 #[.string s, .int .i64 1] w fun e w' => e = .returned (.string s) ∧ w = w' := by
  go_enter Tryz.func122, Tryz.ntmps122
  go_wp2
  go_ret
  exact ⟨rfl, rfl⟩

theorem dec_snoc {u : Nat} (h : ¬ u < 10) : Lib.decDigits u = Lib.decDigits (u / 10) ++ [UInt8.ofNat (48 + u % 10)] := by
  rw [Lib.decDigits, dif_neg h]
theorem pad_dec2 (u : Nat) (h : ¬ u < 10) (h2 : u < 100) : Lib.decDigits u = pad 2 u := by
  rw [dec_snoc h, Lib.decDigits_one (by omega)]
  simp only [pad, List.nil_append, List.singleton_append]
  congr 1
  · congr 1; omega
theorem pad_dec1 (u : Nat) (h : u < 10) : [48] ++ Lib.decDigits u = pad 2 u := by
  rw [Lib.decDigits_one h]
  simp only [pad, List.nil_append, List.singleton_append]
  congr 1
  · have : (48 + (u : Int) / 10 % 10).toNat = 48 := by omega
    rw [this]; rfl
  · congr 1; congr 1; omega
theorem pad_dec4 (u : Nat) (h : 1000 ≤ u) (h2 : u < 10000) : Lib.decDigits u = pad 4 u := by
  rw [dec_snoc (by omega), dec_snoc (u := u / 10) (by omega), dec_snoc (u := u / 10 / 10) (by omega), Lib.decDigits_one (by omega)]
  have a1 : (48 + (u : Int) / 10 / 10 / 10 % 10).toNat = 48 + u / 10 / 10 / 10 := by omega
  have a2 : (48 + (u : Int) / 10 / 10 % 10).toNat = 48 + u / 10 / 10 % 10 := by omega
  have a3 : (48 + (u : Int) / 10 % 10).toNat = 48 + u / 10 % 10 := by omega
  have a4 : (48 + (u : Int) % 10).toNat = 48 + u % 10 := by omega
  simp only [pad, List.nil_append, a1, a2, a3, a4]

theorem itoa_nat (u : Nat) (w : World) (h : u ≤ 10000000) (ht : Tab w) :
    Calls Tryz.prog 83 #[.int .i64 u] w fun e w' => e = .returned (.string ⟨(Lib.decDigits u).toArray⟩) ∧ Below w.heap.size w w' :=
  (Tryz.strconv_Itoa (u : Int) (by omega) (by omega) w ht).mono fun e w' ⟨h1, k, os, h2⟩ => by
    rw [Lib.itoa_nonneg] at h1
    refine ⟨h1, ?_⟩
    rw [h2]
    refine ⟨rfl, rfl, rfl, by simp [grow, World.drewN], fun j hj => ?_⟩
    simp [grow, World.drewN, Array.getElem?_append, hj]

set_option maxHeartbeats 1000000 in
theorem whenPadded_any (u width : Nat) (w : World) (ht : Tab w) (h : (width = 2 ∧ u < 100) ∨ (width = 4 ∧ 1000 ≤ u ∧ u < 10000)) :
    Calls Tryz.prog 67 #[.int .i64 u, .int .i64 width] w fun e w' => e = .returned (.string ⟨(pad width u).toArray⟩) ∧ Below w.heap.size w w' := by
  have c := itoa_nat u w (by omega) ht
  have hl : (Lib.decDigits u).length = Lib.nDigits u := Lib.decDigits_length u
  have C := hide c
  clear c
  rcases h with ⟨rfl, h2⟩ | ⟨rfl, h4, h5⟩
  · by_cases h1 : u < 10
    · have e1 : (Lib.decDigits u).length = 1 := by rw [Lib.decDigits_one h1]; rfl
      have E := hide (pad_dec1 u h1)
      clear hl
      go_enter Tryz.func67, Tryz.ntmps67
      go_wp2_with (first
        | (go_at_call 83; refine (C.out).mono ?_; rintro e w1 ⟨rfl, hb⟩)
        | (go_at_call 122; refine (repeat1 _ _).mono ?_; rintro e w' ⟨rfl, rfl⟩))
      go_ret
      exact ⟨ret_str ((ba_app [48] _).trans (by rw [E.out])), hb⟩
    · have e1 : (Lib.decDigits u).length = 2 := by rw [pad_dec2 u h1 h2, pad_length]
      have E := hide (pad_dec2 u h1 h2)
      clear hl
      go_enter Tryz.func67, Tryz.ntmps67
      go_wp2_with (first
        | (go_at_call 83; refine (C.out).mono ?_; rintro e w1 ⟨rfl, hb⟩)
        | (go_at_call 122; refine (repeat0 _ _).mono ?_; rintro e w' ⟨rfl, rfl⟩))
      go_ret
      exact ⟨ret_str ((ba_app [] _).trans (by rw [E.out, List.nil_append])), hb⟩
  · have e1 : (Lib.decDigits u).length = 4 := by rw [pad_dec4 u h4 h5, pad_length]
    have E := hide (pad_dec4 u h4 h5)
    clear hl
    go_enter Tryz.func67, Tryz.ntmps67
    go_wp2_with (first
      | (go_at_call 83; refine (C.out).mono ?_; rintro e w1 ⟨rfl, hb⟩)
      | (go_at_call 122; refine (repeat0 _ _).mono ?_; rintro e w' ⟨rfl, rfl⟩))
    go_ret
    exact ⟨ret_str ((ba_app [] _).trans (by rw [E.out, List.nil_append])), hb⟩
end Go.Proofs.YthpndgcaoeokeaaGreatDoor
