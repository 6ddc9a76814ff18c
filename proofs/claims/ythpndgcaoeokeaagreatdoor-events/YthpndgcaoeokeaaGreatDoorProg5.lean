/- The program's own: when.readTime, where its text has a time's shape. -/
import Derived.Test.YthpndgcaoeokeaaGreatDoorDay1
namespace Go.Proofs.YthpndgcaoeokeaaGreatDoor
open Go.RowKit Go.Sort


set_option maxRecDepth 100000 in
set_option maxHeartbeats 4000000 in
theorem readTime_ok (s : ByteArray) (w : World) (y m d h i c : Int) (hz : s.size = 16) (h8 : at0 s 8 = 84) (h15 : at0 s 15 = 90) (y0 : 1970 ≤ y) (y1 : y ≤ 2199) (vd : Cal.Valid y m d) (h0 : 0 ≤ h) (h1 : h ≤ 59) (i0 : 0 ≤ i) (i1 : i ≤ 59) (c0 : 0 ≤ c) (c1 : c ≤ 59) 
    (cc0 : ∀ W, Calls Tryz.prog 69 #[.string (s.extract 0 8)] W fun E w' => E = .returned (.agg #[.int .i64 y, .int .i64 m, .int .i64 d]) ∧ Below W.heap.size W w')
    (cc1 : ∀ W, Calls Tryz.prog 70 #[.string (s.extract 9 11), .int .i64 23] W fun E w' => E = .returned (.int .i64 h) ∧ Below W.heap.size W w')
    (cc2 : ∀ W, Calls Tryz.prog 70 #[.string (s.extract 11 13), .int .i64 59] W fun E w' => E = .returned (.int .i64 i) ∧ Below W.heap.size W w')
    (cc3 : ∀ W, Calls Tryz.prog 70 #[.string (s.extract 13 15), .int .i64 59] W fun E w' => E = .returned (.int .i64 c) ∧ Below W.heap.size W w') :
    Calls Tryz.prog 39 #[.string s] w fun E w' => E = .returned (.int .i64 (Cal.num y m d * 86400 + h * 3600 + i * 60 + c)) ∧ Below w.heap.size w w' := by
  have z0 : ((s.size : Int) == 16) = true := by simp [hz]
  have z1 : (15 : Int) < s.size := by omega
  have z15 : 15 < s.size := by omega
  have z8 : (8 : Int) ≤ s.size := by omega
  have z11 : (11 : Int) ≤ s.size := by omega
  have z13 : (13 : Int) ≤ s.size := by omega
  have z16 : (15 : Int) ≤ s.size := by omega
  have HZ := hide hz
  clear hz
  have h8' : (((s[8]'(by omega)).toNat : Int) == 84) = true := by rw [at0_get s 8 (by omega), h8]; rfl
  have h15' : (((s[15]'(by omega)).toNat : Int) == 90) = true := by rw [at0_get s 15 (by omega), h15]; rfl
  have nb := num_bd y0 y1 vd
  obtain ⟨v1, v2, v3, v4⟩ := vd
  have md := Cal.md_bd y m
  have C0 := hide cc0
  have C1 := hide cc1
  have C2 := hide cc2
  have C3 := hide cc3
  clear h8 h15 cc0 cc1 cc2 cc3
  go_enter Tryz.func39, Tryz.ntmps39
  go_wp2_with (first
    | (go_at_call_of 65 (Value.bool true); refine (unless_yes _ _).mono ?_; rintro e w' ⟨rfl, rfl⟩))
  refine wp_region_any (by kernel_rfl) ?_
  change wpAny _ _ _ _ _ _ _ (World.drew _)
  refine wpAny_take (i := 0) (v := ?_) rfl (by kernel_rfl) (by kernel_rfl) (by kernel_rfl) (fun _ _ _ h => h) (Or.inl ⟨by rfl, ?_⟩) ?_
  rotate_left 1
  · intro w; go_simp <;> with_reducible rfl
  refine wpAny_take (i := 1) (v := ?_) rfl (by kernel_rfl) (by kernel_rfl) (by kernel_rfl) (fun _ _ _ h => h) (Or.inl ⟨by rfl, ?_⟩) ?_
  rotate_left 1
  · intro w; go_simp <;> with_reducible rfl
  refine wpAny_take (i := 4) (v := ?_) rfl (by kernel_rfl) (by kernel_rfl) (by kernel_rfl) (fun _ _ _ h => h) (Or.inl ⟨by rfl, ?_⟩) ?_
  rotate_left 1
  · intro w; go_simp <;> with_reducible rfl
  refine wpAny_take (i := 5) (v := ?_) rfl (by kernel_rfl) (by kernel_rfl) (by kernel_rfl) (fun _ _ _ h => h) (Or.inl ⟨by rfl, ?_⟩) ?_
  rotate_left 1
  · intro w; go_simp <;> with_reducible rfl
  refine wpAny_take (i := 9) (v := ?_) rfl (by kernel_rfl) (by kernel_rfl) (by kernel_rfl) (fun _ _ _ h => h) (Or.inl ⟨by rfl, ?_⟩) ?_
  rotate_left 1
  · intro w; go_simp <;> with_reducible rfl
  refine wpAny_take (i := 10) (v := ?_) rfl (by kernel_rfl) (by kernel_rfl) (by kernel_rfl) (fun _ _ _ h => h) (Or.inl ⟨by rfl, ?_⟩) ?_
  rotate_left 1
  · intro w; go_simp <;> with_reducible rfl
  refine wpAny_take (i := 14) (v := ?_) rfl (by kernel_rfl) (by kernel_rfl) (by kernel_rfl) (fun _ _ _ h => h) (Or.inl ⟨by rfl, ?_⟩) ?_
  rotate_left 1
  · intro w; go_simp <;> with_reducible rfl
  refine wpAny_take (i := 15) (v := ?_) rfl (by kernel_rfl) (by kernel_rfl) (by kernel_rfl) (fun _ _ _ h => h) (Or.inl ⟨by rfl, ?_⟩) ?_
  rotate_left 1
  · intro w; go_simp <;> with_reducible rfl
  refine wpAny_ready (rs := [2]) (by kernel_rfl) (by simp) ?_
  refine AllReady.cons rfl (fun K hK => ?_) AllReady.nil
  go_simp
  go_wp2_with (go_at_call 69; refine (C0.out _).mono ?_; rintro e u0 ⟨rfl, hb0⟩)
  try (refine hK _ _ ?_; clear hK K)
  refine wpAny_ready (rs := [3]) (by kernel_rfl) (by simp) ?_
  refine AllReady.cons rfl (fun K hK => ?_) AllReady.nil
  go_simp
  go_wp2_with (go_at_call 64; refine (dayBegin_any _ _ _ _ (by omega) (by omega) (by omega) (by omega) (by omega) (by omega)).mono ?_; rintro e un ⟨rfl, hbn⟩)
  try (refine hK _ _ ?_; clear hK K)
  have bn : Below w.heap.size w un := ((Below.refl _ _).drew.trans hb0).trans (hbn.mono hb0.size)
  refine wpAny_ready (rs := [6]) (by kernel_rfl) (by simp) ?_
  refine AllReady.cons rfl (fun K hK => ?_) AllReady.nil
  go_simp
  go_wp2_with (go_at_call 70; refine (C1.out _).mono ?_; rintro e u1 ⟨rfl, hb1⟩)
  try (refine hK _ _ ?_; clear hK K)
  have b1 : Below w.heap.size w u1 := bn.trans (hb1.mono bn.size)
  have e1m : IntKind.i64.wrap (h * 3600) = h * 3600 := wrap_ok (by omega) (by omega)
  refine wpAny_take (i := 7) (v := ?_) rfl (by kernel_rfl) (by kernel_rfl) (by kernel_rfl) (fun _ _ _ h => h) (Or.inl ⟨by rfl, ?_⟩) ?_
  rotate_left 1
  · intro w; go_simp <;> with_reducible rfl
  have e1a : IntKind.i64.wrap (Cal.num y m d * 86400 + h * 3600) = Cal.num y m d * 86400 + h * 3600 := wrap_ok (by omega) (by omega)
  refine wpAny_take (i := 8) (v := ?_) rfl (by kernel_rfl) (by kernel_rfl) (by kernel_rfl) (fun _ _ _ h => h) (Or.inl ⟨by rfl, ?_⟩) ?_
  rotate_left 1
  · intro w; go_simp <;> with_reducible rfl
  refine wpAny_ready (rs := [11]) (by kernel_rfl) (by simp) ?_
  refine AllReady.cons rfl (fun K hK => ?_) AllReady.nil
  go_simp
  go_wp2_with (go_at_call 70; refine (C2.out _).mono ?_; rintro e u2 ⟨rfl, hb2⟩)
  try (refine hK _ _ ?_; clear hK K)
  have b2 : Below w.heap.size w u2 := b1.trans (hb2.mono b1.size)
  have e2m : IntKind.i64.wrap (i * 60) = i * 60 := wrap_ok (by omega) (by omega)
  refine wpAny_take (i := 12) (v := ?_) rfl (by kernel_rfl) (by kernel_rfl) (by kernel_rfl) (fun _ _ _ h => h) (Or.inl ⟨by rfl, ?_⟩) ?_
  rotate_left 1
  · intro w; go_simp <;> with_reducible rfl
  have e2a : IntKind.i64.wrap (Cal.num y m d * 86400 + h * 3600 + i * 60) = Cal.num y m d * 86400 + h * 3600 + i * 60 := wrap_ok (by omega) (by omega)
  refine wpAny_take (i := 13) (v := ?_) rfl (by kernel_rfl) (by kernel_rfl) (by kernel_rfl) (fun _ _ _ h => h) (Or.inl ⟨by rfl, ?_⟩) ?_
  rotate_left 1
  · intro w; go_simp <;> with_reducible rfl
  refine wpAny_ready (rs := [16]) (by kernel_rfl) (by simp) ?_
  refine AllReady.cons rfl (fun K hK => ?_) AllReady.nil
  go_simp
  go_wp2_with (go_at_call 70; refine (C3.out _).mono ?_; rintro e u3 ⟨rfl, hb3⟩)
  try (refine hK _ _ ?_; clear hK K)
  have b3 : Below w.heap.size w u3 := b2.trans (hb3.mono b2.size)
  have e3a : IntKind.i64.wrap (Cal.num y m d * 86400 + h * 3600 + i * 60 + c) = Cal.num y m d * 86400 + h * 3600 + i * 60 + c := wrap_ok (by omega) (by omega)
  refine wpAny_take (i := 17) (v := ?_) rfl (by kernel_rfl) (by kernel_rfl) (by kernel_rfl) (fun _ _ _ h => h) (Or.inl ⟨by rfl, ?_⟩) ?_
  rotate_left 1
  · intro w; go_simp <;> with_reducible rfl
  refine wpAny_take (i := 18) (v := ?_) rfl (by kernel_rfl) (by kernel_rfl) (by kernel_rfl) (fun _ _ _ h => h) (Or.inl ⟨by rfl, ?_⟩) ?_
  rotate_left 1
  · intro w; go_simp <;> with_reducible rfl
  refine wpAny_done (by kernel_rfl) ?_ _
  go_wp2
  go_ret
  exact ⟨rfl, b3⟩

set_option maxRecDepth 100000 in
set_option maxHeartbeats 4000000 in
theorem readTime_bad0 (s : ByteArray) (w : World) (hz : s.size = 16) (h8 : at0 s 8 = 84) (h15 : at0 s 15 = 90) 
    (cc0 : ∀ W, Calls Tryz.prog 69 #[.string (s.extract 0 8)] W fun E w' => E = .panicked (rsn 1) ∧ Below W.heap.size W w') :
    Calls Tryz.prog 39 #[.string s] w fun E w' => E = .panicked (rsn 1) ∧ Below w.heap.size w w' := by
  have z0 : ((s.size : Int) == 16) = true := by simp [hz]
  have z1 : (15 : Int) < s.size := by omega
  have z15 : 15 < s.size := by omega
  have z8 : (8 : Int) ≤ s.size := by omega
  have z11 : (11 : Int) ≤ s.size := by omega
  have z13 : (13 : Int) ≤ s.size := by omega
  have z16 : (15 : Int) ≤ s.size := by omega
  have HZ := hide hz
  clear hz
  have h8' : (((s[8]'(by omega)).toNat : Int) == 84) = true := by rw [at0_get s 8 (by omega), h8]; rfl
  have h15' : (((s[15]'(by omega)).toNat : Int) == 90) = true := by rw [at0_get s 15 (by omega), h15]; rfl
  have C0 := hide cc0
  clear h8 h15 cc0
  go_enter Tryz.func39, Tryz.ntmps39
  go_wp2_with (first
    | (go_at_call_of 65 (Value.bool true); refine (unless_yes _ _).mono ?_; rintro e w' ⟨rfl, rfl⟩))
  refine wp_region_any (by kernel_rfl) ?_
  change wpAny _ _ _ _ _ _ _ (World.drew _)
  refine wpAny_take (i := 0) (v := ?_) rfl (by kernel_rfl) (by kernel_rfl) (by kernel_rfl) (fun _ _ _ h => h) (Or.inl ⟨by rfl, ?_⟩) ?_
  rotate_left 1
  · intro w; go_simp <;> with_reducible rfl
  refine wpAny_take (i := 1) (v := ?_) rfl (by kernel_rfl) (by kernel_rfl) (by kernel_rfl) (fun _ _ _ h => h) (Or.inl ⟨by rfl, ?_⟩) ?_
  rotate_left 1
  · intro w; go_simp <;> with_reducible rfl
  refine wpAny_take (i := 4) (v := ?_) rfl (by kernel_rfl) (by kernel_rfl) (by kernel_rfl) (fun _ _ _ h => h) (Or.inl ⟨by rfl, ?_⟩) ?_
  rotate_left 1
  · intro w; go_simp <;> with_reducible rfl
  refine wpAny_take (i := 5) (v := ?_) rfl (by kernel_rfl) (by kernel_rfl) (by kernel_rfl) (fun _ _ _ h => h) (Or.inl ⟨by rfl, ?_⟩) ?_
  rotate_left 1
  · intro w; go_simp <;> with_reducible rfl
  refine wpAny_take (i := 9) (v := ?_) rfl (by kernel_rfl) (by kernel_rfl) (by kernel_rfl) (fun _ _ _ h => h) (Or.inl ⟨by rfl, ?_⟩) ?_
  rotate_left 1
  · intro w; go_simp <;> with_reducible rfl
  refine wpAny_take (i := 10) (v := ?_) rfl (by kernel_rfl) (by kernel_rfl) (by kernel_rfl) (fun _ _ _ h => h) (Or.inl ⟨by rfl, ?_⟩) ?_
  rotate_left 1
  · intro w; go_simp <;> with_reducible rfl
  refine wpAny_take (i := 14) (v := ?_) rfl (by kernel_rfl) (by kernel_rfl) (by kernel_rfl) (fun _ _ _ h => h) (Or.inl ⟨by rfl, ?_⟩) ?_
  rotate_left 1
  · intro w; go_simp <;> with_reducible rfl
  refine wpAny_take (i := 15) (v := ?_) rfl (by kernel_rfl) (by kernel_rfl) (by kernel_rfl) (fun _ _ _ h => h) (Or.inl ⟨by rfl, ?_⟩) ?_
  rotate_left 1
  · intro w; go_simp <;> with_reducible rfl
  refine wpAny_ready (rs := [2]) (by kernel_rfl) (by simp) ?_
  refine AllReady.cons rfl (fun K hK => ?_) AllReady.nil
  go_simp
  go_wp2_with (go_at_call 69; refine (C0.out _).mono ?_; rintro e u0 ⟨rfl, hb0⟩)
  exact ⟨rfl, rfl, (Below.refl _ _).drew.trans hb0⟩

set_option maxRecDepth 100000 in
set_option maxHeartbeats 4000000 in
theorem readTime_bad1 (s : ByteArray) (w : World) (y m d : Int) (hz : s.size = 16) (h8 : at0 s 8 = 84) (h15 : at0 s 15 = 90) (y0 : 1970 ≤ y) (y1 : y ≤ 2199) (vd : Cal.Valid y m d) 
    (cc0 : ∀ W, Calls Tryz.prog 69 #[.string (s.extract 0 8)] W fun E w' => E = .returned (.agg #[.int .i64 y, .int .i64 m, .int .i64 d]) ∧ Below W.heap.size W w')
    (cc1 : ∀ W, Calls Tryz.prog 70 #[.string (s.extract 9 11), .int .i64 23] W fun E w' => E = .panicked (rsn 1) ∧ Below W.heap.size W w') :
    Calls Tryz.prog 39 #[.string s] w fun E w' => E = .panicked (rsn 1) ∧ Below w.heap.size w w' := by
  have z0 : ((s.size : Int) == 16) = true := by simp [hz]
  have z1 : (15 : Int) < s.size := by omega
  have z15 : 15 < s.size := by omega
  have z8 : (8 : Int) ≤ s.size := by omega
  have z11 : (11 : Int) ≤ s.size := by omega
  have z13 : (13 : Int) ≤ s.size := by omega
  have z16 : (15 : Int) ≤ s.size := by omega
  have HZ := hide hz
  clear hz
  have h8' : (((s[8]'(by omega)).toNat : Int) == 84) = true := by rw [at0_get s 8 (by omega), h8]; rfl
  have h15' : (((s[15]'(by omega)).toNat : Int) == 90) = true := by rw [at0_get s 15 (by omega), h15]; rfl
  have nb := num_bd y0 y1 vd
  obtain ⟨v1, v2, v3, v4⟩ := vd
  have md := Cal.md_bd y m
  have C0 := hide cc0
  have C1 := hide cc1
  clear h8 h15 cc0 cc1
  go_enter Tryz.func39, Tryz.ntmps39
  go_wp2_with (first
    | (go_at_call_of 65 (Value.bool true); refine (unless_yes _ _).mono ?_; rintro e w' ⟨rfl, rfl⟩))
  refine wp_region_any (by kernel_rfl) ?_
  change wpAny _ _ _ _ _ _ _ (World.drew _)
  refine wpAny_take (i := 0) (v := ?_) rfl (by kernel_rfl) (by kernel_rfl) (by kernel_rfl) (fun _ _ _ h => h) (Or.inl ⟨by rfl, ?_⟩) ?_
  rotate_left 1
  · intro w; go_simp <;> with_reducible rfl
  refine wpAny_take (i := 1) (v := ?_) rfl (by kernel_rfl) (by kernel_rfl) (by kernel_rfl) (fun _ _ _ h => h) (Or.inl ⟨by rfl, ?_⟩) ?_
  rotate_left 1
  · intro w; go_simp <;> with_reducible rfl
  refine wpAny_take (i := 4) (v := ?_) rfl (by kernel_rfl) (by kernel_rfl) (by kernel_rfl) (fun _ _ _ h => h) (Or.inl ⟨by rfl, ?_⟩) ?_
  rotate_left 1
  · intro w; go_simp <;> with_reducible rfl
  refine wpAny_take (i := 5) (v := ?_) rfl (by kernel_rfl) (by kernel_rfl) (by kernel_rfl) (fun _ _ _ h => h) (Or.inl ⟨by rfl, ?_⟩) ?_
  rotate_left 1
  · intro w; go_simp <;> with_reducible rfl
  refine wpAny_take (i := 9) (v := ?_) rfl (by kernel_rfl) (by kernel_rfl) (by kernel_rfl) (fun _ _ _ h => h) (Or.inl ⟨by rfl, ?_⟩) ?_
  rotate_left 1
  · intro w; go_simp <;> with_reducible rfl
  refine wpAny_take (i := 10) (v := ?_) rfl (by kernel_rfl) (by kernel_rfl) (by kernel_rfl) (fun _ _ _ h => h) (Or.inl ⟨by rfl, ?_⟩) ?_
  rotate_left 1
  · intro w; go_simp <;> with_reducible rfl
  refine wpAny_take (i := 14) (v := ?_) rfl (by kernel_rfl) (by kernel_rfl) (by kernel_rfl) (fun _ _ _ h => h) (Or.inl ⟨by rfl, ?_⟩) ?_
  rotate_left 1
  · intro w; go_simp <;> with_reducible rfl
  refine wpAny_take (i := 15) (v := ?_) rfl (by kernel_rfl) (by kernel_rfl) (by kernel_rfl) (fun _ _ _ h => h) (Or.inl ⟨by rfl, ?_⟩) ?_
  rotate_left 1
  · intro w; go_simp <;> with_reducible rfl
  refine wpAny_ready (rs := [2]) (by kernel_rfl) (by simp) ?_
  refine AllReady.cons rfl (fun K hK => ?_) AllReady.nil
  go_simp
  go_wp2_with (go_at_call 69; refine (C0.out _).mono ?_; rintro e u0 ⟨rfl, hb0⟩)
  try (refine hK _ _ ?_; clear hK K)
  refine wpAny_ready (rs := [3]) (by kernel_rfl) (by simp) ?_
  refine AllReady.cons rfl (fun K hK => ?_) AllReady.nil
  go_simp
  go_wp2_with (go_at_call 64; refine (dayBegin_any _ _ _ _ (by omega) (by omega) (by omega) (by omega) (by omega) (by omega)).mono ?_; rintro e un ⟨rfl, hbn⟩)
  try (refine hK _ _ ?_; clear hK K)
  have bn : Below w.heap.size w un := ((Below.refl _ _).drew.trans hb0).trans (hbn.mono hb0.size)
  refine wpAny_ready (rs := [6]) (by kernel_rfl) (by simp) ?_
  refine AllReady.cons rfl (fun K hK => ?_) AllReady.nil
  go_simp
  go_wp2_with (go_at_call 70; refine (C1.out _).mono ?_; rintro e u1 ⟨rfl, hb1⟩)
  exact ⟨rfl, rfl, bn.trans (hb1.mono bn.size)⟩

set_option maxRecDepth 100000 in
set_option maxHeartbeats 4000000 in
theorem readTime_bad2 (s : ByteArray) (w : World) (y m d h : Int) (hz : s.size = 16) (h8 : at0 s 8 = 84) (h15 : at0 s 15 = 90) (y0 : 1970 ≤ y) (y1 : y ≤ 2199) (vd : Cal.Valid y m d) (h0 : 0 ≤ h) (h1 : h ≤ 59) 
    (cc0 : ∀ W, Calls Tryz.prog 69 #[.string (s.extract 0 8)] W fun E w' => E = .returned (.agg #[.int .i64 y, .int .i64 m, .int .i64 d]) ∧ Below W.heap.size W w')
    (cc1 : ∀ W, Calls Tryz.prog 70 #[.string (s.extract 9 11), .int .i64 23] W fun E w' => E = .returned (.int .i64 h) ∧ Below W.heap.size W w')
    (cc2 : ∀ W, Calls Tryz.prog 70 #[.string (s.extract 11 13), .int .i64 59] W fun E w' => E = .panicked (rsn 1) ∧ Below W.heap.size W w') :
    Calls Tryz.prog 39 #[.string s] w fun E w' => E = .panicked (rsn 1) ∧ Below w.heap.size w w' := by
  have z0 : ((s.size : Int) == 16) = true := by simp [hz]
  have z1 : (15 : Int) < s.size := by omega
  have z15 : 15 < s.size := by omega
  have z8 : (8 : Int) ≤ s.size := by omega
  have z11 : (11 : Int) ≤ s.size := by omega
  have z13 : (13 : Int) ≤ s.size := by omega
  have z16 : (15 : Int) ≤ s.size := by omega
  have HZ := hide hz
  clear hz
  have h8' : (((s[8]'(by omega)).toNat : Int) == 84) = true := by rw [at0_get s 8 (by omega), h8]; rfl
  have h15' : (((s[15]'(by omega)).toNat : Int) == 90) = true := by rw [at0_get s 15 (by omega), h15]; rfl
  have nb := num_bd y0 y1 vd
  obtain ⟨v1, v2, v3, v4⟩ := vd
  have md := Cal.md_bd y m
  have C0 := hide cc0
  have C1 := hide cc1
  have C2 := hide cc2
  clear h8 h15 cc0 cc1 cc2
  go_enter Tryz.func39, Tryz.ntmps39
  go_wp2_with (first
    | (go_at_call_of 65 (Value.bool true); refine (unless_yes _ _).mono ?_; rintro e w' ⟨rfl, rfl⟩))
  refine wp_region_any (by kernel_rfl) ?_
  change wpAny _ _ _ _ _ _ _ (World.drew _)
  refine wpAny_take (i := 0) (v := ?_) rfl (by kernel_rfl) (by kernel_rfl) (by kernel_rfl) (fun _ _ _ h => h) (Or.inl ⟨by rfl, ?_⟩) ?_
  rotate_left 1
  · intro w; go_simp <;> with_reducible rfl
  refine wpAny_take (i := 1) (v := ?_) rfl (by kernel_rfl) (by kernel_rfl) (by kernel_rfl) (fun _ _ _ h => h) (Or.inl ⟨by rfl, ?_⟩) ?_
  rotate_left 1
  · intro w; go_simp <;> with_reducible rfl
  refine wpAny_take (i := 4) (v := ?_) rfl (by kernel_rfl) (by kernel_rfl) (by kernel_rfl) (fun _ _ _ h => h) (Or.inl ⟨by rfl, ?_⟩) ?_
  rotate_left 1
  · intro w; go_simp <;> with_reducible rfl
  refine wpAny_take (i := 5) (v := ?_) rfl (by kernel_rfl) (by kernel_rfl) (by kernel_rfl) (fun _ _ _ h => h) (Or.inl ⟨by rfl, ?_⟩) ?_
  rotate_left 1
  · intro w; go_simp <;> with_reducible rfl
  refine wpAny_take (i := 9) (v := ?_) rfl (by kernel_rfl) (by kernel_rfl) (by kernel_rfl) (fun _ _ _ h => h) (Or.inl ⟨by rfl, ?_⟩) ?_
  rotate_left 1
  · intro w; go_simp <;> with_reducible rfl
  refine wpAny_take (i := 10) (v := ?_) rfl (by kernel_rfl) (by kernel_rfl) (by kernel_rfl) (fun _ _ _ h => h) (Or.inl ⟨by rfl, ?_⟩) ?_
  rotate_left 1
  · intro w; go_simp <;> with_reducible rfl
  refine wpAny_take (i := 14) (v := ?_) rfl (by kernel_rfl) (by kernel_rfl) (by kernel_rfl) (fun _ _ _ h => h) (Or.inl ⟨by rfl, ?_⟩) ?_
  rotate_left 1
  · intro w; go_simp <;> with_reducible rfl
  refine wpAny_take (i := 15) (v := ?_) rfl (by kernel_rfl) (by kernel_rfl) (by kernel_rfl) (fun _ _ _ h => h) (Or.inl ⟨by rfl, ?_⟩) ?_
  rotate_left 1
  · intro w; go_simp <;> with_reducible rfl
  refine wpAny_ready (rs := [2]) (by kernel_rfl) (by simp) ?_
  refine AllReady.cons rfl (fun K hK => ?_) AllReady.nil
  go_simp
  go_wp2_with (go_at_call 69; refine (C0.out _).mono ?_; rintro e u0 ⟨rfl, hb0⟩)
  try (refine hK _ _ ?_; clear hK K)
  refine wpAny_ready (rs := [3]) (by kernel_rfl) (by simp) ?_
  refine AllReady.cons rfl (fun K hK => ?_) AllReady.nil
  go_simp
  go_wp2_with (go_at_call 64; refine (dayBegin_any _ _ _ _ (by omega) (by omega) (by omega) (by omega) (by omega) (by omega)).mono ?_; rintro e un ⟨rfl, hbn⟩)
  try (refine hK _ _ ?_; clear hK K)
  have bn : Below w.heap.size w un := ((Below.refl _ _).drew.trans hb0).trans (hbn.mono hb0.size)
  refine wpAny_ready (rs := [6]) (by kernel_rfl) (by simp) ?_
  refine AllReady.cons rfl (fun K hK => ?_) AllReady.nil
  go_simp
  go_wp2_with (go_at_call 70; refine (C1.out _).mono ?_; rintro e u1 ⟨rfl, hb1⟩)
  try (refine hK _ _ ?_; clear hK K)
  have b1 : Below w.heap.size w u1 := bn.trans (hb1.mono bn.size)
  have e1m : IntKind.i64.wrap (h * 3600) = h * 3600 := wrap_ok (by omega) (by omega)
  refine wpAny_take (i := 7) (v := ?_) rfl (by kernel_rfl) (by kernel_rfl) (by kernel_rfl) (fun _ _ _ h => h) (Or.inl ⟨by rfl, ?_⟩) ?_
  rotate_left 1
  · intro w; go_simp <;> with_reducible rfl
  have e1a : IntKind.i64.wrap (Cal.num y m d * 86400 + h * 3600) = Cal.num y m d * 86400 + h * 3600 := wrap_ok (by omega) (by omega)
  refine wpAny_take (i := 8) (v := ?_) rfl (by kernel_rfl) (by kernel_rfl) (by kernel_rfl) (fun _ _ _ h => h) (Or.inl ⟨by rfl, ?_⟩) ?_
  rotate_left 1
  · intro w; go_simp <;> with_reducible rfl
  refine wpAny_ready (rs := [11]) (by kernel_rfl) (by simp) ?_
  refine AllReady.cons rfl (fun K hK => ?_) AllReady.nil
  go_simp
  go_wp2_with (go_at_call 70; refine (C2.out _).mono ?_; rintro e u2 ⟨rfl, hb2⟩)
  exact ⟨rfl, rfl, b1.trans (hb2.mono b1.size)⟩

set_option maxRecDepth 100000 in
set_option maxHeartbeats 4000000 in
theorem readTime_bad3 (s : ByteArray) (w : World) (y m d h i : Int) (hz : s.size = 16) (h8 : at0 s 8 = 84) (h15 : at0 s 15 = 90) (y0 : 1970 ≤ y) (y1 : y ≤ 2199) (vd : Cal.Valid y m d) (h0 : 0 ≤ h) (h1 : h ≤ 59) (i0 : 0 ≤ i) (i1 : i ≤ 59) 
    (cc0 : ∀ W, Calls Tryz.prog 69 #[.string (s.extract 0 8)] W fun E w' => E = .returned (.agg #[.int .i64 y, .int .i64 m, .int .i64 d]) ∧ Below W.heap.size W w')
    (cc1 : ∀ W, Calls Tryz.prog 70 #[.string (s.extract 9 11), .int .i64 23] W fun E w' => E = .returned (.int .i64 h) ∧ Below W.heap.size W w')
    (cc2 : ∀ W, Calls Tryz.prog 70 #[.string (s.extract 11 13), .int .i64 59] W fun E w' => E = .returned (.int .i64 i) ∧ Below W.heap.size W w')
    (cc3 : ∀ W, Calls Tryz.prog 70 #[.string (s.extract 13 15), .int .i64 59] W fun E w' => E = .panicked (rsn 1) ∧ Below W.heap.size W w') :
    Calls Tryz.prog 39 #[.string s] w fun E w' => E = .panicked (rsn 1) ∧ Below w.heap.size w w' := by
  have z0 : ((s.size : Int) == 16) = true := by simp [hz]
  have z1 : (15 : Int) < s.size := by omega
  have z15 : 15 < s.size := by omega
  have z8 : (8 : Int) ≤ s.size := by omega
  have z11 : (11 : Int) ≤ s.size := by omega
  have z13 : (13 : Int) ≤ s.size := by omega
  have z16 : (15 : Int) ≤ s.size := by omega
  have HZ := hide hz
  clear hz
  have h8' : (((s[8]'(by omega)).toNat : Int) == 84) = true := by rw [at0_get s 8 (by omega), h8]; rfl
  have h15' : (((s[15]'(by omega)).toNat : Int) == 90) = true := by rw [at0_get s 15 (by omega), h15]; rfl
  have nb := num_bd y0 y1 vd
  obtain ⟨v1, v2, v3, v4⟩ := vd
  have md := Cal.md_bd y m
  have C0 := hide cc0
  have C1 := hide cc1
  have C2 := hide cc2
  have C3 := hide cc3
  clear h8 h15 cc0 cc1 cc2 cc3
  go_enter Tryz.func39, Tryz.ntmps39
  go_wp2_with (first
    | (go_at_call_of 65 (Value.bool true); refine (unless_yes _ _).mono ?_; rintro e w' ⟨rfl, rfl⟩))
  refine wp_region_any (by kernel_rfl) ?_
  change wpAny _ _ _ _ _ _ _ (World.drew _)
  refine wpAny_take (i := 0) (v := ?_) rfl (by kernel_rfl) (by kernel_rfl) (by kernel_rfl) (fun _ _ _ h => h) (Or.inl ⟨by rfl, ?_⟩) ?_
  rotate_left 1
  · intro w; go_simp <;> with_reducible rfl
  refine wpAny_take (i := 1) (v := ?_) rfl (by kernel_rfl) (by kernel_rfl) (by kernel_rfl) (fun _ _ _ h => h) (Or.inl ⟨by rfl, ?_⟩) ?_
  rotate_left 1
  · intro w; go_simp <;> with_reducible rfl
  refine wpAny_take (i := 4) (v := ?_) rfl (by kernel_rfl) (by kernel_rfl) (by kernel_rfl) (fun _ _ _ h => h) (Or.inl ⟨by rfl, ?_⟩) ?_
  rotate_left 1
  · intro w; go_simp <;> with_reducible rfl
  refine wpAny_take (i := 5) (v := ?_) rfl (by kernel_rfl) (by kernel_rfl) (by kernel_rfl) (fun _ _ _ h => h) (Or.inl ⟨by rfl, ?_⟩) ?_
  rotate_left 1
  · intro w; go_simp <;> with_reducible rfl
  refine wpAny_take (i := 9) (v := ?_) rfl (by kernel_rfl) (by kernel_rfl) (by kernel_rfl) (fun _ _ _ h => h) (Or.inl ⟨by rfl, ?_⟩) ?_
  rotate_left 1
  · intro w; go_simp <;> with_reducible rfl
  refine wpAny_take (i := 10) (v := ?_) rfl (by kernel_rfl) (by kernel_rfl) (by kernel_rfl) (fun _ _ _ h => h) (Or.inl ⟨by rfl, ?_⟩) ?_
  rotate_left 1
  · intro w; go_simp <;> with_reducible rfl
  refine wpAny_take (i := 14) (v := ?_) rfl (by kernel_rfl) (by kernel_rfl) (by kernel_rfl) (fun _ _ _ h => h) (Or.inl ⟨by rfl, ?_⟩) ?_
  rotate_left 1
  · intro w; go_simp <;> with_reducible rfl
  refine wpAny_take (i := 15) (v := ?_) rfl (by kernel_rfl) (by kernel_rfl) (by kernel_rfl) (fun _ _ _ h => h) (Or.inl ⟨by rfl, ?_⟩) ?_
  rotate_left 1
  · intro w; go_simp <;> with_reducible rfl
  refine wpAny_ready (rs := [2]) (by kernel_rfl) (by simp) ?_
  refine AllReady.cons rfl (fun K hK => ?_) AllReady.nil
  go_simp
  go_wp2_with (go_at_call 69; refine (C0.out _).mono ?_; rintro e u0 ⟨rfl, hb0⟩)
  try (refine hK _ _ ?_; clear hK K)
  refine wpAny_ready (rs := [3]) (by kernel_rfl) (by simp) ?_
  refine AllReady.cons rfl (fun K hK => ?_) AllReady.nil
  go_simp
  go_wp2_with (go_at_call 64; refine (dayBegin_any _ _ _ _ (by omega) (by omega) (by omega) (by omega) (by omega) (by omega)).mono ?_; rintro e un ⟨rfl, hbn⟩)
  try (refine hK _ _ ?_; clear hK K)
  have bn : Below w.heap.size w un := ((Below.refl _ _).drew.trans hb0).trans (hbn.mono hb0.size)
  refine wpAny_ready (rs := [6]) (by kernel_rfl) (by simp) ?_
  refine AllReady.cons rfl (fun K hK => ?_) AllReady.nil
  go_simp
  go_wp2_with (go_at_call 70; refine (C1.out _).mono ?_; rintro e u1 ⟨rfl, hb1⟩)
  try (refine hK _ _ ?_; clear hK K)
  have b1 : Below w.heap.size w u1 := bn.trans (hb1.mono bn.size)
  have e1m : IntKind.i64.wrap (h * 3600) = h * 3600 := wrap_ok (by omega) (by omega)
  refine wpAny_take (i := 7) (v := ?_) rfl (by kernel_rfl) (by kernel_rfl) (by kernel_rfl) (fun _ _ _ h => h) (Or.inl ⟨by rfl, ?_⟩) ?_
  rotate_left 1
  · intro w; go_simp <;> with_reducible rfl
  have e1a : IntKind.i64.wrap (Cal.num y m d * 86400 + h * 3600) = Cal.num y m d * 86400 + h * 3600 := wrap_ok (by omega) (by omega)
  refine wpAny_take (i := 8) (v := ?_) rfl (by kernel_rfl) (by kernel_rfl) (by kernel_rfl) (fun _ _ _ h => h) (Or.inl ⟨by rfl, ?_⟩) ?_
  rotate_left 1
  · intro w; go_simp <;> with_reducible rfl
  refine wpAny_ready (rs := [11]) (by kernel_rfl) (by simp) ?_
  refine AllReady.cons rfl (fun K hK => ?_) AllReady.nil
  go_simp
  go_wp2_with (go_at_call 70; refine (C2.out _).mono ?_; rintro e u2 ⟨rfl, hb2⟩)
  try (refine hK _ _ ?_; clear hK K)
  have b2 : Below w.heap.size w u2 := b1.trans (hb2.mono b1.size)
  have e2m : IntKind.i64.wrap (i * 60) = i * 60 := wrap_ok (by omega) (by omega)
  refine wpAny_take (i := 12) (v := ?_) rfl (by kernel_rfl) (by kernel_rfl) (by kernel_rfl) (fun _ _ _ h => h) (Or.inl ⟨by rfl, ?_⟩) ?_
  rotate_left 1
  · intro w; go_simp <;> with_reducible rfl
  have e2a : IntKind.i64.wrap (Cal.num y m d * 86400 + h * 3600 + i * 60) = Cal.num y m d * 86400 + h * 3600 + i * 60 := wrap_ok (by omega) (by omega)
  refine wpAny_take (i := 13) (v := ?_) rfl (by kernel_rfl) (by kernel_rfl) (by kernel_rfl) (fun _ _ _ h => h) (Or.inl ⟨by rfl, ?_⟩) ?_
  rotate_left 1
  · intro w; go_simp <;> with_reducible rfl
  refine wpAny_ready (rs := [16]) (by kernel_rfl) (by simp) ?_
  refine AllReady.cons rfl (fun K hK => ?_) AllReady.nil
  go_simp
  go_wp2_with (go_at_call 70; refine (C3.out _).mono ?_; rintro e u3 ⟨rfl, hb3⟩)
  exact ⟨rfl, rfl, b2.trans (hb3.mono b2.size)⟩
end Go.Proofs.YthpndgcaoeokeaaGreatDoor
