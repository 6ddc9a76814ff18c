/- The program's own: when.readLength, its ways. -/
import Derived.Test.YthpndgcaoeokeaaGreatDoorProg13
namespace Go.Proofs.YthpndgcaoeokeaaGreatDoor
open Go.RowKit Go.Sort

set_option maxRecDepth 100000 in
set_option maxHeartbeats 2000000 in
theorem readLength_bad0 (z : UInt8) (body dl cl : List UInt8) (div : Bool) (w : World) (hdc : (div = false ∧ cl = []) ∨ (div = true ∧ cl ≠ []))
    (cp : ∀ W, Calls Tryz.prog 71 #[.string ⟨((80 : UInt8) :: z :: body).toArray⟩, .string ⟨#[80]⟩] W fun E w' => E = .returned (.tuple #[.string ⟨(z :: body).toArray⟩, .bool true]) ∧ w' = W)
    (cc : ∀ W, Calls Tryz.prog 72 #[.string ⟨(z :: body).toArray⟩, .string ⟨#[84]⟩] W fun E w' => E = .returned (.tuple #[.string ⟨dl.toArray⟩, .string ⟨cl.toArray⟩, .bool div]) ∧ Below W.heap.size W w')
    (c0 : ∀ W, Calls Tryz.prog 73 #[.string ⟨dl.toArray⟩, .string ⟨#[68]⟩, .int .i64 86400] W fun E w' => E = .panicked (rsn 1) ∧ Below W.heap.size W w') :
    Calls Tryz.prog 41 #[.string ⟨((80 : UInt8) :: z :: body).toArray⟩] w fun E w' => E = .panicked (rsn 1) ∧ Below w.heap.size w w' := by
  have CP := hide cp
  have CC := hide cc
  have C0 := hide c0
  clear cp cc c0
  rcases hdc with ⟨rfl, rfl⟩ | ⟨rfl, hc⟩
  · go_enter Tryz.func41, Tryz.ntmps41
    go_wp2_with (first
      | (go_at_call 71; refine (CP.out _).mono ?_; rintro e u ⟨rfl, rfl⟩)
      | (go_at_call 72; refine (CC.out _).mono ?_; rintro e uc ⟨rfl, hbc⟩)
      | (go_at_call_of 65 (Value.bool true); refine (unless_yes _ _).mono ?_; rintro e w' ⟨rfl, rfl⟩)
      | (go_at_call_of 65 (Value.bool false); refine (unless_no _ _).mono ?_; rintro e w' ⟨rfl, rfl⟩)
      | (go_at_call_of 73 (Value.string ⟨#[68]⟩); refine (C0.out _).mono ?_; rintro e u0 ⟨rfl, hb0⟩))
    exact ⟨rfl, rfl, (hbc).trans (hb0.mono (hbc).size)⟩
  · obtain ⟨x1, x2, rfl⟩ := List.exists_cons_of_ne_nil hc
    clear hc
    go_enter Tryz.func41, Tryz.ntmps41
    go_wp2_with (first
      | (go_at_call 71; refine (CP.out _).mono ?_; rintro e u ⟨rfl, rfl⟩)
      | (go_at_call 72; refine (CC.out _).mono ?_; rintro e uc ⟨rfl, hbc⟩)
      | (go_at_call_of 65 (Value.bool true); refine (unless_yes _ _).mono ?_; rintro e w' ⟨rfl, rfl⟩)
      | (go_at_call_of 65 (Value.bool false); refine (unless_no _ _).mono ?_; rintro e w' ⟨rfl, rfl⟩)
      | (go_at_call_of 73 (Value.string ⟨#[68]⟩); refine (C0.out _).mono ?_; rintro e u0 ⟨rfl, hb0⟩))
    exact ⟨rfl, rfl, (hbc).trans (hb0.mono (hbc).size)⟩

set_option maxRecDepth 100000 in
set_option maxHeartbeats 2000000 in
theorem readLength_bad1 (z : UInt8) (body dl cl d1 : List UInt8) (div : Bool) (v0 : Int) (w : World) (hdc : (div = false ∧ cl = []) ∨ (div = true ∧ cl ≠ []))
    (cp : ∀ W, Calls Tryz.prog 71 #[.string ⟨((80 : UInt8) :: z :: body).toArray⟩, .string ⟨#[80]⟩] W fun E w' => E = .returned (.tuple #[.string ⟨(z :: body).toArray⟩, .bool true]) ∧ w' = W)
    (cc : ∀ W, Calls Tryz.prog 72 #[.string ⟨(z :: body).toArray⟩, .string ⟨#[84]⟩] W fun E w' => E = .returned (.tuple #[.string ⟨dl.toArray⟩, .string ⟨cl.toArray⟩, .bool div]) ∧ Below W.heap.size W w')
    (c0 : ∀ W, Calls Tryz.prog 73 #[.string ⟨dl.toArray⟩, .string ⟨#[68]⟩, .int .i64 86400] W fun E w' => E = .returned (.tuple #[.int .i64 v0, .string ⟨d1.toArray⟩]) ∧ Below W.heap.size W w')
    (c1 : ∀ W, Calls Tryz.prog 73 #[.string ⟨cl.toArray⟩, .string ⟨#[72]⟩, .int .i64 3600] W fun E w' => E = .panicked (rsn 1) ∧ Below W.heap.size W w') :
    Calls Tryz.prog 41 #[.string ⟨((80 : UInt8) :: z :: body).toArray⟩] w fun E w' => E = .panicked (rsn 1) ∧ Below w.heap.size w w' := by
  have CP := hide cp
  have CC := hide cc
  have C0 := hide c0
  have C1 := hide c1
  clear cp cc c0 c1
  rcases hdc with ⟨rfl, rfl⟩ | ⟨rfl, hc⟩
  · go_enter Tryz.func41, Tryz.ntmps41
    go_wp2_with (first
      | (go_at_call 71; refine (CP.out _).mono ?_; rintro e u ⟨rfl, rfl⟩)
      | (go_at_call 72; refine (CC.out _).mono ?_; rintro e uc ⟨rfl, hbc⟩)
      | (go_at_call_of 65 (Value.bool true); refine (unless_yes _ _).mono ?_; rintro e w' ⟨rfl, rfl⟩)
      | (go_at_call_of 65 (Value.bool false); refine (unless_no _ _).mono ?_; rintro e w' ⟨rfl, rfl⟩)
      | (go_at_call_of 73 (Value.string ⟨#[68]⟩); refine (C0.out _).mono ?_; rintro e u0 ⟨rfl, hb0⟩)
      | (go_at_call_of 73 (Value.string ⟨#[72]⟩); refine (C1.out _).mono ?_; rintro e u1 ⟨rfl, hb1⟩))
    exact ⟨rfl, rfl, ((hbc).trans (hb0.mono (hbc).size)).trans (hb1.mono ((hbc).trans (hb0.mono (hbc).size)).size)⟩
  · obtain ⟨x1, x2, rfl⟩ := List.exists_cons_of_ne_nil hc
    clear hc
    go_enter Tryz.func41, Tryz.ntmps41
    go_wp2_with (first
      | (go_at_call 71; refine (CP.out _).mono ?_; rintro e u ⟨rfl, rfl⟩)
      | (go_at_call 72; refine (CC.out _).mono ?_; rintro e uc ⟨rfl, hbc⟩)
      | (go_at_call_of 65 (Value.bool true); refine (unless_yes _ _).mono ?_; rintro e w' ⟨rfl, rfl⟩)
      | (go_at_call_of 65 (Value.bool false); refine (unless_no _ _).mono ?_; rintro e w' ⟨rfl, rfl⟩)
      | (go_at_call_of 73 (Value.string ⟨#[68]⟩); refine (C0.out _).mono ?_; rintro e u0 ⟨rfl, hb0⟩)
      | (go_at_call_of 73 (Value.string ⟨#[72]⟩); refine (C1.out _).mono ?_; rintro e u1 ⟨rfl, hb1⟩))
    exact ⟨rfl, rfl, ((hbc).trans (hb0.mono (hbc).size)).trans (hb1.mono ((hbc).trans (hb0.mono (hbc).size)).size)⟩

set_option maxRecDepth 100000 in
set_option maxHeartbeats 2000000 in
theorem readLength_bad2 (z : UInt8) (body dl cl d1 k1 : List UInt8) (div : Bool) (v0 v1 : Int) (w : World) (hdc : (div = false ∧ cl = []) ∨ (div = true ∧ cl ≠ []))
    (cp : ∀ W, Calls Tryz.prog 71 #[.string ⟨((80 : UInt8) :: z :: body).toArray⟩, .string ⟨#[80]⟩] W fun E w' => E = .returned (.tuple #[.string ⟨(z :: body).toArray⟩, .bool true]) ∧ w' = W)
    (cc : ∀ W, Calls Tryz.prog 72 #[.string ⟨(z :: body).toArray⟩, .string ⟨#[84]⟩] W fun E w' => E = .returned (.tuple #[.string ⟨dl.toArray⟩, .string ⟨cl.toArray⟩, .bool div]) ∧ Below W.heap.size W w')
    (c0 : ∀ W, Calls Tryz.prog 73 #[.string ⟨dl.toArray⟩, .string ⟨#[68]⟩, .int .i64 86400] W fun E w' => E = .returned (.tuple #[.int .i64 v0, .string ⟨d1.toArray⟩]) ∧ Below W.heap.size W w')
    (c1 : ∀ W, Calls Tryz.prog 73 #[.string ⟨cl.toArray⟩, .string ⟨#[72]⟩, .int .i64 3600] W fun E w' => E = .returned (.tuple #[.int .i64 v1, .string ⟨k1.toArray⟩]) ∧ Below W.heap.size W w')
    (c2 : ∀ W, Calls Tryz.prog 73 #[.string ⟨k1.toArray⟩, .string ⟨#[77]⟩, .int .i64 60] W fun E w' => E = .panicked (rsn 1) ∧ Below W.heap.size W w') :
    Calls Tryz.prog 41 #[.string ⟨((80 : UInt8) :: z :: body).toArray⟩] w fun E w' => E = .panicked (rsn 1) ∧ Below w.heap.size w w' := by
  have CP := hide cp
  have CC := hide cc
  have C0 := hide c0
  have C1 := hide c1
  have C2 := hide c2
  clear cp cc c0 c1 c2
  rcases hdc with ⟨rfl, rfl⟩ | ⟨rfl, hc⟩
  · go_enter Tryz.func41, Tryz.ntmps41
    go_wp2_with (first
      | (go_at_call 71; refine (CP.out _).mono ?_; rintro e u ⟨rfl, rfl⟩)
      | (go_at_call 72; refine (CC.out _).mono ?_; rintro e uc ⟨rfl, hbc⟩)
      | (go_at_call_of 65 (Value.bool true); refine (unless_yes _ _).mono ?_; rintro e w' ⟨rfl, rfl⟩)
      | (go_at_call_of 65 (Value.bool false); refine (unless_no _ _).mono ?_; rintro e w' ⟨rfl, rfl⟩)
      | (go_at_call_of 73 (Value.string ⟨#[68]⟩); refine (C0.out _).mono ?_; rintro e u0 ⟨rfl, hb0⟩)
      | (go_at_call_of 73 (Value.string ⟨#[72]⟩); refine (C1.out _).mono ?_; rintro e u1 ⟨rfl, hb1⟩)
      | (go_at_call_of 73 (Value.string ⟨#[77]⟩); refine (C2.out _).mono ?_; rintro e u2 ⟨rfl, hb2⟩))
    exact ⟨rfl, rfl, (((hbc).trans (hb0.mono (hbc).size)).trans (hb1.mono ((hbc).trans (hb0.mono (hbc).size)).size)).trans (hb2.mono (((hbc).trans (hb0.mono (hbc).size)).trans (hb1.mono ((hbc).trans (hb0.mono (hbc).size)).size)).size)⟩
  · obtain ⟨x1, x2, rfl⟩ := List.exists_cons_of_ne_nil hc
    clear hc
    go_enter Tryz.func41, Tryz.ntmps41
    go_wp2_with (first
      | (go_at_call 71; refine (CP.out _).mono ?_; rintro e u ⟨rfl, rfl⟩)
      | (go_at_call 72; refine (CC.out _).mono ?_; rintro e uc ⟨rfl, hbc⟩)
      | (go_at_call_of 65 (Value.bool true); refine (unless_yes _ _).mono ?_; rintro e w' ⟨rfl, rfl⟩)
      | (go_at_call_of 65 (Value.bool false); refine (unless_no _ _).mono ?_; rintro e w' ⟨rfl, rfl⟩)
      | (go_at_call_of 73 (Value.string ⟨#[68]⟩); refine (C0.out _).mono ?_; rintro e u0 ⟨rfl, hb0⟩)
      | (go_at_call_of 73 (Value.string ⟨#[72]⟩); refine (C1.out _).mono ?_; rintro e u1 ⟨rfl, hb1⟩)
      | (go_at_call_of 73 (Value.string ⟨#[77]⟩); refine (C2.out _).mono ?_; rintro e u2 ⟨rfl, hb2⟩))
    exact ⟨rfl, rfl, (((hbc).trans (hb0.mono (hbc).size)).trans (hb1.mono ((hbc).trans (hb0.mono (hbc).size)).size)).trans (hb2.mono (((hbc).trans (hb0.mono (hbc).size)).trans (hb1.mono ((hbc).trans (hb0.mono (hbc).size)).size)).size)⟩

set_option maxRecDepth 100000 in
set_option maxHeartbeats 2000000 in
theorem readLength_bad3 (z : UInt8) (body dl cl d1 k1 k2 : List UInt8) (div : Bool) (v0 v1 v2 : Int) (w : World) (hdc : (div = false ∧ cl = []) ∨ (div = true ∧ cl ≠ []))
    (cp : ∀ W, Calls Tryz.prog 71 #[.string ⟨((80 : UInt8) :: z :: body).toArray⟩, .string ⟨#[80]⟩] W fun E w' => E = .returned (.tuple #[.string ⟨(z :: body).toArray⟩, .bool true]) ∧ w' = W)
    (cc : ∀ W, Calls Tryz.prog 72 #[.string ⟨(z :: body).toArray⟩, .string ⟨#[84]⟩] W fun E w' => E = .returned (.tuple #[.string ⟨dl.toArray⟩, .string ⟨cl.toArray⟩, .bool div]) ∧ Below W.heap.size W w')
    (c0 : ∀ W, Calls Tryz.prog 73 #[.string ⟨dl.toArray⟩, .string ⟨#[68]⟩, .int .i64 86400] W fun E w' => E = .returned (.tuple #[.int .i64 v0, .string ⟨d1.toArray⟩]) ∧ Below W.heap.size W w')
    (c1 : ∀ W, Calls Tryz.prog 73 #[.string ⟨cl.toArray⟩, .string ⟨#[72]⟩, .int .i64 3600] W fun E w' => E = .returned (.tuple #[.int .i64 v1, .string ⟨k1.toArray⟩]) ∧ Below W.heap.size W w')
    (c2 : ∀ W, Calls Tryz.prog 73 #[.string ⟨k1.toArray⟩, .string ⟨#[77]⟩, .int .i64 60] W fun E w' => E = .returned (.tuple #[.int .i64 v2, .string ⟨k2.toArray⟩]) ∧ Below W.heap.size W w')
    (c3 : ∀ W, Calls Tryz.prog 73 #[.string ⟨k2.toArray⟩, .string ⟨#[83]⟩, .int .i64 1] W fun E w' => E = .panicked (rsn 1) ∧ Below W.heap.size W w') :
    Calls Tryz.prog 41 #[.string ⟨((80 : UInt8) :: z :: body).toArray⟩] w fun E w' => E = .panicked (rsn 1) ∧ Below w.heap.size w w' := by
  have CP := hide cp
  have CC := hide cc
  have C0 := hide c0
  have C1 := hide c1
  have C2 := hide c2
  have C3 := hide c3
  clear cp cc c0 c1 c2 c3
  rcases hdc with ⟨rfl, rfl⟩ | ⟨rfl, hc⟩
  · go_enter Tryz.func41, Tryz.ntmps41
    go_wp2_with (first
      | (go_at_call 71; refine (CP.out _).mono ?_; rintro e u ⟨rfl, rfl⟩)
      | (go_at_call 72; refine (CC.out _).mono ?_; rintro e uc ⟨rfl, hbc⟩)
      | (go_at_call_of 65 (Value.bool true); refine (unless_yes _ _).mono ?_; rintro e w' ⟨rfl, rfl⟩)
      | (go_at_call_of 65 (Value.bool false); refine (unless_no _ _).mono ?_; rintro e w' ⟨rfl, rfl⟩)
      | (go_at_call_of 73 (Value.string ⟨#[68]⟩); refine (C0.out _).mono ?_; rintro e u0 ⟨rfl, hb0⟩)
      | (go_at_call_of 73 (Value.string ⟨#[72]⟩); refine (C1.out _).mono ?_; rintro e u1 ⟨rfl, hb1⟩)
      | (go_at_call_of 73 (Value.string ⟨#[77]⟩); refine (C2.out _).mono ?_; rintro e u2 ⟨rfl, hb2⟩)
      | (go_at_call_of 73 (Value.string ⟨#[83]⟩); refine (C3.out _).mono ?_; rintro e u3 ⟨rfl, hb3⟩))
    exact ⟨rfl, rfl, ((((hbc).trans (hb0.mono (hbc).size)).trans (hb1.mono ((hbc).trans (hb0.mono (hbc).size)).size)).trans (hb2.mono (((hbc).trans (hb0.mono (hbc).size)).trans (hb1.mono ((hbc).trans (hb0.mono (hbc).size)).size)).size)).trans (hb3.mono ((((hbc).trans (hb0.mono (hbc).size)).trans (hb1.mono ((hbc).trans (hb0.mono (hbc).size)).size)).trans (hb2.mono (((hbc).trans (hb0.mono (hbc).size)).trans (hb1.mono ((hbc).trans (hb0.mono (hbc).size)).size)).size)).size)⟩
  · obtain ⟨x1, x2, rfl⟩ := List.exists_cons_of_ne_nil hc
    clear hc
    go_enter Tryz.func41, Tryz.ntmps41
    go_wp2_with (first
      | (go_at_call 71; refine (CP.out _).mono ?_; rintro e u ⟨rfl, rfl⟩)
      | (go_at_call 72; refine (CC.out _).mono ?_; rintro e uc ⟨rfl, hbc⟩)
      | (go_at_call_of 65 (Value.bool true); refine (unless_yes _ _).mono ?_; rintro e w' ⟨rfl, rfl⟩)
      | (go_at_call_of 65 (Value.bool false); refine (unless_no _ _).mono ?_; rintro e w' ⟨rfl, rfl⟩)
      | (go_at_call_of 73 (Value.string ⟨#[68]⟩); refine (C0.out _).mono ?_; rintro e u0 ⟨rfl, hb0⟩)
      | (go_at_call_of 73 (Value.string ⟨#[72]⟩); refine (C1.out _).mono ?_; rintro e u1 ⟨rfl, hb1⟩)
      | (go_at_call_of 73 (Value.string ⟨#[77]⟩); refine (C2.out _).mono ?_; rintro e u2 ⟨rfl, hb2⟩)
      | (go_at_call_of 73 (Value.string ⟨#[83]⟩); refine (C3.out _).mono ?_; rintro e u3 ⟨rfl, hb3⟩))
    exact ⟨rfl, rfl, ((((hbc).trans (hb0.mono (hbc).size)).trans (hb1.mono ((hbc).trans (hb0.mono (hbc).size)).size)).trans (hb2.mono (((hbc).trans (hb0.mono (hbc).size)).trans (hb1.mono ((hbc).trans (hb0.mono (hbc).size)).size)).size)).trans (hb3.mono ((((hbc).trans (hb0.mono (hbc).size)).trans (hb1.mono ((hbc).trans (hb0.mono (hbc).size)).size)).trans (hb2.mono (((hbc).trans (hb0.mono (hbc).size)).trans (hb1.mono ((hbc).trans (hb0.mono (hbc).size)).size)).size)).size)⟩

set_option maxRecDepth 100000 in
set_option maxHeartbeats 2000000 in
theorem readLength_date (z : UInt8) (body dl cl d1 k1 k2 k3 : List UInt8) (div : Bool) (v0 v1 v2 v3 : Int) (w : World) (hdc : (div = false ∧ cl = []) ∨ (div = true ∧ cl ≠ [])) (hd : d1 ≠ [])
    (cp : ∀ W, Calls Tryz.prog 71 #[.string ⟨((80 : UInt8) :: z :: body).toArray⟩, .string ⟨#[80]⟩] W fun E w' => E = .returned (.tuple #[.string ⟨(z :: body).toArray⟩, .bool true]) ∧ w' = W)
    (cc : ∀ W, Calls Tryz.prog 72 #[.string ⟨(z :: body).toArray⟩, .string ⟨#[84]⟩] W fun E w' => E = .returned (.tuple #[.string ⟨dl.toArray⟩, .string ⟨cl.toArray⟩, .bool div]) ∧ Below W.heap.size W w')
    (c0 : ∀ W, Calls Tryz.prog 73 #[.string ⟨dl.toArray⟩, .string ⟨#[68]⟩, .int .i64 86400] W fun E w' => E = .returned (.tuple #[.int .i64 v0, .string ⟨d1.toArray⟩]) ∧ Below W.heap.size W w')
    (c1 : ∀ W, Calls Tryz.prog 73 #[.string ⟨cl.toArray⟩, .string ⟨#[72]⟩, .int .i64 3600] W fun E w' => E = .returned (.tuple #[.int .i64 v1, .string ⟨k1.toArray⟩]) ∧ Below W.heap.size W w')
    (c2 : ∀ W, Calls Tryz.prog 73 #[.string ⟨k1.toArray⟩, .string ⟨#[77]⟩, .int .i64 60] W fun E w' => E = .returned (.tuple #[.int .i64 v2, .string ⟨k2.toArray⟩]) ∧ Below W.heap.size W w')
    (c3 : ∀ W, Calls Tryz.prog 73 #[.string ⟨k2.toArray⟩, .string ⟨#[83]⟩, .int .i64 1] W fun E w' => E = .returned (.tuple #[.int .i64 v3, .string ⟨k3.toArray⟩]) ∧ Below W.heap.size W w') :
    Calls Tryz.prog 41 #[.string ⟨((80 : UInt8) :: z :: body).toArray⟩] w fun E w' => E = .panicked (rsn 1) ∧ Below w.heap.size w w' := by
  have CP := hide cp
  have CC := hide cc
  have C0 := hide c0
  have C1 := hide c1
  have C2 := hide c2
  have C3 := hide c3
  clear cp cc c0 c1 c2 c3
  obtain ⟨y1, y2, rfl⟩ := List.exists_cons_of_ne_nil hd
  clear hd
  rcases hdc with ⟨rfl, rfl⟩ | ⟨rfl, hc⟩
  · go_enter Tryz.func41, Tryz.ntmps41
    go_wp2_with (first
      | (go_at_call 71; refine (CP.out _).mono ?_; rintro e u ⟨rfl, rfl⟩)
      | (go_at_call 72; refine (CC.out _).mono ?_; rintro e uc ⟨rfl, hbc⟩)
      | (go_at_call_of 65 (Value.bool true); refine (unless_yes _ _).mono ?_; rintro e w' ⟨rfl, rfl⟩)
      | (go_at_call_of 65 (Value.bool false); refine (unless_no _ _).mono ?_; rintro e w' ⟨rfl, rfl⟩)
      | (go_at_call_of 73 (Value.string ⟨#[68]⟩); refine (C0.out _).mono ?_; rintro e u0 ⟨rfl, hb0⟩)
      | (go_at_call_of 73 (Value.string ⟨#[72]⟩); refine (C1.out _).mono ?_; rintro e u1 ⟨rfl, hb1⟩)
      | (go_at_call_of 73 (Value.string ⟨#[77]⟩); refine (C2.out _).mono ?_; rintro e u2 ⟨rfl, hb2⟩)
      | (go_at_call_of 73 (Value.string ⟨#[83]⟩); refine (C3.out _).mono ?_; rintro e u3 ⟨rfl, hb3⟩))
    exact ⟨rfl, rfl, ((((hbc).trans (hb0.mono (hbc).size)).trans (hb1.mono ((hbc).trans (hb0.mono (hbc).size)).size)).trans (hb2.mono (((hbc).trans (hb0.mono (hbc).size)).trans (hb1.mono ((hbc).trans (hb0.mono (hbc).size)).size)).size)).trans (hb3.mono ((((hbc).trans (hb0.mono (hbc).size)).trans (hb1.mono ((hbc).trans (hb0.mono (hbc).size)).size)).trans (hb2.mono (((hbc).trans (hb0.mono (hbc).size)).trans (hb1.mono ((hbc).trans (hb0.mono (hbc).size)).size)).size)).size)⟩
  · obtain ⟨x1, x2, rfl⟩ := List.exists_cons_of_ne_nil hc
    clear hc
    go_enter Tryz.func41, Tryz.ntmps41
    go_wp2_with (first
      | (go_at_call 71; refine (CP.out _).mono ?_; rintro e u ⟨rfl, rfl⟩)
      | (go_at_call 72; refine (CC.out _).mono ?_; rintro e uc ⟨rfl, hbc⟩)
      | (go_at_call_of 65 (Value.bool true); refine (unless_yes _ _).mono ?_; rintro e w' ⟨rfl, rfl⟩)
      | (go_at_call_of 65 (Value.bool false); refine (unless_no _ _).mono ?_; rintro e w' ⟨rfl, rfl⟩)
      | (go_at_call_of 73 (Value.string ⟨#[68]⟩); refine (C0.out _).mono ?_; rintro e u0 ⟨rfl, hb0⟩)
      | (go_at_call_of 73 (Value.string ⟨#[72]⟩); refine (C1.out _).mono ?_; rintro e u1 ⟨rfl, hb1⟩)
      | (go_at_call_of 73 (Value.string ⟨#[77]⟩); refine (C2.out _).mono ?_; rintro e u2 ⟨rfl, hb2⟩)
      | (go_at_call_of 73 (Value.string ⟨#[83]⟩); refine (C3.out _).mono ?_; rintro e u3 ⟨rfl, hb3⟩))
    exact ⟨rfl, rfl, ((((hbc).trans (hb0.mono (hbc).size)).trans (hb1.mono ((hbc).trans (hb0.mono (hbc).size)).size)).trans (hb2.mono (((hbc).trans (hb0.mono (hbc).size)).trans (hb1.mono ((hbc).trans (hb0.mono (hbc).size)).size)).size)).trans (hb3.mono ((((hbc).trans (hb0.mono (hbc).size)).trans (hb1.mono ((hbc).trans (hb0.mono (hbc).size)).size)).trans (hb2.mono (((hbc).trans (hb0.mono (hbc).size)).trans (hb1.mono ((hbc).trans (hb0.mono (hbc).size)).size)).size)).size)⟩

set_option maxRecDepth 100000 in
set_option maxHeartbeats 2000000 in
theorem readLength_clock (z : UInt8) (body dl cl d1 k1 k2 k3 : List UInt8) (div : Bool) (v0 v1 v2 v3 : Int) (w : World) (hdc : (div = false ∧ cl = []) ∨ (div = true ∧ cl ≠ [])) (hd : d1 = []) (hk : k3 ≠ [])
    (cp : ∀ W, Calls Tryz.prog 71 #[.string ⟨((80 : UInt8) :: z :: body).toArray⟩, .string ⟨#[80]⟩] W fun E w' => E = .returned (.tuple #[.string ⟨(z :: body).toArray⟩, .bool true]) ∧ w' = W)
    (cc : ∀ W, Calls Tryz.prog 72 #[.string ⟨(z :: body).toArray⟩, .string ⟨#[84]⟩] W fun E w' => E = .returned (.tuple #[.string ⟨dl.toArray⟩, .string ⟨cl.toArray⟩, .bool div]) ∧ Below W.heap.size W w')
    (c0 : ∀ W, Calls Tryz.prog 73 #[.string ⟨dl.toArray⟩, .string ⟨#[68]⟩, .int .i64 86400] W fun E w' => E = .returned (.tuple #[.int .i64 v0, .string ⟨d1.toArray⟩]) ∧ Below W.heap.size W w')
    (c1 : ∀ W, Calls Tryz.prog 73 #[.string ⟨cl.toArray⟩, .string ⟨#[72]⟩, .int .i64 3600] W fun E w' => E = .returned (.tuple #[.int .i64 v1, .string ⟨k1.toArray⟩]) ∧ Below W.heap.size W w')
    (c2 : ∀ W, Calls Tryz.prog 73 #[.string ⟨k1.toArray⟩, .string ⟨#[77]⟩, .int .i64 60] W fun E w' => E = .returned (.tuple #[.int .i64 v2, .string ⟨k2.toArray⟩]) ∧ Below W.heap.size W w')
    (c3 : ∀ W, Calls Tryz.prog 73 #[.string ⟨k2.toArray⟩, .string ⟨#[83]⟩, .int .i64 1] W fun E w' => E = .returned (.tuple #[.int .i64 v3, .string ⟨k3.toArray⟩]) ∧ Below W.heap.size W w') :
    Calls Tryz.prog 41 #[.string ⟨((80 : UInt8) :: z :: body).toArray⟩] w fun E w' => E = .panicked (rsn 1) ∧ Below w.heap.size w w' := by
  have CP := hide cp
  have CC := hide cc
  have C0 := hide c0
  have C1 := hide c1
  have C2 := hide c2
  have C3 := hide c3
  clear cp cc c0 c1 c2 c3
  obtain ⟨y1, y2, rfl⟩ := List.exists_cons_of_ne_nil hk
  subst hd
  clear hk
  rcases hdc with ⟨rfl, rfl⟩ | ⟨rfl, hc⟩
  · go_enter Tryz.func41, Tryz.ntmps41
    go_wp2_with (first
      | (go_at_call 71; refine (CP.out _).mono ?_; rintro e u ⟨rfl, rfl⟩)
      | (go_at_call 72; refine (CC.out _).mono ?_; rintro e uc ⟨rfl, hbc⟩)
      | (go_at_call_of 65 (Value.bool true); refine (unless_yes _ _).mono ?_; rintro e w' ⟨rfl, rfl⟩)
      | (go_at_call_of 65 (Value.bool false); refine (unless_no _ _).mono ?_; rintro e w' ⟨rfl, rfl⟩)
      | (go_at_call_of 73 (Value.string ⟨#[68]⟩); refine (C0.out _).mono ?_; rintro e u0 ⟨rfl, hb0⟩)
      | (go_at_call_of 73 (Value.string ⟨#[72]⟩); refine (C1.out _).mono ?_; rintro e u1 ⟨rfl, hb1⟩)
      | (go_at_call_of 73 (Value.string ⟨#[77]⟩); refine (C2.out _).mono ?_; rintro e u2 ⟨rfl, hb2⟩)
      | (go_at_call_of 73 (Value.string ⟨#[83]⟩); refine (C3.out _).mono ?_; rintro e u3 ⟨rfl, hb3⟩))
    exact ⟨rfl, rfl, ((((hbc).trans (hb0.mono (hbc).size)).trans (hb1.mono ((hbc).trans (hb0.mono (hbc).size)).size)).trans (hb2.mono (((hbc).trans (hb0.mono (hbc).size)).trans (hb1.mono ((hbc).trans (hb0.mono (hbc).size)).size)).size)).trans (hb3.mono ((((hbc).trans (hb0.mono (hbc).size)).trans (hb1.mono ((hbc).trans (hb0.mono (hbc).size)).size)).trans (hb2.mono (((hbc).trans (hb0.mono (hbc).size)).trans (hb1.mono ((hbc).trans (hb0.mono (hbc).size)).size)).size)).size)⟩
  · obtain ⟨x1, x2, rfl⟩ := List.exists_cons_of_ne_nil hc
    clear hc
    go_enter Tryz.func41, Tryz.ntmps41
    go_wp2_with (first
      | (go_at_call 71; refine (CP.out _).mono ?_; rintro e u ⟨rfl, rfl⟩)
      | (go_at_call 72; refine (CC.out _).mono ?_; rintro e uc ⟨rfl, hbc⟩)
      | (go_at_call_of 65 (Value.bool true); refine (unless_yes _ _).mono ?_; rintro e w' ⟨rfl, rfl⟩)
      | (go_at_call_of 65 (Value.bool false); refine (unless_no _ _).mono ?_; rintro e w' ⟨rfl, rfl⟩)
      | (go_at_call_of 73 (Value.string ⟨#[68]⟩); refine (C0.out _).mono ?_; rintro e u0 ⟨rfl, hb0⟩)
      | (go_at_call_of 73 (Value.string ⟨#[72]⟩); refine (C1.out _).mono ?_; rintro e u1 ⟨rfl, hb1⟩)
      | (go_at_call_of 73 (Value.string ⟨#[77]⟩); refine (C2.out _).mono ?_; rintro e u2 ⟨rfl, hb2⟩)
      | (go_at_call_of 73 (Value.string ⟨#[83]⟩); refine (C3.out _).mono ?_; rintro e u3 ⟨rfl, hb3⟩))
    exact ⟨rfl, rfl, ((((hbc).trans (hb0.mono (hbc).size)).trans (hb1.mono ((hbc).trans (hb0.mono (hbc).size)).size)).trans (hb2.mono (((hbc).trans (hb0.mono (hbc).size)).trans (hb1.mono ((hbc).trans (hb0.mono (hbc).size)).size)).size)).trans (hb3.mono ((((hbc).trans (hb0.mono (hbc).size)).trans (hb1.mono ((hbc).trans (hb0.mono (hbc).size)).size)).trans (hb2.mono (((hbc).trans (hb0.mono (hbc).size)).trans (hb1.mono ((hbc).trans (hb0.mono (hbc).size)).size)).size)).size)⟩

set_option maxRecDepth 100000 in
set_option maxHeartbeats 2000000 in
theorem readLength_ok (z : UInt8) (body dl cl d1 k1 k2 k3 : List UInt8) (div : Bool) (v0 v1 v2 v3 : Int) (w : World) (hdc : (div = false ∧ cl = []) ∨ (div = true ∧ cl ≠ [])) (_v00 : 0 ≤ v0) (_v01 : v0 ≤ 863999913600) (_v10 : 0 ≤ v1) (_v11 : v1 ≤ 863999913600) (_v20 : 0 ≤ v2) (_v21 : v2 ≤ 863999913600) (_v30 : 0 ≤ v3) (_v31 : v3 ≤ 863999913600) (hd : d1 = []) (hk : k3 = [])
    (cp : ∀ W, Calls Tryz.prog 71 #[.string ⟨((80 : UInt8) :: z :: body).toArray⟩, .string ⟨#[80]⟩] W fun E w' => E = .returned (.tuple #[.string ⟨(z :: body).toArray⟩, .bool true]) ∧ w' = W)
    (cc : ∀ W, Calls Tryz.prog 72 #[.string ⟨(z :: body).toArray⟩, .string ⟨#[84]⟩] W fun E w' => E = .returned (.tuple #[.string ⟨dl.toArray⟩, .string ⟨cl.toArray⟩, .bool div]) ∧ Below W.heap.size W w')
    (c0 : ∀ W, Calls Tryz.prog 73 #[.string ⟨dl.toArray⟩, .string ⟨#[68]⟩, .int .i64 86400] W fun E w' => E = .returned (.tuple #[.int .i64 v0, .string ⟨d1.toArray⟩]) ∧ Below W.heap.size W w')
    (c1 : ∀ W, Calls Tryz.prog 73 #[.string ⟨cl.toArray⟩, .string ⟨#[72]⟩, .int .i64 3600] W fun E w' => E = .returned (.tuple #[.int .i64 v1, .string ⟨k1.toArray⟩]) ∧ Below W.heap.size W w')
    (c2 : ∀ W, Calls Tryz.prog 73 #[.string ⟨k1.toArray⟩, .string ⟨#[77]⟩, .int .i64 60] W fun E w' => E = .returned (.tuple #[.int .i64 v2, .string ⟨k2.toArray⟩]) ∧ Below W.heap.size W w')
    (c3 : ∀ W, Calls Tryz.prog 73 #[.string ⟨k2.toArray⟩, .string ⟨#[83]⟩, .int .i64 1] W fun E w' => E = .returned (.tuple #[.int .i64 v3, .string ⟨k3.toArray⟩]) ∧ Below W.heap.size W w') :
    Calls Tryz.prog 41 #[.string ⟨((80 : UInt8) :: z :: body).toArray⟩] w fun E w' => E = .returned (.int .i64 (v0 + v1 + v2 + v3)) ∧ Below w.heap.size w w' := by
  have CP := hide cp
  have CC := hide cc
  have C0 := hide c0
  have C1 := hide c1
  have C2 := hide c2
  have C3 := hide c3
  clear cp cc c0 c1 c2 c3
  subst hd
  subst hk
  rcases hdc with ⟨rfl, rfl⟩ | ⟨rfl, hc⟩
  · go_enter Tryz.func41, Tryz.ntmps41
    go_wp2_with (first
      | (go_at_call 71; refine (CP.out _).mono ?_; rintro e u ⟨rfl, rfl⟩)
      | (go_at_call 72; refine (CC.out _).mono ?_; rintro e uc ⟨rfl, hbc⟩)
      | (go_at_call_of 65 (Value.bool true); refine (unless_yes _ _).mono ?_; rintro e w' ⟨rfl, rfl⟩)
      | (go_at_call_of 65 (Value.bool false); refine (unless_no _ _).mono ?_; rintro e w' ⟨rfl, rfl⟩)
      | (go_at_call_of 73 (Value.string ⟨#[68]⟩); refine (C0.out _).mono ?_; rintro e u0 ⟨rfl, hb0⟩)
      | (go_at_call_of 73 (Value.string ⟨#[72]⟩); refine (C1.out _).mono ?_; rintro e u1 ⟨rfl, hb1⟩)
      | (go_at_call_of 73 (Value.string ⟨#[77]⟩); refine (C2.out _).mono ?_; rintro e u2 ⟨rfl, hb2⟩)
      | (go_at_call_of 73 (Value.string ⟨#[83]⟩); refine (C3.out _).mono ?_; rintro e u3 ⟨rfl, hb3⟩))
    go_ret
    exact ⟨rfl, ((((hbc).trans (hb0.mono (hbc).size)).trans (hb1.mono ((hbc).trans (hb0.mono (hbc).size)).size)).trans (hb2.mono (((hbc).trans (hb0.mono (hbc).size)).trans (hb1.mono ((hbc).trans (hb0.mono (hbc).size)).size)).size)).trans (hb3.mono ((((hbc).trans (hb0.mono (hbc).size)).trans (hb1.mono ((hbc).trans (hb0.mono (hbc).size)).size)).trans (hb2.mono (((hbc).trans (hb0.mono (hbc).size)).trans (hb1.mono ((hbc).trans (hb0.mono (hbc).size)).size)).size)).size)⟩
  · obtain ⟨x1, x2, rfl⟩ := List.exists_cons_of_ne_nil hc
    clear hc
    go_enter Tryz.func41, Tryz.ntmps41
    go_wp2_with (first
      | (go_at_call 71; refine (CP.out _).mono ?_; rintro e u ⟨rfl, rfl⟩)
      | (go_at_call 72; refine (CC.out _).mono ?_; rintro e uc ⟨rfl, hbc⟩)
      | (go_at_call_of 65 (Value.bool true); refine (unless_yes _ _).mono ?_; rintro e w' ⟨rfl, rfl⟩)
      | (go_at_call_of 65 (Value.bool false); refine (unless_no _ _).mono ?_; rintro e w' ⟨rfl, rfl⟩)
      | (go_at_call_of 73 (Value.string ⟨#[68]⟩); refine (C0.out _).mono ?_; rintro e u0 ⟨rfl, hb0⟩)
      | (go_at_call_of 73 (Value.string ⟨#[72]⟩); refine (C1.out _).mono ?_; rintro e u1 ⟨rfl, hb1⟩)
      | (go_at_call_of 73 (Value.string ⟨#[77]⟩); refine (C2.out _).mono ?_; rintro e u2 ⟨rfl, hb2⟩)
      | (go_at_call_of 73 (Value.string ⟨#[83]⟩); refine (C3.out _).mono ?_; rintro e u3 ⟨rfl, hb3⟩))
    go_ret
    exact ⟨rfl, ((((hbc).trans (hb0.mono (hbc).size)).trans (hb1.mono ((hbc).trans (hb0.mono (hbc).size)).size)).trans (hb2.mono (((hbc).trans (hb0.mono (hbc).size)).trans (hb1.mono ((hbc).trans (hb0.mono (hbc).size)).size)).size)).trans (hb3.mono ((((hbc).trans (hb0.mono (hbc).size)).trans (hb1.mono ((hbc).trans (hb0.mono (hbc).size)).size)).trans (hb2.mono (((hbc).trans (hb0.mono (hbc).size)).trans (hb1.mono ((hbc).trans (hb0.mono (hbc).size)).size)).size)).size)⟩
end Go.Proofs.YthpndgcaoeokeaaGreatDoor
