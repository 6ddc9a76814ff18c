/- The program's own: when.readLength, its ways. The program's own: when.readLength whole, when.Length. The program's own: numbers within bounds, signed numbers and names (package words). -/
import Derived.Test.YthpndgcaoeokeaaGreatDoorCm4
namespace Go.Proofs.YthpndgcaoeokeaaGreatDoor
open Go.RowKit Go.Sort

set_option maxRecDepth 100000 in
set_option maxHeartbeats 2000000 in
theorem readLength_bad0 (z : UInt8) (body dl cl : List UInt8) (div : Bool) (w : World) (hdc : (div = false ∧ cl = []) ∨ (div = true ∧ cl ≠ []))
    (cp : ∀ W, Calls Tryz.prog 71 #[.string ⟨((80 : UInt8) :: z :: body).toArray⟩, .string ⟨#[80]⟩] W fun E w' => E = .returned (.tuple #[.string ⟨(z :: body).toArray⟩, .bool true]) ∧ w' = W)
    (cc : ∀ W, Calls Tryz.prog 72 #[.string ⟨(z :: body).toArray⟩, .string ⟨#[84]⟩] W fun E w' => E = .returned (.tuple #[.string ⟨dl.toArray⟩, .string ⟨cl.toArray⟩, .bool div]) ∧ Below W.heap.size W w')
    (c0 : ∀ W, Calls Tryz.prog 73 #[.string ⟨dl.toArray⟩, .string ⟨#[68]⟩, .int .i64 86400] W fun E w' => E = .panicked (rsn 1) ∧ Below W.heap.size W w') :
    Calls Tryz.prog 41 #[.string ⟨((80 : UInt8) :: z :: body).toArray⟩] w fun E w' => E = .panicked (rsn 1) ∧ Below w.heap.size w w' := by
  have CP := hide cp
  have CC := hide cc
  have C0 := hide c0
  clear cp cc c0
  rcases hdc with ⟨rfl, rfl⟩ | ⟨rfl, hc⟩
  · go_enter Tryz.func41, Tryz.ntmps41
    go_wp2_with (first
      | (go_at_call 71; refine (CP.out _).mono ?_; rintro e u ⟨rfl, rfl⟩)
      | (go_at_call 72; refine (CC.out _).mono ?_; rintro e uc ⟨rfl, hbc⟩)
      | (go_at_call_of 65 (Value.bool true); refine (unless_yes _ _).mono ?_; rintro e w' ⟨rfl, rfl⟩)
      | (go_at_call_of 65 (Value.bool false); refine (unless_no _ _).mono ?_; rintro e w' ⟨rfl, rfl⟩)
      | (go_at_call_of 73 (Value.string ⟨#[68]⟩); refine (C0.out _).mono ?_; rintro e u0 ⟨rfl, hb0⟩))
    exact ⟨rfl, rfl, (hbc).trans (hb0.mono (hbc).size)⟩
  · obtain ⟨x1, x2, rfl⟩ := List.exists_cons_of_ne_nil hc
    clear hc
    go_enter Tryz.func41, Tryz.ntmps41
    go_wp2_with (first
      | (go_at_call 71; refine (CP.out _).mono ?_; rintro e u ⟨rfl, rfl⟩)
      | (go_at_call 72; refine (CC.out _).mono ?_; rintro e uc ⟨rfl, hbc⟩)
      | (go_at_call_of 65 (Value.bool true); refine (unless_yes _ _).mono ?_; rintro e w' ⟨rfl, rfl⟩)
      | (go_at_call_of 65 (Value.bool false); refine (unless_no _ _).mono ?_; rintro e w' ⟨rfl, rfl⟩)
      | (go_at_call_of 73 (Value.string ⟨#[68]⟩); refine (C0.out _).mono ?_; rintro e u0 ⟨rfl, hb0⟩))
    exact ⟨rfl, rfl, (hbc).trans (hb0.mono (hbc).size)⟩

set_option maxRecDepth 100000 in
set_option maxHeartbeats 2000000 in
theorem readLength_bad1 (z : UInt8) (body dl cl d1 : List UInt8) (div : Bool) (v0 : Int) (w : World) (hdc : (div = false ∧ cl = []) ∨ (div = true ∧ cl ≠ []))
    (cp : ∀ W, Calls Tryz.prog 71 #[.string ⟨((80 : UInt8) :: z :: body).toArray⟩, .string ⟨#[80]⟩] W fun E w' => E = .returned (.tuple #[.string ⟨(z :: body).toArray⟩, .bool true]) ∧ w' = W)
    (cc : ∀ W, Calls Tryz.prog 72 #[.string ⟨(z :: body).toArray⟩, .string ⟨#[84]⟩] W fun E w' => E = .returned (.tuple #[.string ⟨dl.toArray⟩, .string ⟨cl.toArray⟩, .bool div]) ∧ Below W.heap.size W w')
    (c0 : ∀ W, Calls Tryz.prog 73 #[.string ⟨dl.toArray⟩, .string ⟨#[68]⟩, .int .i64 86400] W fun E w' => E = .returned (.tuple #[.int .i64 v0, .string ⟨d1.toArray⟩]) ∧ Below W.heap.size W w')
    (c1 : ∀ W, Calls Tryz.prog 73 #[.string ⟨cl.toArray⟩, .string ⟨#[72]⟩, .int .i64 3600] W fun E w' => E = .panicked (rsn 1) ∧ Below W.heap.size W w') :
    Calls Tryz.prog 41 #[.string ⟨((80 : UInt8) :: z :: body).toArray⟩] w fun E w' => E = .panicked (rsn 1) ∧ Below w.heap.size w w' := by
  have CP := hide cp
  have CC := hide cc
  have C0 := hide c0
  have C1 := hide c1
  clear cp cc c0 c1
  rcases hdc with ⟨rfl, rfl⟩ | ⟨rfl, hc⟩
  · go_enter Tryz.func41, Tryz.ntmps41
    go_wp2_with (first
      | (go_at_call 71; refine (CP.out _).mono ?_; rintro e u ⟨rfl, rfl⟩)
      | (go_at_call 72; refine (CC.out _).mono ?_; rintro e uc ⟨rfl, hbc⟩)
      | (go_at_call_of 65 (Value.bool true); refine (unless_yes _ _).mono ?_; rintro e w' ⟨rfl, rfl⟩)
      | (go_at_call_of 65 (Value.bool false); refine (unless_no _ _).mono ?_; rintro e w' ⟨rfl, rfl⟩)
      | (go_at_call_of 73 (Value.string ⟨#[68]⟩); refine (C0.out _).mono ?_; rintro e u0 ⟨rfl, hb0⟩)
      | (go_at_call_of 73 (Value.string ⟨#[72]⟩); refine (C1.out _).mono ?_; rintro e u1 ⟨rfl, hb1⟩))
    exact ⟨rfl, rfl, ((hbc).trans (hb0.mono (hbc).size)).trans (hb1.mono ((hbc).trans (hb0.mono (hbc).size)).size)⟩
  · obtain ⟨x1, x2, rfl⟩ := List.exists_cons_of_ne_nil hc
    clear hc
    go_enter Tryz.func41, Tryz.ntmps41
    go_wp2_with (first
      | (go_at_call 71; refine (CP.out _).mono ?_; rintro e u ⟨rfl, rfl⟩)
      | (go_at_call 72; refine (CC.out _).mono ?_; rintro e uc ⟨rfl, hbc⟩)
      | (go_at_call_of 65 (Value.bool true); refine (unless_yes _ _).mono ?_; rintro e w' ⟨rfl, rfl⟩)
      | (go_at_call_of 65 (Value.bool false); refine (unless_no _ _).mono ?_; rintro e w' ⟨rfl, rfl⟩)
      | (go_at_call_of 73 (Value.string ⟨#[68]⟩); refine (C0.out _).mono ?_; rintro e u0 ⟨rfl, hb0⟩)
      | (go_at_call_of 73 (Value.string ⟨#[72]⟩); refine (C1.out _).mono ?_; rintro e u1 ⟨rfl, hb1⟩))
    exact ⟨rfl, rfl, ((hbc).trans (hb0.mono (hbc).size)).trans (hb1.mono ((hbc).trans (hb0.mono (hbc).size)).size)⟩

set_option maxRecDepth 100000 in
set_option maxHeartbeats 2000000 in
theorem readLength_bad2 (z : UInt8) (body dl cl d1 k1 : List UInt8) (div : Bool) (v0 v1 : Int) (w : World) (hdc : (div = false ∧ cl = []) ∨ (div = true ∧ cl ≠ []))
    (cp : ∀ W, Calls Tryz.prog 71 #[.string ⟨((80 : UInt8) :: z :: body).toArray⟩, .string ⟨#[80]⟩] W fun E w' => E = .returned (.tuple #[.string ⟨(z :: body).toArray⟩, .bool true]) ∧ w' = W)
    (cc : ∀ W, Calls Tryz.prog 72 #[.string ⟨(z :: body).toArray⟩, .string ⟨#[84]⟩] W fun E w' => E = .returned (.tuple #[.string ⟨dl.toArray⟩, .string ⟨cl.toArray⟩, .bool div]) ∧ Below W.heap.size W w')
    (c0 : ∀ W, Calls Tryz.prog 73 #[.string ⟨dl.toArray⟩, .string ⟨#[68]⟩, .int .i64 86400] W fun E w' => E = .returned (.tuple #[.int .i64 v0, .string ⟨d1.toArray⟩]) ∧ Below W.heap.size W w')
    (c1 : ∀ W, Calls Tryz.prog 73 #[.string ⟨cl.toArray⟩, .string ⟨#[72]⟩, .int .i64 3600] W fun E w' => E = .returned (.tuple #[.int .i64 v1, .string ⟨k1.toArray⟩]) ∧ Below W.heap.size W w')
    (c2 : ∀ W, Calls Tryz.prog 73 #[.string ⟨k1.toArray⟩, .string ⟨#[77]⟩, .int .i64 60] W fun E w' => E = .panicked (rsn 1) ∧ Below W.heap.size W w') :
    Calls Tryz.prog 41 #[.string ⟨((80 : UInt8) :: z :: body).toArray⟩] w fun E w' => E = .panicked (rsn 1) ∧ Below w.heap.size w w' := by
  have CP := hide cp
  have CC := hide cc
  have C0 := hide c0
  have C1 := hide c1
  have C2 := hide c2
  clear cp cc c0 c1 c2
  rcases hdc with ⟨rfl, rfl⟩ | ⟨rfl, hc⟩
  · go_enter Tryz.func41, Tryz.ntmps41
    go_wp2_with (first
      | (go_at_call 71; refine (CP.out _).mono ?_; rintro e u ⟨rfl, rfl⟩)
      | (go_at_call 72; refine (CC.out _).mono ?_; rintro e uc ⟨rfl, hbc⟩)
      | (go_at_call_of 65 (Value.bool true); refine (unless_yes _ _).mono ?_; rintro e w' ⟨rfl, rfl⟩)
      | (go_at_call_of 65 (Value.bool false); refine (unless_no _ _).mono ?_; rintro e w' ⟨rfl, rfl⟩)
      | (go_at_call_of 73 (Value.string ⟨#[68]⟩); refine (C0.out _).mono ?_; rintro e u0 ⟨rfl, hb0⟩)
      | (go_at_call_of 73 (Value.string ⟨#[72]⟩); refine (C1.out _).mono ?_; rintro e u1 ⟨rfl, hb1⟩)
      | (go_at_call_of 73 (Value.string ⟨#[77]⟩); refine (C2.out _).mono ?_; rintro e u2 ⟨rfl, hb2⟩))
    exact ⟨rfl, rfl, (((hbc).trans (hb0.mono (hbc).size)).trans (hb1.mono ((hbc).trans (hb0.mono (hbc).size)).size)).trans (hb2.mono (((hbc).trans (hb0.mono (hbc).size)).trans (hb1.mono ((hbc).trans (hb0.mono (hbc).size)).size)).size)⟩
  · obtain ⟨x1, x2, rfl⟩ := List.exists_cons_of_ne_nil hc
    clear hc
    go_enter Tryz.func41, Tryz.ntmps41
    go_wp2_with (first
      | (go_at_call 71; refine (CP.out _).mono ?_; rintro e u ⟨rfl, rfl⟩)
      | (go_at_call 72; refine (CC.out _).mono ?_; rintro e uc ⟨rfl, hbc⟩)
      | (go_at_call_of 65 (Value.bool true); refine (unless_yes _ _).mono ?_; rintro e w' ⟨rfl, rfl⟩)
      | (go_at_call_of 65 (Value.bool false); refine (unless_no _ _).mono ?_; rintro e w' ⟨rfl, rfl⟩)
      | (go_at_call_of 73 (Value.string ⟨#[68]⟩); refine (C0.out _).mono ?_; rintro e u0 ⟨rfl, hb0⟩)
      | (go_at_call_of 73 (Value.string ⟨#[72]⟩); refine (C1.out _).mono ?_; rintro e u1 ⟨rfl, hb1⟩)
      | (go_at_call_of 73 (Value.string ⟨#[77]⟩); refine (C2.out _).mono ?_; rintro e u2 ⟨rfl, hb2⟩))
    exact ⟨rfl, rfl, (((hbc).trans (hb0.mono (hbc).size)).trans (hb1.mono ((hbc).trans (hb0.mono (hbc).size)).size)).trans (hb2.mono (((hbc).trans (hb0.mono (hbc).size)).trans (hb1.mono ((hbc).trans (hb0.mono (hbc).size)).size)).size)⟩

set_option maxRecDepth 100000 in
set_option maxHeartbeats 2000000 in
theorem readLength_bad3 (z : UInt8) (body dl cl d1 k1 k2 : List UInt8) (div : Bool) (v0 v1 v2 : Int) (w : World) (hdc : (div = false ∧ cl = []) ∨ (div = true ∧ cl ≠ []))
    (cp : ∀ W, Calls Tryz.prog 71 #[.string ⟨((80 : UInt8) :: z :: body).toArray⟩, .string ⟨#[80]⟩] W fun E w' => E = .returned (.tuple #[.string ⟨(z :: body).toArray⟩, .bool true]) ∧ w' = W)
    (cc : ∀ W, Calls Tryz.prog 72 #[.string ⟨(z :: body).toArray⟩, .string ⟨#[84]⟩] W fun E w' => E = .returned (.tuple #[.string ⟨dl.toArray⟩, .string ⟨cl.toArray⟩, .bool div]) ∧ Below W.heap.size W w')
    (c0 : ∀ W, Calls Tryz.prog 73 #[.string ⟨dl.toArray⟩, .string ⟨#[68]⟩, .int .i64 86400] W fun E w' => E = .returned (.tuple #[.int .i64 v0, .string ⟨d1.toArray⟩]) ∧ Below W.heap.size W w')
    (c1 : ∀ W, Calls Tryz.prog 73 #[.string ⟨cl.toArray⟩, .string ⟨#[72]⟩, .int .i64 3600] W fun E w' => E = .returned (.tuple #[.int .i64 v1, .string ⟨k1.toArray⟩]) ∧ Below W.heap.size W w')
    (c2 : ∀ W, Calls Tryz.prog 73 #[.string ⟨k1.toArray⟩, .string ⟨#[77]⟩, .int .i64 60] W fun E w' => E = .returned (.tuple #[.int .i64 v2, .string ⟨k2.toArray⟩]) ∧ Below W.heap.size W w')
    (c3 : ∀ W, Calls Tryz.prog 73 #[.string ⟨k2.toArray⟩, .string ⟨#[83]⟩, .int .i64 1] W fun E w' => E = .panicked (rsn 1) ∧ Below W.heap.size W w') :
    Calls Tryz.prog 41 #[.string ⟨((80 : UInt8) :: z :: body).toArray⟩] w fun E w' => E = .panicked (rsn 1) ∧ Below w.heap.size w w' := by
  have CP := hide cp
  have CC := hide cc
  have C0 := hide c0
  have C1 := hide c1
  have C2 := hide c2
  have C3 := hide c3
  clear cp cc c0 c1 c2 c3
  rcases hdc with ⟨rfl, rfl⟩ | ⟨rfl, hc⟩
  · go_enter Tryz.func41, Tryz.ntmps41
    go_wp2_with (first
      | (go_at_call 71; refine (CP.out _).mono ?_; rintro e u ⟨rfl, rfl⟩)
      | (go_at_call 72; refine (CC.out _).mono ?_; rintro e uc ⟨rfl, hbc⟩)
      | (go_at_call_of 65 (Value.bool true); refine (unless_yes _ _).mono ?_; rintro e w' ⟨rfl, rfl⟩)
      | (go_at_call_of 65 (Value.bool false); refine (unless_no _ _).mono ?_; rintro e w' ⟨rfl, rfl⟩)
      | (go_at_call_of 73 (Value.string ⟨#[68]⟩); refine (C0.out _).mono ?_; rintro e u0 ⟨rfl, hb0⟩)
      | (go_at_call_of 73 (Value.string ⟨#[72]⟩); refine (C1.out _).mono ?_; rintro e u1 ⟨rfl, hb1⟩)
      | (go_at_call_of 73 (Value.string ⟨#[77]⟩); refine (C2.out _).mono ?_; rintro e u2 ⟨rfl, hb2⟩)
      | (go_at_call_of 73 (Value.string ⟨#[83]⟩); refine (C3.out _).mono ?_; rintro e u3 ⟨rfl, hb3⟩))
    exact ⟨rfl, rfl, ((((hbc).trans (hb0.mono (hbc).size)).trans (hb1.mono ((hbc).trans (hb0.mono (hbc).size)).size)).trans (hb2.mono (((hbc).trans (hb0.mono (hbc).size)).trans (hb1.mono ((hbc).trans (hb0.mono (hbc).size)).size)).size)).trans (hb3.mono ((((hbc).trans (hb0.mono (hbc).size)).trans (hb1.mono ((hbc).trans (hb0.mono (hbc).size)).size)).trans (hb2.mono (((hbc).trans (hb0.mono (hbc).size)).trans (hb1.mono ((hbc).trans (hb0.mono (hbc).size)).size)).size)).size)⟩
  · obtain ⟨x1, x2, rfl⟩ := List.exists_cons_of_ne_nil hc
    clear hc
    go_enter Tryz.func41, Tryz.ntmps41
    go_wp2_with (first
      | (go_at_call 71; refine (CP.out _).mono ?_; rintro e u ⟨rfl, rfl⟩)
      | (go_at_call 72; refine (CC.out _).mono ?_; rintro e uc ⟨rfl, hbc⟩)
      | (go_at_call_of 65 (Value.bool true); refine (unless_yes _ _).mono ?_; rintro e w' ⟨rfl, rfl⟩)
      | (go_at_call_of 65 (Value.bool false); refine (unless_no _ _).mono ?_; rintro e w' ⟨rfl, rfl⟩)
      | (go_at_call_of 73 (Value.string ⟨#[68]⟩); refine (C0.out _).mono ?_; rintro e u0 ⟨rfl, hb0⟩)
      | (go_at_call_of 73 (Value.string ⟨#[72]⟩); refine (C1.out _).mono ?_; rintro e u1 ⟨rfl, hb1⟩)
      | (go_at_call_of 73 (Value.string ⟨#[77]⟩); refine (C2.out _).mono ?_; rintro e u2 ⟨rfl, hb2⟩)
      | (go_at_call_of 73 (Value.string ⟨#[83]⟩); refine (C3.out _).mono ?_; rintro e u3 ⟨rfl, hb3⟩))
    exact ⟨rfl, rfl, ((((hbc).trans (hb0.mono (hbc).size)).trans (hb1.mono ((hbc).trans (hb0.mono (hbc).size)).size)).trans (hb2.mono (((hbc).trans (hb0.mono (hbc).size)).trans (hb1.mono ((hbc).trans (hb0.mono (hbc).size)).size)).size)).trans (hb3.mono ((((hbc).trans (hb0.mono (hbc).size)).trans (hb1.mono ((hbc).trans (hb0.mono (hbc).size)).size)).trans (hb2.mono (((hbc).trans (hb0.mono (hbc).size)).trans (hb1.mono ((hbc).trans (hb0.mono (hbc).size)).size)).size)).size)⟩

set_option maxRecDepth 100000 in
set_option maxHeartbeats 2000000 in
theorem readLength_date (z : UInt8) (body dl cl d1 k1 k2 k3 : List UInt8) (div : Bool) (v0 v1 v2 v3 : Int) (w : World) (hdc : (div = false ∧ cl = []) ∨ (div = true ∧ cl ≠ [])) (hd : d1 ≠ [])
    (cp : ∀ W, Calls Tryz.prog 71 #[.string ⟨((80 : UInt8) :: z :: body).toArray⟩, .string ⟨#[80]⟩] W fun E w' => E = .returned (.tuple #[.string ⟨(z :: body).toArray⟩, .bool true]) ∧ w' = W)
    (cc : ∀ W, Calls Tryz.prog 72 #[.string ⟨(z :: body).toArray⟩, .string ⟨#[84]⟩] W fun E w' => E = .returned (.tuple #[.string ⟨dl.toArray⟩, .string ⟨cl.toArray⟩, .bool div]) ∧ Below W.heap.size W w')
    (c0 : ∀ W, Calls Tryz.prog 73 #[.string ⟨dl.toArray⟩, .string ⟨#[68]⟩, .int .i64 86400] W fun E w' => E = .returned (.tuple #[.int .i64 v0, .string ⟨d1.toArray⟩]) ∧ Below W.heap.size W w')
    (c1 : ∀ W, Calls Tryz.prog 73 #[.string ⟨cl.toArray⟩, .string ⟨#[72]⟩, .int .i64 3600] W fun E w' => E = .returned (.tuple #[.int .i64 v1, .string ⟨k1.toArray⟩]) ∧ Below W.heap.size W w')
    (c2 : ∀ W, Calls Tryz.prog 73 #[.string ⟨k1.toArray⟩, .string ⟨#[77]⟩, .int .i64 60] W fun E w' => E = .returned (.tuple #[.int .i64 v2, .string ⟨k2.toArray⟩]) ∧ Below W.heap.size W w')
    (c3 : ∀ W, Calls Tryz.prog 73 #[.string ⟨k2.toArray⟩, .string ⟨#[83]⟩, .int .i64 1] W fun E w' => E = .returned (.tuple #[.int .i64 v3, .string ⟨k3.toArray⟩]) ∧ Below W.heap.size W w') :
    Calls Tryz.prog 41 #[.string ⟨((80 : UInt8) :: z :: body).toArray⟩] w fun E w' => E = .panicked (rsn 1) ∧ Below w.heap.size w w' := by
  have CP := hide cp
  have CC := hide cc
  have C0 := hide c0
  have C1 := hide c1
  have C2 := hide c2
  have C3 := hide c3
  clear cp cc c0 c1 c2 c3
  obtain ⟨y1, y2, rfl⟩ := List.exists_cons_of_ne_nil hd
  clear hd
  rcases hdc with ⟨rfl, rfl⟩ | ⟨rfl, hc⟩
  · go_enter Tryz.func41, Tryz.ntmps41
    go_wp2_with (first
      | (go_at_call 71; refine (CP.out _).mono ?_; rintro e u ⟨rfl, rfl⟩)
      | (go_at_call 72; refine (CC.out _).mono ?_; rintro e uc ⟨rfl, hbc⟩)
      | (go_at_call_of 65 (Value.bool true); refine (unless_yes _ _).mono ?_; rintro e w' ⟨rfl, rfl⟩)
      | (go_at_call_of 65 (Value.bool false); refine (unless_no _ _).mono ?_; rintro e w' ⟨rfl, rfl⟩)
      | (go_at_call_of 73 (Value.string ⟨#[68]⟩); refine (C0.out _).mono ?_; rintro e u0 ⟨rfl, hb0⟩)
      | (go_at_call_of 73 (Value.string ⟨#[72]⟩); refine (C1.out _).mono ?_; rintro e u1 ⟨rfl, hb1⟩)
      | (go_at_call_of 73 (Value.string ⟨#[77]⟩); refine (C2.out _).mono ?_; rintro e u2 ⟨rfl, hb2⟩)
      | (go_at_call_of 73 (Value.string ⟨#[83]⟩); refine (C3.out _).mono ?_; rintro e u3 ⟨rfl, hb3⟩))
    exact ⟨rfl, rfl, ((((hbc).trans (hb0.mono (hbc).size)).trans (hb1.mono ((hbc).trans (hb0.mono (hbc).size)).size)).trans (hb2.mono (((hbc).trans (hb0.mono (hbc).size)).trans (hb1.mono ((hbc).trans (hb0.mono (hbc).size)).size)).size)).trans (hb3.mono ((((hbc).trans (hb0.mono (hbc).size)).trans (hb1.mono ((hbc).trans (hb0.mono (hbc).size)).size)).trans (hb2.mono (((hbc).trans (hb0.mono (hbc).size)).trans (hb1.mono ((hbc).trans (hb0.mono (hbc).size)).size)).size)).size)⟩
  · obtain ⟨x1, x2, rfl⟩ := List.exists_cons_of_ne_nil hc
    clear hc
    go_enter Tryz.func41, Tryz.ntmps41
    go_wp2_with (first
      | (go_at_call 71; refine (CP.out _).mono ?_; rintro e u ⟨rfl, rfl⟩)
      | (go_at_call 72; refine (CC.out _).mono ?_; rintro e uc ⟨rfl, hbc⟩)
      | (go_at_call_of 65 (Value.bool true); refine (unless_yes _ _).mono ?_; rintro e w' ⟨rfl, rfl⟩)
      | (go_at_call_of 65 (Value.bool false); refine (unless_no _ _).mono ?_; rintro e w' ⟨rfl, rfl⟩)
      | (go_at_call_of 73 (Value.string ⟨#[68]⟩); refine (C0.out _).mono ?_; rintro e u0 ⟨rfl, hb0⟩)
      | (go_at_call_of 73 (Value.string ⟨#[72]⟩); refine (C1.out _).mono ?_; rintro e u1 ⟨rfl, hb1⟩)
      | (go_at_call_of 73 (Value.string ⟨#[77]⟩); refine (C2.out _).mono ?_; rintro e u2 ⟨rfl, hb2⟩)
      | (go_at_call_of 73 (Value.string ⟨#[83]⟩); refine (C3.out _).mono ?_; rintro e u3 ⟨rfl, hb3⟩))
    exact ⟨rfl, rfl, ((((hbc).trans (hb0.mono (hbc).size)).trans (hb1.mono ((hbc).trans (hb0.mono (hbc).size)).size)).trans (hb2.mono (((hbc).trans (hb0.mono (hbc).size)).trans (hb1.mono ((hbc).trans (hb0.mono (hbc).size)).size)).size)).trans (hb3.mono ((((hbc).trans (hb0.mono (hbc).size)).trans (hb1.mono ((hbc).trans (hb0.mono (hbc).size)).size)).trans (hb2.mono (((hbc).trans (hb0.mono (hbc).size)).trans (hb1.mono ((hbc).trans (hb0.mono (hbc).size)).size)).size)).size)⟩

set_option maxRecDepth 100000 in
set_option maxHeartbeats 2000000 in
theorem readLength_clock (z : UInt8) (body dl cl d1 k1 k2 k3 : List UInt8) (div : Bool) (v0 v1 v2 v3 : Int) (w : World) (hdc : (div = false ∧ cl = []) ∨ (div = true ∧ cl ≠ [])) (hd : d1 = []) (hk : k3 ≠ [])
    (cp : ∀ W, Calls Tryz.prog 71 #[.string ⟨((80 : UInt8) :: z :: body).toArray⟩, .string ⟨#[80]⟩] W fun E w' => E = .returned (.tuple #[.string ⟨(z :: body).toArray⟩, .bool true]) ∧ w' = W)
    (cc : ∀ W, Calls Tryz.prog 72 #[.string ⟨(z :: body).toArray⟩, .string ⟨#[84]⟩] W fun E w' => E = .returned (.tuple #[.string ⟨dl.toArray⟩, .string ⟨cl.toArray⟩, .bool div]) ∧ Below W.heap.size W w')
    (c0 : ∀ W, Calls Tryz.prog 73 #[.string ⟨dl.toArray⟩, .string ⟨#[68]⟩, .int .i64 86400] W fun E w' => E = .returned (.tuple #[.int .i64 v0, .string ⟨d1.toArray⟩]) ∧ Below W.heap.size W w')
    (c1 : ∀ W, Calls Tryz.prog 73 #[.string ⟨cl.toArray⟩, .string ⟨#[72]⟩, .int .i64 3600] W fun E w' => E = .returned (.tuple #[.int .i64 v1, .string ⟨k1.toArray⟩]) ∧ Below W.heap.size W w')
    (c2 : ∀ W, Calls Tryz.prog 73 #[.string ⟨k1.toArray⟩, .string ⟨#[77]⟩, .int .i64 60] W fun E w' => E = .returned (.tuple #[.int .i64 v2, .string ⟨k2.toArray⟩]) ∧ Below W.heap.size W w')
    (c3 : ∀ W, Calls Tryz.prog 73 #[.string ⟨k2.toArray⟩, .string ⟨#[83]⟩, .int .i64 1] W fun E w' => E = .returned (.tuple #[.int .i64 v3, .string ⟨k3.toArray⟩]) ∧ Below W.heap.size W w') :
    Calls Tryz.prog 41 #[.string ⟨((80 : UInt8) :: z :: body).toArray⟩] w fun E w' => E = .panicked (rsn 1) ∧ Below w.heap.size w w' := by
  have CP := hide cp
  have CC := hide cc
  have C0 := hide c0
  have C1 := hide c1
  have C2 := hide c2
  have C3 := hide c3
  clear cp cc c0 c1 c2 c3
  obtain ⟨y1, y2, rfl⟩ := List.exists_cons_of_ne_nil hk
  subst hd
  clear hk
  rcases hdc with ⟨rfl, rfl⟩ | ⟨rfl, hc⟩
  · go_enter Tryz.func41, Tryz.ntmps41
    go_wp2_with (first
      | (go_at_call 71; refine (CP.out _).mono ?_; rintro e u ⟨rfl, rfl⟩)
      | (go_at_call 72; refine (CC.out _).mono ?_; rintro e uc ⟨rfl, hbc⟩)
      | (go_at_call_of 65 (Value.bool true); refine (unless_yes _ _).mono ?_; rintro e w' ⟨rfl, rfl⟩)
      | (go_at_call_of 65 (Value.bool false); refine (unless_no _ _).mono ?_; rintro e w' ⟨rfl, rfl⟩)
      | (go_at_call_of 73 (Value.string ⟨#[68]⟩); refine (C0.out _).mono ?_; rintro e u0 ⟨rfl, hb0⟩)
      | (go_at_call_of 73 (Value.string ⟨#[72]⟩); refine (C1.out _).mono ?_; rintro e u1 ⟨rfl, hb1⟩)
      | (go_at_call_of 73 (Value.string ⟨#[77]⟩); refine (C2.out _).mono ?_; rintro e u2 ⟨rfl, hb2⟩)
      | (go_at_call_of 73 (Value.string ⟨#[83]⟩); refine (C3.out _).mono ?_; rintro e u3 ⟨rfl, hb3⟩))
    exact ⟨rfl, rfl, ((((hbc).trans (hb0.mono (hbc).size)).trans (hb1.mono ((hbc).trans (hb0.mono (hbc).size)).size)).trans (hb2.mono (((hbc).trans (hb0.mono (hbc).size)).trans (hb1.mono ((hbc).trans (hb0.mono (hbc).size)).size)).size)).trans (hb3.mono ((((hbc).trans (hb0.mono (hbc).size)).trans (hb1.mono ((hbc).trans (hb0.mono (hbc).size)).size)).trans (hb2.mono (((hbc).trans (hb0.mono (hbc).size)).trans (hb1.mono ((hbc).trans (hb0.mono (hbc).size)).size)).size)).size)⟩
  · obtain ⟨x1, x2, rfl⟩ := List.exists_cons_of_ne_nil hc
    clear hc
    go_enter Tryz.func41, Tryz.ntmps41
    go_wp2_with (first
      | (go_at_call 71; refine (CP.out _).mono ?_; rintro e u ⟨rfl, rfl⟩)
      | (go_at_call 72; refine (CC.out _).mono ?_; rintro e uc ⟨rfl, hbc⟩)
      | (go_at_call_of 65 (Value.bool true); refine (unless_yes _ _).mono ?_; rintro e w' ⟨rfl, rfl⟩)
      | (go_at_call_of 65 (Value.bool false); refine (unless_no _ _).mono ?_; rintro e w' ⟨rfl, rfl⟩)
      | (go_at_call_of 73 (Value.string ⟨#[68]⟩); refine (C0.out _).mono ?_; rintro e u0 ⟨rfl, hb0⟩)
      | (go_at_call_of 73 (Value.string ⟨#[72]⟩); refine (C1.out _).mono ?_; rintro e u1 ⟨rfl, hb1⟩)
      | (go_at_call_of 73 (Value.string ⟨#[77]⟩); refine (C2.out _).mono ?_; rintro e u2 ⟨rfl, hb2⟩)
      | (go_at_call_of 73 (Value.string ⟨#[83]⟩); refine (C3.out _).mono ?_; rintro e u3 ⟨rfl, hb3⟩))
    exact ⟨rfl, rfl, ((((hbc).trans (hb0.mono (hbc).size)).trans (hb1.mono ((hbc).trans (hb0.mono (hbc).size)).size)).trans (hb2.mono (((hbc).trans (hb0.mono (hbc).size)).trans (hb1.mono ((hbc).trans (hb0.mono (hbc).size)).size)).size)).trans (hb3.mono ((((hbc).trans (hb0.mono (hbc).size)).trans (hb1.mono ((hbc).trans (hb0.mono (hbc).size)).size)).trans (hb2.mono (((hbc).trans (hb0.mono (hbc).size)).trans (hb1.mono ((hbc).trans (hb0.mono (hbc).size)).size)).size)).size)⟩

set_option maxRecDepth 100000 in
set_option maxHeartbeats 2000000 in
theorem readLength_ok (z : UInt8) (body dl cl d1 k1 k2 k3 : List UInt8) (div : Bool) (v0 v1 v2 v3 : Int) (w : World) (hdc : (div = false ∧ cl = []) ∨ (div = true ∧ cl ≠ [])) (_v00 : 0 ≤ v0) (_v01 : v0 ≤ 863999913600) (_v10 : 0 ≤ v1) (_v11 : v1 ≤ 863999913600) (_v20 : 0 ≤ v2) (_v21 : v2 ≤ 863999913600) (_v30 : 0 ≤ v3) (_v31 : v3 ≤ 863999913600) (hd : d1 = []) (hk : k3 = [])
    (cp : ∀ W, Calls Tryz.prog 71 #[.string ⟨((80 : UInt8) :: z :: body).toArray⟩, .string ⟨#[80]⟩] W fun E w' => E = .returned (.tuple #[.string ⟨(z :: body).toArray⟩, .bool true]) ∧ w' = W)
    (cc : ∀ W, Calls Tryz.prog 72 #[.string ⟨(z :: body).toArray⟩, .string ⟨#[84]⟩] W fun E w' => E = .returned (.tuple #[.string ⟨dl.toArray⟩, .string ⟨cl.toArray⟩, .bool div]) ∧ Below W.heap.size W w')
    (c0 : ∀ W, Calls Tryz.prog 73 #[.string ⟨dl.toArray⟩, .string ⟨#[68]⟩, .int .i64 86400] W fun E w' => E = .returned (.tuple #[.int .i64 v0, .string ⟨d1.toArray⟩]) ∧ Below W.heap.size W w')
    (c1 : ∀ W, Calls Tryz.prog 73 #[.string ⟨cl.toArray⟩, .string ⟨#[72]⟩, .int .i64 3600] W fun E w' => E = .returned (.tuple #[.int .i64 v1, .string ⟨k1.toArray⟩]) ∧ Below W.heap.size W w')
    (c2 : ∀ W, Calls Tryz.prog 73 #[.string ⟨k1.toArray⟩, .string ⟨#[77]⟩, .int .i64 60] W fun E w' => E = .returned (.tuple #[.int .i64 v2, .string ⟨k2.toArray⟩]) ∧ Below W.heap.size W w')
    (c3 : ∀ W, Calls Tryz.prog 73 #[.string ⟨k2.toArray⟩, .string ⟨#[83]⟩, .int .i64 1] W fun E w' => E = .returned (.tuple #[.int .i64 v3, .string ⟨k3.toArray⟩]) ∧ Below W.heap.size W w') :
    Calls Tryz.prog 41 #[.string ⟨((80 : UInt8) :: z :: body).toArray⟩] w fun E w' => E = .returned (.int .i64 (v0 + v1 + v2 + v3)) ∧ Below w.heap.size w w' := by
  have CP := hide cp
  have CC := hide cc
  have C0 := hide c0
  have C1 := hide c1
  have C2 := hide c2
  have C3 := hide c3
  clear cp cc c0 c1 c2 c3
  subst hd
  subst hk
  rcases hdc with ⟨rfl, rfl⟩ | ⟨rfl, hc⟩
  · go_enter Tryz.func41, Tryz.ntmps41
    go_wp2_with (first
      | (go_at_call 71; refine (CP.out _).mono ?_; rintro e u ⟨rfl, rfl⟩)
      | (go_at_call 72; refine (CC.out _).mono ?_; rintro e uc ⟨rfl, hbc⟩)
      | (go_at_call_of 65 (Value.bool true); refine (unless_yes _ _).mono ?_; rintro e w' ⟨rfl, rfl⟩)
      | (go_at_call_of 65 (Value.bool false); refine (unless_no _ _).mono ?_; rintro e w' ⟨rfl, rfl⟩)
      | (go_at_call_of 73 (Value.string ⟨#[68]⟩); refine (C0.out _).mono ?_; rintro e u0 ⟨rfl, hb0⟩)
      | (go_at_call_of 73 (Value.string ⟨#[72]⟩); refine (C1.out _).mono ?_; rintro e u1 ⟨rfl, hb1⟩)
      | (go_at_call_of 73 (Value.string ⟨#[77]⟩); refine (C2.out _).mono ?_; rintro e u2 ⟨rfl, hb2⟩)
      | (go_at_call_of 73 (Value.string ⟨#[83]⟩); refine (C3.out _).mono ?_; rintro e u3 ⟨rfl, hb3⟩))
    go_ret
    exact ⟨rfl, ((((hbc).trans (hb0.mono (hbc).size)).trans (hb1.mono ((hbc).trans (hb0.mono (hbc).size)).size)).trans (hb2.mono (((hbc).trans (hb0.mono (hbc).size)).trans (hb1.mono ((hbc).trans (hb0.mono (hbc).size)).size)).size)).trans (hb3.mono ((((hbc).trans (hb0.mono (hbc).size)).trans (hb1.mono ((hbc).trans (hb0.mono (hbc).size)).size)).trans (hb2.mono (((hbc).trans (hb0.mono (hbc).size)).trans (hb1.mono ((hbc).trans (hb0.mono (hbc).size)).size)).size)).size)⟩
  · obtain ⟨x1, x2, rfl⟩ := List.exists_cons_of_ne_nil hc
    clear hc
    go_enter Tryz.func41, Tryz.ntmps41
    go_wp2_with (first
      | (go_at_call 71; refine (CP.out _).mono ?_; rintro e u ⟨rfl, rfl⟩)
      | (go_at_call 72; refine (CC.out _).mono ?_; rintro e uc ⟨rfl, hbc⟩)
      | (go_at_call_of 65 (Value.bool true); refine (unless_yes _ _).mono ?_; rintro e w' ⟨rfl, rfl⟩)
      | (go_at_call_of 65 (Value.bool false); refine (unless_no _ _).mono ?_; rintro e w' ⟨rfl, rfl⟩)
      | (go_at_call_of 73 (Value.string ⟨#[68]⟩); refine (C0.out _).mono ?_; rintro e u0 ⟨rfl, hb0⟩)
      | (go_at_call_of 73 (Value.string ⟨#[72]⟩); refine (C1.out _).mono ?_; rintro e u1 ⟨rfl, hb1⟩)
      | (go_at_call_of 73 (Value.string ⟨#[77]⟩); refine (C2.out _).mono ?_; rintro e u2 ⟨rfl, hb2⟩)
      | (go_at_call_of 73 (Value.string ⟨#[83]⟩); refine (C3.out _).mono ?_; rintro e u3 ⟨rfl, hb3⟩))
    go_ret
    exact ⟨rfl, ((((hbc).trans (hb0.mono (hbc).size)).trans (hb1.mono ((hbc).trans (hb0.mono (hbc).size)).size)).trans (hb2.mono (((hbc).trans (hb0.mono (hbc).size)).trans (hb1.mono ((hbc).trans (hb0.mono (hbc).size)).size)).size)).trans (hb3.mono ((((hbc).trans (hb0.mono (hbc).size)).trans (hb1.mono ((hbc).trans (hb0.mono (hbc).size)).size)).trans (hb2.mono (((hbc).trans (hb0.mono (hbc).size)).trans (hb1.mono ((hbc).trans (hb0.mono (hbc).size)).size)).size)).size)⟩
end Go.Proofs.YthpndgcaoeokeaaGreatDoor
namespace Go.Proofs.YthpndgcaoeokeaaGreatDoor
open Go.RowKit Go.Sort

/-- how the reading of a length ends -/
def lenE (o : Option Int) : Ending := match o with
  | some n => .returned (.int .i64 n)
  | none => .panicked (rsn 1)

theorem unitC_bd {mark : UInt8} {secs v : Int} {l r : List UInt8} (h0 : 0 ≤ secs) (h1 : secs ≤ 86400) (h : unitC mark secs l = some (v, r)) : 0 ≤ v ∧ v ≤ 863999913600 ∧ r.length ≤ l.length := by
  unfold unitC at h
  cases q : sp mark l with
  | none => rw [q] at h; cases h; exact ⟨by omega, by omega, Nat.le_refl _⟩
  | some y =>
    obtain ⟨a, b⟩ := y
    rw [q] at h
    simp only at h
    by_cases hn : numB a = true
    · rw [if_pos hn] at h
      cases h
      have hb := numN_bd a hn
      have hm : numN a * secs ≤ 9999999 * 86400 := Int.mul_le_mul hb.2 h1 h0 (by omega)
      have hm0 : 0 ≤ numN a * secs := Int.mul_nonneg hb.1 h0
      have e := (sp_some q).1
      refine ⟨hm0, by omega, ?_⟩
      rw [e]; simp; omega
    · rw [if_neg hn] at h; cases h

theorem lenL_top (z : UInt8) (body : List UInt8) : lenL (80 :: z :: body) = match sp 84 (z :: body) with
    | some (_, []) => none
    | _ => readL (z :: body) := by
  show (if (80 : UInt8).toNat = 80 then lenGo (z :: body) [] 0 false 0 0 else none) = _
  rw [if_pos (show (80 : UInt8).toNat = 80 from rfl)]
  exact len_top (z :: body) (by simp)

theorem prefix_yes (z : UInt8) (body : List UInt8) (W : World) :
    Calls Tryz.prog 71 #[.string ⟨((80 : UInt8) :: z :: body).toArray⟩, .string ⟨#[80]⟩] W fun E w' => E = .returned (.tuple #[.string ⟨(z :: body).toArray⟩, .bool true]) ∧ w' = W := by
  have := Tryz.strings_CutPrefix ⟨((80 : UInt8) :: z :: body).toArray⟩ ⟨#[80]⟩ W
  have h1 : Lib.hasPrefix ((80 : UInt8) :: z :: body) [80] = true := by simp [Lib.hasPrefix]
  have h2 : Lib.trimPrefix ((80 : UInt8) :: z :: body) [80] = z :: body := by unfold Lib.trimPrefix; rw [h1]; rfl
  rw [show (⟨((80 : UInt8) :: z :: body).toArray⟩ : ByteArray).data.toList = 80 :: z :: body from rfl, show (⟨#[80]⟩ : ByteArray).data.toList = [80] from rfl, h1, h2] at this
  exact this

set_option maxRecDepth 100000 in
set_option maxHeartbeats 2000000 in
theorem readLength_T (z : UInt8) (body dl : List UInt8) (w : World)
    (cp : ∀ W, Calls Tryz.prog 71 #[.string ⟨((80 : UInt8) :: z :: body).toArray⟩, .string ⟨#[80]⟩] W fun E w' => E = .returned (.tuple #[.string ⟨(z :: body).toArray⟩, .bool true]) ∧ w' = W)
    (cc : ∀ W, Calls Tryz.prog 72 #[.string ⟨(z :: body).toArray⟩, .string ⟨#[84]⟩] W fun E w' => E = .returned (.tuple #[.string ⟨dl.toArray⟩, .string ⟨([] : List UInt8).toArray⟩, .bool true]) ∧ Below W.heap.size W w') :
    Calls Tryz.prog 41 #[.string ⟨((80 : UInt8) :: z :: body).toArray⟩] w fun E w' => E = .panicked (rsn 1) ∧ Below w.heap.size w w' := by
  have CP := hide cp
  have CC := hide cc
  clear cp cc
  go_enter Tryz.func41, Tryz.ntmps41
  go_wp2_with (first
    | (go_at_call 71; refine (CP.out _).mono ?_; rintro e u ⟨rfl, rfl⟩)
    | (go_at_call 72; refine (CC.out _).mono ?_; rintro e uc ⟨rfl, hbc⟩)
    | (go_at_call_of 65 (Value.bool true); refine (unless_yes _ _).mono ?_; rintro e w' ⟨rfl, rfl⟩)
    | (go_at_call_of 65 (Value.bool false); refine (unless_no _ _).mono ?_; rintro e w' ⟨rfl, rfl⟩))
  exact ⟨rfl, rfl, hbc⟩

/-- no P ahead, or nothing behind it -/
theorem readLength_none (l : List UInt8) (b : List UInt8) (f : Bool) (w : World) (h : f = false ∨ b = [])
    (cp : ∀ W, Calls Tryz.prog 71 #[.string ⟨l.toArray⟩, .string ⟨#[80]⟩] W fun E w' => E = .returned (.tuple #[.string ⟨b.toArray⟩, .bool f]) ∧ w' = W) :
    Calls Tryz.prog 41 #[.string ⟨l.toArray⟩] w fun E w' => E = .panicked (rsn 1) ∧ Below w.heap.size w w' := by
  have CP := hide cp
  clear cp
  cases f
  · clear h
    go_enter Tryz.func41, Tryz.ntmps41
    go_wp2_with (first
      | (go_at_call 71; refine (CP.out _).mono ?_; rintro e u ⟨rfl, rfl⟩)
      | (go_at_call_of 65 (Value.bool false); refine (unless_no _ _).mono ?_; rintro e w' ⟨rfl, rfl⟩))
    exact ⟨rfl, rfl, Below.refl _ _⟩
  · obtain rfl : b = [] := by rcases h with h | h; cases h; exact h
    go_enter Tryz.func41, Tryz.ntmps41
    go_wp2_with (first
      | (go_at_call 71; refine (CP.out _).mono ?_; rintro e u ⟨rfl, rfl⟩)
      | (go_at_call_of 65 (Value.bool false); refine (unless_no _ _).mono ?_; rintro e w' ⟨rfl, rfl⟩))
    exact ⟨rfl, rfl, Below.refl _ _⟩

theorem readLength_some (z : UInt8) (body : List UInt8) (w : World) (hl : (80 :: z :: body).length ≤ maxLen) :
    Calls Tryz.prog 41 #[.string ⟨((80 : UInt8) :: z :: body).toArray⟩] w fun E w' => E = lenE (lenL (80 :: z :: body)) ∧ Below w.heap.size w w' := by
  have hl1 : (z :: body).length ≤ maxLen := by simp at hl ⊢; omega
  have cp := prefix_yes z body
  have cc := fun W => strCut_any (z :: body) 84 W hl1
  rw [lenL_top]
  have units : ∀ (dl cl : List UInt8) (div : Bool), dl.length ≤ maxLen → cl.length ≤ maxLen → ((div = false ∧ cl = []) ∨ (div = true ∧ cl ≠ [])) →
      (∀ W, Calls Tryz.prog 72 #[.string ⟨(z :: body).toArray⟩, .string ⟨#[84]⟩] W fun E w' => E = .returned (.tuple #[.string ⟨dl.toArray⟩, .string ⟨cl.toArray⟩, .bool div]) ∧ Below W.heap.size W w') →
      Calls Tryz.prog 41 #[.string ⟨((80 : UInt8) :: z :: body).toArray⟩] w fun E w' => E = lenE (match unitC 68 86400 dl, chain (U 1) cl with
        | some (v, []), some n => some (v + n)
        | _, _ => none) ∧ Below w.heap.size w w' := by
    intro dl cl div hdl hcl hdc cc
    have c0 := fun W => cutUnit_any dl 68 86400 W hdl (by omega) (by omega)
    unfold unitE at c0
    cases q0 : unitC 68 86400 dl with
    | none =>
      rw [q0] at c0
      exact readLength_bad0 z body dl cl div w hdc cp cc c0
    | some y0 =>
      obtain ⟨v0, d1⟩ := y0
      rw [q0] at c0
      have b0 := unitC_bd (by omega) (by omega) q0
      have c1 := fun W => cutUnit_any cl 72 3600 W hcl (by omega) (by omega)
      unfold unitE at c1
      rw [show U 1 = [(72, 3600), (77, 60), (83, 1)] from rfl]
      cases q1 : unitC 72 3600 cl with
      | none =>
        rw [q1] at c1
        have e : chain [(72, 3600), (77, 60), (83, 1)] cl = none := by simp only [chain, q1]
        rw [e]
        refine (readLength_bad1 z body dl cl d1 div v0 w hdc cp cc c0 c1).mono fun E w' ⟨h1, h2⟩ => ⟨?_, h2⟩
        rw [h1]; cases d1 <;> rfl
      | some y1 =>
        obtain ⟨v1, k1⟩ := y1
        rw [q1] at c1
        have b1 := unitC_bd (by omega) (by omega) q1
        have c2 := fun W => cutUnit_any k1 77 60 W (by omega) (by omega) (by omega)
        unfold unitE at c2
        cases q2 : unitC 77 60 k1 with
        | none =>
          rw [q2] at c2
          have e : chain [(72, 3600), (77, 60), (83, 1)] cl = none := by simp only [chain, q1, q2]; rfl
          rw [e]
          refine (readLength_bad2 z body dl cl d1 k1 div v0 v1 w hdc cp cc c0 c1 c2).mono fun E w' ⟨h1, h2⟩ => ⟨?_, h2⟩
          rw [h1]; cases d1 <;> rfl
        | some y2 =>
          obtain ⟨v2, k2⟩ := y2
          rw [q2] at c2
          have b2 := unitC_bd (by omega) (by omega) q2
          have c3 := fun W => cutUnit_any k2 83 1 W (by omega) (by omega) (by omega)
          unfold unitE at c3
          cases q3 : unitC 83 1 k2 with
          | none =>
            rw [q3] at c3
            have e : chain [(72, 3600), (77, 60), (83, 1)] cl = none := by simp only [chain, q1, q2, q3]; rfl
            rw [e]
            refine (readLength_bad3 z body dl cl d1 k1 k2 div v0 v1 v2 w hdc cp cc c0 c1 c2 c3).mono fun E w' ⟨h1, h2⟩ => ⟨?_, h2⟩
            rw [h1]; cases d1 <;> rfl
          | some y3 =>
            obtain ⟨v3, k3⟩ := y3
            rw [q3] at c3
            have b3 := unitC_bd (by omega) (by omega) q3
            by_cases hd : d1 = []
            · subst hd
              by_cases hk : k3 = []
              · subst hk
                have e : chain [(72, 3600), (77, 60), (83, 1)] cl = some (v1 + (v2 + (v3 + 0))) := by simp only [chain, q1, q2, q3]; rfl
                rw [e]
                refine (readLength_ok z body dl cl [] k1 k2 [] div v0 v1 v2 v3 w hdc b0.1 b0.2.1 b1.1 b1.2.1 b2.1 b2.2.1 b3.1 b3.2.1 rfl rfl cp cc c0 c1 c2 c3).mono fun E w' ⟨h1, h2⟩ => ⟨?_, h2⟩
                rw [h1]
                exact ret_int (by omega)
              · have e : chain [(72, 3600), (77, 60), (83, 1)] cl = none := by simp only [chain, q1, q2, q3, if_neg hk]; rfl
                rw [e]
                exact readLength_clock z body dl cl [] k1 k2 k3 div v0 v1 v2 v3 w hdc rfl hk cp cc c0 c1 c2 c3
            · refine (readLength_date z body dl cl d1 k1 k2 k3 div v0 v1 v2 v3 w hdc hd cp cc c0 c1 c2 c3).mono fun E w' ⟨h1, h2⟩ => ⟨?_, h2⟩
              rw [h1]
              cases d1 with
              | nil => exact absurd rfl hd
              | cons a b => rfl
  cases q : sp 84 (z :: body) with
  | none =>
    unfold readL
    rw [q]
    unfold cutV at cc
    rw [q] at cc
    exact units (z :: body) [] false hl1 (by simp) (.inl ⟨rfl, rfl⟩) cc
  | some y =>
    obtain ⟨a, b⟩ := y
    have e := (sp_some q).1
    have h1 : a.length ≤ maxLen := by
      have : a.length ≤ (z :: body).length := by rw [e]; simp
      omega
    have h2 : b.length ≤ maxLen := by
      have : b.length ≤ (z :: body).length := by rw [e]; simp; omega
      omega
    unfold cutV at cc
    rw [q] at cc
    cases b with
    | nil => exact readLength_T z body a w cp cc
    | cons x b =>
      unfold readL
      rw [q]
      exact units a (x :: b) true h1 h2 (.inr ⟨rfl, by simp⟩) cc

theorem readLength_any (l : List UInt8) (w : World) (hl : l.length ≤ maxLen) :
    Calls Tryz.prog 41 #[.string ⟨l.toArray⟩] w fun E w' => E = lenE (lenL l) ∧ Below w.heap.size w w' := by
  have cp := fun W => Tryz.strings_CutPrefix ⟨l.toArray⟩ ⟨#[80]⟩ W
  cases l with
  | nil => exact readLength_none [] _ _ w (.inl (by rfl)) cp
  | cons c r =>
    by_cases hc : c = 80
    · subst hc
      cases r with
      | nil =>
        have e : lenL [80] = none := by decide
        rw [e]
        exact readLength_none [80] _ _ w (.inr (by rfl)) cp
      | cons z body => exact readLength_some z body w hl
    · have e : lenL (c :: r) = none := by
        show (if c.toNat = 80 then _ else none) = none
        rw [if_neg (fun q => hc (u8 q))]
      rw [e]
      refine readLength_none (c :: r) _ _ w (.inl ?_) cp
      show Lib.hasPrefix (c :: r) [80] = false
      show (((80 : UInt8) == c) && [].isPrefixOf r) = false
      rw [beq_eq_false_iff_ne.2 (Ne.symm hc)]; rfl

theorem length1_any (l : List UInt8) (p : Addr) (W : World) (hl : l.length ≤ maxLen) (hc : W.cell? p = some (.string ⟨l.toArray⟩)) :
    Calls Tryz.prog 40 #[.pointer (some p)] W fun E w' => E = lenE (lenL l) ∧ Below W.heap.size W w' := by
  have k := readLength_any l W hl
  cases q : lenL l with
  | none =>
    rw [q] at k
    simp only [lenE] at k ⊢
    have C := hide k
    clear k q hl
    go_enter Tryz.func40, Tryz.ntmps40
    go_wp2_with (go_at_call 41; refine (C.out).mono ?_; rintro e w1 ⟨rfl, hb⟩)
    exact ⟨rfl, rfl, hb⟩
  | some n =>
    rw [q] at k
    simp only [lenE] at k ⊢
    have C := hide k
    clear k q hl
    go_enter Tryz.func40, Tryz.ntmps40
    go_wp2_with (go_at_call 41; refine (C.out).mono ?_; rintro e w1 ⟨rfl, hb⟩)
    go_ret
    exact ⟨rfl, hb⟩

theorem length_any (s : ByteArray) (w : World) (hs : s.size ≤ maxLen) :
    Calls Tryz.prog 20 #[.string s] w fun E w' => E = .returned (lenV (lenL s.data.toList)) ∧ Below w.heap.size w w' := by
  have hmf : ∀ (fn : Fn) (first cap : Array Value) (w : World), (Instr.makeFunc fn first cap).run Tryz.prog w = .ok (.func fn first cap) w := fun _ _ _ _ => rfl
  have hcl : ∀ W, Below (w.alloc (.cells #[.string s] 9)).heap.size (w.alloc (.cells #[.string s] 9)) W → W.cell? ⟨w.heap.size, 0, none⟩ = some (.string ⟨s.data.toList.toArray⟩) := fun W hb => by
    rw [hb.cell (p := ⟨w.heap.size, 0, none⟩) (by simp)]; simp [go_sem]
  have hl : s.data.toList.length ≤ maxLen := by rw [Array.length_toList]; exact hs
  cases q : lenL s.data.toList with
  | none =>
    have C := hide (answerLength_no ⟨w.heap.size, 0, none⟩ 1 (w.alloc (.cells #[.string s] 9)) (fun W hb => by
      have := length1_any s.data.toList ⟨w.heap.size, 0, none⟩ W hl (hcl W hb)
      rw [q] at this; exact this))
    clear hcl hl q hs
    go_enter Tryz.func20, Tryz.ntmps20
    go_wp2_with (go_at_call 37; refine (C.out).mono ?_; rintro e w1 ⟨rfl, hb⟩)
    go_ret2
    exact ⟨rfl, ((Below.refl _ _).alloc (Nat.le_refl _) _).trans (hb.mono (by simp))⟩
  | some n =>
    have C := hide (answerLength_yes ⟨w.heap.size, 0, none⟩ n (w.alloc (.cells #[.string s] 9)) (fun W hb => by
      have := length1_any s.data.toList ⟨w.heap.size, 0, none⟩ W hl (hcl W hb)
      rw [q] at this; exact this))
    clear hcl hl q hs
    go_enter Tryz.func20, Tryz.ntmps20
    go_wp2_with (go_at_call 37; refine (C.out).mono ?_; rintro e w1 ⟨rfl, hb⟩)
    go_ret2
    exact ⟨rfl, ((Below.refl _ _).alloc (Nat.le_refl _) _).trans (hb.mono (by simp))⟩
end Go.Proofs.YthpndgcaoeokeaaGreatDoor
namespace Go.Proofs.YthpndgcaoeokeaaGreatDoor
open Go.RowKit Go.Sort

/-- is it a number within bounds? -/
def wiB (l : List UInt8) (lo hi : Int) : Bool := numB l && decide (lo ≤ numN l) && decide (numN l ≤ hi)
def wiE (l : List UInt8) (lo hi x : Int) : Ending := if wiB l lo hi = true then .returned (.int .i64 (numN l)) else .panicked (rsn x)
theorem wiE_yes {l : List UInt8} {lo hi x : Int} (h : wiB l lo hi = true) : wiE l lo hi x = .returned (.int .i64 (numN l)) := by unfold wiE; rw [if_pos h]
theorem wiE_no {l : List UInt8} {lo hi x : Int} (h : wiB l lo hi = false) : wiE l lo hi x = .panicked (rsn x) := by unfold wiE; rw [if_neg (by rw [h]; exact Bool.false_ne_true)]

theorem numberWithin_any (l : List UInt8) (lo hi x : Int) (w : World) (hl : l.length ≤ maxLen) :
    Calls Tryz.prog 142 #[.string ⟨l.toArray⟩, .int .i64 lo, .int .i64 hi, .int .i64 x] w fun E w' => E = wiE l lo hi x ∧ w = w' := by
  have kn := fun W => wordsNumber_any l x W hl
  cases hn : numB l
  · rw [numE_no hn] at kn
    rw [wiE_no (by unfold wiB; rw [hn]; rfl)]
    have D := hide kn
    clear kn hn hl
    go_enter Tryz.func142, Tryz.ntmps142
    go_wp2_with (go_at_call 127; refine (D.out _).mono ?_; rintro e w' ⟨rfl, rfl⟩)
    exact ⟨rfl, rfl, rfl⟩
  · rw [numE_yes hn] at kn
    have D := hide kn
    clear kn
    by_cases h0 : lo ≤ numN l
    · by_cases h1 : numN l ≤ hi
      · rw [wiE_yes (by unfold wiB; rw [hn]; simp [h0, h1])]
        clear hn hl
        go_enter Tryz.func142, Tryz.ntmps142
        go_wp2_with (first
          | (go_at_call 127; refine (D.out _).mono ?_; rintro e w' ⟨rfl, rfl⟩)
          | (go_at_call_of 65 (Value.bool true); refine (unless_yes _ _).mono ?_; rintro e w' ⟨rfl, rfl⟩))
        go_ret
        exact ⟨rfl, rfl⟩
      · rw [wiE_no (by unfold wiB; rw [hn]; simp [h0, h1])]
        have h1' : decide (numN l ≤ hi) = false := by simpa using h1
        clear hn hl
        go_enter Tryz.func142, Tryz.ntmps142
        go_wp2_with (first
          | (go_at_call 127; refine (D.out _).mono ?_; rintro e w' ⟨rfl, rfl⟩)
          | (go_at_call_of 65 (Value.bool false); refine (unless_no _ _).mono ?_; rintro e w' ⟨rfl, rfl⟩))
        exact ⟨rfl, rfl, rfl⟩
    · rw [wiE_no (by unfold wiB; rw [hn]; simp [h0])]
      have h0' : decide (lo ≤ numN l) = false := by simpa using h0
      clear hn hl
      go_enter Tryz.func142, Tryz.ntmps142
      go_wp2_with (first
        | (go_at_call 127; refine (D.out _).mono ?_; rintro e w' ⟨rfl, rfl⟩)
        | (go_at_call_of 65 (Value.bool false); refine (unless_no _ _).mono ?_; rintro e w' ⟨rfl, rfl⟩))
      exact ⟨rfl, rfl, rfl⟩

theorem within_wiB (l : List UInt8) (most : Int) : within l most = wiB l 1 most := rfl
/-- how the reading of a signed number ends -/
def sgE (l : List UInt8) (most x : Int) : Ending := if sgn l most = 0 then .panicked (rsn x) else .returned (.int .i64 (sgn l most))
theorem sgE_no {l : List UInt8} {most x : Int} (h : sgn l most = 0) : sgE l most x = .panicked (rsn x) := by unfold sgE; rw [if_pos h]
theorem sgE_yes {l : List UInt8} {most x : Int} (h : ¬ sgn l most = 0) : sgE l most x = .returned (.int .i64 (sgn l most)) := by unfold sgE; rw [if_neg h]
/-- a '-' is cut off -/
theorem minus_yes (r : List UInt8) (W : World) :
    Calls Tryz.prog 71 #[.string ⟨((45 : UInt8) :: r).toArray⟩, .string ⟨#[45]⟩] W fun E w' => E = .returned (.tuple #[.string ⟨r.toArray⟩, .bool true]) ∧ w' = W := by
  have := Tryz.strings_CutPrefix ⟨((45 : UInt8) :: r).toArray⟩ ⟨#[45]⟩ W
  have h1 : Lib.hasPrefix ((45 : UInt8) :: r) [45] = true := by simp [Lib.hasPrefix]
  have h2 : Lib.trimPrefix ((45 : UInt8) :: r) [45] = r := by unfold Lib.trimPrefix; rw [h1]; rfl
  rw [show (⟨((45 : UInt8) :: r).toArray⟩ : ByteArray).data.toList = 45 :: r from rfl, show (⟨#[45]⟩ : ByteArray).data.toList = [45] from rfl, h1, h2] at this
  exact this
theorem minus_no (l : List UInt8) (W : World) (h : ¬ l.head? = some 45) :
    Calls Tryz.prog 71 #[.string ⟨l.toArray⟩, .string ⟨#[45]⟩] W fun E w' => E = .returned (.tuple #[.string ⟨l.toArray⟩, .bool false]) ∧ w' = W := by
  have := Tryz.strings_CutPrefix ⟨l.toArray⟩ ⟨#[45]⟩ W
  have h1 : Lib.hasPrefix l [45] = false := by
    cases l with
    | nil => rfl
    | cons a r =>
      have : ¬ a = 45 := fun e => h (by simp [e])
      show ((45 : UInt8) == a && ([] : List UInt8).isPrefixOf r) = false; rw [Bool.and_eq_false_iff]; left; rw [beq_eq_false_iff_ne]; exact fun e => this (Eq.symm e)
  have h2 : Lib.trimPrefix l [45] = l := by unfold Lib.trimPrefix; rw [h1]; rfl
  rw [show (⟨l.toArray⟩ : ByteArray).data.toList = l from rfl, show (⟨#[45]⟩ : ByteArray).data.toList = [45] from rfl, h1, h2] at this
  exact this

theorem numN_limits (l : List UInt8) (h : numB l = true) : 0 ≤ numN l ∧ numN l ≤ 9999999 := numN_bd l h
theorem wordsSigned_any (l : List UInt8) (most x : Int) (w : World) (hl : l.length ≤ maxLen) :
    Calls Tryz.prog 210 #[.string ⟨l.toArray⟩, .int .i64 most, .int .i64 x] w fun E w' => E = sgE l most x ∧ w = w' := by
  by_cases hh : l.head? = some 45
  · obtain ⟨r, rfl⟩ : ∃ r, l = 45 :: r := by
      cases l with
      | nil => simp at hh
      | cons a r => exact ⟨r, by simp at hh; rw [hh]⟩
    have cp := fun W => minus_yes r W
    have kn := fun W => numberWithin_any r 1 most x W (by simp at hl; omega)
    have hs : sgn (45 :: r) most = if within r most then -(numN r) else 0 := by unfold sgn; rw [if_pos (by rfl)]; rfl
    cases hw : wiB r 1 most
    · rw [wiE_no hw] at kn
      rw [sgE_no (by rw [hs, within_wiB, hw]; rfl)]
      have D := hide kn
      have CP := hide cp
      clear kn hw hs hh hl cp
      go_enter Tryz.func210, Tryz.ntmps210
      go_wp2_with (first
        | (go_at_call 71; refine (CP.out _).mono ?_; rintro e u ⟨rfl, rfl⟩)
        | (go_at_call 142; refine (D.out _).mono ?_; rintro e w' ⟨rfl, rfl⟩))
      exact ⟨rfl, rfl, rfl⟩
    · rw [wiE_yes hw] at kn
      have hb : numB r = true := by unfold wiB at hw; simp at hw; exact hw.1.1
      have h1 : 1 ≤ numN r := by unfold wiB at hw; simp at hw; exact hw.1.2
      have h2 := numN_limits r hb
      have hs' : sgn (45 :: r) most = -(numN r) := by rw [hs, within_wiB, hw]; rfl
      rw [sgE_yes (by rw [hs']; omega), hs']
      have D := hide kn
      have CP := hide cp
      clear kn hw hs hh hl cp hb hs'
      go_enter Tryz.func210, Tryz.ntmps210
      go_wp2_with (first
        | (go_at_call 71; refine (CP.out _).mono ?_; rintro e u ⟨rfl, rfl⟩)
        | (go_at_call 142; refine (D.out _).mono ?_; rintro e w' ⟨rfl, rfl⟩))
      go_ret
      exact ⟨rfl, rfl⟩
  · have cp := fun W => minus_no l W hh
    have kn := fun W => numberWithin_any l 1 most x W hl
    have hs : sgn l most = if within l most then numN l else 0 := by unfold sgn; rw [if_neg hh]
    cases hw : wiB l 1 most
    · rw [wiE_no hw] at kn
      rw [sgE_no (by rw [hs, within_wiB, hw]; rfl)]
      have D := hide kn
      have CP := hide cp
      clear kn hw hs hh hl cp
      go_enter Tryz.func210, Tryz.ntmps210
      go_wp2_with (first
        | (go_at_call 71; refine (CP.out _).mono ?_; rintro e u ⟨rfl, rfl⟩)
        | (go_at_call 142; refine (D.out _).mono ?_; rintro e w' ⟨rfl, rfl⟩))
      exact ⟨rfl, rfl, rfl⟩
    · rw [wiE_yes hw] at kn
      have hb : numB l = true := by unfold wiB at hw; simp at hw; exact hw.1.1
      have h1 : 1 ≤ numN l := by unfold wiB at hw; simp at hw; exact hw.1.2
      have hs' : sgn l most = numN l := by rw [hs, within_wiB, hw]; rfl
      rw [sgE_yes (by rw [hs']; omega), hs']
      have D := hide kn
      have CP := hide cp
      clear kn hw hs hh hl cp hb hs' h1
      go_enter Tryz.func210, Tryz.ntmps210
      go_wp2_with (first
        | (go_at_call 71; refine (CP.out _).mono ?_; rintro e u ⟨rfl, rfl⟩)
        | (go_at_call 142; refine (D.out _).mono ?_; rintro e w' ⟨rfl, rfl⟩))
      go_ret
      exact ⟨rfl, rfl⟩
end Go.Proofs.YthpndgcaoeokeaaGreatDoor
