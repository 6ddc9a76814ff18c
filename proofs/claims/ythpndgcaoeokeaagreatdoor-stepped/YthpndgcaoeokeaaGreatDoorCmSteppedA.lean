/- Stepped: the row, lifted -/
import Derived.Test.YthpndgcaoeokeaaGreatDoorCm37
namespace Go.Proofs.YthpndgcaoeokeaaGreatDoor
open Go.ChangeShapes Go.WideShapes Go.ChangeAt Go.RowKit

theorem stepped_reads (os : Os) {H : Type} (enc : TypeId × Value → H) : ∃ places, DataW.whole enc Tryz.prog ((World.laidAll Tryz.prog os Rows.steppedRow.laid).forCall (fun _ _ => 0) ⟨#[], #[.int .i64 0, .int .i64 0, .int .i64 0, .bool false, .int .i64 0], []⟩).memory Tryz.f9.params.toList Rows.steppedSpec.vars false #[.int .i64 0, .int .i64 0, .int .i64 0, .bool false, .int .i64 0].toList 8 = some ([.lit (.int .i64 0), .lit (.int .i64 0), .lit (.int .i64 0), .lit (.bool false), .lit (.int .i64 0)], [], places) :=
  ⟨[], by kernel_rfl⟩
set_option maxRecDepth 100000 in
theorem stepped_lifted (os : Os) (started : os.Started) (H : Type) (enc : TypeId × Value → H) (F : Stop.Interp) :
    ReturnsInHanded {} Tryz.checked os 9 .any ((OpenSpec.ofChange Rows.steppedSpec).preRow enc Tryz.prog Tryz.f9 Rows.steppedRow.domain false Rows.steppedRow.laid) (((OpenSpec.ofChange Rows.steppedSpec).at F).post enc Tryz.prog Tryz.f9 false true false false) := by
  obtain ⟨places, hx⟩ := stepped_reads os enc
  refine returnsInHanded_of_row (C := Tryz.checked) (s := OpenSpec.ofChange Rows.steppedSpec) own started (by kernel_rfl) Tryz.func9
    (witness_row_at (enc := enc) (C := Tryz.checked) false (World.laidAll Tryz.prog os Rows.steppedRow.laid) #[.int .i64 0, .int .i64 0, .int .i64 0, .bool false, .int .i64 0] (World.laidAll_os _ _ _) (by kernel_rfl) (by kernel_rfl) (by kernel_rfl)
      (OpenSpec.preRow_of_cond 8 hx (by kernel_rfl) (fun k hk => by cases hk) (by kernel_rfl) (laidMet_laidAll _ (by kernel_rfl) (by kernel_rfl)))) ?_
  intro W base args ds gs before hval0 hW _ _ _ hL hS _
  have hval : ∀ (j : Nat) t v, Tryz.f9.params[j]? = some t → args[j]? = some v → Value.okWide Tryz.prog W .any base t v := hval0
  have hW' := hW
  obtain ⟨p, q, hA0, hV, rfl, _, _⟩ := hW
  have hA : DataW.TrodAll enc Tryz.prog W 0 (fun _ => true) true Tryz.f9.params.toList args.toList ds p := hA0
  rw [Tryz.params9] at hA hval
  obtain ⟨v1, vs1, d1, ds1, p1, q1, hargs, rfl, rfl, k1, hA1⟩ := trodAll_cons hA
  obtain ⟨v2, vs2, d2, ds2, p2, q2, rfl, rfl, rfl, k2, hA2⟩ := trodAll_cons hA1
  obtain ⟨v3, vs3, d3, ds3, p3, q3, rfl, rfl, rfl, k3, hA3⟩ := trodAll_cons hA2
  obtain ⟨v4, vs4, d4, ds4, p4, q4, rfl, rfl, rfl, k4, hA4⟩ := trodAll_cons hA3
  obtain ⟨v5, vs5, d5, ds5, p5, q5, rfl, rfl, rfl, k5, hA5⟩ := trodAll_cons hA4
  obtain ⟨rfl, rfl, rfl⟩ := trodAll_nil hA5
  obtain ⟨rfl, rfl⟩ := trodVars_none hV
  obtain rfl : args = #[v1, v2, v3, v4, v5] := by cases args; simp_all
  obtain ⟨x1, rfl, rfl, rfl, r1⟩ := op_int (hval 0 3 v1 rfl rfl) k1
  obtain ⟨x2, rfl, rfl, rfl, r2⟩ := op_int (hval 1 3 v2 rfl rfl) k2
  obtain ⟨x3, rfl, rfl, rfl, r3⟩ := op_int (hval 2 3 v3 rfl rfl) k3
  obtain ⟨x4, rfl, rfl, rfl⟩ := op_bool (hval 3 4 v4 rfl rfl) k4
  obtain ⟨x5, rfl, rfl, rfl, r5⟩ := op_int (hval 4 3 v5 rfl rfl) k5
  clear hA0 hV hargs hA hA1 hval hval0
  simp only [List.append_nil] at hW'
  have hT : Tab W := by
    rw [MakeChecks.laidMetH_plain _ _ _ (by kernel_rfl)] at hL
    exact tab_of2 hL
  have hM : ML W := ml_of hS
  have fin : Calls Tryz.prog 9 #[.int .i64 x1, .int .i64 x2, .int .i64 x3, .bool x4, .int .i64 x5] W fun e w' => e = .returned (.bool true) ∧ Below W.heap.size W w' := stepped_n x1 x2 x3 x5 x4 W hM hT r1 r2 r3 r5
  refine fin.mono fun e W' ⟨he, hb⟩ => ?_
  subst he
  exact ⟨_, rfl, [.lit (.int .i64 x1), .lit (.int .i64 x2), .lit (.int .i64 x3), .lit (.bool x4), .lit (.int .i64 x5)], [], [], [], [], [], hW', trodAll_mk1 (shut_bool Tryz.underlying4 _), trodAll_cons_mk (sh_int x1 r1) (trodAll_cons_mk (sh_int x2 r2) (trodAll_cons_mk (sh_int x3 r3) (trodAll_cons_mk (sh_bool x4) (trodAll_cons_mk (sh_int x5 r5) (trodAll_mk0))))), rfl, hb.frame _, fun h => by cases h⟩
end Go.Proofs.YthpndgcaoeokeaaGreatDoor
