/- The program's own: Check (fallow.Check), whole. Arguments of the statements that are plain: numbers, texts, truths, opened and shut; the world at the call. Texts that are too long: Check and Instances of any text at all. Folded (fallowkeep): a fold anywhere within a line makes no difference. -/
import Derived.Test.YthpndgcaoeokeaaGreatDoorCm26
import Derived.Test.YthpndgcaoeokeaaGreatDoorCm31
namespace Go.Proofs.YthpndgcaoeokeaaGreatDoor
open Go.RowKit Go.Sort

theorem txt1_small {F : Nat → Option (List UInt8)} {B : Nat} (h : ∀ k, ((F k).getD []).length ≤ B) : ∀ k, ∀ t ∈ txts F k, t.length ≤ B + 21
  | 0, t, ht => by simp [txts] at ht
  | k + 1, t, ht => by
    rw [txts, List.mem_append] at ht
    rcases ht with ht | ht
    · exact txt1_small h k t ht
    · unfold txt1 at ht
      have h1 := h k
      have h2 := names_small k
      cases hf : F k with
      | none => rw [hf] at ht; simp at ht
      | some v =>
        rw [hf] at ht h1
        simp only [] at ht
        split at ht
        · rw [List.mem_singleton] at ht
          subst ht
          rw [List.length_append, List.length_cons]
          simp at h1
          omega
        · simp at ht
/-- what is needed of an event that was read -/
structure Small (d : EvD) : Prop where
  u : (val d.f 0).length ≤ 2000
  ex : d.ex.length ≤ 20
  xt : d.xt.length ≤ 20
  l1 : 1 ≤ d.ln
  l2 : d.ln ≤ 2678400
  k1 : 0 ≤ kindOf d.f - 1
  k2 : kindOf d.f - 1 ≤ 2
  tx : ∀ F, d.rl = some F → (Lib.join (txts F 9) [59]).length ≤ 20000
theorem read_small {s : List UInt8} {d : EvD} (h : readF s = .ok d) : Small d := by
  obtain ⟨h0, h1, h2, h3, h4, h5⟩ := read_ok h
  obtain ⟨g1, g2, g3, g4⟩ := fields_ok h0
  obtain ⟨k1, k2⟩ := kind_bd g4
  obtain ⟨q1, q2⟩ := lnF_bd h2
  have hp : IsProps s (sw d.f) := ((head_iff s (sw d.f) _ _).2 ⟨d.f, h0, rfl, rfl, rfl⟩).1
  have hs : ∀ k, ((sw d.f k).getD []).length ≤ 2000 := hp.small
  refine ⟨hs 0, tmO_len h3, tmO_len h4, q1, q2, k1, k2, fun F hF => ?_⟩
  rw [hF] at h5
  cases h6 : d.f 4 with
  | none => rw [h6] at h5; cases h5
  | some v =>
    rw [h6] at h5
    have hv : ruleF v = some F := by
      change (ruleF v).map some = some (some F) at h5
      cases hq : ruleF v with
      | none => rw [hq] at h5; cases h5
      | some F' => rw [hq] at h5; cases h5; rfl
    have hvl : v.length ≤ 2000 := by
      have := hs 4
      rw [show sw d.f 4 = d.f 4 from rfl, h6] at this
      simpa using this
    obtain ⟨r, hR⟩ := (rule_iff v F).1 hv
    have hF2 : flds partNames 61 (spl 59 v) (fun _ => none) = some F := hR.1
    have hb : ∀ k, ((F k).getD []).length ≤ 2000 := flds_small (fun p hp => Nat.le_trans (spl_small 59 v p hp) hvl) (fun k => by simp) hF2
    have h7 := intercalate_len [59] 2021 (txts F 9) (txt1_small hb 9)
    have h8 := txts_len F 9
    have h9 : (txts F 9).length * (2021 + [(59 : UInt8)].length) ≤ 9 * 2022 := Nat.mul_le_mul h8 (by simp)
    omega
set_option maxRecDepth 100000 in
set_option maxHeartbeats 2000000 in
theorem check1_no (s : List UInt8) (x : Int) (p : Addr) (W : World) (hm : ML W) (hs : s.length ≤ 1048576) (hc : W.cell? p = some (.string ⟨s.toArray⟩)) (hr : readF s = .error x) :
    Calls Tryz.prog 42 #[.pointer (some p)] W fun E w' => E = .panicked (rsn x) ∧ Below W.heap.size W w' := by
  have C : Hid (Calls Tryz.prog 43 #[.string ⟨s.toArray⟩] W fun E w' => E = .panicked (rsn x) ∧ Below W.heap.size W w') := hide ((eventsRead_any s W hm hs).mono fun E w' h => by
    obtain ⟨h1, h2⟩ := read_prog h
    refine ⟨?_, h2⟩
    rcases h1 with ⟨y, h3, h4⟩ | ⟨d, h3, _⟩
    · rw [hr] at h3; cases h3; exact h4
    · rw [hr] at h3; cases h3)
  clear hr hm
  go_enter Tryz.func42, Tryz.ntmps42
  go_wp2_with (go_at_call 43; refine (C.out).mono ?_; rintro e w1 ⟨rfl, hb⟩)
  exact ⟨rfl, rfl, hb⟩
set_option maxRecDepth 100000 in
set_option maxHeartbeats 4000000 in
theorem check1_yes (s : List UInt8) (d : EvD) (p : Addr) (W : World) (hm : ML W) (ht : Tab W) (hs : s.length ≤ 1048576) (hc : W.cell? p = some (.string ⟨s.toArray⟩)) (hr : readF s = .ok d) :
    Calls Tryz.prog 42 #[.pointer (some p)] W fun E w' => E = .returned (.string ⟨(chkT d).toArray⟩) ∧ Below W.heap.size W w' := by
  have HS := hide (read_small hr)
  have CX : Hid (Calls Tryz.prog 43 #[.string ⟨s.toArray⟩] W fun E w' => EvOk d E w' ∧ Below W.heap.size W w') := hide ((eventsRead_any s W hm hs).mono fun E w' h => by
    obtain ⟨h1, h2⟩ := read_prog h
    refine ⟨?_, h2⟩
    rcases h1 with ⟨y, h3, h4⟩ | ⟨d', h3, h4⟩
    · rw [hr] at h3; cases h3
    · rw [hr] at h3; cases h3; exact h4)
  have HT := hide ht
  clear hr hm ht
  have key : Hid (∀ E w1, EvOk d E w1 → Below W.heap.size W w1 → ∃ v, E = .returned v ∧ Calls Tryz.prog 44 #[v] w1 fun E w' => E = .returned (.string ⟨(chkT d).toArray⟩) ∧ Below w1.heap.size w1 w') := hide fun E w1 h hb => by
    obtain ⟨exv, xtv, i1, i2, h⟩ := h
    have S := HS.out
    obtain ⟨a5, c5, rfl⟩ := i1.form
    obtain ⟨a6, c6, rfl⟩ := i2.form
    rcases h with ⟨hrl, rfl⟩ | ⟨F, r, m, md, wk, pl, hrl, j1, j2, j3, j4, rfl⟩
    · refine ⟨_, rfl, ?_⟩
      have := eventText_any (val d.f 0) d.st d.ln false 0 0 0 0 none none none none a5 a6 0 0 0 0 0 0 0 0 c5 c6 0 [] d.ex d.xt (openOf d.f) (kindOf d.f - 1) w1 (HT.out.on hb) i1 i2 S.u (by simp) S.ex S.xt S.l1 S.l2 S.k1 S.k2
      unfold chkT
      rw [hrl]
      exact this
    · refine ⟨_, rfl, ?_⟩
      obtain ⟨b1, rfl⟩ := j1.form
      obtain ⟨b2, rfl⟩ := j2.form
      obtain ⟨b3, rfl⟩ := j3.form
      obtain ⟨b4, rfl⟩ := j4.form
      have := eventText_any (val d.f 0) d.st d.ln true r.fq r.iv r.ct r.un b1 b2 b3 b4 a5 a6 r.ms.length r.mds.length r.wks.length r.pls.length r.ms.length r.mds.length r.wks.length r.pls.length c5 c6 r.ws (Lib.join (txts F 9) [59]) d.ex d.xt (openOf d.f) (kindOf d.f - 1) w1 (HT.out.on hb) i1 i2 S.u (S.tx F hrl) S.ex S.xt S.l1 S.l2 S.k1 S.k2
      unfold chkT
      rw [hrl]
      exact this
  have C : Hid (Calls Tryz.prog 43 #[.string ⟨s.toArray⟩] W fun E w1 => ∃ v, E = .returned v ∧ Hid (Calls Tryz.prog 44 #[v] w1 fun E w' => E = .returned (.string ⟨(chkT d).toArray⟩) ∧ Below w1.heap.size w1 w') ∧ Below W.heap.size W w1) := hide ((CX.out).mono fun E w1 ⟨h, hb⟩ => by
    obtain ⟨v, h1, h2⟩ := key.out E w1 h hb
    exact ⟨v, h1, hide h2, hb⟩)
  clear CX key HS HT
  go_enter Tryz.func42, Tryz.ntmps42
  go_wp2_with (first
    | (go_at_call 43; refine (C.out).mono ?_; rintro e w1 ⟨v, rfl, CT, hb⟩)
    | (go_at_call 44; refine (CT.out).mono ?_; rintro e w2 ⟨rfl, hb2⟩))
  go_ret
  exact ⟨rfl, hb.trans (hb2.mono hb.size)⟩
set_option maxRecDepth 100000 in
set_option maxHeartbeats 2000000 in
theorem check_any (s : List UInt8) (w : World) (hm : ML w) (ht : Tab w) (hs : s.length ≤ 1048576) :
    Calls Tryz.prog 22 #[.string ⟨s.toArray⟩] w fun E w' => E = .returned (chkV s) ∧ Below w.heap.size w w' := by
  have hmf : ∀ (fn : Fn) (first cap : Array Value) (w : World), (Instr.makeFunc fn first cap).run Tryz.prog w = .ok (.func fn first cap) w := fun _ _ _ _ => rfl
  have hb0 : ∀ W, Below (w.alloc (.cells #[.string ⟨s.toArray⟩] 9)).heap.size (w.alloc (.cells #[.string ⟨s.toArray⟩] 9)) W → Below w.heap.size w W := fun W hb => ((Below.refl _ _).alloc (Nat.le_refl _) _).trans (hb.mono (by simp))
  have hcl : ∀ W, Below (w.alloc (.cells #[.string ⟨s.toArray⟩] 9)).heap.size (w.alloc (.cells #[.string ⟨s.toArray⟩] 9)) W → W.cell? ⟨w.heap.size, 0, none⟩ = some (.string ⟨s.toArray⟩) := fun W hb => by
    rw [hb.cell (p := ⟨w.heap.size, 0, none⟩) (by simp)]; simp [go_sem]
  cases h : readF s with
  | error x =>
    have hv : chkV s = .tuple #[.string ⟨#[]⟩, .int .i64 x] := by unfold chkV; rw [h]
    rw [hv]
    have C := hide (answerCheck_no ⟨w.heap.size, 0, none⟩ x (w.alloc (.cells #[.string ⟨s.toArray⟩] 9)) (fun W hb => check1_no s x _ W (hm.on (hb0 W hb)) hs (hcl W hb) h))
    clear hcl hb0 hm ht hv h
    go_enter Tryz.func22, Tryz.ntmps22
    go_wp2_with (go_at_call 34; refine (C.out).mono ?_; rintro e w1 ⟨rfl, hb⟩)
    go_ret2
    exact ⟨rfl, ((Below.refl _ _).alloc (Nat.le_refl _) _).trans (hb.mono (by simp))⟩
  | ok d =>
    have hv : chkV s = .tuple #[.string ⟨(chkT d).toArray⟩, .int .i64 0] := by unfold chkV; rw [h]
    rw [hv]
    have C := hide (answerCheck_yes ⟨w.heap.size, 0, none⟩ ⟨(chkT d).toArray⟩ (w.alloc (.cells #[.string ⟨s.toArray⟩] 9)) (fun W hb => check1_yes s d _ W (hm.on (hb0 W hb)) (ht.on (hb0 W hb)) hs (hcl W hb) h))
    clear hcl hb0 hm ht hv h
    go_enter Tryz.func22, Tryz.ntmps22
    go_wp2_with (go_at_call 34; refine (C.out).mono ?_; rintro e w1 ⟨rfl, hb⟩)
    go_ret2
    exact ⟨rfl, ((Below.refl _ _).alloc (Nat.le_refl _) _).trans (hb.mono (by simp))⟩
end Go.Proofs.YthpndgcaoeokeaaGreatDoor
namespace Go.Proofs.YthpndgcaoeokeaaGreatDoor
open Go.ChangeShapes Go.WideShapes Go.ChangeAt Go.RowKit

section
variable {H : Type} {enc : TypeId × Value → H} {w : World} {base : Nat} {spare : Nat → Bool} {held : Bool}
set_option maxRecDepth 100000 in
theorem op_str {r : Reach} {b0 : Nat} {v : Value} {d : DataW H} {p : List MemPlace} (ho : Value.okWide Tryz.prog w r b0 9 v) (h : DataW.Trod enc Tryz.prog w base spare held 9 v d p) : ∃ n, v = .string n ∧ d = .lit (.string n.data.toList) ∧ p = [] ∧ n.size ≤ maxLen := by
  obtain ⟨fuel, hf⟩ := h
  obtain ⟨m, rfl⟩ := okWide_string Tryz.underlying9 ho
  obtain ⟨n, e1, e2, e3⟩ := DataW.trod_string Tryz.underlying9 hf
  have e5 : [Value.string m] = [.string n] := e1
  injection e5 with e5
  injection e5 with e5
  subst e5
  injection e2 with e2 e4
  exact ⟨_, rfl, e2, e4, e3⟩
theorem sh_str (s : ByteArray) (h : s.size ≤ maxLen) : DataW.Trod enc Tryz.prog w base spare held 9 (.string s) (.lit (.string s.data.toList)) [] := ChangeMaps.shut_string Tryz.underlying9 h
end
end Go.Proofs.YthpndgcaoeokeaaGreatDoor
namespace Go.Proofs.YthpndgcaoeokeaaGreatDoor
open Go.RowKit Go.Sort

set_option maxHeartbeats 1000000 in
theorem check1_big (s : List UInt8) (p : Addr) (W : World) (h2k : ¬ s.length ≤ 2000) (hc : W.cell? p = some (.string ⟨s.toArray⟩)) :
    Calls Tryz.prog 42 #[.pointer (some p)] W fun E w' => E = .panicked (rsn 2) ∧ Below W.heap.size W w' := by
  have C := hide (eventsRead_big s W h2k)
  clear h2k
  go_enter Tryz.func42, Tryz.ntmps42
  go_wp2_with (go_at_call 43; refine (C.out).mono ?_; rintro e w1 ⟨rfl, hb⟩)
  exact ⟨rfl, rfl, hb⟩
set_option maxHeartbeats 1000000 in
theorem check_big (s : List UInt8) (w : World) (h2k : ¬ s.length ≤ 2000) :
    Calls Tryz.prog 22 #[.string ⟨s.toArray⟩] w fun E w' => E = .returned (.tuple #[.string ⟨#[]⟩, .int .i64 2]) ∧ Below w.heap.size w w' := by
  have hmf : ∀ (fn : Fn) (first cap : Array Value) (w : World), (Instr.makeFunc fn first cap).run Tryz.prog w = .ok (.func fn first cap) w := fun _ _ _ _ => rfl
  have hcl : ∀ W, Below (w.alloc (.cells #[.string ⟨s.toArray⟩] 9)).heap.size (w.alloc (.cells #[.string ⟨s.toArray⟩] 9)) W → W.cell? ⟨w.heap.size, 0, none⟩ = some (.string ⟨s.toArray⟩) := fun W hb => by
    rw [hb.cell (p := ⟨w.heap.size, 0, none⟩) (by simp)]; simp [go_sem]
  have C := hide (answerCheck_no ⟨w.heap.size, 0, none⟩ 2 (w.alloc (.cells #[.string ⟨s.toArray⟩] 9)) (fun W hb => check1_big s _ W h2k (hcl W hb)))
  clear hcl h2k
  go_enter Tryz.func22, Tryz.ntmps22
  go_wp2_with (go_at_call 34; refine (C.out).mono ?_; rintro e w1 ⟨rfl, hb⟩)
  go_ret2
  exact ⟨rfl, ((Below.refl _ _).alloc (Nat.le_refl _) _).trans (hb.mono (by simp))⟩
/-- Check of any text -/
theorem check_all (s : List UInt8) (w : World) (hm : ML w) (ht : Tab w) :
    Calls Tryz.prog 22 #[.string ⟨s.toArray⟩] w fun E w' => E = .returned (chkV s) ∧ Below w.heap.size w w' := by
  by_cases h : s.length ≤ 2000
  · exact check_any s w hm ht (by omega)
  · have := check_big s w h
    unfold chkV
    rw [readF_big h]
    exact this
end Go.Proofs.YthpndgcaoeokeaaGreatDoor
namespace Go.Proofs.YthpndgcaoeokeaaGreatDoor
open Go.RowKit Go.Sort

theorem readF_err {s : List UInt8} {x : Int} (h : readF s = .error x) : x = 1 ∨ x = 2 ∨ x = 3 := by
  unfold readF at h
  repeat' split at h
  all_goals first | (cases h; simp) | cases h
end Go.Proofs.YthpndgcaoeokeaaGreatDoor
