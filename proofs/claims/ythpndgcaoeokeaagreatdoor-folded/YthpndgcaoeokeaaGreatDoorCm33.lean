/- Folded (fallowkeep): a fold anywhere within a line makes no difference. Folded (fallowkeep): the walk. -/
import Derived.Test.YthpndgcaoeokeaaGreatDoorCm32
namespace Go.Proofs.YthpndgcaoeokeaaGreatDoor
open Go.RowKit Go.Sort

theorem unf_ins : ∀ (a b : List UInt8), (∀ x, a.getLast? = some x → x ≠ 13 ∧ x ≠ 10) → unf (a ++ 13 :: 10 :: 32 :: b) = unf (a ++ b)
  | [], b, _ => by rw [List.nil_append, List.nil_append, unf, if_pos ⟨rfl, rfl, rfl⟩]
  | [x], b, h => by
    have hx := h x rfl
    rw [List.cons_append, List.nil_append, unf, if_neg (fun q => hx.1 q.1)]
    rw [unf, if_pos ⟨rfl, rfl, rfl⟩]
    cases b with
    | nil => rfl
    | cons c b =>
      cases b with
      | nil => rfl
      | cons d b =>
        rw [List.cons_append, List.nil_append]
        conv => rhs; rw [unf, if_neg (fun q => hx.1 q.1)]
  | [x, y], b, h => by
    have hy := h y rfl
    have ih := unf_ins [y] b (fun z hz => h z hz)
    rw [List.cons_append, List.nil_append] at ih
    rw [List.cons_append, List.cons_append, List.nil_append, unf, if_neg (fun q => by have := q.2.2; simp at this), ih]
    cases b with
    | nil => rfl
    | cons c b =>
      have e1 : unf ([x, y] ++ c :: b) = x :: unf (y :: c :: b) := by
        show unf (x :: y :: c :: b) = _
        rw [unf, if_neg (fun q => hy.2 q.2.1)]
      exact e1.symm
  | x :: y :: z :: r, b, h => by
    have hr : ∀ v, r.getLast? = some v → v ≠ 13 ∧ v ≠ 10 := fun v hv => by
      refine h v ?_
      cases r with
      | nil => simp at hv
      | cons p q => simpa using hv
    have hyz : ∀ v, (y :: z :: r).getLast? = some v → v ≠ 13 ∧ v ≠ 10 := fun v hv => h v (by simpa using hv)
    rw [List.cons_append, List.cons_append, List.cons_append, List.cons_append, List.cons_append, List.cons_append, unf, unf]
    by_cases hf : x = 13 ∧ y = 10 ∧ z = 32
    · rw [if_pos hf, if_pos hf]
      exact unf_ins r b hr
    · rw [if_neg hf, if_neg hf]
      exact congrArg (x :: ·) (unf_ins (y :: z :: r) b hyz)
theorem readF_congr {s t : List UInt8} (h : unf s = unf t) (hs : s.length ≤ 2000) (ht : t.length ≤ 2000) : readF s = readF t := by
  unfold readF fieldsF framed evLs
  rw [h]
  simp [hs, ht]
/-- with a fold more -/
theorem fold_same (l : List UInt8) (k : Nat) (hk : 0 < k) (hl : k < l.length) (h7 : l.length ≤ 1997) (h1 : l[k - 1]? ≠ some 13) (h2 : l[k - 1]? ≠ some 10) : chkV (l.take k ++ [13, 10] ++ [32] ++ l.drop k) = chkV l := by
  have e : readF (l.take k ++ [13, 10] ++ [32] ++ l.drop k) = readF l := by
    have hu : unf (l.take k ++ [13, 10] ++ [32] ++ l.drop k) = unf l := by
      have := unf_ins (l.take k) (l.drop k) (fun x hx => by
        have hg : (l.take k).getLast? = l[k - 1]? := by
          rw [List.getLast?_eq_getElem?, List.length_take, Nat.min_eq_left (by omega), List.getElem?_take_of_lt (by omega)]
        rw [hg] at hx
        exact ⟨fun q => h1 (by rw [hx, q]), fun q => h2 (by rw [hx, q])⟩)
      rw [List.take_append_drop] at this
      rw [← this]
      simp
    exact readF_congr hu (by simp; omega) (by omega)
  unfold chkV
  rw [e]
end Go.Proofs.YthpndgcaoeokeaaGreatDoor
namespace Go.Proofs.YthpndgcaoeokeaaGreatDoor
open Go.RowKit Go.Sort

set_option maxRecDepth 100000 in
set_option maxHeartbeats 4000000 in
theorem folded_err (S : ByteArray) (a x : Int) (K : Nat) (w : World) (hx : x ≠ 0)
    (K0 : Hid (∀ W, Below w.heap.size w W → Calls Tryz.prog 16 #[] W fun e w' => e = .returned (.bool true) ∧ Below W.heap.size W w'))
    (C1 : Hid (∀ W, Below w.heap.size w W → Calls Tryz.prog 22 #[.string S] W fun e w' => e = .returned (.tuple #[.string ⟨#[]⟩, .int .i64 x]) ∧ Below W.heap.size W w'))
    (P0 : Hid (∀ W, Calls Tryz.prog 17 #[.int .i64 a, .int .i64 (S.size + 1)] W fun e w' => e = .returned (.int .i64 K) ∧ W = w')) (hS : S.size ≤ 140737488351232) (hK : K ≤ S.size) :
    Calls Tryz.prog 8 #[.string S, .int .i64 a] w fun e w' => e = .returned (.bool true) ∧ Below w.heap.size w w' := by
  have hx1 : (x != 0) = true := by simp [hx]
  go_enter Tryz.func8, Tryz.ntmps8
  go_wp2_with fail
  refine (K0.out _ (Below.refl _ _)).mono ?_
  rintro e w1 ⟨rfl, hb1⟩
  go_wp2_with fail
  refine (C1.out _ hb1).mono ?_
  rintro e w2 ⟨rfl, hb2⟩
  replace hb2 := hb1.trans (hb2.mono hb1.size)
  go_wp2_with fail
  refine (P0.out _).mono ?_
  rintro e w3 ⟨rfl, rfl⟩
  go_wp2_with fail
  go_ret
  exact ⟨rfl, hb2⟩

set_option maxRecDepth 100000 in
set_option maxHeartbeats 8000000 in
theorem folded_ok (S T : ByteArray) (a : Int) (K : Nat) (w : World)
    (K0 : Hid (∀ W, Below w.heap.size w W → Calls Tryz.prog 16 #[] W fun e w' => e = .returned (.bool true) ∧ Below W.heap.size W w'))
    (C1 : Hid (∀ W, Below w.heap.size w W → Calls Tryz.prog 22 #[.string S] W fun e w' => e = .returned (.tuple #[.string T, .int .i64 0]) ∧ Below W.heap.size W w'))
    (P0 : Hid (∀ W, Calls Tryz.prog 17 #[.int .i64 a, .int .i64 (S.size + 1)] W fun e w' => e = .returned (.int .i64 K) ∧ W = w')) (C2 : Hid (∀ W, Below w.heap.size w W → ∀ (kk1 : 1 + K < S.size), ¬ 1997 < S.size → ∀ {B0 : Int}, B0 = ((S[K]'(by omega)).toNat : Int) → ¬ B0 = 13 → ¬ B0 = 10 → Calls Tryz.prog 22 #[.string (S.extract 0 (1 + K) ++ ⟨#[13, 10]⟩ ++ ⟨#[32]⟩ ++ S.extract (1 + K) S.size)] W fun e w' => e = .returned (.tuple #[.string T, .int .i64 0]) ∧ Below W.heap.size W w')) (hS : S.size ≤ 140737488351232) (hK : K ≤ S.size) :
    Calls Tryz.prog 8 #[.string S, .int .i64 a] w fun e w' => e = .returned (.bool true) ∧ Below w.heap.size w w' := by
  go_enter Tryz.func8, Tryz.ntmps8
  go_wp2_with fail
  refine (K0.out _ (Below.refl _ _)).mono ?_
  rintro e w1 ⟨rfl, hb1⟩
  go_wp2_with fail
  refine (C1.out _ hb1).mono ?_
  rintro e w2 ⟨rfl, hb2⟩
  replace hb2 := hb1.trans (hb2.mono hb1.size)
  go_wp2_with fail
  refine (P0.out _).mono ?_
  rintro e w3 ⟨rfl, rfl⟩
  by_cases h1 : S.size ≤ K + 1
  case pos =>
    have h1' : (S.size : Int) ≤ 1 + K := by omega
    go_wp2_with fail
    go_ret
    exact ⟨rfl, hb2⟩
  have h1' : ¬ (S.size : Int) ≤ 1 + K := by omega
  have h1d : decide ((S.size : Int) ≤ 1 + (K : Int)) = false := decide_eq_false h1'
  have kk : K < S.size := by omega
  have kk1 : 1 + K < S.size := by omega
  have e1 : (1 + (K : Int) - 1) = K := by omega
  generalize hB0 : ((S[K]'kk).toNat : Int) = B0 at *
  generalize hB1 : ((S[1 + K]'kk1).toNat : Int) = B1 at *
  by_cases h2 : B0 = 13
  case pos =>
    subst h2
    go_wp2_with fail
    go_ret
    exact ⟨rfl, hb2⟩
  have h2' : (B0 == 13) = false := by simp [h2]
  by_cases h3 : B1 = 13
  case pos =>
    subst h3
    go_wp2_with fail
    go_ret
    exact ⟨rfl, hb2⟩
  have h3' : (B1 == 13) = false := by simp [h3]
  by_cases h4 : B1 = 10
  case pos =>
    subst h4
    go_wp2_with fail
    go_ret
    exact ⟨rfl, hb2⟩
  have h4' : (B1 == 10) = false := by simp [h4]
  by_cases h5 : B1 = 32
  case pos =>
    subst h5
    go_wp2_with fail
    go_ret
    exact ⟨rfl, hb2⟩
  have h5' : (B1 == 32) = false := by simp [h5]
  by_cases h6 : 1997 < S.size
  case pos =>
    have h6' : 1997 < (S.size : Int) := by omega
    go_wp2_with fail
    go_ret
    exact ⟨rfl, hb2⟩
  have h6' : ¬ 1997 < (S.size : Int) := by omega
  have h6d : decide (1997 < (S.size : Int)) = false := decide_eq_false h6'
  by_cases h7 : B0 = 10
  case pos =>
    subst h7
    go_wp2_with fail
    go_ret
    exact ⟨rfl, hb2⟩
  have h7' : (B0 == 10) = false := by simp [h7]
  go_upto_region 8 with fail
  have hx : ∀ (D : Nat) (os : Array Obj), Calls Tryz.prog 22 #[.string (S.extract 0 (1 + K) ++ ⟨#[13, 10]⟩ ++ ⟨#[32]⟩ ++ S.extract (1 + K) S.size)] (grow (redrawn w2 D) os) fun e w'' => e = .returned (.tuple #[.string T, .int .i64 0]) ∧ ∃ p : Regrown, w'' = grow (redrawn w2 p.d) p.os := fun D os => Calls.regrown_of (C2.out _ (hb2.trans ((below_regrown w2 D os).mono hb2.size)) kk1 h6 hB0.symm h2 h7)
  refine wp_region_quiet_below (by kernel_rfl) (by kernel_rfl) ?_
  repeat (go_big_quiet_step (exact hx _ _))
  refine wpQuiet_nil ?_
  intro _ hw'
  obtain ⟨⟨dq, osq⟩, hw''⟩ := hw'
  subst hw''
  have hb3 := hb2.trans ((below_regrown w2 dq osq).mono hb2.size)
  have hTT : (T.toList == T.toList) = true := by simp
  go_wp2_with fail
  go_ret
  exact ⟨rfl, hb3⟩

theorem folded_n (S : ByteArray) (a : Int) (w : World) (hm : ML w) (ht : Tab w) (hS : S.size ≤ 140737488351232) (a0 : -9223372036854775808 ≤ a ∧ a ≤ 9223372036854775807) :
    Calls Tryz.prog 8 #[.string S, .int .i64 a] w fun e w' => e = .returned (.bool true) ∧ Below w.heap.size w w' := by
  obtain ⟨K, hK⟩ := Int.eq_ofNat_of_zero_le (pick_bd a (S.size + 1) (by omega)).1
  have hK1 := (pick_bd a (S.size + 1) (by omega)).2
  have P0 : Hid (∀ W, Calls Tryz.prog 17 #[.int .i64 a, .int .i64 (S.size + 1)] W fun e w' => e = .returned (.int .i64 K) ∧ W = w') := hide fun W => by
    have := pick_n a (S.size + 1) W a0.1 a0.2 (by omega) (by omega)
    rwa [hK] at this
  rw [hK] at hK1
  have K0 : Hid (∀ W, Below w.heap.size w W → Calls Tryz.prog 16 #[] W fun e w' => e = .returned (.bool true) ∧ Below W.heap.size W w') := hide fun W hb => works_n W (hm.on hb) (ht.on hb)
  obtain ⟨l, rfl⟩ : ∃ l : List UInt8, S = ⟨l.toArray⟩ := ⟨S.data.toList, rfl⟩
  have C := fun W hb => check_all l W (hm.on hb) (ht.on hb)
  cases hr : readF l with
  | error x =>
    have hv : chkV l = .tuple #[.string ⟨#[]⟩, .int .i64 x] := by unfold chkV; rw [hr]
    rw [hv] at C
    exact folded_err _ a x K w (by have := readF_err hr; omega) K0 (hide C) P0 hS (by omega)
  | ok d =>
    have hv : chkV l = .tuple #[.string ⟨(chkT d).toArray⟩, .int .i64 0] := by unfold chkV; rw [hr]
    rw [hv] at C
    refine folded_ok _ ⟨(chkT d).toArray⟩ a K w K0 (hide C) P0 (hide ?_) hS (by omega)
    intro W hb kk1 h6 B0 hB h1 h2
    have hl : (⟨l.toArray⟩ : ByteArray).size = l.length := rfl
    have hk : K < l.length := by rw [hl] at kk1; omega
    have e0 : l[K]? = some l[K] := List.getElem?_eq_getElem hk
    have eB : B0 = ((l[K]).toNat : Int) := hB
    have hf := fold_same l (1 + K) (by omega) (by rw [hl] at kk1; omega) (by rw [hl] at h6; omega)
      (by rw [show 1 + K - 1 = K by omega, e0]; intro q; have := Option.some.inj q; rw [this] at eB; exact h1 eB)
      (by rw [show 1 + K - 1 = K by omega, e0]; intro q; have := Option.some.inj q; rw [this] at eB; exact h2 eB)
    have hx : ((⟨l.toArray⟩ : ByteArray).extract 0 (1 + K) ++ ⟨#[13, 10]⟩ ++ ⟨#[32]⟩ ++ (⟨l.toArray⟩ : ByteArray).extract (1 + K) (⟨l.toArray⟩ : ByteArray).size) = ⟨(l.take (1 + K) ++ [13, 10] ++ [32] ++ l.drop (1 + K)).toArray⟩ := by
      have x1 : (⟨l.toArray⟩ : ByteArray).extract 0 (1 + K) = ⟨(l.take (1 + K)).toArray⟩ := by
        apply ByteArray.ext; rw [ByteArray.data_extract]; simp
      have x2 : (⟨l.toArray⟩ : ByteArray).extract (1 + K) (⟨l.toArray⟩ : ByteArray).size = ⟨(l.drop (1 + K)).toArray⟩ := by
        apply ByteArray.ext; rw [ByteArray.data_extract, hl]; simp; exact List.take_of_length_le (by simp)
      rw [x1, x2]
      simp only [← ba_app]
    rw [hx]
    have := check_all (l.take (1 + K) ++ [13, 10] ++ [32] ++ l.drop (1 + K)) W (hm.on hb) (ht.on hb)
    rwa [hf, hv] at this
end Go.Proofs.YthpndgcaoeokeaaGreatDoor
