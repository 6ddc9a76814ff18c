/- The document's rule (fallowref.rule): what its loop keeps. Texts of lines, read again: of no program. What an event prints, read again: times, the length, the rule. Of no program. A rule that is printed is read as the same rule. Of no program. What an event prints is no longer than an event may be, and has no end of a line within its lines. Of no program. What an event prints is read as the same event. Of no program. Printed (fallowkeep): the walk. -/
import Derived.Test.YthpndgcaoeokeaaGreatDoorCm28
import Derived.Test.YthpndgcaoeokeaaGreatDoorCm32
namespace Go.Proofs.YthpndgcaoeokeaaGreatDoor
open Go.RowKit

theorem idx_get {n : List UInt8} : ∀ {ns : List (List UInt8)} {k : Nat}, idx ns n = some k → k < ns.length ∧ ns.getD k [] = n
  | [], k, h => by cases h
  | a :: r, k, h => by
    rw [idx] at h
    split at h
    · rename_i e
      cases h
      exact ⟨by simp, by simpa using e⟩
    · obtain ⟨i, hi, rfl⟩ := Option.map_eq_some_iff.1 h
      have := idx_get hi
      exact ⟨by simp; exact this.1, by simpa using this.2⟩
end Go.Proofs.YthpndgcaoeokeaaGreatDoor
namespace Go.Proofs.YthpndgcaoeokeaaGreatDoor
open Go.RowKit

theorem ofP_out : ∀ (ps : List (Nat × List UInt8)) (f : Nat → Option (List UInt8)) (j : Nat), j ∉ ps.map (·.1) → ofP ps f j = f j
  | [], f, j, _ => rfl
  | p :: r, f, j, h => by
    rw [List.map_cons, List.mem_cons, not_or] at h
    rw [ofP, ofP_out r _ j h.2, if_neg h.1]
theorem ofP_in : ∀ (ps : List (Nat × List UInt8)) (f : Nat → Option (List UInt8)) (j : Nat) (v : List UInt8), (ps.map (·.1)).Nodup → (j, v) ∈ ps → ofP ps f j = some v
  | p :: r, f, j, v, h, hm => by
    rw [List.map_cons, List.nodup_cons] at h
    rw [ofP]
    rcases List.mem_cons.1 hm with rfl | hm
    · rw [ofP_out r _ _ h.1, if_pos rfl]
    · exact ofP_in r _ j v h.2 hm
end Go.Proofs.YthpndgcaoeokeaaGreatDoor
namespace Go.Proofs.YthpndgcaoeokeaaGreatDoor
open Go.RowKit

theorem dec_dgs : ∀ (g u : Nat), (u : Int) < 10 ^ g → 0 < g → Lib.decDigits u = dgsF g u
  | 0, _, _, h => by omega
  | g + 1, u, h, _ => by
    rw [dgsF]
    by_cases hu : u < 10
    · rw [if_pos (by omega), Lib.decDigits_one hu, List.nil_append, show (48 + (u : Int) % 10).toNat = 48 + u by omega]
    · rw [if_neg (by omega), dec_snoc hu]
      have hg : 0 < g := by
        cases g with
        | zero => simp at h; omega
        | succ g => omega
      have hq : ((u / 10 : Nat) : Int) < 10 ^ g := by rw [Int.pow_succ] at h; omega
      rw [dec_dgs g (u / 10) hq hg, show ((u / 10 : Nat) : Int) = (u : Int) / 10 by omega, show (48 + (u : Int) % 10).toNat = 48 + u % 10 by omega]
theorem dec_is (n : Int) (h0 : 0 ≤ n) (h1 : n < 10000000) : Lib.decDigits n.toNat = dgs n := by
  have := dec_dgs 20 n.toNat (by omega) (by omega)
  rw [this, show ((n.toNat : Nat) : Int) = n by omega]
  rfl
theorem len_again (n : Int) (h0 : 1 ≤ n) (h1 : n ≤ 2678400) : lenL ([80, 84] ++ Lib.decDigits n.toNat ++ [83]) = some n := by
  rw [dec_is n (by omega) (by omega)]
  obtain ⟨a1, a2, a3, _⟩ := dgs_num n (by omega) (by omega)
  simp only [List.cons_append, List.nil_append, lenL]
  rw [if_pos (by rfl)]
  rw [lenGo, if_neg (by decide), if_pos (by rfl), if_neg (by rintro (h | h | h); · cases h
                                                             · exact h rfl
                                                             · simp at h)]
  rw [lenGo_digs _ _ _ _ _ _ _ a3, List.nil_append, lenGo_mark 83 _ _ 1 3 true _ _ (by decide) (by decide) a1 (by decide) (by decide) (by decide), a2]
  rw [lenGo, if_neg (by simp)]
  simp [sizeU]

theorem tmO_facts {o : Option (List UInt8)} {ex : List Int} (h : tmO o = some ex) : Inc ex ∧ ex.length ≤ 20 ∧ (∀ t ∈ ex, 0 ≤ t ∧ t ≤ 7258118399) := by
  rw [times_one] at h
  unfold tsF at h
  obtain ⟨ys, hy, rfl⟩ := Option.map_eq_some_iff.1 h
  have h1 := lsF_all (p := fun z => 0 ≤ z ∧ z ≤ 7258118399) (fun v z hz => timF_rg hz) hy
  refine ⟨(sortC ys).1, ?_, fun t ht => h1 t (((sortC ys).2 t).1 ht)⟩
  have h2 : ys.length ≤ 20 := by
    unfold lsF at hy
    split at hy
    · cases hy; simp
    · split at hy
      · rename_i h5; rw [rds_len hy]; exact h5
      · cases hy
  have h3 : (Lib.compact (ys.mergeSort fun x y => decide (x ≤ y))).length ≤ (ys.mergeSort fun x y => decide (x ≤ y)).length := compact_le _
  rw [List.length_mergeSort] at h3
  omega
end Go.Proofs.YthpndgcaoeokeaaGreatDoor
namespace Go.Proofs.YthpndgcaoeokeaaGreatDoor
open Go.RowKit

theorem spl_no (c : UInt8) : ∀ (l : List UInt8), ∀ p ∈ spl c l, c ∉ p
  | [], p, h => by simp [spl] at h; subst h; simp
  | a :: r, p, h => by
    have ih := spl_no c r
    rw [spl] at h
    by_cases ha : a = c
    · rw [if_pos ha] at h
      rcases List.mem_cons.1 h with rfl | h
      · simp
      · exact ih p h
    · rw [if_neg ha] at h
      cases hs : spl c r with
      | nil => exact absurd hs (spl_ne c r)
      | cons q t =>
        rw [hs] at h ih
        rcases List.mem_cons.1 h with rfl | h
        · intro hc
          rcases List.mem_cons.1 hc with e | hc
          · exact ha e.symm
          · exact ih q (by simp) hc
        · exact ih p (by simp [h])
theorem sp_mem {c : UInt8} : ∀ {l n v : List UInt8}, sp c l = some (n, v) → ∀ x ∈ v, x ∈ l
  | [], n, v, h, x, hx => by simp [sp] at h
  | a :: r, n, v, h, x, hx => by
    rw [sp] at h
    by_cases ha : a = c
    · rw [if_pos ha] at h
      cases h
      exact List.mem_cons_of_mem _ hx
    · rw [if_neg ha] at h
      cases hs : sp c r with
      | none => rw [hs] at h; cases h
      | some q =>
        rw [hs] at h
        cases h
        exact List.mem_cons_of_mem _ (sp_mem hs x hx)
/-- a field's letters are a piece's -/
theorem flds_of {ns : List (List UInt8)} {c : UInt8} {Q : List UInt8 → Prop} : ∀ {P : List (List UInt8)} {f F : Nat → Option (List UInt8)}, (∀ p ∈ P, ∀ n v, sp c p = some (n, v) → Q v) → (∀ k v, f k = some v → Q v) → flds ns c P f = some F → ∀ k v, F k = some v → Q v
  | [], f, F, _, h2, h3, k, v, hv => by rw [flds] at h3; cases h3; exact h2 k v hv
  | p :: r, f, F, h1, h2, h3, k, v, hv => by
    rw [flds] at h3
    cases hp : plc ns c p with
    | none => rw [hp] at h3; cases h3
    | some q =>
      rw [hp] at h3
      simp only [] at h3
      split at h3
      · cases h3
      · refine flds_of (fun p' hp' => h1 p' (by simp [hp'])) (fun k' v' hv' => ?_) h3 k v hv
        split at hv'
        · cases hv'
          unfold plc at hp
          cases hs : sp c p with
          | none => rw [hs] at hp; cases hp
          | some nv =>
            rw [hs] at hp
            obtain ⟨j, _, e⟩ := Option.map_eq_some_iff.1 hp
            subst e
            exact h1 p (by simp) nv.1 nv.2 hs
        · exact h2 k' v' hv'
/-- there are no fields behind the names -/
theorem flds_out {ns : List (List UInt8)} {c : UInt8} : ∀ {P : List (List UInt8)} {f F : Nat → Option (List UInt8)}, (∀ k, ns.length ≤ k → f k = none) → flds ns c P f = some F → ∀ k, ns.length ≤ k → F k = none
  | [], f, F, h2, h3, k, hk => by rw [flds] at h3; cases h3; exact h2 k hk
  | p :: r, f, F, h2, h3, k, hk => by
    rw [flds] at h3
    cases hp : plc ns c p with
    | none => rw [hp] at h3; cases h3
    | some q =>
      rw [hp] at h3
      simp only [] at h3
      split at h3
      · cases h3
      · refine flds_out (fun k' hk' => ?_) h3 k hk
        unfold plc at hp
        cases hs : sp c p with
        | none => rw [hs] at hp; cases hp
        | some nv =>
          rw [hs] at hp
          obtain ⟨j, hj, e⟩ := Option.map_eq_some_iff.1 hp
          subst e
          have := idx_lt hj
          rw [if_neg (by simp only []; omega)]
          exact h2 k' hk'

/-- the parts that are printed -/
def shF (F : Nat → Option (List UInt8)) (k : Nat) : Option (List UInt8) := match F k with
  | none => none
  | some v => if shown (partNames.getD k [] ++ 61 :: v) then some v else none
def prs (F : Nat → Option (List UInt8)) : Nat → List (Nat × List UInt8)
  | 0 => []
  | k + 1 => prs F k ++ (match shF F k with | none => [] | some v => [(k, v)])
theorem txts_prs (F : Nat → Option (List UInt8)) : ∀ k, txts F k = (prs F k).map fun p => partNames.getD p.1 [] ++ 61 :: p.2
  | 0 => rfl
  | k + 1 => by
    rw [txts, prs, List.map_append, txts_prs F k]
    congr 1
    unfold txt1 shF
    cases F k with
    | none => rfl
    | some v =>
      simp only []
      split <;> rfl
theorem prs_mem (F : Nat → Option (List UInt8)) : ∀ k p, p ∈ prs F k ↔ p.1 < k ∧ shF F p.1 = some p.2
  | 0, p => by simp [prs]
  | k + 1, p => by
    rw [prs, List.mem_append, prs_mem F k p]
    constructor
    · rintro (⟨h1, h2⟩ | h)
      · exact ⟨by omega, h2⟩
      · cases hs : shF F k with
        | none => rw [hs] at h; simp at h
        | some v => rw [hs] at h; simp at h; subst h; exact ⟨by simp, hs⟩
    · rintro ⟨h1, h2⟩
      by_cases e : p.1 = k
      · right
        rw [← e, h2]
        simp
      · exact .inl ⟨by omega, h2⟩
theorem prs_nodup (F : Nat → Option (List UInt8)) : ∀ k, ((prs F k).map (·.1)).Nodup
  | 0 => by simp [prs]
  | k + 1 => by
    rw [prs, List.map_append, List.nodup_append]
    refine ⟨prs_nodup F k, ?_, ?_⟩
    · cases shF F k <;> simp
    · intro a ha b hb e
      subst e
      obtain ⟨p, hp, rfl⟩ := List.mem_map.1 ha
      have h1 := ((prs_mem F k p).1 hp).1
      cases hs : shF F k with
      | none => rw [hs] at hb; simp at hb
      | some v => rw [hs] at hb; simp at hb; omega
theorem prs_ofP (F : Nat → Option (List UInt8)) (hF : ∀ k, 9 ≤ k → F k = none) : ofP (prs F 9) (fun _ => none) = shF F := by
  funext j
  cases hs : shF F j with
  | none =>
    rw [ofP_out]
    intro hm
    obtain ⟨p, hp, e⟩ := List.mem_map.1 hm
    have := ((prs_mem F 9 p).1 hp).2
    rw [e, hs] at this
    cases this
  | some v =>
    refine ofP_in _ _ _ _ (prs_nodup F 9) ((prs_mem F 9 (j, v)).2 ⟨?_, hs⟩)
    show j < 9
    by_cases h : j < 9
    · exact h
    · unfold shF at hs; rw [hF j (by omega)] at hs; cases hs
/-- what is shown: all but INTERVAL=1 and WKST=MO -/
theorem shF_is (F : Nat → Option (List UInt8)) (k : Nat) (hk : k < 9) : shF F k = F k ∨ (k = 1 ∧ F 1 = some [49] ∧ shF F 1 = none) ∨ (k = 8 ∧ F 8 = some [77, 79] ∧ shF F 8 = none) := by
  unfold shF
  cases hF : F k with
  | none => exact .inl rfl
  | some v =>
    simp only []
    by_cases hs : shown (partNames.getD k [] ++ 61 :: v) = true
    · rw [if_pos hs]; exact .inl rfl
    · rw [if_neg hs]
      replace hs : partNames.getD k [] ++ 61 :: v = [73, 78, 84, 69, 82, 86, 65, 76, 61, 49] ∨ partNames.getD k [] ++ 61 :: v = [87, 75, 83, 84, 61, 77, 79] := by
        by_cases q1 : partNames.getD k [] ++ 61 :: v = [73, 78, 84, 69, 82, 86, 65, 76, 61, 49]
        · exact .inl q1
        by_cases q2 : partNames.getD k [] ++ 61 :: v = [87, 75, 83, 84, 61, 77, 79]
        · exact .inr q2
        exact absurd (by unfold shown; rw [decide_eq_true q1, decide_eq_true q2]; rfl) hs
      have hk' : k = 0 ∨ k = 1 ∨ k = 2 ∨ k = 3 ∨ k = 4 ∨ k = 5 ∨ k = 6 ∨ k = 7 ∨ k = 8 := by omega
      right
      rcases hk' with rfl | rfl | rfl | rfl | rfl | rfl | rfl | rfl | rfl <;> simp [partNames] at hs
      · left
        refine ⟨rfl, ?_, ?_⟩
        · rw [hF, hs]
        · rw [hF, hs]; rfl
      · right
        refine ⟨rfl, ?_, ?_⟩
        · rw [hF, hs]
        · rw [hF, hs]; rfl
theorem shF_at (F : Nat → Option (List UInt8)) (k : Nat) (hk : k < 9) (h1 : k ≠ 1) (h8 : k ≠ 8) : shF F k = F k := by
  rcases shF_is F k hk with h | ⟨h, _⟩ | ⟨h, _⟩
  · exact h
  · exact absurd h h1
  · exact absurd h h8
theorem shF_get {F : Nat → Option (List UInt8)} {k : Nat} {v : List UInt8} (h : shF F k = some v) : F k = some v := by
  unfold shF at h
  cases hF : F k with
  | none => rw [hF] at h; cases h
  | some u =>
    rw [hF] at h
    simp only [] at h
    split at h
    · exact h
    · cases h
theorem shF_twice (F : Nat → Option (List UInt8)) (k : Nat) : shF (shF F) k = shF F k := by
  cases h : shF F k with
  | none => unfold shF at h ⊢; rw [h]
  | some v =>
    have hF := shF_get h
    have hs : shown (partNames.getD k [] ++ 61 :: v) = true := by
      unfold shF at h
      rw [hF] at h
      simp only [] at h
      split at h
      · assumption
      · cases h
    show (match shF F k with | none => none | some v => if shown (partNames.getD k [] ++ 61 :: v) then some v else none) = some v
    rw [h]
    simp only [hs, if_true]
theorem prs_twice (F : Nat → Option (List UInt8)) : ∀ k, prs (shF F) k = prs F k
  | 0 => rfl
  | k + 1 => by rw [prs, prs, prs_twice F k, shF_twice]
theorem rule_shown (F : Nat → Option (List UInt8)) : ruleOf (shF F) = ruleOf F := by
  have e : ∀ k, k < 9 → k ≠ 1 → k ≠ 8 → shF F k = F k := fun k a b c => shF_at F k a b c
  have e1 : (shF F 1).getD [49] = (F 1).getD [49] := by
    rcases shF_is F 1 (by omega) with h | ⟨_, h, h'⟩ | ⟨h, _⟩
    · rw [h]
    · rw [h, h']; rfl
    · omega
  have e8 : (shF F 8).getD [77, 79] = (F 8).getD [77, 79] := by
    rcases shF_is F 8 (by omega) with h | ⟨h, _⟩ | ⟨_, h, h'⟩
    · rw [h]
    · omega
    · rw [h, h']; rfl
  unfold ruleOf
  rw [e 0 (by omega) (by omega) (by omega), e1, e 2 (by omega) (by omega) (by omega), e 3 (by omega) (by omega) (by omega), e 4 (by omega) (by omega) (by omega), e 5 (by omega) (by omega) (by omega), e 6 (by omega) (by omega) (by omega), e 7 (by omega) (by omega) (by omega), e8]
/-- the printed rule is read as what is shown of it -/
theorem rule_again {v : List UInt8} {F : Nat → Option (List UInt8)} (h : ruleF v = some F) : ruleF (Lib.join (txts F 9) [59]) = some (shF F) := by
  unfold ruleF at h
  rw [pieces_spl] at h
  cases hf : flds partNames 61 (spl 59 v) (fun _ => none) with
  | none => rw [hf] at h; cases h
  | some G =>
    rw [hf] at h
    simp only [] at h
    split at h
    case isFalse => cases h
    rename_i hok
    cases h
    simp only [Bool.and_eq_true] at hok
    have hno : ∀ k w, F k = some w → 59 ∉ w := flds_of (fun p hp n w hs hc => spl_no 59 v p hp (sp_mem hs _ hc)) (fun k w hw => by cases hw) hf
    have hout : ∀ k, 9 ≤ k → F k = none := flds_out (fun k _ => rfl) hf
    have hn59 : ∀ k, k < 9 → 59 ∉ partNames.getD k [] := by decide
    have hne : txts F 9 ≠ [] := by
      rw [txts_prs]
      intro e
      have h0 : shF F 0 = F 0 := shF_at F 0 (by omega) (by omega) (by omega)
      have hh : (F 0).isSome = true := by
        have := hok.2
        unfold agree has at this
        simp only [Bool.and_eq_true] at this
        exact this.1.1.1.1
      obtain ⟨w, hw⟩ := Option.isSome_iff_exists.1 hh
      have hm : (0, w) ∈ prs F 9 := (prs_mem F 9 (0, w)).2 ⟨by simp, by rw [h0]; exact hw⟩
      rw [List.map_eq_nil_iff] at e
      rw [e] at hm
      simp at hm
    have hsp : spl 59 (Lib.join (txts F 9) [59]) = txts F 9 := spl_join 59 _ hne (fun p hp => by
      rw [txts_prs] at hp
      obtain ⟨q, hq, rfl⟩ := List.mem_map.1 hp
      obtain ⟨q1, q2⟩ := (prs_mem F 9 q).1 hq
      simp only [List.mem_append, List.mem_cons, not_or]
      exact ⟨hn59 _ q1, by decide, hno _ _ (shF_get q2)⟩)
    have hfl : flds partNames 61 (txts F 9) (fun _ => none) = some (shF F) := by
      rw [txts_prs, flds_ofP partNames 61 (prs F 9) _ (fun p hp => plc_part p.1 p.2 ((prs_mem F 9 p).1 hp).1) (prs_nodup F 9) (fun _ _ => rfl), prs_ofP F hout]
    have hea : eachOk (shF F) = true := by
      have := (eachOk_iff F).1 hok.1
      exact (eachOk_iff (shF F)).2 fun k hk w hw => this k hk w (shF_get hw)
    have hag : agree (shF F) = true := by
      have e : ∀ k, k < 9 → k ≠ 1 → k ≠ 8 → shF F k = F k := fun k a b c => shF_at F k a b c
      have := hok.2
      unfold agree has ordinals freqOf at this ⊢
      rw [e 0 (by omega) (by omega) (by omega), e 2 (by omega) (by omega) (by omega), e 3 (by omega) (by omega) (by omega), e 4 (by omega) (by omega) (by omega), e 5 (by omega) (by omega) (by omega), e 6 (by omega) (by omega) (by omega), e 7 (by omega) (by omega) (by omega)]
      exact this
    unfold ruleF
    rw [pieces_spl, hsp, hfl]
    simp [hea, hag]
end Go.Proofs.YthpndgcaoeokeaaGreatDoor
namespace Go.Proofs.YthpndgcaoeokeaaGreatDoor
open Go.RowKit

theorem spl_len (c : UInt8) : ∀ l : List UInt8, ((spl c l).map fun p => p.length + 1).sum = l.length + 1
  | [] => by simp [spl]
  | a :: r => by
    have ih := spl_len c r
    rw [spl]
    by_cases ha : a = c
    · rw [if_pos ha, List.map_cons, List.sum_cons, ih]; simp; omega
    · rw [if_neg ha]
      cases hs : spl c r with
      | nil => exact absurd hs (spl_ne c r)
      | cons q t => rw [hs] at ih; simp only [List.map_cons, List.sum_cons, List.length_cons] at ih ⊢; omega
theorem spl_all (c : UInt8) : ∀ (l : List UInt8) (x : UInt8), x ∈ l → x = c ∨ ∃ p ∈ spl c l, x ∈ p
  | a :: r, x, h => by
    have ih := spl_all c r
    rw [spl]
    by_cases ha : a = c
    · rw [if_pos ha]
      rcases List.mem_cons.1 h with rfl | h
      · exact .inl ha
      · rcases ih x h with h | ⟨p, hp, hx⟩
        · exact .inl h
        · exact .inr ⟨p, List.mem_cons_of_mem _ hp, hx⟩
    · rw [if_neg ha]
      cases hs : spl c r with
      | nil => exact absurd hs (spl_ne c r)
      | cons q t =>
        rw [hs] at ih
        rcases List.mem_cons.1 h with rfl | h
        · exact .inr ⟨_, List.mem_cons_self, List.mem_cons_self⟩
        · rcases ih x h with h | ⟨p, hp, hx⟩
          · exact .inl h
          · rcases List.mem_cons.1 hp with rfl | hp
            · exact .inr ⟨_, List.mem_cons_self, List.mem_cons_of_mem _ hx⟩
            · exact .inr ⟨p, List.mem_cons_of_mem _ hp, hx⟩
theorem sum_cap (n : Nat) : ∀ ps : List (List UInt8), (∀ p ∈ ps, p.length ≤ n) → (ps.map fun p => p.length + 1).sum ≤ ps.length * (n + 1)
  | [], _ => by simp
  | p :: r, h => by
    have h1 := h p (by simp)
    have h2 := sum_cap n r fun q hq => h q (by simp [hq])
    rw [List.map_cons, List.sum_cons, List.length_cons, Nat.succ_mul]
    omega
theorem rds_each {α : Type} {rd : List UInt8 → Option α} {Q : List UInt8 → Prop} (hq : ∀ v z, rd v = some z → Q v) : ∀ {ps : List (List UInt8)} {zs : List α}, rds rd ps = some zs → ∀ p ∈ ps, Q p
  | [], zs, _, p, hp => by simp at hp
  | l :: r, zs, h, p, hp => by
    rw [rds] at h
    cases h1 : rd l with
    | none => rw [h1] at h; cases h
    | some a =>
      rw [h1] at h
      cases h2 : rds rd r with
      | none => simp only [h2] at h; cases h
      | some b =>
        rcases List.mem_cons.1 hp with rfl | hp
        · exact hq _ _ h1
        · exact rds_each hq h2 p hp
theorem lsF_nice {α : Type} {rd : List UInt8 → Option α} {n : Nat} (hq : ∀ v z, rd v = some z → Nice n v) {v : List UInt8} {zs : List α} (h : lsF rd (some v) = some zs) : Nice (20 * (n + 1)) v := by
  unfold lsF at h
  simp only [] at h
  split at h
  case isFalse => cases h
  rename_i hl
  have he := rds_each hq h
  have h1 := spl_len 44 v
  have h2 := sum_cap n (spl 44 v) fun p hp => (he p hp).1
  refine ⟨?_, fun hc => ?_⟩
  · have h3 : (spl 44 v).length * (n + 1) ≤ 20 * (n + 1) := Nat.mul_le_mul_right _ hl
    omega
  · rcases spl_all 44 v 13 hc with h | ⟨p, hp, hx⟩
    · exact absurd h (by decide)
    · exact (he p hp).2 hx
theorem wi_nice {lo hi z : Int} {v : List UInt8} (h : wiF lo hi v = some z) : Nice 10 v := by
  unfold wiF at h
  split at h
  · rename_i hw
    unfold wiB at hw
    simp only [Bool.and_eq_true] at hw
    exact (num_nice hw.1.1).to (by omega)
  · cases h
theorem sgn_nice {m : Int} {v : List UInt8} (h : sgn v m ≠ 0) : Nice 8 v := by
  unfold sgn at h
  split at h
  · rename_i h0
    split at h
    · rename_i hw
      unfold within at hw
      simp only [Bool.and_eq_true] at hw
      have h1 := num_nice hw.1.1
      cases v with
      | nil => cases h0
      | cons a r =>
        simp only [List.head?_cons, Option.some.injEq] at h0
        subst h0
        rw [List.tail_cons] at h1
        refine ⟨by rw [List.length_cons]; have := h1.1; omega, fun hc => ?_⟩
        rcases List.mem_cons.1 hc with hc | hc
        · exact absurd hc (by decide)
        · exact h1.2 hc
    · exact absurd rfl h
  · split at h
    · rename_i hw
      unfold within at hw
      simp only [Bool.and_eq_true] at hw
      exact (num_nice hw.1.1).to (by omega)
    · exact absurd rfl h
theorem sg_nice {m z : Int} {v : List UInt8} (h : sgF m v = some z) : Nice 10 v := by
  unfold sgF at h
  split at h
  · cases h
  · rename_i hn
    exact (sgn_nice hn).to (by omega)
theorem day_nice {v : List UInt8} {k : Nat} (h : idx wdays v = some k) : Nice 2 v := by
  obtain ⟨h1, rfl⟩ := idx_get h
  have h2 : wdays.length = 7 := rfl
  rw [h2] at h1
  have h3 : ∀ k, k < 7 → (wdays.getD k []).length ≤ 2 ∧ 13 ∉ wdays.getD k [] := by decide
  exact h3 k h1
theorem wk_nice {v : List UInt8} {z : Int × Int} (h : wkF v = some z) : Nice 10 v := by
  unfold wkF at h
  split at h
  · cases h
  · rename_i k hk
    have h1 := day_nice hk
    split at h
    · rename_i h2
      have e : v.drop (v.length - 2) = v := by rw [show v.length - 2 = 0 by omega]; rfl
      rw [e] at h1
      exact h1.to (by omega)
    · split at h
      · cases h
      · rename_i hn
        have := (sgn_nice hn).app h1
        rw [List.take_append_drop] at this
        exact this
theorem cut_mem {s : ByteArray} {a n i : Nat} (h1 : a ≤ i) (h2 : i < a + n) (h3 : i < s.data.toList.length) : s.data.toList[i] ∈ cut s a n := by
  unfold cut
  refine List.mem_iff_getElem.2 ⟨i - a, by rw [List.length_take, List.length_drop]; omega, ?_⟩
  rw [List.getElem_take, List.getElem_drop]
  congr 1
  omega
theorem tim_nice {v : List UInt8} (h : timeB (ofL v) = true) : Nice 16 v := by
  obtain ⟨t1, t8, t15, ty, _, ⟨tm, _, td, _⟩, th, _, tn, _, ts, _⟩ := timeB_iff.1 h
  have e : (ofL v).data.toList = v := rfl
  have el : v.length = 16 := by rw [← t1]; exact (Array.length_toList (xs := (ofL v).data)).trans rfl
  refine ⟨by omega, fun hc => ?_⟩
  obtain ⟨i, hi, hx⟩ := List.mem_iff_getElem.1 hc
  have hd : ∀ a n, 0 ≤ digs (cut (ofL v) a n) → a ≤ i → i < a + n → False := fun a n h0 h1 h2 => by
    have hm := cut_mem (s := ofL v) h1 h2 (by rw [e]; exact hi)
    have hx' : (ofL v).data.toList[i]'(by rw [e]; exact hi) = 13 := hx
    rw [hx'] at hm
    unfold digs at h0
    split at h0
    · rename_i ha
      exact absurd (List.all_eq_true.1 ha 13 hm) (by decide)
    · omega
  have hp : ∀ p : Nat, at0 (ofL v) p ≠ 13 → i ≠ p := fun p h0 e' => by
    subst e'
    apply h0
    rw [← at0_get _ _ (show i < (ofL v).size by rw [t1]; omega)]
    have : (ofL v)[i]'(show i < (ofL v).size by rw [t1]; omega) = 13 := hx
    rw [this]; rfl
  have n8 := hp 8 (by rw [t8]; decide)
  have n15 := hp 15 (by rw [t15]; decide)
  by_cases q1 : i < 4
  · exact hd 0 4 (by omega) (by omega) (by omega)
  by_cases q2 : i < 6
  · exact hd 4 2 (by omega) (by omega) (by omega)
  by_cases q3 : i < 8
  · exact hd 6 2 (by omega) (by omega) (by omega)
  by_cases q4 : i < 11
  · exact hd 9 2 th (by omega) (by omega)
  by_cases q5 : i < 13
  · exact hd 11 2 tn (by omega) (by omega)
  · exact hd 13 2 ts (by omega) (by omega)

/-- how long a rule's parts may be -/
def capL : Nat → Nat
  | 0 => 7
  | 1 => 10
  | 2 => 10
  | 3 => 16
  | 4 => 220
  | 5 => 220
  | 6 => 220
  | 7 => 220
  | _ => 2
theorem part_nice {F : Nat → Option (List UInt8)} {r : RuleD} (h : Parts F r) {k : Nat} {v : List UInt8} (hk : k < 9) (hv : F k = some v) : Nice (capL k) v := by
  have hk' : k = 0 ∨ k = 1 ∨ k = 2 ∨ k = 3 ∨ k = 4 ∨ k = 5 ∨ k = 6 ∨ k = 7 ∨ k = 8 := by omega
  rcases hk' with rfl | rfl | rfl | rfl | rfl | rfl | rfl | rfl | rfl
  · have := h.fq
    rw [hv] at this
    obtain ⟨j, hj, _⟩ := Option.map_eq_some_iff.1 this
    obtain ⟨h1, h2⟩ := idx_get hj
    rw [Option.getD_some] at h2
    subst h2
    have h3 : freqNames.length = 4 := rfl
    rw [h3] at h1
    have h4 : ∀ k, k < 4 → (freqNames.getD k []).length ≤ 7 ∧ 13 ∉ freqNames.getD k [] := by decide
    exact h4 j h1
  · have := h.iv; rw [hv] at this; exact wi_nice this
  · have := h.ct; rw [hv] at this; exact wi_nice this
  · have := h.un
    rw [hv] at this
    unfold untF at this
    simp only [] at this
    split at this
    · exact tim_nice (by assumption)
    · cases this
  · have := h.ms; rw [hv] at this; exact lsF_nice (fun _ _ => wi_nice) this
  · have := h.mds; rw [hv] at this; exact lsF_nice (fun _ _ => sg_nice) this
  · have := h.wks; rw [hv] at this; exact lsF_nice (fun _ _ => wk_nice) this
  · have := h.pls; rw [hv] at this; exact lsF_nice (fun _ _ => sg_nice) this
  · have := h.ws
    rw [hv] at this
    obtain ⟨j, hj, _⟩ := Option.map_eq_some_iff.1 this
    exact day_nice hj
theorem join_len (c : UInt8) : ∀ ps : List (List UInt8), (Lib.join ps [c]).length ≤ (ps.map fun p => p.length + 1).sum
  | [] => by simp [Lib.join, List.intercalate]
  | [p] => by rw [Lib.join_one]; simp
  | p :: q :: r => by
    have ih := join_len c (q :: r)
    have e : Lib.join (p :: q :: r) [c] = p ++ c :: Lib.join (q :: r) [c] := by unfold Lib.join; simp [List.intercalate, List.intersperse]
    rw [e, List.map_cons, List.sum_cons, List.length_append, List.length_cons]
    omega
theorem join_mem (c : UInt8) : ∀ (ps : List (List UInt8)) (x : UInt8), x ∈ Lib.join ps [c] → x = c ∨ ∃ p ∈ ps, x ∈ p
  | [], x, h => by simp [Lib.join, List.intercalate] at h
  | [p], x, h => by rw [Lib.join_one] at h; exact .inr ⟨p, by simp, h⟩
  | p :: q :: r, x, h => by
    have e : Lib.join (p :: q :: r) [c] = p ++ c :: Lib.join (q :: r) [c] := by unfold Lib.join; simp [List.intercalate, List.intersperse]
    rw [e] at h
    rcases List.mem_append.1 h with h | h
    · exact .inr ⟨p, by simp, h⟩
    · rcases List.mem_cons.1 h with h | h
      · exact .inl h
      · rcases join_mem c (q :: r) x h with h | ⟨p', hp, hx⟩
        · exact .inl h
        · exact .inr ⟨p', List.mem_cons_of_mem _ hp, hx⟩
def capS : Nat → Nat
  | 0 => 0
  | k + 1 => capS k + ((partNames.getD k []).length + capL k + 2)
theorem txts_cap {F : Nat → Option (List UInt8)} {r : RuleD} (h : Parts F r) : ∀ k, k ≤ 9 → ((txts F k).map fun p => p.length + 1).sum ≤ capS k ∧ ∀ p ∈ txts F k, 13 ∉ p
  | 0, _ => by simp [txts]
  | k + 1, hk => by
    obtain ⟨i1, i2⟩ := txts_cap h k (by omega)
    rw [txts]
    have hn : ∀ k, k < 9 → 13 ∉ partNames.getD k [] := by decide
    have h1 : ((txt1 F k).map fun p => p.length + 1).sum ≤ (partNames.getD k []).length + capL k + 2 ∧ ∀ p ∈ txt1 F k, 13 ∉ p := by
      unfold txt1
      cases hF : F k with
      | none => simp
      | some v =>
        have hv := part_nice h (by omega) hF
        simp only []
        split
        · refine ⟨?_, fun p hp => ?_⟩
          · simp only [List.map_cons, List.map_nil, List.sum_cons, List.sum_nil, List.length_append, List.length_cons]
            have := hv.1
            omega
          · simp only [List.mem_singleton] at hp
            subst hp
            simp only [List.mem_append, List.mem_cons, not_or]
            exact ⟨hn k (by omega), by decide, hv.2⟩
        · simp
    refine ⟨?_, fun p hp => (List.mem_append.1 hp).elim (i2 p) (h1.2 p)⟩
    rw [List.map_append, List.sum_append, capS]
    have := h1.1
    omega
theorem rule_nice {v : List UInt8} {F : Nat → Option (List UInt8)} (h : ruleF v = some F) : Nice 999 (Lib.join (txts F 9) [59]) := by
  obtain ⟨r, hr⟩ := (rule_iff v F).1 h
  obtain ⟨h1, h2⟩ := txts_cap hr.2.2.1 9 (by omega)
  have h3 := join_len 59 (txts F 9)
  have h4 : capS 9 = 999 := by decide
  refine ⟨by omega, fun hc => ?_⟩
  rcases join_mem 59 _ _ hc with h | ⟨p, hp, hx⟩
  · exact absurd h (by decide)
  · exact h2 p hp hx
theorem ptxs_nice (ex : List Int) (h : ex.length ≤ 20) : Nice 340 (Lib.join (ex.map ptx) [44]) := by
  have h3 := join_len 44 (ex.map ptx)
  have h4 := sum_cap 16 (ex.map ptx) fun p hp => by
    obtain ⟨t, _, rfl⟩ := List.mem_map.1 hp
    exact (ptx_nice t).1
  rw [List.length_map] at h4
  refine ⟨by omega, fun hc => ?_⟩
  rcases join_mem 44 _ _ hc with h | ⟨p, hp, hx⟩
  · exact absurd h (by decide)
  · obtain ⟨t, _, rfl⟩ := List.mem_map.1 hp
    exact (ptx_nice t).2 hx
theorem dec_nice (n : Int) (h0 : 0 ≤ n) (h1 : n < 10000000) : Nice 7 (Lib.decDigits n.toNat) := by
  rw [dec_is n h0 h1]
  exact num_nice (dgs_num n h0 h1).1
end Go.Proofs.YthpndgcaoeokeaaGreatDoor
namespace Go.Proofs.YthpndgcaoeokeaaGreatDoor
open Go.RowKit

def pg (g : Nat → Option (List UInt8)) : Nat → List (Nat × List UInt8)
  | 0 => []
  | k + 1 => pg g k ++ op1 k (g k)
theorem pg_mem (g : Nat → Option (List UInt8)) : ∀ k p, p ∈ pg g k ↔ p.1 < k ∧ g p.1 = some p.2
  | 0, p => by simp [pg]
  | k + 1, p => by
    rw [pg, List.mem_append, pg_mem g k p, op1_mem]
    constructor
    · rintro (⟨h1, h2⟩ | ⟨h1, h2⟩)
      · exact ⟨by omega, h2⟩
      · exact ⟨by omega, by rw [h1]; exact h2⟩
    · rintro ⟨h1, h2⟩
      by_cases e : p.1 = k
      · exact .inr ⟨e, by rw [← e]; exact h2⟩
      · exact .inl ⟨by omega, h2⟩
theorem pg_nodup (g : Nat → Option (List UInt8)) : ∀ k, ((pg g k).map (·.1)).Nodup
  | 0 => by simp [pg]
  | k + 1 => by
    rw [pg, List.map_append, List.nodup_append]
    refine ⟨pg_nodup g k, ?_, ?_⟩
    · unfold op1; cases g k <;> simp
    · intro a ha b hb e
      subst e
      obtain ⟨p, hp, rfl⟩ := List.mem_map.1 ha
      obtain ⟨q, hq, e⟩ := List.mem_map.1 hb
      have h1 := ((pg_mem g k p).1 hp).1
      have h2 := ((op1_mem k _ q).1 hq).1
      omega
theorem pg_ofP (g : Nat → Option (List UInt8)) (hg : ∀ k, 9 ≤ k → g k = none) : ofP (pg g 9) (fun _ => none) = g := by
  funext j
  cases hs : g j with
  | none =>
    rw [ofP_out]
    intro hm
    obtain ⟨p, hp, e⟩ := List.mem_map.1 hm
    have := ((pg_mem g 9 p).1 hp).2
    rw [e, hs] at this
    cases this
  | some v =>
    refine ofP_in _ _ _ _ (pg_nodup g 9) ((pg_mem g 9 (j, v)).2 ⟨?_, hs⟩)
    show j < 9
    by_cases h : j < 9
    · exact h
    · rw [hg j (by omega)] at hs; cases hs
theorem fields_pg (g : Nat → Option (List UInt8)) (hg : ∀ k, 9 ≤ k → g k = none) (hn : ∀ k v, g k = some v → 13 ∉ v) (hl : (txl (beginL :: (pg g 9).map lnP ++ [endL])).length ≤ 2000) :
    fieldsF (txl (beginL :: (pg g 9).map lnP ++ [endL])) = if must g && words2 g then some g else none := by
  rw [fields_ps (pg g 9) (fun p hp => ⟨((pg_mem g 9 p).1 hp).1, hn _ _ ((pg_mem g 9 p).1 hp).2⟩) (pg_nodup g 9) hl, pg_ofP g hg]

/-- an event's properties as they are printed -/
def gOf (u : List UInt8) (st ln : Int) (rt : Option (List UInt8)) (ex xt : List Int) (tr : Bool) (k : Int) : Nat → Option (List UInt8)
  | 0 => some u
  | 1 => some (ptx st)
  | 2 => some ([80, 84] ++ Lib.decDigits ln.toNat ++ [83])
  | 3 => none
  | 4 => rt
  | 5 => if ex.length = 0 then none else some (Lib.join (ex.map ptx) [44])
  | 6 => if xt.length = 0 then none else some (Lib.join (xt.map ptx) [44])
  | 7 => if tr then some trspL else none
  | 8 => if k = 1 then some tentL else if k = 2 then some cancL else none
  | _ => none
theorem evT_pg (u : List UInt8) (st ln : Int) (rt : Option (List UInt8)) (ex xt : List Int) (tr : Bool) (k : Int) :
    evT u st ln rt ex xt tr k = beginL :: (pg (gOf u st ln rt ex xt tr k) 9).map lnP ++ [endL] := by
  have e4 : evR rt = (op1 4 rt).map lnP := by cases rt <;> rfl
  have e5 : evX ex = (op1 5 (if ex.length = 0 then none else some (Lib.join (ex.map ptx) [44]))).map lnP := by unfold evX; split <;> rfl
  have e6 : evD xt = (op1 6 (if xt.length = 0 then none else some (Lib.join (xt.map ptx) [44]))).map lnP := by unfold evD; split <;> rfl
  have e7 : evO tr = (op1 7 (if tr then some trspL else none)).map lnP := by cases tr <;> rfl
  have e8 : evS k = (op1 8 (if k = 1 then some tentL else if k = 2 then some cancL else none)).map lnP := by
    unfold evS
    split
    · rfl
    · split <;> rfl
  have e0 : ev4 u st ln = beginL :: ([(0, u), (1, ptx st), (2, [80, 84] ++ Lib.decDigits ln.toNat ++ [83])] : List (Nat × List UInt8)).map lnP := rfl
  have ep : pg (gOf u st ln rt ex xt tr k) 9 = [(0, u), (1, ptx st), (2, [80, 84] ++ Lib.decDigits ln.toNat ++ [83])] ++ op1 4 rt ++ op1 5 (if ex.length = 0 then none else some (Lib.join (ex.map ptx) [44])) ++ op1 6 (if xt.length = 0 then none else some (Lib.join (xt.map ptx) [44])) ++ op1 7 (if tr then some trspL else none) ++ op1 8 (if k = 1 then some tentL else if k = 2 then some cancL else none) := rfl
  unfold evT
  rw [ep, e0, e4, e5, e6, e7, e8]
  simp only [List.map_append]
  rfl
theorem txl_len1 (l : List UInt8) : (txl [l]).length = l.length + 2 := by rw [txl_cons]; unfold txl; simp
theorem opt_len (k n : Nat) (o : Option (List UInt8)) (h : ∀ v, o = some v → v.length ≤ n) : (txl ((op1 k o).map lnP)).length ≤ (propNames.getD k []).length + n + 3 := by
  cases o with
  | none => unfold op1 txl; simp
  | some v =>
    have := h v rfl
    unfold op1
    rw [List.map_cons, List.map_nil, txl_len1]
    unfold lnP
    rw [List.length_append, List.length_cons]
    simp only []
    omega

/-- what was read, where it was -/
theorem read_facts {s : List UInt8} {d : EvD} (h : readF s = .ok d) : fieldsF s = some d.f ∧ timF (val d.f 1) = some d.st ∧ lnF d.st (d.f 3) (d.f 2) = some d.ln ∧ tmO (d.f 5) = some d.ex ∧ tmO (d.f 6) = some d.xt ∧ rlO (d.f 4) = some d.rl := by
  unfold readF at h
  cases hf : fieldsF s with
  | none => rw [hf] at h; cases h
  | some f =>
    rw [hf] at h
    simp only [] at h
    cases h1 : timF (val f 1) with
    | none => rw [h1] at h; cases h
    | some st =>
      rw [h1] at h
      simp only [] at h
      cases h2 : lnF st (f 3) (f 2) with
      | none => rw [h2] at h; cases h
      | some ln =>
        rw [h2] at h
        simp only [] at h
        cases h3 : tmO (f 5) with
        | none => rw [h3] at h; cases h
        | some ex =>
          rw [h3] at h
          simp only [] at h
          cases h4 : tmO (f 6) with
          | none => rw [h4] at h; cases h
          | some xt =>
            rw [h4] at h
            simp only [] at h
            cases h5 : rlO (f 4) with
            | none => rw [h5] at h; cases h
            | some rl =>
              rw [h5] at h
              cases h
              exact ⟨rfl, h1, h2, h3, h4, h5⟩
theorem fields_must {s : List UInt8} {f : Nat → Option (List UInt8)} (h : fieldsF s = some f) : must f = true ∧ words2 f = true := by
  unfold fieldsF at h
  split at h
  · cases hf : flds propNames 58 (innerL (evLs s)) (fun _ => none) with
    | none => rw [hf] at h; cases h
    | some g =>
      rw [hf] at h
      simp only [] at h
      split at h
      · rename_i hm
        cases h
        simpa only [Bool.and_eq_true] using hm
      · cases h
  · cases h
theorem kind_is {f : Nat → Option (List UInt8)} (h : words2 f = true) : kindOf f = 1 ∨ kindOf f = 2 ∨ kindOf f = 3 := by
  unfold words2 at h
  unfold kindOf
  by_cases h8 : has f 8 = true
  · rw [if_pos h8]
    rw [h8] at h
    simp only [Bool.true_and, Bool.and_eq_true, Bool.not_eq_true', decide_eq_false_iff_not] at h
    have := h.2
    unfold wrd at this ⊢
    split
    · exact .inl rfl
    · split
      · exact .inr (.inl rfl)
      · split
        · exact .inr (.inr rfl)
        · rename_i a b c
          rw [if_neg a, if_neg b, if_neg c] at this
          exact absurd rfl this
  · rw [if_neg h8]; exact .inl rfl

/-- the event as it is read from what it prints -/
def agD (d : EvD) : EvD := ⟨gOf (val d.f 0) d.st d.ln (d.rl.map fun F => Lib.join (txts F 9) [59]) d.ex d.xt (openOf d.f) (kindOf d.f - 1), d.st, d.ln, d.ex, d.xt, d.rl.map shF⟩
theorem read_again {s : List UInt8} {d : EvD} (h : readF s = .ok d) : readF (chkT d) = .ok (agD d) := by
  obtain ⟨hf, h1, h2, h3, h4, h5⟩ := read_facts h
  obtain ⟨hm, hw⟩ := fields_must hf
  have b1 := timF_rg h1
  have b2 := lnF_bd h2
  obtain ⟨c1, c2, c3⟩ := tmO_facts h3
  obtain ⟨d1, d2, d3⟩ := tmO_facts h4
  have hk := kind_is hw
  have hu : nameB (ba (val d.f 0)) = true := by
    unfold must at hm
    simp only [Bool.and_eq_true] at hm
    exact hm.2
  have nu := name_nice hu
  have hr : ∀ v, (d.rl.map fun F => Lib.join (txts F 9) [59]) = some v → Nice 999 v ∧ ruleF v = some ((d.rl.getD fun _ => none) |> shF) := by
    intro v hv
    cases hrl : d.rl with
    | none => rw [hrl] at hv; cases hv
    | some F =>
      rw [hrl] at hv h5
      cases hv
      unfold rlO at h5
      cases h40 : d.f 4 with
      | none => rw [h40] at h5; cases h5
      | some v0 =>
        rw [h40] at h5
        obtain ⟨G, hG, e⟩ := Option.map_eq_some_iff.1 h5
        cases e
        exact ⟨rule_nice hG, rule_again hG⟩
  have nd := dec_nice d.ln (by omega) (by omega)
  have n2 : Nice 10 ([80, 84] ++ Lib.decDigits d.ln.toNat ++ [83]) := ((show Nice 2 [80, 84] from ⟨by decide, by decide⟩).app nd).app (show Nice 1 [83] from ⟨by decide, by decide⟩)
  have n5 : ∀ v, (if d.ex.length = 0 then none else some (Lib.join (d.ex.map ptx) [44])) = some v → Nice 340 v := fun v hv => by
    split at hv
    · cases hv
    · cases hv; exact ptxs_nice _ c2
  have n6 : ∀ v, (if d.xt.length = 0 then none else some (Lib.join (d.xt.map ptx) [44])) = some v → Nice 340 v := fun v hv => by
    split at hv
    · cases hv
    · cases hv; exact ptxs_nice _ d2
  have n7 : ∀ v, (if openOf d.f then some trspL else none) = some v → Nice 11 v := fun v hv => by
    split at hv
    · cases hv; exact ⟨by decide, by decide⟩
    · cases hv
  have n8 : ∀ v, (if kindOf d.f - 1 = 1 then some tentL else if kindOf d.f - 1 = 2 then some cancL else none) = some v → Nice 9 v := fun v hv => by
    split at hv
    · cases hv; exact ⟨by decide, by decide⟩
    · split at hv
      · cases hv; exact ⟨by decide, by decide⟩
      · cases hv
  have hg9 : ∀ k, 9 ≤ k → (agD d).f k = none := fun k hk => by
    obtain ⟨j, rfl⟩ : ∃ j, k = j + 9 := ⟨k - 9, by omega⟩
    rfl
  have hn : ∀ k v, (agD d).f k = some v → 13 ∉ v := by
    intro k v hv
    by_cases h9 : 9 ≤ k
    · rw [hg9 k h9] at hv; cases hv
    have hk' : k = 0 ∨ k = 1 ∨ k = 2 ∨ k = 3 ∨ k = 4 ∨ k = 5 ∨ k = 6 ∨ k = 7 ∨ k = 8 := by omega
    rcases hk' with rfl | rfl | rfl | rfl | rfl | rfl | rfl | rfl | rfl
    · cases hv; exact nu.2
    · cases hv; exact (ptx_nice _).2
    · cases hv; exact n2.2
    · cases hv
    · exact (hr v hv).1.2
    · exact (n5 v hv).2
    · exact (n6 v hv).2
    · exact (n7 v hv).2
    · exact (n8 v hv).2
  have et : chkT d = txl (beginL :: (pg (agD d).f 9).map lnP ++ [endL]) := by unfold chkT; rw [evT_pg]; rfl
  have hl : (txl (beginL :: (pg (agD d).f 9).map lnP ++ [endL])).length ≤ 2000 := by
    have ep : beginL :: (pg (agD d).f 9).map lnP ++ [endL] = [beginL] ++ (op1 0 (some (val d.f 0))).map lnP ++ (op1 1 (some (ptx d.st))).map lnP ++ (op1 2 (some ([80, 84] ++ Lib.decDigits d.ln.toNat ++ [83]))).map lnP ++ (op1 4 (d.rl.map fun F => Lib.join (txts F 9) [59])).map lnP ++ (op1 5 (if d.ex.length = 0 then none else some (Lib.join (d.ex.map ptx) [44]))).map lnP ++ (op1 6 (if d.xt.length = 0 then none else some (Lib.join (d.xt.map ptx) [44]))).map lnP ++ (op1 7 (if openOf d.f then some trspL else none)).map lnP ++ (op1 8 (if kindOf d.f - 1 = 1 then some tentL else if kindOf d.f - 1 = 2 then some cancL else none)).map lnP ++ [endL] := by
      have : pg (agD d).f 9 = op1 0 (some (val d.f 0)) ++ op1 1 (some (ptx d.st)) ++ op1 2 (some ([80, 84] ++ Lib.decDigits d.ln.toNat ++ [83])) ++ op1 4 (d.rl.map fun F => Lib.join (txts F 9) [59]) ++ op1 5 (if d.ex.length = 0 then none else some (Lib.join (d.ex.map ptx) [44])) ++ op1 6 (if d.xt.length = 0 then none else some (Lib.join (d.xt.map ptx) [44])) ++ op1 7 (if openOf d.f then some trspL else none) ++ op1 8 (if kindOf d.f - 1 = 1 then some tentL else if kindOf d.f - 1 = 2 then some cancL else none) := rfl
      rw [this]
      simp only [List.map_append, List.cons_append, List.append_assoc, List.nil_append]
    rw [ep]
    simp only [txl_app, List.length_append]
    have l0 := opt_len 0 12 (some (val d.f 0)) (fun v hv => by cases hv; exact nu.1)
    have l1 := opt_len 1 16 (some (ptx d.st)) (fun v hv => by cases hv; exact (ptx_nice _).1)
    have l2 := opt_len 2 10 (some ([80, 84] ++ Lib.decDigits d.ln.toNat ++ [83])) (fun v hv => by cases hv; exact n2.1)
    have l4 := opt_len 4 999 _ (fun v hv => (hr v hv).1.1)
    have l5 := opt_len 5 340 _ (fun v hv => (n5 v hv).1)
    have l6 := opt_len 6 340 _ (fun v hv => (n6 v hv).1)
    have l7 := opt_len 7 11 _ (fun v hv => (n7 v hv).1)
    have l8 := opt_len 8 9 _ (fun v hv => (n8 v hv).1)
    have q0 : (propNames.getD 0 []).length = 3 := rfl
    have q1 : (propNames.getD 1 []).length = 7 := rfl
    have q2 : (propNames.getD 2 []).length = 8 := rfl
    have q4 : (propNames.getD 4 []).length = 5 := rfl
    have q5 : (propNames.getD 5 []).length = 6 := rfl
    have q6 : (propNames.getD 6 []).length = 5 := rfl
    have q7 : (propNames.getD 7 []).length = 6 := rfl
    have q8 : (propNames.getD 8 []).length = 6 := rfl
    have qb : (txl [beginL]).length = 14 := rfl
    have qe : (txl [endL]).length = 12 := rfl
    omega
  have hfl := fields_pg (agD d).f hg9 hn hl
  have hmust : must (agD d).f = true := by
    show (true && true && (true != false) && nameB (ba (val d.f 0))) = true
    rw [hu]
    rfl
  have hwords : words2 (agD d).f = true := by
    have e7 : (agD d).f 7 = if openOf d.f then some trspL else none := rfl
    have e8 : (agD d).f 8 = if kindOf d.f - 1 = 1 then some tentL else if kindOf d.f - 1 = 2 then some cancL else none := rfl
    unfold words2 has val
    rw [e7, e8]
    cases openOf d.f <;> rcases hk with hk | hk | hk <;> rw [hk] <;> decide
  rw [hmust, hwords] at hfl
  rw [← et] at hfl
  simp only [Bool.and_self, if_true] at hfl
  have r1 : timF (val (agD d).f 1) = some d.st := tim_again b1.1 b1.2
  have r2 : lnF d.st ((agD d).f 3) ((agD d).f 2) = some d.ln := by
    show (match lenL ([80, 84] ++ Lib.decDigits d.ln.toNat ++ [83]) with | none => none | some z => if 1 ≤ z ∧ z ≤ 2678400 then some z else none) = some d.ln
    rw [len_again d.ln b2.1 b2.2]
    simp only [if_pos b2]
  have r3 : tmO ((agD d).f 5) = some d.ex := by
    show tmO (if d.ex.length = 0 then none else some (Lib.join (d.ex.map ptx) [44])) = some d.ex
    by_cases e : d.ex.length = 0
    · rw [if_pos e, List.eq_nil_of_length_eq_zero e]; rfl
    · rw [if_neg e]; exact tmO_again (fun q => e (by rw [q]; rfl)) c1 c2 c3
  have r4 : tmO ((agD d).f 6) = some d.xt := by
    show tmO (if d.xt.length = 0 then none else some (Lib.join (d.xt.map ptx) [44])) = some d.xt
    by_cases e : d.xt.length = 0
    · rw [if_pos e, List.eq_nil_of_length_eq_zero e]; rfl
    · rw [if_neg e]; exact tmO_again (fun q => e (by rw [q]; rfl)) d1 d2 d3
  have r5 : rlO ((agD d).f 4) = some (d.rl.map shF) := by
    show rlO (d.rl.map fun F => Lib.join (txts F 9) [59]) = some (d.rl.map shF)
    cases hrl : d.rl with
    | none => rfl
    | some F =>
      rw [hrl] at hr
      have := (hr _ rfl).2
      show (ruleF (Lib.join (txts F 9) [59])).map some = _
      rw [this]
      rfl
  rw [read_of hfl r1 r2 r3 r4, r5]
  rfl
theorem txts_shown (F : Nat → Option (List UInt8)) (k : Nat) : txts (shF F) k = txts F k := by rw [txts_prs, txts_prs, prs_twice]
theorem chk_again {s : List UInt8} {d : EvD} (h : readF s = .ok d) : chkT (agD d) = chkT d := by
  obtain ⟨hf, _⟩ := read_facts h
  have hk := kind_is (fields_must hf).2
  have e0 : val (agD d).f 0 = val d.f 0 := rfl
  have er : ((agD d).rl.map fun F => Lib.join (txts F 9) [59]) = d.rl.map fun F => Lib.join (txts F 9) [59] := by
    show ((d.rl.map shF).map fun F => Lib.join (txts F 9) [59]) = _
    cases d.rl with
    | none => rfl
    | some F => show some (Lib.join (txts (shF F) 9) [59]) = _; rw [txts_shown]; rfl
  have e7 : openOf (agD d).f = openOf d.f := by
    have e7 : (agD d).f 7 = if openOf d.f then some trspL else none := rfl
    show decide (((agD d).f 7).getD [] = trspL) = openOf d.f
    rw [e7]
    cases openOf d.f <;> decide
  have e8 : kindOf (agD d).f = kindOf d.f := by
    have e8 : (agD d).f 8 = if kindOf d.f - 1 = 1 then some tentL else if kindOf d.f - 1 = 2 then some cancL else none := rfl
    show (if ((agD d).f 8).isSome then wrd (((agD d).f 8).getD []) confL tentL cancL else 1) = kindOf d.f
    rw [e8]
    rcases hk with hk | hk | hk <;> rw [hk] <;> decide
  unfold chkT
  rw [e0, er, e7, e8]
  rfl
theorem ins_again {s : List UInt8} {d : EvD} (h : readF s = .ok d) (f t : Int) : insE (chkT d) f t = insE s f t := by
  unfold insE
  rw [h, read_again h]
  have e1 : evTimes (agD d) t = evTimes d t := by
    have e2 : hrOf (agD d) = hrOf d := by
      show (d.rl.map shF).isSome = d.rl.isSome
      cases d.rl <;> rfl
    have e3 : rlOf (agD d) = rlOf d := by
      show (match d.rl.map shF with | none => noRule | some F => ruleOf F) = match d.rl with | none => noRule | some F => ruleOf F
      cases d.rl with
      | none => rfl
      | some F => exact rule_shown F
    unfold evTimes
    rw [e2, e3]
    rfl
  simp only [e1]
  rfl
/-- Check of what Check printed -/
theorem chkV_again {s : List UInt8} {d : EvD} (h : readF s = .ok d) : chkV (chkT d) = .tuple #[.string ⟨(chkT d).toArray⟩, .int .i64 0] := by
  unfold chkV
  rw [read_again h]
  simp only [chk_again h]
end Go.Proofs.YthpndgcaoeokeaaGreatDoor
namespace Go.Proofs.YthpndgcaoeokeaaGreatDoor
open Go.RowKit Go.Sort

set_option maxRecDepth 100000 in
set_option maxHeartbeats 4000000 in
theorem printed_err (S : ByteArray) (f t x : Int) (w : World) (hx : x ≠ 0)
    (K0 : Hid (∀ W, Below w.heap.size w W → Calls Tryz.prog 16 #[] W fun e w' => e = .returned (.bool true) ∧ Below W.heap.size W w'))
    (C1 : Hid (∀ W, Below w.heap.size w W → Calls Tryz.prog 22 #[.string S] W fun e w' => e = .returned (.tuple #[.string ⟨#[]⟩, .int .i64 x]) ∧ Below W.heap.size W w'))
    (I1 : Hid (∀ W, Below w.heap.size w W → Calls Tryz.prog 23 #[.string S, .int .i64 f, .int .i64 t] W fun e w' => e = .returned (.tuple #[.slice none 0 0, .int .i64 x]) ∧ Below W.heap.size W w')) :
    Calls Tryz.prog 7 #[.string S, .int .i64 f, .int .i64 t] w fun e w' => e = .returned (.bool true) ∧ Below w.heap.size w w' := by
  have hx1 : (x != 0) = true := by simp [hx]
  have hx2 : (x == x) = true := by simp
  go_enter Tryz.func7, Tryz.ntmps7
  go_wp2_with fail
  refine (K0.out _ (Below.refl _ _)).mono ?_
  rintro e w1 ⟨rfl, hb1⟩
  go_wp2_with fail
  refine (C1.out _ hb1).mono ?_
  rintro e w2 ⟨rfl, hb2⟩
  replace hb2 := hb1.trans (hb2.mono hb1.size)
  go_wp2_with fail
  refine (I1.out _ hb2).mono ?_
  rintro e w3 ⟨rfl, hb3⟩
  replace hb3 := hb2.trans (hb3.mono hb2.size)
  go_wp2_with fail
  go_ret
  exact ⟨rfl, hb3⟩

set_option maxRecDepth 100000 in
set_option maxHeartbeats 4000000 in
theorem printed_none (S T : ByteArray) (f t x : Int) (w : World)
    (K0 : Hid (∀ W, Below w.heap.size w W → Calls Tryz.prog 16 #[] W fun e w' => e = .returned (.bool true) ∧ Below W.heap.size W w'))
    (C1 : Hid (∀ W, Below w.heap.size w W → Calls Tryz.prog 22 #[.string S] W fun e w' => e = .returned (.tuple #[.string T, .int .i64 0]) ∧ Below W.heap.size W w'))
    (I1 : Hid (∀ W, Below w.heap.size w W → Calls Tryz.prog 23 #[.string S, .int .i64 f, .int .i64 t] W fun e w' => (∃ p c, e = .returned (.tuple #[.slice p 0 c, .int .i64 x])) ∧ Below W.heap.size W w'))
    (C2 : Hid (∀ W, Below w.heap.size w W → Calls Tryz.prog 22 #[.string T] W fun e w' => e = .returned (.tuple #[.string T, .int .i64 0]) ∧ Below W.heap.size W w'))
    (I2 : Hid (∀ W, Below w.heap.size w W → Calls Tryz.prog 23 #[.string T, .int .i64 f, .int .i64 t] W fun e w' => (∃ p c, e = .returned (.tuple #[.slice p 0 c, .int .i64 x])) ∧ Below W.heap.size W w')) :
    Calls Tryz.prog 7 #[.string S, .int .i64 f, .int .i64 t] w fun e w' => e = .returned (.bool true) ∧ Below w.heap.size w w' := by
  have hTT : (T.toList == T.toList) = true := by simp
  have hTN : (T.toList != T.toList) = false := by simp
  have hx2 : (x != x) = false := by simp
  have hx3 : (x == x) = true := by simp
  go_enter Tryz.func7, Tryz.ntmps7
  go_wp2_with fail
  refine (K0.out _ (Below.refl _ _)).mono ?_
  rintro e w1 ⟨rfl, hb1⟩
  go_wp2_with fail
  refine (C1.out _ hb1).mono ?_
  rintro e w2 ⟨rfl, hb2⟩
  replace hb2 := hb1.trans (hb2.mono hb1.size)
  go_wp2_with fail
  refine (I1.out _ hb2).mono ?_
  rintro e w3 ⟨⟨p1, c1, rfl⟩, hb3⟩
  replace hb3 := hb2.trans (hb3.mono hb2.size)
  go_wp2_with fail
  refine (C2.out _ hb3).mono ?_
  rintro e w4 ⟨rfl, hb4⟩
  replace hb4 := hb3.trans (hb4.mono hb3.size)
  go_wp2_with fail
  refine (I2.out _ hb4).mono ?_
  rintro e w5 ⟨⟨p2, c2, rfl⟩, hb5⟩
  replace hb5 := hb4.trans (hb5.mono hb4.size)
  clear K0 C1 I1 C2 I2 hb1 hb2 hb3 hb4
  go_wp2_with fail
  go_loopw [16] (fun t wr => t = .int .i64 0 ∧ wr = w5) (fun _ _ => 0)
  case atStart => exact ⟨rfl, rfl⟩
  case round =>
    obtain ⟨rfl, rfl⟩ := hrel
    go_wp2_with fail
    go_ret
    exact ⟨rfl, hb5⟩

set_option maxRecDepth 100000 in
set_option maxHeartbeats 8000000 in
theorem printed_list (S T : ByteArray) (f t : Int) (L : List (Int × Int)) (w : World) (hL0 : 0 < L.length) (hL1 : L.length ≤ 3000)
    (K0 : Hid (∀ W, Below w.heap.size w W → Calls Tryz.prog 16 #[] W fun e w' => e = .returned (.bool true) ∧ Below W.heap.size W w'))
    (C1 : Hid (∀ W, Below w.heap.size w W → Calls Tryz.prog 22 #[.string S] W fun e w' => e = .returned (.tuple #[.string T, .int .i64 0]) ∧ Below W.heap.size W w'))
    (I1 : Hid (∀ W, Below w.heap.size w W → Calls Tryz.prog 23 #[.string S, .int .i64 f, .int .i64 t] W fun e w' => (∃ v, e = .returned (.tuple #[v, .int .i64 0]) ∧ w'.ownsRow W.heap.size 39 2 v L.length (flatS L)) ∧ Below W.heap.size W w'))
    (C2 : Hid (∀ W, Below w.heap.size w W → Calls Tryz.prog 22 #[.string T] W fun e w' => e = .returned (.tuple #[.string T, .int .i64 0]) ∧ Below W.heap.size W w'))
    (I2 : Hid (∀ W, Below w.heap.size w W → Calls Tryz.prog 23 #[.string T, .int .i64 f, .int .i64 t] W fun e w' => (∃ v, e = .returned (.tuple #[v, .int .i64 0]) ∧ w'.ownsRow W.heap.size 39 2 v L.length (flatS L)) ∧ Below W.heap.size W w')) :
    Calls Tryz.prog 7 #[.string S, .int .i64 f, .int .i64 t] w fun e w' => e = .returned (.bool true) ∧ Below w.heap.size w w' := by
  have hTT : (T.toList == T.toList) = true := by simp
  have hTN : (T.toList != T.toList) = false := by simp
  go_enter Tryz.func7, Tryz.ntmps7
  go_wp2_with fail
  refine (K0.out _ (Below.refl _ _)).mono ?_
  rintro e w1 ⟨rfl, hb1⟩
  go_wp2_with fail
  refine (C1.out _ hb1).mono ?_
  rintro e w2 ⟨rfl, hb2⟩
  replace hb2 := hb1.trans (hb2.mono hb1.size)
  go_wp2_with fail
  refine (I1.out _ hb2).mono ?_
  rintro e w3 ⟨⟨v, rfl, hown⟩, hb3⟩
  replace hb3 := hb2.trans (hb3.mono hb2.size)
  rcases own_cellsN hown with ⟨_, h⟩ | ⟨g, cap, rfl, hg0, hg1, hcell⟩
  case inl => omega
  have HC1 := hide hcell
  clear hcell hown
  go_wp2_with fail
  refine (C2.out _ hb3).mono ?_
  rintro e w4 ⟨rfl, hb4'⟩
  have hb4 := hb3.trans (hb4'.mono hb3.size)
  have hg4 : g < w4.heap.size := Nat.lt_of_lt_of_le hg1 hb4'.size
  replace HC1 := hide fun j y hj => ((hb4'.cell (p := ⟨g, j, none⟩) hg1).trans (HC1.out j y hj) : w4.cell? ⟨g, j, none⟩ = some y)
  clear hb4'
  go_wp2_with fail
  refine (I2.out _ hb4).mono ?_
  rintro e w5 ⟨⟨v, rfl, hown⟩, hb5'⟩
  have hb5 := hb4.trans (hb5'.mono hb4.size)
  rcases own_cellsN hown with ⟨_, h⟩ | ⟨g', cap', rfl, hg0', hg1', hcell⟩
  case inl => omega
  have HC2 := hide hcell
  replace HC1 := hide fun j y hj => ((hb5'.cell (p := ⟨g, j, none⟩) hg4).trans (HC1.out j y hj) : w5.cell? ⟨g, j, none⟩ = some y)
  clear K0 C1 I1 C2 I2 hb1 hb2 hb3 hb4 hb5' hcell hown
  go_wp2_with fail
  go_loopw [16] (fun t wr => ∃ k q : Nat, k ≤ L.length ∧ t = .int .i64 k ∧ wr = w5.drewN q) (fun t _ => L.length - (intOf t).toNat)
  case atStart => exact ⟨0, 0, Nat.zero_le _, rfl, (World.drewN_zero w5).symm⟩
  case round =>
    obtain ⟨k, q, hk, rfl, rfl⟩ := hrel
    by_cases hlt : k < L.length
    case neg =>
      have hkl : k = L.length := by omega
      subst hkl
      go_wp2_with fail
      go_ret
      exact ⟨rfl, below_drewN hb5 q⟩
    case pos =>
      obtain ⟨a1, a2⟩ := flatS_get L k hlt
      have d1 := HC1.out _ _ a1
      have d2 := HC1.out _ _ a2
      have d3 := HC2.out _ _ a1
      have d4 := HC2.out _ _ a2
      clear a1 a2
      generalize (L[k]).1 = z1 at *
      generalize (L[k]).2 = z2 at *
      have e1 : (z1 != z1) = false := by simp
      have e2 : (z2 != z2) = false := by simp
      have e3 : (z1 == z1) = true := by simp
      have e4 : (z2 == z2) = true := by simp
      go_wp2_with fail
      go_big_quiet (fail)
      go_wp2_with fail
      exact ⟨⟨k + 1, q + nq, by omega, by go_num, rfl⟩, by simp [intOf]; omega⟩

theorem insE_len {s : List UInt8} {f t : Int} {L : List (Int × Int)} (h : insE s f t = .ok L) : L.length ≤ 3000 := by
  unfold insE at h
  split at h
  · cases h
  · split at h
    · split at h
      · rename_i hl
        cases h
        unfold insL
        exact Nat.le_trans (List.length_filter_le _ _) (by rw [List.length_map]; exact hl)
      · cases h
    · cases h
theorem inst_none {s : List UInt8} {f t x : Int} {W w' : World} {e : Ending} (h : InstP s f t W e w') (hx : insE s f t = .error x) : (∃ p c, e = .returned (.tuple #[.slice p 0 c, .int .i64 x])) ∧ Below W.heap.size W w' := by
  unfold InstP at h
  rw [hx] at h
  exact ⟨⟨_, _, h.1⟩, h.2⟩
theorem inst_nil {s : List UInt8} {f t : Int} {W w' : World} {e : Ending} (h : InstP s f t W e w') (hx : insE s f t = .ok []) : (∃ p c, e = .returned (.tuple #[.slice p 0 c, .int .i64 0])) ∧ Below W.heap.size W w' := by
  unfold InstP at h
  rw [hx] at h
  obtain ⟨⟨v, rfl, hown⟩, hb⟩ := h
  rcases own_cellsN hown with ⟨rfl, _⟩ | ⟨g, cap, rfl, _⟩
  · exact ⟨⟨_, _, rfl⟩, hb⟩
  · exact ⟨⟨_, _, rfl⟩, hb⟩
theorem printed_n (S : ByteArray) (f t : Int) (w : World) (hm : ML w) (ht : Tab w) :
    Calls Tryz.prog 7 #[.string S, .int .i64 f, .int .i64 t] w fun e w' => e = .returned (.bool true) ∧ Below w.heap.size w w' := by
  have K0 : Hid (∀ W, Below w.heap.size w W → Calls Tryz.prog 16 #[] W fun e w' => e = .returned (.bool true) ∧ Below W.heap.size W w') := hide fun W hb => works_n W (hm.on hb) (ht.on hb)
  obtain ⟨l, rfl⟩ : ∃ l : List UInt8, S = ⟨l.toArray⟩ := ⟨S.data.toList, rfl⟩
  have C := fun W hb => check_all l W (hm.on hb) (ht.on hb)
  have I := fun W hb => inst_all l f t W (hm.on hb) (ht.on hb)
  cases hr : readF l with
  | error x =>
    have hv : chkV l = .tuple #[.string ⟨#[]⟩, .int .i64 x] := by unfold chkV; rw [hr]
    have hi : insE l f t = .error x := by unfold insE; rw [hr]
    rw [hv] at C
    refine printed_err _ f t x w (by have := readF_err hr; omega) K0 (hide C) (hide fun W hb => (I W hb).mono fun e w' h => ?_)
    unfold InstP at h
    rw [hi] at h
    exact h
  | ok d =>
    have hv : chkV l = .tuple #[.string ⟨(chkT d).toArray⟩, .int .i64 0] := by unfold chkV; rw [hr]
    rw [hv] at C
    have C2 := fun W hb => check_all (chkT d) W (hm.on hb) (ht.on hb)
    rw [chkV_again hr] at C2
    have I2 := fun W hb => inst_all (chkT d) f t W (hm.on hb) (ht.on hb)
    have e2 := ins_again hr f t
    cases hi : insE l f t with
    | error x =>
      rw [hi] at e2
      exact printed_none _ ⟨(chkT d).toArray⟩ f t x w K0 (hide C) (hide fun W hb => (I W hb).mono fun e w' h => inst_none h hi) (hide C2) (hide fun W hb => (I2 W hb).mono fun e w' h => inst_none h e2)
    | ok L =>
      rw [hi] at e2
      by_cases h0 : L.length = 0
      · have h0' := List.eq_nil_of_length_eq_zero h0
        subst h0'
        exact printed_none _ ⟨(chkT d).toArray⟩ f t 0 w K0 (hide C) (hide fun W hb => (I W hb).mono fun e w' h => inst_nil h hi) (hide C2) (hide fun W hb => (I2 W hb).mono fun e w' h => inst_nil h e2)
      · refine printed_list _ ⟨(chkT d).toArray⟩ f t L w (by omega) (insE_len hi) K0 (hide C) (hide fun W hb => (I W hb).mono fun e w' h => ?_) (hide C2) (hide fun W hb => (I2 W hb).mono fun e w' h => ?_)
        · unfold InstP at h; rw [hi] at h; exact h
        · unfold InstP at h; rw [e2] at h; exact h
end Go.Proofs.YthpndgcaoeokeaaGreatDoor
