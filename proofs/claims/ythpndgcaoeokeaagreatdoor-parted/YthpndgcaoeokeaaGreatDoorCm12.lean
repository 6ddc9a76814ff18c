/- The program's own: an event's properties (events.readProperties). -/
import Derived.Test.YthpndgcaoeokeaaGreatDoorCm11
namespace Go.Proofs.YthpndgcaoeokeaaGreatDoor
open Go.RowKit Go.Sort

def evNames : List (List UInt8) := [[85, 73, 68], [68, 84, 83, 84, 65, 82, 84], [68, 84, 69, 78, 68], [68, 85, 82, 65, 84, 73, 79, 78], [82, 82, 85, 76, 69], [69, 88, 68, 65, 84, 69], [82, 68, 65, 84, 69], [84, 82, 65, 78, 83, 80], [83, 84, 65, 84, 85, 83]]
def beginL : List UInt8 := [66, 69, 71, 73, 78, 58, 86, 69, 86, 69, 78, 84]
def endL : List UInt8 := [69, 78, 68, 58, 86, 69, 86, 69, 78, 84]
theorem propertyNames_any (w : World) : Calls Tryz.prog 130 #[] w fun E w' => E = .returned (.slice (some ⟨w.heap.size, 0, none⟩) 9 9) ∧ w' = w.alloc (.cells (strs evNames).toArray 9) := by
  go_enter Tryz.func130, Tryz.ntmps130
  go_wp2
  go_ret
  exact ⟨rfl, rfl⟩
/-- the lines between the first and the last -/
def innerL (ls : List (List UInt8)) : List (List UInt8) := (ls.drop 1).take (ls.length - 2)
/-- an event's properties as they stand -/
structure IsProps (s : List UInt8) (F : Nat → Option (List UInt8)) : Prop where
  len : s.length ≤ 2000
  lines : ∃ ls, linesP s = some ls ∧ 2 ≤ ls.length ∧ ls.getD 0 [] = beginL ∧ ls.getD (ls.length - 1) [] = endL ∧ flds evNames 58 (innerL ls) (fun _ => none) = some F
  uid : (F 0).isSome = true
  start : (F 1).isSome = true
  one : ((F 2).isSome != (F 3).isSome) = true
def PpPost (s : List UInt8) (w : World) (E : Ending) (w' : World) : Prop :=
  ((∃ F g, IsProps s F ∧ E = .returned (.slice (some ⟨g, 0, none⟩) 9 9) ∧ w.heap.size ≤ g ∧ FieldsAt w' g F) ∨ ((¬ ∃ F, IsProps s F) ∧ E = .panicked (rsn 2))) ∧ Below w.heap.size w w'

theorem names_row {w : World} {g : Nat} {ls : List (List UInt8)} {t : TypeId} (h : RowAt w g (strs ls) t) : NamesAt w g 1 (innerL ls) := fun j hj => by
  have hj2 : j < ls.length - 2 ∧ j + 1 < ls.length := by unfold innerL at hj; rw [List.length_take, List.length_drop] at hj; omega
  refine h.cell ?_
  unfold strs innerL
  rw [List.getElem?_map, Nat.add_comm 1 j, List.getElem?_eq_getElem hj2.2]
  simp only [Option.map_some]
  congr 3
  simp [List.getD, hj2.1, hj2.2]
theorem inner_len (ls : List (List UInt8)) : (innerL ls).length = ls.length - 2 := by
  unfold innerL; rw [List.length_take, List.length_drop]; omega
theorem row_get {w : World} {g k : Nat} {ls : List (List UInt8)} {t : TypeId} (h : RowAt w g (strs ls) t) (hk : k < ls.length) : w.cell? ⟨g, k, none⟩ = some (.string ⟨(ls.getD k []).toArray⟩) := by
  refine h.cell ?_
  unfold strs
  rw [List.getElem?_map, List.getElem?_eq_getElem hk]
  simp [List.getD, hk]

theorem glue_len (a : List UInt8) {l : List (List UInt8)} (h : l ≠ []) : (glue a l).length = l.length := by
  cases l with
  | nil => exact absurd rfl h
  | cons x t => rfl
theorem spl2_len : ∀ l : List UInt8, (spl2 l).length ≤ l.length + 1
  | [] => by simp [spl2]
  | [a] => by simp [spl2]
  | a :: b :: r => by
    rw [spl2]
    split
    · have := spl2_len r; simp; omega
    · rw [glue_len _ (spl2_ne _)]
      have := spl2_len (b :: r)
      simp at this ⊢; omega
theorem linesP_len {s : List UInt8} {ls : List (List UInt8)} (h : linesP s = some ls) : ls.length ≤ s.length + 1 := by
  unfold linesP at h
  split at h
  · cases h
    rw [← spl2_spc]
    have h1 := spl2_len (Lib.trimSuffix (unf s) crlf)
    have h2 := unf_len s.length s (Nat.le_refl _)
    have h3 : (Lib.trimSuffix (unf s) crlf).length ≤ (unf s).length := by
      unfold Lib.trimSuffix
      split <;> simp
    omega
  · cases h

theorem spl2_small : ∀ (l : List UInt8), ∀ p ∈ spl2 l, p.length ≤ l.length
  | [], p, h => by simp [spl2] at h; subst h; simp
  | [a], p, h => by simp [spl2] at h; subst h; simp
  | a :: b :: r, p, h => by
    rw [spl2] at h
    split at h
    · rw [List.mem_cons] at h
      rcases h with rfl | h
      · simp
      · have := spl2_small r p h; simp; omega
    · cases hs : spl2 (b :: r) with
      | nil => exact absurd hs (spl2_ne _)
      | cons x t =>
        have ih := spl2_small (b :: r)
        rw [hs] at h ih
        simp only [glue, List.mem_cons] at h
        rcases h with rfl | h
        · have := ih x (by simp); simp at this ⊢; omega
        · have := ih p (by simp [h]); simp at this ⊢; omega
theorem linesP_small {s : List UInt8} {ls : List (List UInt8)} (h : linesP s = some ls) : ∀ l ∈ ls, l.length ≤ s.length := by
  unfold linesP at h
  split at h
  · cases h
    intro l hl
    rw [← spl2_spc] at hl
    have h1 := spl2_small _ l hl
    have h2 := unf_len s.length s (Nat.le_refl _)
    have h3 : (Lib.trimSuffix (unf s) crlf).length ≤ (unf s).length := by
      unfold Lib.trimSuffix
      split <;> simp
    omega
  · cases h

theorem bxor (a b : Bool) : (a = true ∧ b = true ∧ (a != b) = false) ∨ (a = false ∧ b = false ∧ (a != b) = false) ∨ (a = true ∧ b = false ∧ (a != b) = true) ∨ (a = false ∧ b = true ∧ (a != b) = true) := by
  cases a <;> cases b <;> simp
theorem FieldsAt.drewn {w : World} {g : Nat} {f : Nat → Option (List UInt8)} (h : FieldsAt w g f) : FieldsAt w.drew g f := ⟨h.lt, h.val, h.there, h.fv, h.ft⟩

set_option maxRecDepth 100000 in
set_option maxHeartbeats 16000000 in
theorem readProperties_any (s : List UInt8) (w : World) (hm : ML w) (hs : s.length ≤ 1048576) :
    Calls Tryz.prog 74 #[.string ⟨s.toArray⟩] w (PpPost s w) := by
  by_cases h2k : s.length ≤ 2000
  case neg =>
    have HN : Hid (¬ ∃ F, IsProps s F) := hide (fun ⟨F, h⟩ => h2k h.len)
    have h' : decide ((s.length : Int) ≤ 2000) = false := by simp; omega
    clear hm
    go_enter Tryz.func74, Tryz.ntmps74
    go_wp2_with (go_at_call_of 65 (Value.bool false); refine (unless_no _ _).mono ?_; rintro e w' ⟨rfl, rfl⟩)
    exact ⟨rfl, .inr ⟨HN.out, rfl⟩, Below.refl _ _⟩
  have h2k' : (s.length : Int) ≤ 2000 := by omega
  have CL := lines_prog s 2 w hm hs
  unfold LnPost at CL
  cases hq : linesP s with
  | none =>
    rw [hq] at CL
    have HN : Hid (¬ ∃ F, IsProps s F) := hide (fun ⟨F, h⟩ => by obtain ⟨ls, h1, _⟩ := h.lines; rw [hq] at h1; cases h1)
    have C := hide CL
    clear CL hq hm
    go_enter Tryz.func74, Tryz.ntmps74
    go_wp2_with (first
      | (go_at_call_of 65 (Value.bool true); refine (unless_yes _ _).mono ?_; rintro e w' ⟨rfl, rfl⟩)
      | (go_at_call 128; refine (C.out).mono ?_; rintro e w1 ⟨rfl, hb1⟩))
    exact ⟨rfl, .inr ⟨HN.out, rfl⟩, hb1⟩
  | some ls =>
    rw [hq] at CL
    simp only [] at CL
    have C := hide CL
    have huniq : ∀ ls', linesP s = some ls' → ls' = ls := fun ls' h => by rw [hq] at h; exact (Option.some.inj h).symm
    have HM := hide hm
    clear CL hm
    by_cases hl2 : 2 ≤ ls.length
    case neg =>
      have HN : Hid (¬ ∃ F, IsProps s F) := hide (fun ⟨F, h⟩ => by obtain ⟨ls', h1, h2, _⟩ := h.lines; rw [huniq ls' h1] at h2; exact hl2 h2)
      have g0 : decide ((0 : Int) < (ls.length : Int) - 1) = false := by simp; omega
      clear hq huniq
      go_enter Tryz.func74, Tryz.ntmps74
      go_wp2_with (first
        | (go_at_call_of 65 (Value.bool true); refine (unless_yes _ _).mono ?_; rintro e w' ⟨rfl, rfl⟩)
        | (go_at_call_of 65 (Value.bool false); refine (unless_no _ _).mono ?_; rintro e w' ⟨rfl, rfl⟩)
        | (go_at_call 128; refine (C.out).mono ?_; rintro e w1 ⟨⟨g, rfl, hg, hrow⟩, hb1⟩))
      exact ⟨rfl, .inr ⟨HN.out, rfl⟩, hb1⟩
    obtain ⟨m, hm2⟩ : ∃ m, ls.length = m + 2 := ⟨ls.length - 2, by omega⟩
    rw [hm2] at C
    have hll := linesP_len hq
    have hwr : wrap64 ((m : Int) + 2 - 1) = (m : Int) + 1 := by unfold wrap64; omega
    have htn : ((m : Int) + 1).toNat = m + 1 := by omega
    have gpos : (0 : Int) < (m : Int) + 1 := by omega
    have HM2 := hide hm2
    clear hl2
    by_cases hb : ls.getD 0 [] = beginL
    case neg =>
      have HN : Hid (¬ ∃ F, IsProps s F) := hide (fun ⟨F, h⟩ => by obtain ⟨ls', h1, h2, h3, _⟩ := h.lines; rw [huniq ls' h1] at h3; exact hb h3)
      obtain ⟨l0, hl0⟩ : ∃ l0, l0 = ls.getD 0 [] := ⟨_, rfl⟩
      have q0 : (l0 == [66, 69, 71, 73, 78, 58, 86, 69, 86, 69, 78, 84]) = false := by rw [beq_eq_false_iff_ne, hl0]; exact hb
      have HL0 := hide hl0
      clear hq huniq hb hl0 hm2
      go_enter Tryz.func74, Tryz.ntmps74
      go_wp2_with (first
        | (go_at_call_of 65 (Value.bool true); refine (unless_yes _ _).mono ?_; rintro e w' ⟨rfl, rfl⟩)
        | (go_at_call_of 65 (Value.bool false); refine (unless_no _ _).mono ?_; rintro e w' ⟨rfl, rfl⟩)
        | (go_at_call 128; refine (C.out).mono ?_; rintro e w1 ⟨⟨g, rfl, hg, hrow⟩, hb1⟩; have d0 := row_get hrow (k := 0) (by rw [HM2.out]; omega); rw [← HL0.out] at d0))
      exact ⟨rfl, .inr ⟨HN.out, rfl⟩, hb1⟩
    by_cases he : ls.getD (ls.length - 1) [] = endL
    case neg =>
      have HN : Hid (¬ ∃ F, IsProps s F) := hide (fun ⟨F, h⟩ => by obtain ⟨ls', h1, h2, h3, h4, _⟩ := h.lines; rw [huniq ls' h1] at h4; exact he h4)
      rw [show ls.length - 1 = m + 1 from by omega] at he
      obtain ⟨l1, hl1⟩ : ∃ l1, l1 = ls.getD (m + 1) [] := ⟨_, rfl⟩
      have q0 : (l1 == [69, 78, 68, 58, 86, 69, 86, 69, 78, 84]) = false := by rw [beq_eq_false_iff_ne, hl1]; exact he
      have HL1 := hide hl1
      have HL0 : Hid (ls.getD 0 [] = [66, 69, 71, 73, 78, 58, 86, 69, 86, 69, 78, 84]) := hide hb
      clear hq huniq hb hl1 hm2 he
      go_enter Tryz.func74, Tryz.ntmps74
      go_wp2_with (first
        | (go_at_call_of 65 (Value.bool true); refine (unless_yes _ _).mono ?_; rintro e w' ⟨rfl, rfl⟩)
        | (go_at_call_of 65 (Value.bool false); refine (unless_no _ _).mono ?_; rintro e w' ⟨rfl, rfl⟩)
        | (go_at_call 128; refine (C.out).mono ?_; rintro e w1 ⟨⟨g, rfl, hg, hrow⟩, hb1⟩; have d0 := row_get hrow (k := 0) (by rw [HM2.out]; omega); rw [HL0.out] at d0; have d1 := row_get hrow (k := m + 1) (by rw [HM2.out]; omega); rw [← HL1.out] at d1))
      exact ⟨rfl, .inr ⟨HN.out, rfl⟩, hb1⟩
    have HL0 : Hid (ls.getD 0 [] = [66, 69, 71, 73, 78, 58, 86, 69, 86, 69, 78, 84]) := hide hb
    have HL1 : Hid (ls.getD (m + 1) [] = [69, 78, 68, 58, 86, 69, 86, 69, 78, 84]) := hide (by rw [show ls.length - 1 = m + 1 from by omega] at he; exact he)
    have hil : (innerL ls).length = m := by rw [inner_len, hm2]; omega
    have HIL := hide hil
    have HSM : Hid (∀ l ∈ innerL ls, l.length ≤ 1048576) := hide (fun l hl => by
      have : l ∈ ls := List.mem_of_mem_drop (List.mem_of_mem_take hl)
      have := linesP_small hq l this
      omega)
    have CF0 : ∀ (w1 : World) (g : Nat), Below w.heap.size w w1 → RowAt w1 g (strs ls) 9 → ML w → Calls Tryz.prog 129 #[.slice (some ⟨g, 1, none⟩) m (m + 1), .string ⟨#[58]⟩, .slice (some ⟨w1.heap.size, 0, none⟩) 9 9, .int .i64 2] (w1.drew.alloc (.cells (strs evNames).toArray 9)) (FdPost evNames 58 (innerL ls) 2 (w1.drew.alloc (.cells (strs evNames).toArray 9))) := fun w1 g hb1 hrow hmw => by
      have hb2 : Below w1.heap.size w1 (w1.drew.alloc (.cells (strs evNames).toArray 9)) := (Below.refl _ _).drew.alloc (Nat.le_refl _) _
      have := fields_any g 1 (m + 1) w1.heap.size 0 9 evNames (innerL ls) 58 2 (w1.drew.alloc (.cells (strs evNames).toArray 9)) rfl (by rw [hil]; omega) HSM.out (by have := hrow.lt; have := hb2.size; omega) (by show w1.drew.heap.size < _; simp) (names_row (hrow.on hb2)) (names_new w1.drew evNames 9)
      rw [hil] at this
      exact this
    cases hp : flds evNames 58 (innerL ls) (fun _ => none) with
    | none =>
      have CF : Hid (∀ (w1 : World) (g : Nat), Below w.heap.size w w1 → RowAt w1 g (strs ls) 9 → ML w → Calls Tryz.prog 129 #[.slice (some ⟨g, 1, none⟩) m (m + 1), .string ⟨#[58]⟩, .slice (some ⟨w1.heap.size, 0, none⟩) 9 9, .int .i64 2] (w1.drew.alloc (.cells (strs evNames).toArray 9)) fun E w' => E = .panicked (rsn 2) ∧ Below w.heap.size w w') :=
        hide (fun w1 g hb1 hrow hmw => (CF0 w1 g hb1 hrow hmw).mono fun E w' h => by
          unfold FdPost at h
          rw [hp] at h
          have hb2 : Below w1.heap.size w1 (w1.drew.alloc (.cells (strs evNames).toArray 9)) := (Below.refl _ _).drew.alloc (Nat.le_refl _) _
          exact ⟨h.1, hb1.trans ((hb2.trans (h.2.mono hb2.size)).mono hb1.size)⟩)
      clear CF0
      have HN : Hid (¬ ∃ F, IsProps s F) := hide (fun ⟨F, h⟩ => by obtain ⟨ls', h1, h2, h3, h4, h5⟩ := h.lines; rw [huniq ls' h1, hp] at h5; cases h5)
      have HP := hide hp
      clear hq huniq hb he hm2 hil hp
      go_enter Tryz.func74, Tryz.ntmps74
      go_wp2_with (first
        | (go_at_call_of 65 (Value.bool true); refine (unless_yes _ _).mono ?_; rintro e w' ⟨rfl, rfl⟩)
        | (go_at_call 128; refine (C.out).mono ?_; rintro e w1 ⟨⟨g, rfl, hg, hrow⟩, hb1⟩; have d0 := row_get hrow (k := 0) (by rw [HM2.out]; omega); rw [HL0.out] at d0; have d1 := row_get hrow (k := m + 1) (by rw [HM2.out]; omega); rw [HL1.out] at d1))
      refine wp_region_any (by kernel_rfl) ?_
      change wpAny _ _ _ _ _ _ _ (World.drew _)
      refine wpAny_take (i := 0) (v := ?_) rfl (by kernel_rfl) (by kernel_rfl) (by kernel_rfl) (fun _ _ _ h => h) (Or.inl ⟨by rfl, ?_⟩) ?_
      rotate_left 1
      · intro w; go_simp <;> with_reducible rfl
      refine wpAny_take (i := 1) (v := ?_) rfl (by kernel_rfl) (by kernel_rfl) (by kernel_rfl) (fun _ _ _ h => h) (Or.inl ⟨by rfl, ?_⟩) ?_
      rotate_left 1
      · intro w; go_simp <;> with_reducible rfl
      have s1 : (1 : Int) ≤ (m : Int) + 1 := by omega
      have s2 : (m : Int) + 1 ≤ (m : Int) + 2 := by omega
      have s3 : ((m : Int) + 1 - 1).toNat = m := by omega
      refine wpAny_take (i := 2) (v := ?_) rfl (by kernel_rfl) (by kernel_rfl) (by kernel_rfl) (fun _ _ _ h => h) (Or.inl ⟨by rfl, ?_⟩) ?_
      rotate_left 1
      · intro w; go_simp <;> with_reducible rfl
      refine wpAny_ready (rs := [3]) (by kernel_rfl) (by simp) ?_
      refine AllReady.cons rfl (fun K hK => ?_) AllReady.nil
      go_simp
      go_wp2_with (go_at_call 130; refine (propertyNames_any _).mono ?_; rintro e w' ⟨rfl, rfl⟩)
      try (refine hK _ _ ?_; clear hK K)
      refine wpAny_ready (rs := [4]) (by kernel_rfl) (by simp) ?_
      refine AllReady.cons rfl (fun K hK => ?_) AllReady.nil
      go_simp
      go_wp2_with (go_at_call 129; refine (CF.out w1 g hb1 hrow HM.out).mono ?_; rintro e w3 ⟨rfl, hbw⟩)
      exact ⟨rfl, .inr ⟨HN.out, rfl⟩, hbw⟩
    | some F =>
      have HP := hide hp
      have CF : Hid (∀ (w1 : World) (g : Nat), Below w.heap.size w w1 → RowAt w1 g (strs ls) 9 → ML w → Calls Tryz.prog 129 #[.slice (some ⟨g, 1, none⟩) m (m + 1), .string ⟨#[58]⟩, .slice (some ⟨w1.heap.size, 0, none⟩) 9 9, .int .i64 2] (w1.drew.alloc (.cells (strs evNames).toArray 9)) fun E w' => ∃ g2, E = .returned (.slice (some ⟨g2, 0, none⟩) 9 9) ∧ w.heap.size ≤ g2 ∧ FieldsAt w' g2 F ∧ Below w.heap.size w w') :=
        hide (fun w1 g hb1 hrow hmw => (CF0 w1 g hb1 hrow hmw).mono fun E w' h => by
          unfold FdPost at h
          rw [hp] at h
          have hb2 : Below w1.heap.size w1 (w1.drew.alloc (.cells (strs evNames).toArray 9)) := (Below.refl _ _).drew.alloc (Nat.le_refl _) _
          obtain ⟨⟨g2, h1, h2, h3⟩, h4⟩ := h
          have hs1 := hb1.size
          have hs2 := hb2.size
          exact ⟨g2, h1, by omega, h3, hb1.trans ((hb2.trans (h4.mono hb2.size)).mono hb1.size)⟩)
      have huF : ∀ F', IsProps s F' → F' = F := fun F' h => by obtain ⟨ls', h1, h2, h3, h4, h5⟩ := h.lines; rw [huniq ls' h1, hp] at h5; exact (Option.some.inj h5).symm
      have hall : IsProps s F ↔ ((F 0).isSome = true ∧ (F 1).isSome = true ∧ ((F 2).isSome != (F 3).isSome) = true) :=
        ⟨fun h => ⟨h.uid, h.start, h.one⟩, fun ⟨h1, h2, h3⟩ => ⟨h2k, ⟨ls, hq, by omega, hb, he, hp⟩, h1, h2, h3⟩⟩
      have HNo : Hid (¬ ((F 0).isSome = true ∧ (F 1).isSome = true ∧ ((F 2).isSome != (F 3).isSome) = true) → ¬ ∃ F, IsProps s F) := hide (fun hn ⟨F', h⟩ => by rw [huF F' h] at h; exact hn (hall.1 h))
      have HA := hide hall.2
      clear CF0 hq huniq hb he hm2 hil hp huF hall
      cases b0 : (F 0).isSome with
      | false =>
        have HN : Hid (¬ ∃ F, IsProps s F) := hide (HNo.out (fun h => by rw [b0] at h; cases h.1))
        clear HNo HA
        go_enter Tryz.func74, Tryz.ntmps74
        go_wp2_with (first
          | (go_at_call_of 65 (Value.bool true); refine (unless_yes _ _).mono ?_; rintro e w' ⟨rfl, rfl⟩)
          | (go_at_call 128; refine (C.out).mono ?_; rintro e w1 ⟨⟨g, rfl, hg, hrow⟩, hb1⟩; have d0 := row_get hrow (k := 0) (by rw [HM2.out]; omega); rw [HL0.out] at d0; have d1 := row_get hrow (k := m + 1) (by rw [HM2.out]; omega); rw [HL1.out] at d1))
        refine wp_region_any (by kernel_rfl) ?_
        change wpAny _ _ _ _ _ _ _ (World.drew _)
        refine wpAny_take (i := 0) (v := ?_) rfl (by kernel_rfl) (by kernel_rfl) (by kernel_rfl) (fun _ _ _ h => h) (Or.inl ⟨by rfl, ?_⟩) ?_
        rotate_left 1
        · intro w; go_simp <;> with_reducible rfl
        refine wpAny_take (i := 1) (v := ?_) rfl (by kernel_rfl) (by kernel_rfl) (by kernel_rfl) (fun _ _ _ h => h) (Or.inl ⟨by rfl, ?_⟩) ?_
        rotate_left 1
        · intro w; go_simp <;> with_reducible rfl
        have s1 : (1 : Int) ≤ (m : Int) + 1 := by omega
        have s2 : (m : Int) + 1 ≤ (m : Int) + 2 := by omega
        have s3 : ((m : Int) + 1 - 1).toNat = m := by omega
        refine wpAny_take (i := 2) (v := ?_) rfl (by kernel_rfl) (by kernel_rfl) (by kernel_rfl) (fun _ _ _ h => h) (Or.inl ⟨by rfl, ?_⟩) ?_
        rotate_left 1
        · intro w; go_simp <;> with_reducible rfl
        refine wpAny_ready (rs := [3]) (by kernel_rfl) (by simp) ?_
        refine AllReady.cons rfl (fun K hK => ?_) AllReady.nil
        go_simp
        go_wp2_with (go_at_call 130; refine (propertyNames_any _).mono ?_; rintro e w' ⟨rfl, rfl⟩)
        try (refine hK _ _ ?_; clear hK K)
        refine wpAny_ready (rs := [4]) (by kernel_rfl) (by simp) ?_
        refine AllReady.cons rfl (fun K hK => ?_) AllReady.nil
        go_simp
        go_wp2_with (go_at_call 129; refine (CF.out w1 g hb1 hrow HM.out).mono ?_; rintro e w3 ⟨g2, rfl, hg2, hF, hbw⟩)
        try (refine hK _ _ ?_; clear hK K)
        refine wpAny_take (i := 5) (v := ?_) rfl (by kernel_rfl) (by kernel_rfl) (by kernel_rfl) (fun _ _ _ h => h) (Or.inl ⟨by rfl, ?_⟩) ?_
        rotate_left 1
        · intro w; go_simp <;> with_reducible rfl
        refine wpAny_done (by kernel_rfl) ?_ _
        have x0 : w3.cell? ⟨g2, 1, none⟩ = some (.bool false) := by have := hF.there 0 (by decide); rw [b0] at this; exact this
        go_wp2_with (go_at_call_of 65 (Value.bool false); refine (unless_no _ _).mono ?_; rintro e w' ⟨rfl, rfl⟩)
        exact ⟨rfl, .inr ⟨HN.out, rfl⟩, hbw⟩
      | true =>
        cases b1 : (F 1).isSome with
        | false =>
          have HN : Hid (¬ ∃ F, IsProps s F) := hide (HNo.out (fun h => by rw [b1] at h; cases h.2.1))
          clear HNo HA
          go_enter Tryz.func74, Tryz.ntmps74
          go_wp2_with (first
            | (go_at_call_of 65 (Value.bool true); refine (unless_yes _ _).mono ?_; rintro e w' ⟨rfl, rfl⟩)
            | (go_at_call 128; refine (C.out).mono ?_; rintro e w1 ⟨⟨g, rfl, hg, hrow⟩, hb1⟩; have d0 := row_get hrow (k := 0) (by rw [HM2.out]; omega); rw [HL0.out] at d0; have d1 := row_get hrow (k := m + 1) (by rw [HM2.out]; omega); rw [HL1.out] at d1))
          refine wp_region_any (by kernel_rfl) ?_
          change wpAny _ _ _ _ _ _ _ (World.drew _)
          refine wpAny_take (i := 0) (v := ?_) rfl (by kernel_rfl) (by kernel_rfl) (by kernel_rfl) (fun _ _ _ h => h) (Or.inl ⟨by rfl, ?_⟩) ?_
          rotate_left 1
          · intro w; go_simp <;> with_reducible rfl
          refine wpAny_take (i := 1) (v := ?_) rfl (by kernel_rfl) (by kernel_rfl) (by kernel_rfl) (fun _ _ _ h => h) (Or.inl ⟨by rfl, ?_⟩) ?_
          rotate_left 1
          · intro w; go_simp <;> with_reducible rfl
          have s1 : (1 : Int) ≤ (m : Int) + 1 := by omega
          have s2 : (m : Int) + 1 ≤ (m : Int) + 2 := by omega
          have s3 : ((m : Int) + 1 - 1).toNat = m := by omega
          refine wpAny_take (i := 2) (v := ?_) rfl (by kernel_rfl) (by kernel_rfl) (by kernel_rfl) (fun _ _ _ h => h) (Or.inl ⟨by rfl, ?_⟩) ?_
          rotate_left 1
          · intro w; go_simp <;> with_reducible rfl
          refine wpAny_ready (rs := [3]) (by kernel_rfl) (by simp) ?_
          refine AllReady.cons rfl (fun K hK => ?_) AllReady.nil
          go_simp
          go_wp2_with (go_at_call 130; refine (propertyNames_any _).mono ?_; rintro e w' ⟨rfl, rfl⟩)
          try (refine hK _ _ ?_; clear hK K)
          refine wpAny_ready (rs := [4]) (by kernel_rfl) (by simp) ?_
          refine AllReady.cons rfl (fun K hK => ?_) AllReady.nil
          go_simp
          go_wp2_with (go_at_call 129; refine (CF.out w1 g hb1 hrow HM.out).mono ?_; rintro e w3 ⟨g2, rfl, hg2, hF, hbw⟩)
          try (refine hK _ _ ?_; clear hK K)
          refine wpAny_take (i := 5) (v := ?_) rfl (by kernel_rfl) (by kernel_rfl) (by kernel_rfl) (fun _ _ _ h => h) (Or.inl ⟨by rfl, ?_⟩) ?_
          rotate_left 1
          · intro w; go_simp <;> with_reducible rfl
          refine wpAny_done (by kernel_rfl) ?_ _
          have x0 : w3.cell? ⟨g2, 1, none⟩ = some (.bool true) := by have := hF.there 0 (by decide); rw [b0] at this; exact this
          have x1 : w3.cell? ⟨g2, 3, none⟩ = some (.bool false) := by have := hF.there 1 (by decide); rw [b1] at this; exact this
          go_wp2_with (go_at_call_of 65 (Value.bool false); refine (unless_no _ _).mono ?_; rintro e w' ⟨rfl, rfl⟩)
          exact ⟨rfl, .inr ⟨HN.out, rfl⟩, hbw⟩
        | true =>
          rcases bxor (F 2).isSome (F 3).isSome with ⟨b2, b3, hx⟩ | ⟨b2, b3, hx⟩ | ⟨b2, b3, hx⟩ | ⟨b2, b3, hx⟩
          · have HN : Hid (¬ ∃ F, IsProps s F) := hide (HNo.out (fun h => by rw [hx] at h; cases h.2.2))
            clear HNo HA hx
            go_enter Tryz.func74, Tryz.ntmps74
            go_wp2_with (first
              | (go_at_call_of 65 (Value.bool true); refine (unless_yes _ _).mono ?_; rintro e w' ⟨rfl, rfl⟩)
              | (go_at_call 128; refine (C.out).mono ?_; rintro e w1 ⟨⟨g, rfl, hg, hrow⟩, hb1⟩; have d0 := row_get hrow (k := 0) (by rw [HM2.out]; omega); rw [HL0.out] at d0; have d1 := row_get hrow (k := m + 1) (by rw [HM2.out]; omega); rw [HL1.out] at d1))
            refine wp_region_any (by kernel_rfl) ?_
            change wpAny _ _ _ _ _ _ _ (World.drew _)
            refine wpAny_take (i := 0) (v := ?_) rfl (by kernel_rfl) (by kernel_rfl) (by kernel_rfl) (fun _ _ _ h => h) (Or.inl ⟨by rfl, ?_⟩) ?_
            rotate_left 1
            · intro w; go_simp <;> with_reducible rfl
            refine wpAny_take (i := 1) (v := ?_) rfl (by kernel_rfl) (by kernel_rfl) (by kernel_rfl) (fun _ _ _ h => h) (Or.inl ⟨by rfl, ?_⟩) ?_
            rotate_left 1
            · intro w; go_simp <;> with_reducible rfl
            have s1 : (1 : Int) ≤ (m : Int) + 1 := by omega
            have s2 : (m : Int) + 1 ≤ (m : Int) + 2 := by omega
            have s3 : ((m : Int) + 1 - 1).toNat = m := by omega
            refine wpAny_take (i := 2) (v := ?_) rfl (by kernel_rfl) (by kernel_rfl) (by kernel_rfl) (fun _ _ _ h => h) (Or.inl ⟨by rfl, ?_⟩) ?_
            rotate_left 1
            · intro w; go_simp <;> with_reducible rfl
            refine wpAny_ready (rs := [3]) (by kernel_rfl) (by simp) ?_
            refine AllReady.cons rfl (fun K hK => ?_) AllReady.nil
            go_simp
            go_wp2_with (go_at_call 130; refine (propertyNames_any _).mono ?_; rintro e w' ⟨rfl, rfl⟩)
            try (refine hK _ _ ?_; clear hK K)
            refine wpAny_ready (rs := [4]) (by kernel_rfl) (by simp) ?_
            refine AllReady.cons rfl (fun K hK => ?_) AllReady.nil
            go_simp
            go_wp2_with (go_at_call 129; refine (CF.out w1 g hb1 hrow HM.out).mono ?_; rintro e w3 ⟨g2, rfl, hg2, hF, hbw⟩)
            try (refine hK _ _ ?_; clear hK K)
            refine wpAny_take (i := 5) (v := ?_) rfl (by kernel_rfl) (by kernel_rfl) (by kernel_rfl) (fun _ _ _ h => h) (Or.inl ⟨by rfl, ?_⟩) ?_
            rotate_left 1
            · intro w; go_simp <;> with_reducible rfl
            refine wpAny_done (by kernel_rfl) ?_ _
            have x0 : w3.cell? ⟨g2, 1, none⟩ = some (.bool true) := by have := hF.there 0 (by decide); rw [b0] at this; exact this
            have x1 : w3.cell? ⟨g2, 3, none⟩ = some (.bool true) := by have := hF.there 1 (by decide); rw [b1] at this; exact this
            have x2 : w3.cell? ⟨g2, 5, none⟩ = some (.bool true) := by have := hF.there 2 (by decide); rw [b2] at this; exact this
            have x3 : w3.cell? ⟨g2, 7, none⟩ = some (.bool true) := by have := hF.there 3 (by decide); rw [b3] at this; exact this
            go_wp2_with (go_at_call_of 65 (Value.bool true); refine (unless_yes _ _).mono ?_; rintro e w' ⟨rfl, rfl⟩)
            refine wp_region_any (by kernel_rfl) ?_
            change wpAny _ _ _ _ _ _ _ (World.drew _)
            refine wpAny_take (i := 0) (v := ?_) rfl (by kernel_rfl) (by kernel_rfl) (by kernel_rfl) (fun _ _ _ h => h) (Or.inl ⟨by rfl, ?_⟩) ?_
            rotate_left 1
            · intro w; go_simp <;> with_reducible rfl
            refine wpAny_take (i := 1) (v := ?_) rfl (by kernel_rfl) (by kernel_rfl) (by kernel_rfl) (fun _ _ _ h => h) (Or.inl ⟨by rfl, ?_⟩) ?_
            rotate_left 1
            · intro w; go_simp <;> with_reducible rfl
            refine wpAny_take (i := 2) (v := ?_) rfl (by kernel_rfl) (by kernel_rfl) (by kernel_rfl) (fun _ _ _ h => h) (Or.inl ⟨by rfl, ?_⟩) ?_
            rotate_left 1
            · intro w; go_simp <;> with_reducible rfl
            refine wpAny_take (i := 4) (v := ?_) rfl (by kernel_rfl) (by kernel_rfl) (by kernel_rfl) (fun _ _ _ h => h) (Or.inl ⟨by rfl, ?_⟩) ?_
            rotate_left 1
            · intro w; go_simp <;> with_reducible rfl
            refine wpAny_take (i := 5) (v := ?_) rfl (by kernel_rfl) (by kernel_rfl) (by kernel_rfl) (fun _ _ _ h => h) (Or.inl ⟨by rfl, ?_⟩) ?_
            rotate_left 1
            · intro w; go_simp <;> with_reducible rfl
            refine wpAny_take (i := 6) (v := ?_) rfl (by kernel_rfl) (by kernel_rfl) (by kernel_rfl) (fun _ _ _ h => h) (Or.inl ⟨by rfl, ?_⟩) ?_
            rotate_left 1
            · intro w; go_simp <;> with_reducible rfl
            refine wpAny_ready (rs := [3, 7]) (by kernel_rfl) (by simp) ?_
            refine AllReady.cons rfl (fun K hK => ?_) (AllReady.cons rfl (fun K hK => ?_) AllReady.nil)
            · go_simp
              refine hK _ _ ?_
              clear hK K
              refine wpAny_ready (rs := [7]) (by kernel_rfl) (by simp) ?_
              refine AllReady.cons rfl (fun K hK => ?_) AllReady.nil
              go_simp
              refine hK _ _ ?_
              clear hK K
              refine wpAny_take (i := 8) (v := ?_) rfl (by kernel_rfl) (by kernel_rfl) (by kernel_rfl) (fun _ _ _ h => h) (Or.inl ⟨by rfl, ?_⟩) ?_
              rotate_left 1
              · intro w; go_simp <;> with_reducible rfl
              refine wpAny_ready (rs := [9]) (by kernel_rfl) (by simp) ?_
              refine AllReady.cons rfl (fun K hK => ?_) AllReady.nil
              go_simp
              go_wp2_with (go_at_call_of 65 (Value.bool false); refine (unless_no _ _).mono ?_; rintro e w' ⟨rfl, rfl⟩)
              exact ⟨rfl, .inr ⟨HN.out, rfl⟩, hbw.drew⟩
            · go_simp
              refine hK _ _ ?_
              clear hK K
              refine wpAny_ready (rs := [3]) (by kernel_rfl) (by simp) ?_
              refine AllReady.cons rfl (fun K hK => ?_) AllReady.nil
              go_simp
              refine hK _ _ ?_
              clear hK K
              refine wpAny_take (i := 8) (v := ?_) rfl (by kernel_rfl) (by kernel_rfl) (by kernel_rfl) (fun _ _ _ h => h) (Or.inl ⟨by rfl, ?_⟩) ?_
              rotate_left 1
              · intro w; go_simp <;> with_reducible rfl
              refine wpAny_ready (rs := [9]) (by kernel_rfl) (by simp) ?_
              refine AllReady.cons rfl (fun K hK => ?_) AllReady.nil
              go_simp
              go_wp2_with (go_at_call_of 65 (Value.bool false); refine (unless_no _ _).mono ?_; rintro e w' ⟨rfl, rfl⟩)
              exact ⟨rfl, .inr ⟨HN.out, rfl⟩, hbw.drew⟩
          · have HN : Hid (¬ ∃ F, IsProps s F) := hide (HNo.out (fun h => by rw [hx] at h; cases h.2.2))
            clear HNo HA hx
            go_enter Tryz.func74, Tryz.ntmps74
            go_wp2_with (first
              | (go_at_call_of 65 (Value.bool true); refine (unless_yes _ _).mono ?_; rintro e w' ⟨rfl, rfl⟩)
              | (go_at_call 128; refine (C.out).mono ?_; rintro e w1 ⟨⟨g, rfl, hg, hrow⟩, hb1⟩; have d0 := row_get hrow (k := 0) (by rw [HM2.out]; omega); rw [HL0.out] at d0; have d1 := row_get hrow (k := m + 1) (by rw [HM2.out]; omega); rw [HL1.out] at d1))
            refine wp_region_any (by kernel_rfl) ?_
            change wpAny _ _ _ _ _ _ _ (World.drew _)
            refine wpAny_take (i := 0) (v := ?_) rfl (by kernel_rfl) (by kernel_rfl) (by kernel_rfl) (fun _ _ _ h => h) (Or.inl ⟨by rfl, ?_⟩) ?_
            rotate_left 1
            · intro w; go_simp <;> with_reducible rfl
            refine wpAny_take (i := 1) (v := ?_) rfl (by kernel_rfl) (by kernel_rfl) (by kernel_rfl) (fun _ _ _ h => h) (Or.inl ⟨by rfl, ?_⟩) ?_
            rotate_left 1
            · intro w; go_simp <;> with_reducible rfl
            have s1 : (1 : Int) ≤ (m : Int) + 1 := by omega
            have s2 : (m : Int) + 1 ≤ (m : Int) + 2 := by omega
            have s3 : ((m : Int) + 1 - 1).toNat = m := by omega
            refine wpAny_take (i := 2) (v := ?_) rfl (by kernel_rfl) (by kernel_rfl) (by kernel_rfl) (fun _ _ _ h => h) (Or.inl ⟨by rfl, ?_⟩) ?_
            rotate_left 1
            · intro w; go_simp <;> with_reducible rfl
            refine wpAny_ready (rs := [3]) (by kernel_rfl) (by simp) ?_
            refine AllReady.cons rfl (fun K hK => ?_) AllReady.nil
            go_simp
            go_wp2_with (go_at_call 130; refine (propertyNames_any _).mono ?_; rintro e w' ⟨rfl, rfl⟩)
            try (refine hK _ _ ?_; clear hK K)
            refine wpAny_ready (rs := [4]) (by kernel_rfl) (by simp) ?_
            refine AllReady.cons rfl (fun K hK => ?_) AllReady.nil
            go_simp
            go_wp2_with (go_at_call 129; refine (CF.out w1 g hb1 hrow HM.out).mono ?_; rintro e w3 ⟨g2, rfl, hg2, hF, hbw⟩)
            try (refine hK _ _ ?_; clear hK K)
            refine wpAny_take (i := 5) (v := ?_) rfl (by kernel_rfl) (by kernel_rfl) (by kernel_rfl) (fun _ _ _ h => h) (Or.inl ⟨by rfl, ?_⟩) ?_
            rotate_left 1
            · intro w; go_simp <;> with_reducible rfl
            refine wpAny_done (by kernel_rfl) ?_ _
            have x0 : w3.cell? ⟨g2, 1, none⟩ = some (.bool true) := by have := hF.there 0 (by decide); rw [b0] at this; exact this
            have x1 : w3.cell? ⟨g2, 3, none⟩ = some (.bool true) := by have := hF.there 1 (by decide); rw [b1] at this; exact this
            have x2 : w3.cell? ⟨g2, 5, none⟩ = some (.bool false) := by have := hF.there 2 (by decide); rw [b2] at this; exact this
            have x3 : w3.cell? ⟨g2, 7, none⟩ = some (.bool false) := by have := hF.there 3 (by decide); rw [b3] at this; exact this
            go_wp2_with (go_at_call_of 65 (Value.bool true); refine (unless_yes _ _).mono ?_; rintro e w' ⟨rfl, rfl⟩)
            refine wp_region_any (by kernel_rfl) ?_
            change wpAny _ _ _ _ _ _ _ (World.drew _)
            refine wpAny_take (i := 0) (v := ?_) rfl (by kernel_rfl) (by kernel_rfl) (by kernel_rfl) (fun _ _ _ h => h) (Or.inl ⟨by rfl, ?_⟩) ?_
            rotate_left 1
            · intro w; go_simp <;> with_reducible rfl
            refine wpAny_take (i := 1) (v := ?_) rfl (by kernel_rfl) (by kernel_rfl) (by kernel_rfl) (fun _ _ _ h => h) (Or.inl ⟨by rfl, ?_⟩) ?_
            rotate_left 1
            · intro w; go_simp <;> with_reducible rfl
            refine wpAny_take (i := 2) (v := ?_) rfl (by kernel_rfl) (by kernel_rfl) (by kernel_rfl) (fun _ _ _ h => h) (Or.inl ⟨by rfl, ?_⟩) ?_
            rotate_left 1
            · intro w; go_simp <;> with_reducible rfl
            refine wpAny_take (i := 4) (v := ?_) rfl (by kernel_rfl) (by kernel_rfl) (by kernel_rfl) (fun _ _ _ h => h) (Or.inl ⟨by rfl, ?_⟩) ?_
            rotate_left 1
            · intro w; go_simp <;> with_reducible rfl
            refine wpAny_take (i := 5) (v := ?_) rfl (by kernel_rfl) (by kernel_rfl) (by kernel_rfl) (fun _ _ _ h => h) (Or.inl ⟨by rfl, ?_⟩) ?_
            rotate_left 1
            · intro w; go_simp <;> with_reducible rfl
            refine wpAny_take (i := 6) (v := ?_) rfl (by kernel_rfl) (by kernel_rfl) (by kernel_rfl) (fun _ _ _ h => h) (Or.inl ⟨by rfl, ?_⟩) ?_
            rotate_left 1
            · intro w; go_simp <;> with_reducible rfl
            refine wpAny_ready (rs := [3, 7]) (by kernel_rfl) (by simp) ?_
            refine AllReady.cons rfl (fun K hK => ?_) (AllReady.cons rfl (fun K hK => ?_) AllReady.nil)
            · go_simp
              refine hK _ _ ?_
              clear hK K
              refine wpAny_ready (rs := [7]) (by kernel_rfl) (by simp) ?_
              refine AllReady.cons rfl (fun K hK => ?_) AllReady.nil
              go_simp
              refine hK _ _ ?_
              clear hK K
              refine wpAny_take (i := 8) (v := ?_) rfl (by kernel_rfl) (by kernel_rfl) (by kernel_rfl) (fun _ _ _ h => h) (Or.inl ⟨by rfl, ?_⟩) ?_
              rotate_left 1
              · intro w; go_simp <;> with_reducible rfl
              refine wpAny_ready (rs := [9]) (by kernel_rfl) (by simp) ?_
              refine AllReady.cons rfl (fun K hK => ?_) AllReady.nil
              go_simp
              go_wp2_with (go_at_call_of 65 (Value.bool false); refine (unless_no _ _).mono ?_; rintro e w' ⟨rfl, rfl⟩)
              exact ⟨rfl, .inr ⟨HN.out, rfl⟩, hbw.drew⟩
            · go_simp
              refine hK _ _ ?_
              clear hK K
              refine wpAny_ready (rs := [3]) (by kernel_rfl) (by simp) ?_
              refine AllReady.cons rfl (fun K hK => ?_) AllReady.nil
              go_simp
              refine hK _ _ ?_
              clear hK K
              refine wpAny_take (i := 8) (v := ?_) rfl (by kernel_rfl) (by kernel_rfl) (by kernel_rfl) (fun _ _ _ h => h) (Or.inl ⟨by rfl, ?_⟩) ?_
              rotate_left 1
              · intro w; go_simp <;> with_reducible rfl
              refine wpAny_ready (rs := [9]) (by kernel_rfl) (by simp) ?_
              refine AllReady.cons rfl (fun K hK => ?_) AllReady.nil
              go_simp
              go_wp2_with (go_at_call_of 65 (Value.bool false); refine (unless_no _ _).mono ?_; rintro e w' ⟨rfl, rfl⟩)
              exact ⟨rfl, .inr ⟨HN.out, rfl⟩, hbw.drew⟩
          · have HI : Hid (IsProps s F) := hide (HA.out ⟨b0, b1, hx⟩)
            clear HNo HA hx
            go_enter Tryz.func74, Tryz.ntmps74
            go_wp2_with (first
              | (go_at_call_of 65 (Value.bool true); refine (unless_yes _ _).mono ?_; rintro e w' ⟨rfl, rfl⟩)
              | (go_at_call 128; refine (C.out).mono ?_; rintro e w1 ⟨⟨g, rfl, hg, hrow⟩, hb1⟩; have d0 := row_get hrow (k := 0) (by rw [HM2.out]; omega); rw [HL0.out] at d0; have d1 := row_get hrow (k := m + 1) (by rw [HM2.out]; omega); rw [HL1.out] at d1))
            refine wp_region_any (by kernel_rfl) ?_
            change wpAny _ _ _ _ _ _ _ (World.drew _)
            refine wpAny_take (i := 0) (v := ?_) rfl (by kernel_rfl) (by kernel_rfl) (by kernel_rfl) (fun _ _ _ h => h) (Or.inl ⟨by rfl, ?_⟩) ?_
            rotate_left 1
            · intro w; go_simp <;> with_reducible rfl
            refine wpAny_take (i := 1) (v := ?_) rfl (by kernel_rfl) (by kernel_rfl) (by kernel_rfl) (fun _ _ _ h => h) (Or.inl ⟨by rfl, ?_⟩) ?_
            rotate_left 1
            · intro w; go_simp <;> with_reducible rfl
            have s1 : (1 : Int) ≤ (m : Int) + 1 := by omega
            have s2 : (m : Int) + 1 ≤ (m : Int) + 2 := by omega
            have s3 : ((m : Int) + 1 - 1).toNat = m := by omega
            refine wpAny_take (i := 2) (v := ?_) rfl (by kernel_rfl) (by kernel_rfl) (by kernel_rfl) (fun _ _ _ h => h) (Or.inl ⟨by rfl, ?_⟩) ?_
            rotate_left 1
            · intro w; go_simp <;> with_reducible rfl
            refine wpAny_ready (rs := [3]) (by kernel_rfl) (by simp) ?_
            refine AllReady.cons rfl (fun K hK => ?_) AllReady.nil
            go_simp
            go_wp2_with (go_at_call 130; refine (propertyNames_any _).mono ?_; rintro e w' ⟨rfl, rfl⟩)
            try (refine hK _ _ ?_; clear hK K)
            refine wpAny_ready (rs := [4]) (by kernel_rfl) (by simp) ?_
            refine AllReady.cons rfl (fun K hK => ?_) AllReady.nil
            go_simp
            go_wp2_with (go_at_call 129; refine (CF.out w1 g hb1 hrow HM.out).mono ?_; rintro e w3 ⟨g2, rfl, hg2, hF, hbw⟩)
            try (refine hK _ _ ?_; clear hK K)
            refine wpAny_take (i := 5) (v := ?_) rfl (by kernel_rfl) (by kernel_rfl) (by kernel_rfl) (fun _ _ _ h => h) (Or.inl ⟨by rfl, ?_⟩) ?_
            rotate_left 1
            · intro w; go_simp <;> with_reducible rfl
            refine wpAny_done (by kernel_rfl) ?_ _
            have x0 : w3.cell? ⟨g2, 1, none⟩ = some (.bool true) := by have := hF.there 0 (by decide); rw [b0] at this; exact this
            have x1 : w3.cell? ⟨g2, 3, none⟩ = some (.bool true) := by have := hF.there 1 (by decide); rw [b1] at this; exact this
            have x2 : w3.cell? ⟨g2, 5, none⟩ = some (.bool true) := by have := hF.there 2 (by decide); rw [b2] at this; exact this
            have x3 : w3.cell? ⟨g2, 7, none⟩ = some (.bool false) := by have := hF.there 3 (by decide); rw [b3] at this; exact this
            go_wp2_with (go_at_call_of 65 (Value.bool true); refine (unless_yes _ _).mono ?_; rintro e w' ⟨rfl, rfl⟩)
            refine wp_region_any (by kernel_rfl) ?_
            change wpAny _ _ _ _ _ _ _ (World.drew _)
            refine wpAny_take (i := 0) (v := ?_) rfl (by kernel_rfl) (by kernel_rfl) (by kernel_rfl) (fun _ _ _ h => h) (Or.inl ⟨by rfl, ?_⟩) ?_
            rotate_left 1
            · intro w; go_simp <;> with_reducible rfl
            refine wpAny_take (i := 1) (v := ?_) rfl (by kernel_rfl) (by kernel_rfl) (by kernel_rfl) (fun _ _ _ h => h) (Or.inl ⟨by rfl, ?_⟩) ?_
            rotate_left 1
            · intro w; go_simp <;> with_reducible rfl
            refine wpAny_take (i := 2) (v := ?_) rfl (by kernel_rfl) (by kernel_rfl) (by kernel_rfl) (fun _ _ _ h => h) (Or.inl ⟨by rfl, ?_⟩) ?_
            rotate_left 1
            · intro w; go_simp <;> with_reducible rfl
            refine wpAny_take (i := 4) (v := ?_) rfl (by kernel_rfl) (by kernel_rfl) (by kernel_rfl) (fun _ _ _ h => h) (Or.inl ⟨by rfl, ?_⟩) ?_
            rotate_left 1
            · intro w; go_simp <;> with_reducible rfl
            refine wpAny_take (i := 5) (v := ?_) rfl (by kernel_rfl) (by kernel_rfl) (by kernel_rfl) (fun _ _ _ h => h) (Or.inl ⟨by rfl, ?_⟩) ?_
            rotate_left 1
            · intro w; go_simp <;> with_reducible rfl
            refine wpAny_take (i := 6) (v := ?_) rfl (by kernel_rfl) (by kernel_rfl) (by kernel_rfl) (fun _ _ _ h => h) (Or.inl ⟨by rfl, ?_⟩) ?_
            rotate_left 1
            · intro w; go_simp <;> with_reducible rfl
            refine wpAny_ready (rs := [3, 7]) (by kernel_rfl) (by simp) ?_
            refine AllReady.cons rfl (fun K hK => ?_) (AllReady.cons rfl (fun K hK => ?_) AllReady.nil)
            · go_simp
              refine hK _ _ ?_
              clear hK K
              refine wpAny_ready (rs := [7]) (by kernel_rfl) (by simp) ?_
              refine AllReady.cons rfl (fun K hK => ?_) AllReady.nil
              go_simp
              refine hK _ _ ?_
              clear hK K
              refine wpAny_take (i := 8) (v := ?_) rfl (by kernel_rfl) (by kernel_rfl) (by kernel_rfl) (fun _ _ _ h => h) (Or.inl ⟨by rfl, ?_⟩) ?_
              rotate_left 1
              · intro w; go_simp <;> with_reducible rfl
              refine wpAny_ready (rs := [9]) (by kernel_rfl) (by simp) ?_
              refine AllReady.cons rfl (fun K hK => ?_) AllReady.nil
              go_simp
              go_wp2_with (go_at_call_of 65 (Value.bool true); refine (unless_yes _ _).mono ?_; rintro e w' ⟨rfl, rfl⟩)
              try (refine hK _ _ ?_; clear hK K)
              refine wpAny_done (by kernel_rfl) ?_ _
              go_wp2
              go_ret
              exact ⟨.inl ⟨F, g2, HI.out, rfl, hg2, hF.drewn⟩, hbw.drew⟩
            · go_simp
              refine hK _ _ ?_
              clear hK K
              refine wpAny_ready (rs := [3]) (by kernel_rfl) (by simp) ?_
              refine AllReady.cons rfl (fun K hK => ?_) AllReady.nil
              go_simp
              refine hK _ _ ?_
              clear hK K
              refine wpAny_take (i := 8) (v := ?_) rfl (by kernel_rfl) (by kernel_rfl) (by kernel_rfl) (fun _ _ _ h => h) (Or.inl ⟨by rfl, ?_⟩) ?_
              rotate_left 1
              · intro w; go_simp <;> with_reducible rfl
              refine wpAny_ready (rs := [9]) (by kernel_rfl) (by simp) ?_
              refine AllReady.cons rfl (fun K hK => ?_) AllReady.nil
              go_simp
              go_wp2_with (go_at_call_of 65 (Value.bool true); refine (unless_yes _ _).mono ?_; rintro e w' ⟨rfl, rfl⟩)
              try (refine hK _ _ ?_; clear hK K)
              refine wpAny_done (by kernel_rfl) ?_ _
              go_wp2
              go_ret
              exact ⟨.inl ⟨F, g2, HI.out, rfl, hg2, hF.drewn⟩, hbw.drew⟩
          · have HI : Hid (IsProps s F) := hide (HA.out ⟨b0, b1, hx⟩)
            clear HNo HA hx
            go_enter Tryz.func74, Tryz.ntmps74
            go_wp2_with (first
              | (go_at_call_of 65 (Value.bool true); refine (unless_yes _ _).mono ?_; rintro e w' ⟨rfl, rfl⟩)
              | (go_at_call 128; refine (C.out).mono ?_; rintro e w1 ⟨⟨g, rfl, hg, hrow⟩, hb1⟩; have d0 := row_get hrow (k := 0) (by rw [HM2.out]; omega); rw [HL0.out] at d0; have d1 := row_get hrow (k := m + 1) (by rw [HM2.out]; omega); rw [HL1.out] at d1))
            refine wp_region_any (by kernel_rfl) ?_
            change wpAny _ _ _ _ _ _ _ (World.drew _)
            refine wpAny_take (i := 0) (v := ?_) rfl (by kernel_rfl) (by kernel_rfl) (by kernel_rfl) (fun _ _ _ h => h) (Or.inl ⟨by rfl, ?_⟩) ?_
            rotate_left 1
            · intro w; go_simp <;> with_reducible rfl
            refine wpAny_take (i := 1) (v := ?_) rfl (by kernel_rfl) (by kernel_rfl) (by kernel_rfl) (fun _ _ _ h => h) (Or.inl ⟨by rfl, ?_⟩) ?_
            rotate_left 1
            · intro w; go_simp <;> with_reducible rfl
            have s1 : (1 : Int) ≤ (m : Int) + 1 := by omega
            have s2 : (m : Int) + 1 ≤ (m : Int) + 2 := by omega
            have s3 : ((m : Int) + 1 - 1).toNat = m := by omega
            refine wpAny_take (i := 2) (v := ?_) rfl (by kernel_rfl) (by kernel_rfl) (by kernel_rfl) (fun _ _ _ h => h) (Or.inl ⟨by rfl, ?_⟩) ?_
            rotate_left 1
            · intro w; go_simp <;> with_reducible rfl
            refine wpAny_ready (rs := [3]) (by kernel_rfl) (by simp) ?_
            refine AllReady.cons rfl (fun K hK => ?_) AllReady.nil
            go_simp
            go_wp2_with (go_at_call 130; refine (propertyNames_any _).mono ?_; rintro e w' ⟨rfl, rfl⟩)
            try (refine hK _ _ ?_; clear hK K)
            refine wpAny_ready (rs := [4]) (by kernel_rfl) (by simp) ?_
            refine AllReady.cons rfl (fun K hK => ?_) AllReady.nil
            go_simp
            go_wp2_with (go_at_call 129; refine (CF.out w1 g hb1 hrow HM.out).mono ?_; rintro e w3 ⟨g2, rfl, hg2, hF, hbw⟩)
            try (refine hK _ _ ?_; clear hK K)
            refine wpAny_take (i := 5) (v := ?_) rfl (by kernel_rfl) (by kernel_rfl) (by kernel_rfl) (fun _ _ _ h => h) (Or.inl ⟨by rfl, ?_⟩) ?_
            rotate_left 1
            · intro w; go_simp <;> with_reducible rfl
            refine wpAny_done (by kernel_rfl) ?_ _
            have x0 : w3.cell? ⟨g2, 1, none⟩ = some (.bool true) := by have := hF.there 0 (by decide); rw [b0] at this; exact this
            have x1 : w3.cell? ⟨g2, 3, none⟩ = some (.bool true) := by have := hF.there 1 (by decide); rw [b1] at this; exact this
            have x2 : w3.cell? ⟨g2, 5, none⟩ = some (.bool false) := by have := hF.there 2 (by decide); rw [b2] at this; exact this
            have x3 : w3.cell? ⟨g2, 7, none⟩ = some (.bool true) := by have := hF.there 3 (by decide); rw [b3] at this; exact this
            go_wp2_with (go_at_call_of 65 (Value.bool true); refine (unless_yes _ _).mono ?_; rintro e w' ⟨rfl, rfl⟩)
            refine wp_region_any (by kernel_rfl) ?_
            change wpAny _ _ _ _ _ _ _ (World.drew _)
            refine wpAny_take (i := 0) (v := ?_) rfl (by kernel_rfl) (by kernel_rfl) (by kernel_rfl) (fun _ _ _ h => h) (Or.inl ⟨by rfl, ?_⟩) ?_
            rotate_left 1
            · intro w; go_simp <;> with_reducible rfl
            refine wpAny_take (i := 1) (v := ?_) rfl (by kernel_rfl) (by kernel_rfl) (by kernel_rfl) (fun _ _ _ h => h) (Or.inl ⟨by rfl, ?_⟩) ?_
            rotate_left 1
            · intro w; go_simp <;> with_reducible rfl
            refine wpAny_take (i := 2) (v := ?_) rfl (by kernel_rfl) (by kernel_rfl) (by kernel_rfl) (fun _ _ _ h => h) (Or.inl ⟨by rfl, ?_⟩) ?_
            rotate_left 1
            · intro w; go_simp <;> with_reducible rfl
            refine wpAny_take (i := 4) (v := ?_) rfl (by kernel_rfl) (by kernel_rfl) (by kernel_rfl) (fun _ _ _ h => h) (Or.inl ⟨by rfl, ?_⟩) ?_
            rotate_left 1
            · intro w; go_simp <;> with_reducible rfl
            refine wpAny_take (i := 5) (v := ?_) rfl (by kernel_rfl) (by kernel_rfl) (by kernel_rfl) (fun _ _ _ h => h) (Or.inl ⟨by rfl, ?_⟩) ?_
            rotate_left 1
            · intro w; go_simp <;> with_reducible rfl
            refine wpAny_take (i := 6) (v := ?_) rfl (by kernel_rfl) (by kernel_rfl) (by kernel_rfl) (fun _ _ _ h => h) (Or.inl ⟨by rfl, ?_⟩) ?_
            rotate_left 1
            · intro w; go_simp <;> with_reducible rfl
            refine wpAny_ready (rs := [3, 7]) (by kernel_rfl) (by simp) ?_
            refine AllReady.cons rfl (fun K hK => ?_) (AllReady.cons rfl (fun K hK => ?_) AllReady.nil)
            · go_simp
              refine hK _ _ ?_
              clear hK K
              refine wpAny_ready (rs := [7]) (by kernel_rfl) (by simp) ?_
              refine AllReady.cons rfl (fun K hK => ?_) AllReady.nil
              go_simp
              refine hK _ _ ?_
              clear hK K
              refine wpAny_take (i := 8) (v := ?_) rfl (by kernel_rfl) (by kernel_rfl) (by kernel_rfl) (fun _ _ _ h => h) (Or.inl ⟨by rfl, ?_⟩) ?_
              rotate_left 1
              · intro w; go_simp <;> with_reducible rfl
              refine wpAny_ready (rs := [9]) (by kernel_rfl) (by simp) ?_
              refine AllReady.cons rfl (fun K hK => ?_) AllReady.nil
              go_simp
              go_wp2_with (go_at_call_of 65 (Value.bool true); refine (unless_yes _ _).mono ?_; rintro e w' ⟨rfl, rfl⟩)
              try (refine hK _ _ ?_; clear hK K)
              refine wpAny_done (by kernel_rfl) ?_ _
              go_wp2
              go_ret
              exact ⟨.inl ⟨F, g2, HI.out, rfl, hg2, hF.drewn⟩, hbw.drew⟩
            · go_simp
              refine hK _ _ ?_
              clear hK K
              refine wpAny_ready (rs := [3]) (by kernel_rfl) (by simp) ?_
              refine AllReady.cons rfl (fun K hK => ?_) AllReady.nil
              go_simp
              refine hK _ _ ?_
              clear hK K
              refine wpAny_take (i := 8) (v := ?_) rfl (by kernel_rfl) (by kernel_rfl) (by kernel_rfl) (fun _ _ _ h => h) (Or.inl ⟨by rfl, ?_⟩) ?_
              rotate_left 1
              · intro w; go_simp <;> with_reducible rfl
              refine wpAny_ready (rs := [9]) (by kernel_rfl) (by simp) ?_
              refine AllReady.cons rfl (fun K hK => ?_) AllReady.nil
              go_simp
              go_wp2_with (go_at_call_of 65 (Value.bool true); refine (unless_yes _ _).mono ?_; rintro e w' ⟨rfl, rfl⟩)
              try (refine hK _ _ ?_; clear hK K)
              refine wpAny_done (by kernel_rfl) ?_ _
              go_wp2
              go_ret
              exact ⟨.inl ⟨F, g2, HI.out, rfl, hg2, hF.drewn⟩, hbw.drew⟩
end Go.Proofs.YthpndgcaoeokeaaGreatDoor
