/- Lengths, by cutting and byte by byte: the same, whole (plain lists). -/
import Derived.Test.YthpndgcaoeokeaaGreatDoorLenEq2
namespace Go.Proofs.YthpndgcaoeokeaaGreatDoor

theorem T_nd : dig (84 : UInt8) = false := nd (n := 84) rfl (by omega)
theorem D_nd : dig (68 : UInt8) = false := nd (n := 68) rfl (by omega)
theorem sp_head {c : UInt8} {ds r b : List UInt8} {x : UInt8} (hd : ∀ y ∈ ds, dig y = true) (hc : dig c = false) (hx : x ≠ c) : sp c (ds ++ x :: r) ≠ some ([], b) := by
  intro h
  have e := (sp_some h).1
  cases ds with
  | nil => simp at e; exact hx e.1
  | cons y ds => simp at e; have := hd y List.mem_cons_self; rw [e.1, hc] at this; cases this

/-- behind the days -/
theorem rest_eq (r : List UInt8) (sum : Int) (parts : Nat) (hp : 0 < parts) : lenGo r [] 1 false sum parts =
    if r = [] then some sum else match sp 84 r with
      | some ([], b) => if b = [] then none else (chain (U 1) b).map (sum + ·)
      | _ => none := by
  obtain ⟨ds, rest, rfl, hd, hr⟩ := split_digits r
  rw [lenGo_run ds rest [] 1 false sum parts hd, List.nil_append]
  have aT : (84 : UInt8) ∉ ds := notin_dig T_nd hd
  rcases hr with rfl | ⟨c, r, rfl, hc⟩
  · rw [List.append_nil]
    unfold lenGo
    by_cases e : ds = []
    · rw [if_neg (by simp [e]; omega), if_pos e]
    · rw [if_pos (.inr e), if_neg e, sp_none aT]
  · rw [if_neg (by simp)]
    conv => lhs; unfold lenGo
    rw [if_neg (by rw [hc]; exact Bool.false_ne_true)]
    by_cases hT : c.toNat = 84
    · obtain rfl : c = 84 := u8 hT
      rw [if_pos hT, sp_at aT]
      by_cases e : ds = []
      · subst e
        by_cases e2 : r = []
        · rw [if_pos (.inr (.inr e2))]; simp [e2]
        · rw [if_neg (by simp [e2]), clock_eq r.length r (Nat.le_refl _) 1 (by omega) (by omega) _ _ (.inl e2)]; simp [e2]
      · rw [if_pos (.inr (.inl e))]
        cases ds with
        | nil => exact absurd rfl e
        | cons y ds => rfl
    · rw [if_neg hT]
      have hn := nextU_ge 1 c (by omega)
      rw [if_pos (by
        by_cases q : nextU 1 c = 4
        · exact .inr (.inl q)
        · right; right; rw [decide_eq_true (by omega)]; simp)]
      have hx : c ≠ 84 := fun e => hT (by rw [e]; rfl)
      have := fun b => sp_head (b := b) (r := r) hd T_nd hx
      cases q : sp 84 (ds ++ c :: r) with
      | none => rfl
      | some y =>
        obtain ⟨a, b⟩ := y
        cases a with
        | nil => exact absurd q (this b)
        | cons y a => rfl

/-- a length read by cutting: the date's part, the clock's part -/
def readL (body : List UInt8) : Option Int :=
  match unitC 68 86400 ((sp 84 body).elim body Prod.fst), chain (U 1) ((sp 84 body).elim [] Prod.snd) with
  | some (v, []), some n => some (v + n)
  | _, _ => none

theorem map_zero (o : Option Int) : o.map (0 + ·) = o := by cases o <;> simp

theorem len_top (body : List UInt8) (hne : body ≠ []) : lenGo body [] 0 false 0 0 = match sp 84 body with
    | some (_, []) => none
    | _ => readL body := by
  obtain ⟨ds, rest, rfl, hd, hr⟩ := split_digits body
  rw [lenGo_run ds rest [] 0 false 0 0 hd, List.nil_append]
  have aT : (84 : UInt8) ∉ ds := notin_dig T_nd hd
  have aD : (68 : UInt8) ∉ ds := notin_dig D_nd hd
  rcases hr with rfl | ⟨c, r, rfl, hc⟩
  · rw [List.append_nil] at *
    unfold lenGo
    rw [if_pos (.inl rfl), sp_none aT]
    unfold readL
    rw [sp_none aT]
    simp only [Option.elim_none, unitC, sp_none aD, chain_nil]
    cases ds with
    | nil => exact absurd rfl hne
    | cons y ds => rfl
  · conv => lhs; unfold lenGo
    rw [if_neg (by rw [hc]; exact Bool.false_ne_true)]
    by_cases hT : c.toNat = 84
    · obtain rfl : c = 84 := u8 hT
      rw [if_pos hT, sp_at aT]
      cases r with
      | nil => rw [if_pos (.inr (.inr rfl))]
      | cons z r =>
        unfold readL
        rw [sp_at aT]
        simp only [Option.elim_some, unitC, sp_none aD]
        cases ds with
        | nil =>
          rw [if_neg (by simp), clock_eq (z :: r).length (z :: r) (Nat.le_refl _) 1 (by omega) (by omega) _ _ (.inl (by simp)), map_zero]
          cases chain (U 1) (z :: r) <;> simp
        | cons y ds => rw [if_pos (.inr (.inl (by simp)))]
    · rw [if_neg hT]
      have hx : c ≠ 84 := fun e => hT (by rw [e]; rfl)
      by_cases hD : c.toNat = 68
      · obtain rfl : c = 68 := u8 hD
        have hj : nextU 0 68 = 0 := by decide
        rw [hj]
        -- where T lies
        cases q : sp 84 r with
        | none =>
          have qr : (84 : UInt8) ∉ r := by
            intro m
            have : ∀ l : List UInt8, (84 : UInt8) ∈ l → sp 84 l ≠ none := by
              intro l
              induction l with
              | nil => intro h; cases h
              | cons x l ih =>
                intro h
                unfold sp
                by_cases e : x = 84
                · rw [if_pos e]; simp
                · rw [if_neg e]
                  rcases List.mem_cons.1 h with h | h
                  · exact absurd h.symm e
                  · have := ih h
                    cases w : sp 84 l with
                    | none => exact absurd w this
                    | some y => simp
            exact this r m q
          have qb : sp 84 (ds ++ 68 :: r) = none := sp_none (by simp [aT, qr])
          unfold readL
          rw [qb]
          simp only [Option.elim_none, unitC, sp_at aD, chain_nil]
          cases hn : numB ds
          · rw [if_pos (.inl rfl)]; simp
          · rw [if_neg (by simp), rest_eq r _ _ (by omega), q]
            cases r with
            | nil => simp [sizeU]
            | cons y r => simp
        | some y =>
          obtain ⟨a, b⟩ := y
          obtain ⟨e, ha⟩ := sp_some q
          have qb : sp 84 (ds ++ 68 :: r) = some (ds ++ 68 :: a, b) := by
            rw [e, show ds ++ (68 : UInt8) :: (a ++ 84 :: b) = (ds ++ 68 :: a) ++ 84 :: b from by simp]
            exact sp_at (by simp [aT, ha])
          unfold readL
          rw [qb]
          have hr0 : r ≠ [] := by rw [e]; simp
          simp only [Option.elim_some, unitC, sp_at aD]
          cases hn : numB ds
          · rw [if_pos (.inl rfl)]
            cases b <;> simp
          · rw [if_neg (by simp), rest_eq r _ _ (by omega), if_neg hr0, q]
            cases a with
            | nil =>
              cases b with
              | nil => simp
              | cons z b =>
                simp only [if_true]
                rw [if_neg (by simp)]
                cases chain (U 1) (z :: b) <;> simp [sizeU]
            | cons y a =>
              cases b with
              | nil => rfl
              | cons z b => simp
      · have hn := nextU_ge 0 c (by omega)
        have hj : nextU 0 c ≠ 0 := by
          intro e
          unfold nextU at e
          rw [if_neg (by omega)] at e
          split at e
          · omega
          · split at e
            · omega
            · split at e <;> omega
        rw [if_pos (by right; right; rw [decide_eq_true (by omega)]; simp)]
        have hxD : c ≠ 68 := fun e => hD (by rw [e]; rfl)
        -- the date's part has c in it, ahead of any D
        have key : ∀ t : List UInt8, ∀ v, unitC 68 86400 (ds ++ c :: t) ≠ some (v, []) := by
          intro t v h
          unfold unitC at h
          cases q : sp 68 (ds ++ c :: t) with
          | none => rw [q] at h; simp at h
          | some y =>
            obtain ⟨a, b⟩ := y
            rw [q] at h
            simp only at h
            obtain ⟨e, ha⟩ := sp_some q
            have hca : c ∈ a := by
              rcases List.append_eq_append_iff.1 e with ⟨t, e1, e2⟩ | ⟨t, e1, e2⟩
              · cases t with
                | nil => simp at e2; exact absurd e2.1 hxD
                | cons y t => simp at e2; rw [e1, ← e2.1]; simp
              · cases t with
                | nil => simp at e2; exact absurd e2.1.symm hxD
                | cons y t => simp at e2; exfalso; apply aD; rw [e1, ← e2.1]; simp
            by_cases hn : numB a = true
            · have := numB_dig hn c hca; rw [hc] at this; cases this
            · rw [if_neg hn] at h; cases h
        have none_of : ∀ (t : List UInt8) (o : Option Int), (match unitC 68 86400 (ds ++ c :: t), o with
            | some (v, []), some n => some (v + n)
            | _, _ => none) = none := by
          intro t o
          cases q : unitC 68 86400 (ds ++ c :: t) with
          | none => rfl
          | some y =>
            obtain ⟨v, b⟩ := y
            cases b with
            | nil => exact absurd q (key t v)
            | cons z b => rfl
        unfold readL
        cases q : sp 84 (ds ++ c :: r) with
        | none => simp only [Option.elim_none]; exact (none_of r _).symm
        | some y =>
          obtain ⟨a, b⟩ := y
          obtain ⟨e, ha⟩ := sp_some q
          obtain ⟨t, ht⟩ : ∃ t, a = ds ++ c :: t := by
            rcases List.append_eq_append_iff.1 e with ⟨t, e1, e2⟩ | ⟨t, e1, e2⟩
            · cases t with
              | nil => simp at e2; exact absurd e2.1 hx
              | cons y t => simp at e2; exact ⟨t, by rw [e1, ← e2.1]⟩
            · cases t with
              | nil => simp at e2; exact absurd e2.1.symm hx
              | cons y t => simp at e2; exfalso; apply aT; rw [e1, ← e2.1]; simp
          subst ht
          cases b with
          | nil => rfl
          | cons z b => simp only [Option.elim_some]; exact (none_of t _).symm
end Go.Proofs.YthpndgcaoeokeaaGreatDoor
