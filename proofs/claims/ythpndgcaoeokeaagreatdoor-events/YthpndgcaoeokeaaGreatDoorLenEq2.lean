/- Lengths, by cutting and byte by byte: the same (plain lists). -/
import Derived.Test.YthpndgcaoeokeaaGreatDoorLenEq
namespace Go.Proofs.YthpndgcaoeokeaaGreatDoor

def U : Nat → List (UInt8 × Int)
  | 1 => [(72, 3600), (77, 60), (83, 1)]
  | 2 => [(77, 60), (83, 1)]
  | 3 => [(83, 1)]
  | _ => []

theorem nd {c : UInt8} {n : Nat} (h : c.toNat = n) (hn : 57 < n) : dig c = false := by
  cases q : dig c
  · rfl
  · have := (dig_iff c).1 q; omega
theorem ne_of_dig {c x : UInt8} (h : dig c = false) (hx : dig x = true) : x ≠ c := by
  intro e; rw [e, h] at hx; cases hx
theorem notin_dig {c : UInt8} {ds : List UInt8} (h : dig c = false) (hd : ∀ x ∈ ds, dig x = true) : c ∉ ds := by
  intro m; have := hd c m; rw [h] at this; cases this
theorem u8 {c : UInt8} {n : Nat} (h : c.toNat = n) : c = UInt8.ofNat n := by rw [← h]; simp

/-- the clock's part -/
theorem clock_eq : ∀ (k : Nat) (l : List UInt8), l.length ≤ k → ∀ (u : Nat), 1 ≤ u → u ≤ 4 → ∀ (sum : Int) (parts : Nat), l ≠ [] ∨ 0 < parts →
    lenGo l [] u true sum parts = (chain (U u) l).map (sum + ·)
  | 0, l, hk, u, _, _, sum, parts, hp => by
    have : l = [] := List.eq_nil_of_length_eq_zero (by omega)
    subst this
    have hp' : 0 < parts := by rcases hp with h | h; exact absurd rfl h; exact h
    rw [chain_nil]
    unfold lenGo
    rw [if_neg (by simp; omega)]
    simp
  | k + 1, l, hk, u, u1, u4, sum, parts, hp => by
    obtain ⟨ds, rest, rfl, hd, hr⟩ := split_digits l
    rw [lenGo_run ds rest [] u true sum parts hd, List.nil_append]
    rcases hr with rfl | ⟨c, r, rfl, hc⟩
    · -- digits alone
      rw [List.append_nil] at *
      unfold lenGo
      by_cases e : ds = []
      · subst e
        have hp' : 0 < parts := by rcases hp with h | h; exact absurd rfl h; exact h
        rw [chain_nil, if_neg (by simp; omega)]; simp
      · rw [if_pos (.inr e)]
        have a72 : (72 : UInt8) ∉ ds := notin_dig (nd (n := 72) rfl (by omega)) hd
        have a77 : (77 : UInt8) ∉ ds := notin_dig (nd (n := 77) rfl (by omega)) hd
        have a83 : (83 : UInt8) ∉ ds := notin_dig (nd (n := 83) rfl (by omega)) hd
        have hend : chain [] ds = none := by unfold chain; rw [if_neg e]
        have : u = 1 ∨ u = 2 ∨ u = 3 ∨ u = 4 := by omega
        rcases this with rfl | rfl | rfl | rfl
        · rw [show U 1 = [(72, 3600), (77, 60), (83, 1)] from rfl, chain_absent a72, chain_absent a77, chain_absent a83, hend]; rfl
        · rw [show U 2 = [(77, 60), (83, 1)] from rfl, chain_absent a77, chain_absent a83, hend]; rfl
        · rw [show U 3 = [(83, 1)] from rfl, chain_absent a83, hend]; rfl
        · rw [show U 4 = [] from rfl, hend]; rfl
    · have hmem : c ∈ ds ++ c :: r := by simp
      have hrk : r.length ≤ k := by simp at hk; omega
      have a72 : (72 : UInt8) ∉ ds := notin_dig (nd (n := 72) rfl (by omega)) hd
      have a77 : (77 : UInt8) ∉ ds := notin_dig (nd (n := 77) rfl (by omega)) hd
      have a83 : (83 : UInt8) ∉ ds := notin_dig (nd (n := 83) rfl (by omega)) hd
      conv => lhs; unfold lenGo
      rw [if_neg (by rw [hc]; exact Bool.false_ne_true)]
      by_cases hT : c.toNat = 84
      · rw [if_pos hT, if_pos (.inl rfl)]
        have hne : ∀ m ∈ U u, m.1 ≠ c := by
          rw [u8 hT]
          have : u = 1 ∨ u = 2 ∨ u = 3 ∨ u = 4 := by omega
          rcases this with rfl | rfl | rfl | rfl <;> simp [U]
        rw [chain_other hc (U u) _ hne hmem]; rfl
      · rw [if_neg hT]
        have hu : u = 1 ∨ u = 2 ∨ u = 3 ∨ u = 4 := by omega
        -- which unit it is
        by_cases hH : c.toNat = 72
        · have ec : c = 72 := u8 hH
          subst ec
          by_cases h1 : u ≤ 1
          · obtain rfl : u = 1 := by omega
            have hj : nextU 1 72 = 1 := by decide
            rw [hj]
            cases hn : numB ds
            · rw [if_pos (.inl rfl), show U 1 = [(72, 3600), (77, 60), (83, 1)] from rfl, chain_here_no a72 hn]; rfl
            · rw [if_neg (by simp), clock_eq k r hrk 2 (by omega) (by omega) _ _ (.inr (by omega)), show U 1 = [(72, 3600), (77, 60), (83, 1)] from rfl, chain_here a72 hn, Option.map_map]
              congr 1; funext x; simp [sizeU]; omega
          · have hj : nextU u 72 = 4 := by rcases hu with rfl | rfl | rfl | rfl <;> first | omega | decide
            rw [if_pos (.inr (.inl hj)), chain_other hc (U u) _ (by rcases hu with rfl | rfl | rfl | rfl <;> first | omega | simp [U]) hmem]; rfl
        by_cases hM : c.toNat = 77
        · have ec : c = 77 := u8 hM
          subst ec
          by_cases h2 : u ≤ 2
          · have hj : nextU u 77 = 2 := by rcases hu with rfl | rfl | rfl | rfl <;> first | omega | decide
            rw [hj]
            have main : (if numB ds = false ∨ (2 : Nat) = 4 ∨ decide (0 < 2) ≠ true then none else lenGo r [] (2 + 1) true (sum + numN ds * sizeU 2) (parts + 1)) = (chain (U 2) (ds ++ 77 :: r)).map (sum + ·) := by
              cases hn : numB ds
              · rw [if_pos (.inl rfl), show U 2 = [(77, 60), (83, 1)] from rfl, chain_here_no a77 hn]; rfl
              · rw [if_neg (by simp), clock_eq k r hrk 3 (by omega) (by omega) _ _ (.inr (by omega)), show U 2 = [(77, 60), (83, 1)] from rfl, chain_here a77 hn, Option.map_map]
                congr 1; funext x; simp [sizeU]; omega
            have : u = 1 ∨ u = 2 := by omega
            rcases this with rfl | rfl
            · by_cases hb : (72 : UInt8) ∈ r
              · rw [show U 1 = (72, 3600) :: U 2 from rfl, chain_behind a72 hc (by decide) hb]
                cases hn : numB ds
                · rw [if_pos (.inl rfl)]; rfl
                · rw [if_neg (by simp), clock_eq k r hrk 3 (by omega) (by omega) _ _ (.inr (by omega)), chain_other (nd (c := 72) (n := 72) rfl (by omega)) (U 3) r (by simp [U]) hb]; rfl
              · rw [show U 1 = (72, 3600) :: U 2 from rfl, chain_absent (by simp [a72, hb]), ← main]
            · exact main
          · have hj : nextU u 77 = 4 := by rcases hu with rfl | rfl | rfl | rfl <;> first | omega | decide
            rw [if_pos (.inr (.inl hj)), chain_other hc (U u) _ (by rcases hu with rfl | rfl | rfl | rfl <;> first | omega | simp [U]) hmem]; rfl
        by_cases hS : c.toNat = 83
        · have ec : c = 83 := u8 hS
          subst ec
          by_cases h3 : u ≤ 3
          · have hj : nextU u 83 = 3 := by rcases hu with rfl | rfl | rfl | rfl <;> first | omega | decide
            rw [hj]
            have main : (if numB ds = false ∨ (3 : Nat) = 4 ∨ decide (0 < 3) ≠ true then none else lenGo r [] (3 + 1) true (sum + numN ds * sizeU 3) (parts + 1)) = (chain (U 3) (ds ++ 83 :: r)).map (sum + ·) := by
              cases hn : numB ds
              · rw [if_pos (.inl rfl), show U 3 = [(83, 1)] from rfl, chain_here_no a83 hn]; rfl
              · rw [if_neg (by simp), clock_eq k r hrk 4 (by omega) (by omega) _ _ (.inr (by omega)), show U 3 = [(83, 1)] from rfl, chain_here a83 hn, Option.map_map]
                congr 1; funext x; simp [sizeU]; omega
            have bad : ∀ (x : UInt8), dig x = false → x ∈ r → (if numB ds = false ∨ (3 : Nat) = 4 ∨ decide (0 < 3) ≠ true then none else lenGo r [] (3 + 1) true (sum + numN ds * sizeU 3) (parts + 1)) = none := by
              intro x hx hb
              cases hn : numB ds
              · rw [if_pos (.inl rfl)]
              · rw [if_neg (by simp), clock_eq k r hrk 4 (by omega) (by omega) _ _ (.inr (by omega)), chain_other hx (U 4) r (by simp [U]) hb]; rfl
            have two : (if numB ds = false ∨ (3 : Nat) = 4 ∨ decide (0 < 3) ≠ true then none else lenGo r [] (3 + 1) true (sum + numN ds * sizeU 3) (parts + 1)) = (chain (U 2) (ds ++ 83 :: r)).map (sum + ·) := by
              by_cases hb : (77 : UInt8) ∈ r
              · rw [show U 2 = (77, 60) :: U 3 from rfl, chain_behind a77 hc (by decide) hb, bad 77 (nd (n := 77) rfl (by omega)) hb]; rfl
              · rw [show U 2 = (77, 60) :: U 3 from rfl, chain_absent (by simp [a77, hb]), ← main]
            have : u = 1 ∨ u = 2 ∨ u = 3 := by omega
            rcases this with rfl | rfl | rfl
            · by_cases hb : (72 : UInt8) ∈ r
              · rw [show U 1 = (72, 3600) :: U 2 from rfl, chain_behind a72 hc (by decide) hb, bad 72 (nd (n := 72) rfl (by omega)) hb]; rfl
              · rw [show U 1 = (72, 3600) :: U 2 from rfl, chain_absent (by simp [a72, hb]), ← two]
            · exact two
            · exact main
          · have hj : nextU u 83 = 4 := by rcases hu with rfl | rfl | rfl | rfl <;> first | omega | decide
            rw [if_pos (.inr (.inl hj)), chain_other hc (U u) _ (by rcases hu with rfl | rfl | rfl | rfl <;> first | omega | simp [U]) hmem]; rfl
        have hj : nextU u c = 4 := by
          unfold nextU; rw [if_neg (by omega), if_neg (by omega), if_neg (by omega), if_neg (by omega)]
        have hne : ∀ m ∈ U u, m.1 ≠ c := by
          have b1 : (72 : UInt8) ≠ c := fun e => hH (by rw [← e]; rfl)
          have b2 : (77 : UInt8) ≠ c := fun e => hM (by rw [← e]; rfl)
          have b3 : (83 : UInt8) ≠ c := fun e => hS (by rw [← e]; rfl)
          rcases hu with rfl | rfl | rfl | rfl <;> simp [U, b1, b2, b3]
        rw [if_pos (.inr (.inl hj)), chain_other hc (U u) _ hne hmem]; rfl
end Go.Proofs.YthpndgcaoeokeaaGreatDoor
