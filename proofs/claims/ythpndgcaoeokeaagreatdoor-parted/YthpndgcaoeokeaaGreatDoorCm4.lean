/- The program's own: when.writeTime, when.Print. Lengths, by cutting and byte by byte: the same (plain lists). The program's own: strings.Cut at one byte, words.Number, when.cutUnit. Lengths, by cutting and byte by byte: the same, whole (plain lists). The program's own: when.cutUnit, when.readLength, when.Length. -/
import Derived.Test.YthpndgcaoeokeaaGreatDoorCm3
import Derived.Lib.IndexLaws
namespace Go.Proofs.YthpndgcaoeokeaaGreatDoor
open Go.RowKit Go.Sort

theorem printL_eq2 (n : Int) : (⟨(pad 4 (Cal.ofY (n / 86400))).toArray⟩ : ByteArray) ++ ⟨(pad 2 (Cal.ofM (n / 86400))).toArray⟩ ++ ⟨(pad 2 (Cal.ofD (n / 86400))).toArray⟩ ++ ⟨#[84]⟩ ++
    ⟨(pad 2 (n % 86400 / 3600)).toArray⟩ ++ ⟨(pad 2 (n % 3600 / 60)).toArray⟩ ++ ⟨(pad 2 (n % 60)).toArray⟩ ++ ⟨#[90]⟩ = ⟨(printL n).toArray⟩ := by
  rw [show n % 3600 / 60 = n % 86400 / 60 % 60 from by omega]
  exact printL_eq n

theorem whenPadded_in (W : World) (n width : Int) (D : Nat) (os : Array Obj) (ht : Tab W) (h0 : 0 ≤ n) (h1 : 0 ≤ width) (h : (width = 2 ∧ n < 100) ∨ (width = 4 ∧ 1000 ≤ n ∧ n < 10000)) :
    Calls Tryz.prog 67 #[.int .i64 n, .int .i64 width] (grow (redrawn W D) os) fun e w'' => e = .returned (.string ⟨(pad width.toNat n).toArray⟩) ∧ ∃ p : Regrown, w'' = grow (redrawn W p.d) p.os := by
  obtain ⟨k, rfl⟩ := Int.eq_ofNat_of_zero_le h1
  obtain ⟨u, rfl⟩ := Int.eq_ofNat_of_zero_le h0
  exact Calls.regrown_of (whenPadded_any u k _ (ht.on (below_regrown W D os)) (by omega))

set_option maxRecDepth 100000 in
set_option maxHeartbeats 4000000 in
theorem writeTime_no (n : Int) (w : World) (h : isTimeB n = false) :
    Calls Tryz.prog 36 #[.int .i64 n] w fun e w' => e = .panicked (rsn 1) ∧ Below w.heap.size w w' := by
  have e1 : Cal.num 2200 1 1 * 86400 = 7258118400 := by rw [Cal.num_end]; rfl
  have E1 := hide e1
  clear e1
  by_cases h0 : 0 ≤ n
  · have h1 : ¬ n < 7258118400 := by simp [isTimeB, h0] at h; omega
    have h1' : decide (n < 7258118400) = false := by simpa using h1
    clear h
    go_enter Tryz.func36, Tryz.ntmps36
    go_wp2_with (first
      | (go_at_call 64; refine (dayBegin_any _ _ _ _ (by omega) (by omega) (by omega) (by omega) (by omega) (by omega)).mono ?_; rintro e w1 ⟨rfl, hb⟩; rw [E1.out])
      | (go_at_call_of 65 (Value.bool false); refine (unless_no _ _).mono ?_; rintro e w' ⟨rfl, rfl⟩))
    exact ⟨rfl, rfl, hb⟩
  · have h0' : decide (0 ≤ n) = false := by simpa using h0
    clear h
    go_enter Tryz.func36, Tryz.ntmps36
    go_wp2_with (first
      | (go_at_call 64; refine (dayBegin_any _ _ _ _ (by omega) (by omega) (by omega) (by omega) (by omega) (by omega)).mono ?_; rintro e w1 ⟨rfl, hb⟩; rw [E1.out])
      | (go_at_call_of 65 (Value.bool false); refine (unless_no _ _).mono ?_; rintro e w' ⟨rfl, rfl⟩))
    exact ⟨rfl, rfl, hb⟩

set_option maxRecDepth 100000 in
set_option maxHeartbeats 4000000 in
theorem writeTime_yes (n : Int) (w : World) (ht : Tab w) (h : isTimeB n = true) :
    Calls Tryz.prog 36 #[.int .i64 n] w fun e w' => e = .returned (.string ⟨(printL n).toArray⟩) ∧ Below w.heap.size w w' := by
  have E1 : Hid (Cal.num 2200 1 1 * 86400 = 7258118400) := hide (by rw [Cal.num_end]; rfl)
  have hb : 0 ≤ n ∧ n < 7258118400 := by simpa [isTimeB] using h
  have hd := ofY_bd (n := n / 86400) (by omega) (by omega)
  obtain ⟨d1, d2, d3, d4, d5, d6⟩ := hd
  have hm := Cal.md_bd (Cal.ofY (n / 86400)) (Cal.ofM (n / 86400))
  clear h
  go_enter Tryz.func36, Tryz.ntmps36
  go_wp2_with (first
    | (go_at_call 64; refine (dayBegin_any _ _ _ _ (by omega) (by omega) (by omega) (by omega) (by omega) (by omega)).mono ?_; rintro e w1 ⟨rfl, hb1⟩; rw [E1.out])
    | (go_at_call_of 65 (Value.bool true); refine (unless_yes _ _).mono ?_; rintro e w' ⟨rfl, rfl⟩)
    | (go_at_call 66; refine (ofTime_any _ _ (by omega) (by omega)).mono ?_; rintro e w2 ⟨rfl, hb2⟩; unfold dayA))
  have hw2 : Below w.heap.size w w2 := hb1.trans (hb2.mono hb1.size)
  have hbw : Below w.heap.size w (w2.alloc (.cells #[.int .i64 (Cal.ofY (n / 86400)), .int .i64 (Cal.ofM (n / 86400)), .int .i64 (Cal.ofD (n / 86400))] 106)) := hw2.alloc hw2.size _
  have c0 : (w2.alloc (.cells #[.int .i64 (Cal.ofY (n / 86400)), .int .i64 (Cal.ofM (n / 86400)), .int .i64 (Cal.ofD (n / 86400))] 106)).cell? ⟨w2.heap.size, 0, none⟩ = some (.int .i64 (Cal.ofY (n / 86400))) := by simp [go_sem]
  have c1 : (w2.alloc (.cells #[.int .i64 (Cal.ofY (n / 86400)), .int .i64 (Cal.ofM (n / 86400)), .int .i64 (Cal.ofD (n / 86400))] 106)).cell? ⟨w2.heap.size, 1, none⟩ = some (.int .i64 (Cal.ofM (n / 86400))) := by simp [go_sem]
  have c2 : (w2.alloc (.cells #[.int .i64 (Cal.ofY (n / 86400)), .int .i64 (Cal.ofM (n / 86400)), .int .i64 (Cal.ofD (n / 86400))] 106)).cell? ⟨w2.heap.size, 2, none⟩ = some (.int .i64 (Cal.ofD (n / 86400))) := by simp [go_sem]
  generalize (w2.alloc (.cells #[.int .i64 (Cal.ofY (n / 86400)), .int .i64 (Cal.ofM (n / 86400)), .int .i64 (Cal.ofD (n / 86400))] 106)) = W at *
  have k0 := cell_regrown c0
  have k1 := cell_regrown c1
  have k2 := cell_regrown c2
  have hT := hide (ht.on hbw)
  clear c0 c1 c2 hb1 hb2 hw2 ht
  have hl := pad_length
  refine wp_region_quiet_below (by kernel_rfl) (by kernel_rfl) ?_
  repeat (go_big_quiet_step (first | exact whenPadded_in W _ _ _ _ hT.out (by omega) (by omega) (by omega)))
  refine wpQuiet_nil ?_
  intro _ hw'
  obtain ⟨⟨dq, osq⟩, hw''⟩ := hw'
  subst hw''
  go_wp2
  go_ret
  exact ⟨ret_str (printL_eq2 n), hbw.trans ((below_regrown W dq osq).mono hbw.size)⟩

theorem print1_yes (n : Int) (p : Addr) (W : World) (ht : Tab W) (hc : W.cell? p = some (.int .i64 n)) (h : isTimeB n = true) :
    Calls Tryz.prog 35 #[.pointer (some p)] W fun E w' => E = .returned (.string ⟨(printL n).toArray⟩) ∧ Below W.heap.size W w' := by
  have C := hide (writeTime_yes n W ht h)
  clear h ht
  go_enter Tryz.func35, Tryz.ntmps35
  go_wp2_with (go_at_call 36; refine (C.out).mono ?_; rintro e w1 ⟨rfl, hb⟩)
  go_ret
  exact ⟨rfl, hb⟩
theorem print1_no (n : Int) (p : Addr) (W : World) (hc : W.cell? p = some (.int .i64 n)) (h : isTimeB n = false) :
    Calls Tryz.prog 35 #[.pointer (some p)] W fun E w' => E = .panicked (rsn 1) ∧ Below W.heap.size W w' := by
  have C := hide (writeTime_no n W h)
  clear h
  go_enter Tryz.func35, Tryz.ntmps35
  go_wp2_with (go_at_call 36; refine (C.out).mono ?_; rintro e w1 ⟨rfl, hb⟩)
  exact ⟨rfl, rfl, hb⟩

theorem print_any (n : Int) (w : World) (ht : Tab w) :
    Calls Tryz.prog 18 #[.int .i64 n] w fun E w' => E = .returned (printV n) ∧ Below w.heap.size w w' := by
  have hmf : ∀ (fn : Fn) (first cap : Array Value) (w : World), (Instr.makeFunc fn first cap).run Tryz.prog w = .ok (.func fn first cap) w := fun _ _ _ _ => rfl
  have hcl : ∀ W, Below (w.alloc (.cells #[.int .i64 n] 3)).heap.size (w.alloc (.cells #[.int .i64 n] 3)) W → W.cell? ⟨w.heap.size, 0, none⟩ = some (.int .i64 n) := fun W hb => by
    rw [hb.cell (p := ⟨w.heap.size, 0, none⟩) (by simp)]; simp [go_sem]
  have hT : ∀ W, Below (w.alloc (.cells #[.int .i64 n] 3)).heap.size (w.alloc (.cells #[.int .i64 n] 3)) W → Tab W := fun W hb =>
    ht.on (((Below.refl _ _).alloc (Nat.le_refl _) _).trans (hb.mono (by simp)))
  cases h : isTimeB n
  · have hv : printV n = .tuple #[.string ⟨#[]⟩, .int .i64 1] := by unfold printV; rw [h]; rfl
    rw [hv]
    have C := hide (answerPrint_no ⟨w.heap.size, 0, none⟩ 1 (w.alloc (.cells #[.int .i64 n] 3)) (fun W hb => print1_no n _ W (hcl W hb) h))
    clear hcl hT ht hv h
    go_enter Tryz.func18, Tryz.ntmps18
    go_wp2_with (go_at_call 34; refine (C.out).mono ?_; rintro e w1 ⟨rfl, hb⟩)
    go_ret2
    exact ⟨rfl, ((Below.refl _ _).alloc (Nat.le_refl _) _).trans (hb.mono (by simp))⟩
  · have hv : printV n = .tuple #[.string ⟨(printL n).toArray⟩, .int .i64 0] := by unfold printV; rw [h]; rfl
    rw [hv]
    have C := hide (answerPrint_yes ⟨w.heap.size, 0, none⟩ ⟨(printL n).toArray⟩ (w.alloc (.cells #[.int .i64 n] 3)) (fun W hb => print1_yes n _ W (hT W hb) (hcl W hb) h))
    clear hcl hT ht hv h
    go_enter Tryz.func18, Tryz.ntmps18
    go_wp2_with (go_at_call 34; refine (C.out).mono ?_; rintro e w1 ⟨rfl, hb⟩)
    go_ret2
    exact ⟨rfl, ((Below.refl _ _).alloc (Nat.le_refl _) _).trans (hb.mono (by simp))⟩
end Go.Proofs.YthpndgcaoeokeaaGreatDoor
namespace Go.Proofs.YthpndgcaoeokeaaGreatDoor

def U : Nat → List (UInt8 × Int)
  | 1 => [(72, 3600), (77, 60), (83, 1)]
  | 2 => [(77, 60), (83, 1)]
  | 3 => [(83, 1)]
  | _ => []

theorem nd {c : UInt8} {n : Nat} (h : c.toNat = n) (hn : 57 < n) : dig c = false := by
  cases q : dig c
  · rfl
  · have := (dig_iff c).1 q; omega
theorem notin_dig {c : UInt8} {ds : List UInt8} (h : dig c = false) (hd : ∀ x ∈ ds, dig x = true) : c ∉ ds := by
  intro m; have := hd c m; rw [h] at this; cases this
theorem u8 {c : UInt8} {n : Nat} (h : c.toNat = n) : c = UInt8.ofNat n := by rw [← h]; simp

/-- the clock's part -/
theorem clock_eq : ∀ (k : Nat) (l : List UInt8), l.length ≤ k → ∀ (u : Nat), 1 ≤ u → u ≤ 4 → ∀ (sum : Int) (parts : Nat), l ≠ [] ∨ 0 < parts →
    lenGo l [] u true sum parts = (chain (U u) l).map (sum + ·)
  | 0, l, hk, u, _, _, sum, parts, hp => by
    have : l = [] := List.eq_nil_of_length_eq_zero (by omega)
    subst this
    have hp' : 0 < parts := by rcases hp with h | h; exact absurd rfl h; exact h
    rw [chain_nil]
    unfold lenGo
    rw [if_neg (by simp; omega)]
    simp
  | k + 1, l, hk, u, u1, u4, sum, parts, hp => by
    obtain ⟨ds, rest, rfl, hd, hr⟩ := split_digits l
    rw [lenGo_run ds rest [] u true sum parts hd, List.nil_append]
    rcases hr with rfl | ⟨c, r, rfl, hc⟩
    · -- digits alone
      rw [List.append_nil] at *
      unfold lenGo
      by_cases e : ds = []
      · subst e
        have hp' : 0 < parts := by rcases hp with h | h; exact absurd rfl h; exact h
        rw [chain_nil, if_neg (by simp; omega)]; simp
      · rw [if_pos (.inr e)]
        have a72 : (72 : UInt8) ∉ ds := notin_dig (nd (n := 72) rfl (by omega)) hd
        have a77 : (77 : UInt8) ∉ ds := notin_dig (nd (n := 77) rfl (by omega)) hd
        have a83 : (83 : UInt8) ∉ ds := notin_dig (nd (n := 83) rfl (by omega)) hd
        have hend : chain [] ds = none := by unfold chain; rw [if_neg e]
        have : u = 1 ∨ u = 2 ∨ u = 3 ∨ u = 4 := by omega
        rcases this with rfl | rfl | rfl | rfl
        · rw [show U 1 = [(72, 3600), (77, 60), (83, 1)] from rfl, chain_absent a72, chain_absent a77, chain_absent a83, hend]; rfl
        · rw [show U 2 = [(77, 60), (83, 1)] from rfl, chain_absent a77, chain_absent a83, hend]; rfl
        · rw [show U 3 = [(83, 1)] from rfl, chain_absent a83, hend]; rfl
        · rw [show U 4 = [] from rfl, hend]; rfl
    · have hmem : c ∈ ds ++ c :: r := by simp
      have hrk : r.length ≤ k := by simp at hk; omega
      have a72 : (72 : UInt8) ∉ ds := notin_dig (nd (n := 72) rfl (by omega)) hd
      have a77 : (77 : UInt8) ∉ ds := notin_dig (nd (n := 77) rfl (by omega)) hd
      have a83 : (83 : UInt8) ∉ ds := notin_dig (nd (n := 83) rfl (by omega)) hd
      conv => lhs; unfold lenGo
      rw [if_neg (by rw [hc]; exact Bool.false_ne_true)]
      by_cases hT : c.toNat = 84
      · rw [if_pos hT, if_pos (.inl rfl)]
        have hne : ∀ m ∈ U u, m.1 ≠ c := by
          rw [u8 hT]
          have : u = 1 ∨ u = 2 ∨ u = 3 ∨ u = 4 := by omega
          rcases this with rfl | rfl | rfl | rfl <;> simp [U]
        rw [chain_other hc (U u) _ hne hmem]; rfl
      · rw [if_neg hT]
        have hu : u = 1 ∨ u = 2 ∨ u = 3 ∨ u = 4 := by omega
        -- which unit it is
        by_cases hH : c.toNat = 72
        · have ec : c = 72 := u8 hH
          subst ec
          by_cases h1 : u ≤ 1
          · obtain rfl : u = 1 := by omega
            have hj : nextU 1 72 = 1 := by decide
            rw [hj]
            cases hn : numB ds
            · rw [if_pos (.inl rfl), show U 1 = [(72, 3600), (77, 60), (83, 1)] from rfl, chain_here_no a72 hn]; rfl
            · rw [if_neg (by simp), clock_eq k r hrk 2 (by omega) (by omega) _ _ (.inr (by omega)), show U 1 = [(72, 3600), (77, 60), (83, 1)] from rfl, chain_here a72 hn, Option.map_map]
              congr 1; funext x; simp [sizeU]; omega
          · have hj : nextU u 72 = 4 := by rcases hu with rfl | rfl | rfl | rfl <;> first | omega | decide
            rw [if_pos (.inr (.inl hj)), chain_other hc (U u) _ (by rcases hu with rfl | rfl | rfl | rfl <;> first | omega | simp [U]) hmem]; rfl
        by_cases hM : c.toNat = 77
        · have ec : c = 77 := u8 hM
          subst ec
          by_cases h2 : u ≤ 2
          · have hj : nextU u 77 = 2 := by rcases hu with rfl | rfl | rfl | rfl <;> first | omega | decide
            rw [hj]
            have main : (if numB ds = false ∨ (2 : Nat) = 4 ∨ decide (0 < 2) ≠ true then none else lenGo r [] (2 + 1) true (sum + numN ds * sizeU 2) (parts + 1)) = (chain (U 2) (ds ++ 77 :: r)).map (sum + ·) := by
              cases hn : numB ds
              · rw [if_pos (.inl rfl), show U 2 = [(77, 60), (83, 1)] from rfl, chain_here_no a77 hn]; rfl
              · rw [if_neg (by simp), clock_eq k r hrk 3 (by omega) (by omega) _ _ (.inr (by omega)), show U 2 = [(77, 60), (83, 1)] from rfl, chain_here a77 hn, Option.map_map]
                congr 1; funext x; simp [sizeU]; omega
            have : u = 1 ∨ u = 2 := by omega
            rcases this with rfl | rfl
            · by_cases hb : (72 : UInt8) ∈ r
              · rw [show U 1 = (72, 3600) :: U 2 from rfl, chain_behind a72 hc (by decide) hb]
                cases hn : numB ds
                · rw [if_pos (.inl rfl)]; rfl
                · rw [if_neg (by simp), clock_eq k r hrk 3 (by omega) (by omega) _ _ (.inr (by omega)), chain_other (nd (c := 72) (n := 72) rfl (by omega)) (U 3) r (by simp [U]) hb]; rfl
              · rw [show U 1 = (72, 3600) :: U 2 from rfl, chain_absent (by simp [a72, hb]), ← main]
            · exact main
          · have hj : nextU u 77 = 4 := by rcases hu with rfl | rfl | rfl | rfl <;> first | omega | decide
            rw [if_pos (.inr (.inl hj)), chain_other hc (U u) _ (by rcases hu with rfl | rfl | rfl | rfl <;> first | omega | simp [U]) hmem]; rfl
        by_cases hS : c.toNat = 83
        · have ec : c = 83 := u8 hS
          subst ec
          by_cases h3 : u ≤ 3
          · have hj : nextU u 83 = 3 := by rcases hu with rfl | rfl | rfl | rfl <;> first | omega | decide
            rw [hj]
            have main : (if numB ds = false ∨ (3 : Nat) = 4 ∨ decide (0 < 3) ≠ true then none else lenGo r [] (3 + 1) true (sum + numN ds * sizeU 3) (parts + 1)) = (chain (U 3) (ds ++ 83 :: r)).map (sum + ·) := by
              cases hn : numB ds
              · rw [if_pos (.inl rfl), show U 3 = [(83, 1)] from rfl, chain_here_no a83 hn]; rfl
              · rw [if_neg (by simp), clock_eq k r hrk 4 (by omega) (by omega) _ _ (.inr (by omega)), show U 3 = [(83, 1)] from rfl, chain_here a83 hn, Option.map_map]
                congr 1; funext x; simp [sizeU]; omega
            have bad : ∀ (x : UInt8), dig x = false → x ∈ r → (if numB ds = false ∨ (3 : Nat) = 4 ∨ decide (0 < 3) ≠ true then none else lenGo r [] (3 + 1) true (sum + numN ds * sizeU 3) (parts + 1)) = none := by
              intro x hx hb
              cases hn : numB ds
              · rw [if_pos (.inl rfl)]
              · rw [if_neg (by simp), clock_eq k r hrk 4 (by omega) (by omega) _ _ (.inr (by omega)), chain_other hx (U 4) r (by simp [U]) hb]; rfl
            have two : (if numB ds = false ∨ (3 : Nat) = 4 ∨ decide (0 < 3) ≠ true then none else lenGo r [] (3 + 1) true (sum + numN ds * sizeU 3) (parts + 1)) = (chain (U 2) (ds ++ 83 :: r)).map (sum + ·) := by
              by_cases hb : (77 : UInt8) ∈ r
              · rw [show U 2 = (77, 60) :: U 3 from rfl, chain_behind a77 hc (by decide) hb, bad 77 (nd (n := 77) rfl (by omega)) hb]; rfl
              · rw [show U 2 = (77, 60) :: U 3 from rfl, chain_absent (by simp [a77, hb]), ← main]
            have : u = 1 ∨ u = 2 ∨ u = 3 := by omega
            rcases this with rfl | rfl | rfl
            · by_cases hb : (72 : UInt8) ∈ r
              · rw [show U 1 = (72, 3600) :: U 2 from rfl, chain_behind a72 hc (by decide) hb, bad 72 (nd (n := 72) rfl (by omega)) hb]; rfl
              · rw [show U 1 = (72, 3600) :: U 2 from rfl, chain_absent (by simp [a72, hb]), ← two]
            · exact two
            · exact main
          · have hj : nextU u 83 = 4 := by rcases hu with rfl | rfl | rfl | rfl <;> first | omega | decide
            rw [if_pos (.inr (.inl hj)), chain_other hc (U u) _ (by rcases hu with rfl | rfl | rfl | rfl <;> first | omega | simp [U]) hmem]; rfl
        have hj : nextU u c = 4 := by
          unfold nextU; rw [if_neg (by omega), if_neg (by omega), if_neg (by omega), if_neg (by omega)]
        have hne : ∀ m ∈ U u, m.1 ≠ c := by
          have b1 : (72 : UInt8) ≠ c := fun e => hH (by rw [← e]; rfl)
          have b2 : (77 : UInt8) ≠ c := fun e => hM (by rw [← e]; rfl)
          have b3 : (83 : UInt8) ≠ c := fun e => hS (by rw [← e]; rfl)
          rcases hu with rfl | rfl | rfl | rfl <;> simp [U, b1, b2, b3]
        rw [if_pos (.inr (.inl hj)), chain_other hc (U u) _ hne hmem]; rfl
end Go.Proofs.YthpndgcaoeokeaaGreatDoor
namespace Go.Proofs.YthpndgcaoeokeaaGreatDoor
open Go.RowKit Go.Sort

theorem sp_index_no {c : UInt8} {l : List UInt8} (h : Lib.indexByte l c = -1) : sp c l = none := by
  refine sp_none fun m => ?_
  obtain ⟨k, hk⟩ := List.getElem?_of_mem m
  exact Lib.indexByte_none h k hk
theorem sp_index_yes {c : UInt8} {l : List UInt8} {o : Nat} (h : Lib.indexByte l c = o) : sp c l = some (l.take o, l.drop (o + 1)) ∧ o < l.length := by
  obtain ⟨h1, h2⟩ := Lib.indexByte_some h
  have hlt : o < l.length := by
    rw [List.getElem?_eq_some_iff] at h1; exact h1.1
  have e : l = l.take o ++ c :: l.drop (o + 1) := by
    conv => lhs; rw [← List.take_append_drop o l]
    rw [List.drop_eq_getElem_cons hlt]
    rw [List.getElem?_eq_getElem hlt] at h1
    rw [Option.some.inj h1]
  have hn : c ∉ l.take o := by
    intro m
    obtain ⟨k, hk⟩ := List.getElem?_of_mem m
    rw [List.getElem?_take] at hk
    by_cases q : k < o
    · rw [if_pos q] at hk; exact h2 k q hk
    · rw [if_neg q] at hk; cases hk
  refine ⟨?_, hlt⟩
  conv => lhs; rw [e]
  exact sp_at hn

/-- Cut's three answers -/
def cutV (c : UInt8) (l : List UInt8) : Value := match sp c l with
  | none => .tuple #[.string ⟨l.toArray⟩, .string ⟨#[]⟩, .bool false]
  | some (a, b) => .tuple #[.string ⟨a.toArray⟩, .string ⟨b.toArray⟩, .bool true]

theorem ba_eta (s : ByteArray) (l : List UInt8) (h : s.data.toList = l) : s = ⟨l.toArray⟩ := by
  cases s with | mk d => subst h; simp
theorem extract_take (l : List UInt8) (o : Nat) : (⟨l.toArray⟩ : ByteArray).extract 0 o = ⟨(l.take o).toArray⟩ := by
  apply ba_eta; rw [extract_cut]; simp [cut]
theorem extract_drop (l : List UInt8) (o : Nat) : (⟨l.toArray⟩ : ByteArray).extract o l.length = ⟨(l.drop o).toArray⟩ := by
  apply ba_eta; rw [extract_cut]; simp [cut]; exact List.take_of_length_le (by simp)

theorem ret_cut {a a' b b' : ByteArray} {f : Bool} (h1 : a = a') (h2 : b = b') : Ending.returned (.tuple #[.string a, .string b, .bool f]) = .returned (.tuple #[.string a', .string b', .bool f]) := by rw [h1, h2]

set_option maxRecDepth 100000 in
set_option maxHeartbeats 1000000 in
theorem cut1_any (l : List UInt8) (c : UInt8) (w : World) (hl : l.length ≤ maxLen) :
    Calls Tryz.prog 126 #[.string ⟨l.toArray⟩, .string ⟨#[c]⟩] w fun e w' => e = .returned (cutV c l) ∧ Below w.heap.size w w' := by
  have ci := Tryz.stringslite_Index_one ⟨l.toArray⟩ c w
  have CI := hide ci
  have hge := Lib.indexByte_ge l c
  unfold maxLen at hl
  clear ci
  by_cases h : Lib.indexByte l c = -1
  · have hv : cutV c l = .tuple #[.string ⟨l.toArray⟩, .string ⟨#[]⟩, .bool false] := by unfold cutV; rw [sp_index_no h]
    rw [hv]
    have CJ : Hid (Calls Tryz.prog 202 #[.string ⟨l.toArray⟩, .string ⟨#[c]⟩] w fun e w' => e = .returned (.int .i64 (-1)) ∧ w' = w) := by
      have := CI.out; rw [show (⟨l.toArray⟩ : ByteArray).data.toList = l from rfl, h] at this; exact this
    clear h hv CI hge
    go_enter Tryz.func126, Tryz.ntmps126
    go_wp2_with (go_at_call 202; refine (CJ.out).mono ?_; rintro e w' ⟨rfl, rfl⟩)
    go_ret3
    exact ⟨rfl, Below.refl _ _⟩
  · obtain ⟨o, ho⟩ := Int.eq_ofNat_of_zero_le (show 0 ≤ Lib.indexByte l c by omega)
    obtain ⟨hs, hlt⟩ := sp_index_yes ho
    have hv : cutV c l = .tuple #[.string ⟨(l.take o).toArray⟩, .string ⟨(l.drop (o + 1)).toArray⟩, .bool true] := by unfold cutV; rw [hs]
    rw [hv]
    have CJ : Hid (Calls Tryz.prog 202 #[.string ⟨l.toArray⟩, .string ⟨#[c]⟩] w fun e w' => e = .returned (.int .i64 (o : Int)) ∧ w' = w) := by
      have := CI.out; rw [show (⟨l.toArray⟩ : ByteArray).data.toList = l from rfl, ho] at this; exact this
    have E1 := hide (extract_take l o)
    have E2 := hide (extract_drop l (o + 1))
    clear h hv CI hge ho hs
    go_enter Tryz.func126, Tryz.ntmps126
    go_wp2_with (go_at_call 202; refine (CJ.out).mono ?_; rintro e w' ⟨rfl, rfl⟩)
    go_quiet (fail)
    go_wp2
    go_ret3
    exact ⟨ret_cut E1.out E2.out, below_drewN (Below.refl _ _) _⟩

theorem cutV_form (c : UInt8) (l : List UInt8) : ∃ a b f, cutV c l = .tuple #[.string a, .string b, .bool f] := by
  unfold cutV; cases sp c l with
  | none => exact ⟨_, _, _, rfl⟩
  | some y => exact ⟨_, _, _, rfl⟩

theorem strCut_any (l : List UInt8) (c : UInt8) (w : World) (hl : l.length ≤ maxLen) :
    Calls Tryz.prog 72 #[.string ⟨l.toArray⟩, .string ⟨#[c]⟩] w fun e w' => e = .returned (cutV c l) ∧ Below w.heap.size w w' := by
  have k := cut1_any l c w hl
  obtain ⟨a, b, f, hf⟩ := cutV_form c l
  rw [hf] at k ⊢
  have C := hide k
  clear k hf hl
  go_enter Tryz.func72, Tryz.ntmps72
  go_wp2_with (go_at_call 126; refine (C.out).mono ?_; rintro e w1 ⟨rfl, hb⟩)
  go_ret3
  exact ⟨rfl, hb⟩

/-- how the reading of a number ends -/
def numE (l : List UInt8) (x : Int) : Ending := if numB l = true then .returned (.int .i64 (numN l)) else .panicked (rsn x)
theorem numE_yes {l : List UInt8} {x : Int} (h : numB l = true) : numE l x = .returned (.int .i64 (numN l)) := by unfold numE; rw [if_pos h]
theorem numE_no {l : List UInt8} {x : Int} (h : numB l = false) : numE l x = .panicked (rsn x) := by unfold numE; rw [if_neg (by rw [h]; exact Bool.false_ne_true)]

theorem head_pos (c : UInt8) (r : List UInt8) : 0 < (⟨(c :: r).toArray⟩ : ByteArray).size := by show 0 < (c :: r).length; simp
theorem head_ne {c : UInt8} (r : List UInt8) (q : ¬ c = 48) : ((((⟨(c :: r).toArray⟩ : ByteArray)[0]'(head_pos c r)).toNat : Int) != 48) = true := by
  show ((c.toNat : Int) != 48) = true
  rw [bne_iff_ne]; intro e; apply q; apply UInt8.toNat_inj.1; show _ = 48; omega
theorem head_eq (r : List UInt8) : ((((⟨((48 : UInt8) :: r).toArray⟩ : ByteArray)[0]'(head_pos 48 r)).toNat : Int) != 48) = false := rfl

set_option maxRecDepth 100000 in
set_option maxHeartbeats 1000000 in
theorem wordsNumber_any (l : List UInt8) (x : Int) (w : World) (hl : l.length ≤ maxLen) :
    Calls Tryz.prog 127 #[.string ⟨l.toArray⟩, .int .i64 x] w fun E w' => E = numE l x ∧ w = w' := by
  unfold maxLen at hl
  match l with
  | [] =>
    rw [numE_no (by rfl)]
    go_enter Tryz.func127, Tryz.ntmps127
    go_wp2_with (go_at_call_of 65 (Value.bool false); refine (unless_no _ _).mono ?_; rintro e w' ⟨rfl, rfl⟩)
    exact ⟨rfl, rfl, rfl⟩
  | c :: r =>
    by_cases h7 : r.length + 1 ≤ 7
    case neg =>
      rw [numE_no (by simp [numB, numShape]; intro q; omega)]
      have h7' : decide ((r.length : Int) + 1 ≤ 7) = false := by simp; omega
      go_enter Tryz.func127, Tryz.ntmps127
      go_wp2_with (go_at_call_of 65 (Value.bool false); refine (unless_no _ _).mono ?_; rintro e w' ⟨rfl, rfl⟩)
      exact ⟨rfl, rfl, rfl⟩
    case pos =>
      have h7' : (r.length : Int) + 1 ≤ 7 := by omega
      have cy := words_digits_yes ⟨(c :: r).toArray⟩ x w (by show (c :: r).length ≤ 7; simp; omega)
      have cn := words_digits_no ⟨(c :: r).toArray⟩ x w (by show (c :: r).length ≤ 7; simp; omega)
      by_cases hs : c = 48 ∧ r ≠ []
      case pos =>
        obtain ⟨rfl, hr⟩ := hs
        obtain ⟨r0, r1, rfl⟩ := List.exists_cons_of_ne_nil hr
        rw [numE_no (by simp [numB, numShape])]
        have h9 : (r1.length : Int) + 1 + 1 ≤ 7 := by simp at h7; omega
        have q2 := head_eq (r0 :: r1)
        clear cy cn hr h7 h7'
        go_enter Tryz.func127, Tryz.ntmps127
        go_wp2_with (first
          | (go_at_call_of 65 (Value.bool true); refine (unless_yes _ _).mono ?_; rintro e w' ⟨rfl, rfl⟩)
          | (go_at_call_of 65 (Value.bool false); refine (unless_no _ _).mono ?_; rintro e w' ⟨rfl, rfl⟩))
        exact ⟨rfl, rfl, rfl⟩
      case neg =>
        have hsh : numShape (c :: r) = true := by
          simp [numShape]
          refine ⟨by omega, ?_⟩
          by_cases q : c = 48
          · right; by_cases e : r = []
            · rw [e]
            · exact absurd ⟨q, e⟩ hs
          · exact .inl q
        have hlen : (c :: r).length ≤ 7 := by simp; omega
        cases ha : allDig ⟨(c :: r).toArray⟩
        case false =>
          have hb : numB (c :: r) = false := by
            unfold numB
            rw [digs_no (l := c :: r) ha]; simp
          rw [numE_no hb]
          have C := hide (cn ha)
          clear cy cn ha hb hsh hlen
          rcases r with _ | ⟨r0, r1⟩
          case nil =>
            by_cases q : c = 48
            · subst q
              go_enter Tryz.func127, Tryz.ntmps127
              go_wp2_with (first
                | (go_at_call_of 65 (Value.bool true); refine (unless_yes _ _).mono ?_; rintro e w' ⟨rfl, rfl⟩)
                | (go_at_call 123; refine (C.out).mono ?_; rintro e w' ⟨rfl, rfl⟩))
              exact ⟨rfl, rfl, rfl⟩
            · have q' : (c == 48) = false := by simp [q]
              have q2 := head_ne [] q
              go_enter Tryz.func127, Tryz.ntmps127
              go_wp2_with (first
                | (go_at_call_of 65 (Value.bool true); refine (unless_yes _ _).mono ?_; rintro e w' ⟨rfl, rfl⟩)
                | (go_at_call 123; refine (C.out).mono ?_; rintro e w' ⟨rfl, rfl⟩))
              exact ⟨rfl, rfl, rfl⟩
          case cons =>
            have q : ¬ c = 48 := fun e => hs ⟨e, by simp⟩
            have q2 := head_ne (r0 :: r1) q
            have h9 : (r1.length : Int) + 1 + 1 ≤ 7 := by simp at h7; omega
            clear h7 h7' hs
            go_enter Tryz.func127, Tryz.ntmps127
            go_wp2_with (first
              | (go_at_call_of 65 (Value.bool true); refine (unless_yes _ _).mono ?_; rintro e w' ⟨rfl, rfl⟩)
              | (go_at_call 123; refine (C.out).mono ?_; rintro e w' ⟨rfl, rfl⟩))
            exact ⟨rfl, rfl, rfl⟩
        case true =>
          have hd := dval_le (c :: r) 7 hlen ha
          have hb : numB (c :: r) = true := by
            unfold numB
            rw [hsh, digs_yes (l := c :: r) ha]; simp; exact hd.1
          have hN : numN (c :: r) = dval (c :: r) := by
            unfold numN
            rw [if_pos hsh, digs_yes (l := c :: r) ha]
          rw [numE_yes hb, hN]
          have C := hide (cy ha)
          clear cy cn ha hb hsh hlen hd hN
          rcases r with _ | ⟨r0, r1⟩
          case nil =>
            by_cases q : c = 48
            · subst q
              go_enter Tryz.func127, Tryz.ntmps127
              go_wp2_with (first
                | (go_at_call_of 65 (Value.bool true); refine (unless_yes _ _).mono ?_; rintro e w' ⟨rfl, rfl⟩)
                | (go_at_call 123; refine (C.out).mono ?_; rintro e w' ⟨rfl, rfl⟩))
              go_ret
              exact ⟨rfl, rfl⟩
            · have q' : (c == 48) = false := by simp [q]
              have q2 := head_ne [] q
              go_enter Tryz.func127, Tryz.ntmps127
              go_wp2_with (first
                | (go_at_call_of 65 (Value.bool true); refine (unless_yes _ _).mono ?_; rintro e w' ⟨rfl, rfl⟩)
                | (go_at_call 123; refine (C.out).mono ?_; rintro e w' ⟨rfl, rfl⟩))
              go_ret
              exact ⟨rfl, rfl⟩
          case cons =>
            have q : ¬ c = 48 := fun e => hs ⟨e, by simp⟩
            have q2 := head_ne (r0 :: r1) q
            have h9 : (r1.length : Int) + 1 + 1 ≤ 7 := by simp at h7; omega
            clear h7 h7' hs
            go_enter Tryz.func127, Tryz.ntmps127
            go_wp2_with (first
              | (go_at_call_of 65 (Value.bool true); refine (unless_yes _ _).mono ?_; rintro e w' ⟨rfl, rfl⟩)
              | (go_at_call 123; refine (C.out).mono ?_; rintro e w' ⟨rfl, rfl⟩))
            go_ret
            exact ⟨rfl, rfl⟩
end Go.Proofs.YthpndgcaoeokeaaGreatDoor
namespace Go.Proofs.YthpndgcaoeokeaaGreatDoor

theorem T_nd : dig (84 : UInt8) = false := nd (n := 84) rfl (by omega)
theorem D_nd : dig (68 : UInt8) = false := nd (n := 68) rfl (by omega)
theorem sp_head {c : UInt8} {ds r b : List UInt8} {x : UInt8} (hd : ∀ y ∈ ds, dig y = true) (hc : dig c = false) (hx : x ≠ c) : sp c (ds ++ x :: r) ≠ some ([], b) := by
  intro h
  have e := (sp_some h).1
  cases ds with
  | nil => simp at e; exact hx e.1
  | cons y ds => simp at e; have := hd y List.mem_cons_self; rw [e.1, hc] at this; cases this

/-- behind the days -/
theorem rest_eq (r : List UInt8) (sum : Int) (parts : Nat) (hp : 0 < parts) : lenGo r [] 1 false sum parts =
    if r = [] then some sum else match sp 84 r with
      | some ([], b) => if b = [] then none else (chain (U 1) b).map (sum + ·)
      | _ => none := by
  obtain ⟨ds, rest, rfl, hd, hr⟩ := split_digits r
  rw [lenGo_run ds rest [] 1 false sum parts hd, List.nil_append]
  have aT : (84 : UInt8) ∉ ds := notin_dig T_nd hd
  rcases hr with rfl | ⟨c, r, rfl, hc⟩
  · rw [List.append_nil]
    unfold lenGo
    by_cases e : ds = []
    · rw [if_neg (by simp [e]; omega), if_pos e]
    · rw [if_pos (.inr e), if_neg e, sp_none aT]
  · rw [if_neg (by simp)]
    conv => lhs; unfold lenGo
    rw [if_neg (by rw [hc]; exact Bool.false_ne_true)]
    by_cases hT : c.toNat = 84
    · obtain rfl : c = 84 := u8 hT
      rw [if_pos hT, sp_at aT]
      by_cases e : ds = []
      · subst e
        by_cases e2 : r = []
        · rw [if_pos (.inr (.inr e2))]; simp [e2]
        · rw [if_neg (by simp [e2]), clock_eq r.length r (Nat.le_refl _) 1 (by omega) (by omega) _ _ (.inl e2)]; simp [e2]
      · rw [if_pos (.inr (.inl e))]
        cases ds with
        | nil => exact absurd rfl e
        | cons y ds => rfl
    · rw [if_neg hT]
      have hn := nextU_ge 1 c (by omega)
      rw [if_pos (by
        by_cases q : nextU 1 c = 4
        · exact .inr (.inl q)
        · right; right; rw [decide_eq_true (by omega)]; simp)]
      have hx : c ≠ 84 := fun e => hT (by rw [e]; rfl)
      have := fun b => sp_head (b := b) (r := r) hd T_nd hx
      cases q : sp 84 (ds ++ c :: r) with
      | none => rfl
      | some y =>
        obtain ⟨a, b⟩ := y
        cases a with
        | nil => exact absurd q (this b)
        | cons y a => rfl

/-- a length read by cutting: the date's part, the clock's part -/
def readL (body : List UInt8) : Option Int :=
  match unitC 68 86400 ((sp 84 body).elim body Prod.fst), chain (U 1) ((sp 84 body).elim [] Prod.snd) with
  | some (v, []), some n => some (v + n)
  | _, _ => none

theorem map_zero (o : Option Int) : o.map (0 + ·) = o := by cases o <;> simp

theorem len_top (body : List UInt8) (hne : body ≠ []) : lenGo body [] 0 false 0 0 = match sp 84 body with
    | some (_, []) => none
    | _ => readL body := by
  obtain ⟨ds, rest, rfl, hd, hr⟩ := split_digits body
  rw [lenGo_run ds rest [] 0 false 0 0 hd, List.nil_append]
  have aT : (84 : UInt8) ∉ ds := notin_dig T_nd hd
  have aD : (68 : UInt8) ∉ ds := notin_dig D_nd hd
  rcases hr with rfl | ⟨c, r, rfl, hc⟩
  · rw [List.append_nil] at *
    unfold lenGo
    rw [if_pos (.inl rfl), sp_none aT]
    unfold readL
    rw [sp_none aT]
    simp only [Option.elim_none, unitC, sp_none aD, chain_nil]
    cases ds with
    | nil => exact absurd rfl hne
    | cons y ds => rfl
  · conv => lhs; unfold lenGo
    rw [if_neg (by rw [hc]; exact Bool.false_ne_true)]
    by_cases hT : c.toNat = 84
    · obtain rfl : c = 84 := u8 hT
      rw [if_pos hT, sp_at aT]
      cases r with
      | nil => rw [if_pos (.inr (.inr rfl))]
      | cons z r =>
        unfold readL
        rw [sp_at aT]
        simp only [Option.elim_some, unitC, sp_none aD]
        cases ds with
        | nil =>
          rw [if_neg (by simp), clock_eq (z :: r).length (z :: r) (Nat.le_refl _) 1 (by omega) (by omega) _ _ (.inl (by simp)), map_zero]
          cases chain (U 1) (z :: r) <;> simp
        | cons y ds => rw [if_pos (.inr (.inl (by simp)))]
    · rw [if_neg hT]
      have hx : c ≠ 84 := fun e => hT (by rw [e]; rfl)
      by_cases hD : c.toNat = 68
      · obtain rfl : c = 68 := u8 hD
        have hj : nextU 0 68 = 0 := by decide
        rw [hj]
        -- where T lies
        cases q : sp 84 r with
        | none =>
          have qr : (84 : UInt8) ∉ r := by
            intro m
            have : ∀ l : List UInt8, (84 : UInt8) ∈ l → sp 84 l ≠ none := by
              intro l
              induction l with
              | nil => intro h; cases h
              | cons x l ih =>
                intro h
                unfold sp
                by_cases e : x = 84
                · rw [if_pos e]; simp
                · rw [if_neg e]
                  rcases List.mem_cons.1 h with h | h
                  · exact absurd h.symm e
                  · have := ih h
                    cases w : sp 84 l with
                    | none => exact absurd w this
                    | some y => simp
            exact this r m q
          have qb : sp 84 (ds ++ 68 :: r) = none := sp_none (by simp [aT, qr])
          unfold readL
          rw [qb]
          simp only [Option.elim_none, unitC, sp_at aD, chain_nil]
          cases hn : numB ds
          · rw [if_pos (.inl rfl)]; simp
          · rw [if_neg (by simp), rest_eq r _ _ (by omega), q]
            cases r with
            | nil => simp [sizeU]
            | cons y r => simp
        | some y =>
          obtain ⟨a, b⟩ := y
          obtain ⟨e, ha⟩ := sp_some q
          have qb : sp 84 (ds ++ 68 :: r) = some (ds ++ 68 :: a, b) := by
            rw [e, show ds ++ (68 : UInt8) :: (a ++ 84 :: b) = (ds ++ 68 :: a) ++ 84 :: b from by simp]
            exact sp_at (by simp [aT, ha])
          unfold readL
          rw [qb]
          have hr0 : r ≠ [] := by rw [e]; simp
          simp only [Option.elim_some, unitC, sp_at aD]
          cases hn : numB ds
          · rw [if_pos (.inl rfl)]
            cases b <;> simp
          · rw [if_neg (by simp), rest_eq r _ _ (by omega), if_neg hr0, q]
            cases a with
            | nil =>
              cases b with
              | nil => simp
              | cons z b =>
                simp only [if_true]
                rw [if_neg (by simp)]
                cases chain (U 1) (z :: b) <;> simp [sizeU]
            | cons y a =>
              cases b with
              | nil => rfl
              | cons z b => simp
      · have hn := nextU_ge 0 c (by omega)
        have hj : nextU 0 c ≠ 0 := by
          intro e
          unfold nextU at e
          rw [if_neg (by omega)] at e
          split at e
          · omega
          · split at e
            · omega
            · split at e <;> omega
        rw [if_pos (by right; right; rw [decide_eq_true (by omega)]; simp)]
        have hxD : c ≠ 68 := fun e => hD (by rw [e]; rfl)
        -- the date's part has c in it, ahead of any D
        have key : ∀ t : List UInt8, ∀ v, unitC 68 86400 (ds ++ c :: t) ≠ some (v, []) := by
          intro t v h
          unfold unitC at h
          cases q : sp 68 (ds ++ c :: t) with
          | none => rw [q] at h; simp at h
          | some y =>
            obtain ⟨a, b⟩ := y
            rw [q] at h
            simp only at h
            obtain ⟨e, ha⟩ := sp_some q
            have hca : c ∈ a := by
              rcases List.append_eq_append_iff.1 e with ⟨t, e1, e2⟩ | ⟨t, e1, e2⟩
              · cases t with
                | nil => simp at e2; exact absurd e2.1 hxD
                | cons y t => simp at e2; rw [e1, ← e2.1]; simp
              · cases t with
                | nil => simp at e2; exact absurd e2.1.symm hxD
                | cons y t => simp at e2; exfalso; apply aD; rw [e1, ← e2.1]; simp
            by_cases hn : numB a = true
            · have := numB_dig hn c hca; rw [hc] at this; cases this
            · rw [if_neg hn] at h; cases h
        have none_of : ∀ (t : List UInt8) (o : Option Int), (match unitC 68 86400 (ds ++ c :: t), o with
            | some (v, []), some n => some (v + n)
            | _, _ => none) = none := by
          intro t o
          cases q : unitC 68 86400 (ds ++ c :: t) with
          | none => rfl
          | some y =>
            obtain ⟨v, b⟩ := y
            cases b with
            | nil => exact absurd q (key t v)
            | cons z b => rfl
        unfold readL
        cases q : sp 84 (ds ++ c :: r) with
        | none => simp only [Option.elim_none]; exact (none_of r _).symm
        | some y =>
          obtain ⟨a, b⟩ := y
          obtain ⟨e, ha⟩ := sp_some q
          obtain ⟨t, ht⟩ : ∃ t, a = ds ++ c :: t := by
            rcases List.append_eq_append_iff.1 e with ⟨t, e1, e2⟩ | ⟨t, e1, e2⟩
            · cases t with
              | nil => simp at e2; exact absurd e2.1 hx
              | cons y t => simp at e2; exact ⟨t, by rw [e1, ← e2.1]⟩
            · cases t with
              | nil => simp at e2; exact absurd e2.1.symm hx
              | cons y t => simp at e2; exfalso; apply aT; rw [e1, ← e2.1]; simp
          subst ht
          cases b with
          | nil => rfl
          | cons z b => simp only [Option.elim_some]; exact (none_of t _).symm
end Go.Proofs.YthpndgcaoeokeaaGreatDoor
namespace Go.Proofs.YthpndgcaoeokeaaGreatDoor
open Go.RowKit Go.Sort

/-- how the cutting of a unit ends -/
def unitE (mark : UInt8) (secs : Int) (l : List UInt8) : Ending := match unitC mark secs l with
  | some (v, r) => .returned (.tuple #[.int .i64 v, .string ⟨r.toArray⟩])
  | none => .panicked (rsn 1)

set_option maxHeartbeats 1000000 in
theorem cutUnit_any (l : List UInt8) (mark : UInt8) (secs : Int) (w : World) (hl : l.length ≤ maxLen) (h0 : 0 ≤ secs) (h1 : secs ≤ 86400) :
    Calls Tryz.prog 73 #[.string ⟨l.toArray⟩, .string ⟨#[mark]⟩, .int .i64 secs] w fun E w' => E = unitE mark secs l ∧ Below w.heap.size w w' := by
  have k := strCut_any l mark w hl
  unfold unitE unitC
  unfold cutV at k
  cases q : sp mark l with
  | none =>
    rw [q] at k
    have C := hide k
    clear k q
    go_enter Tryz.func73, Tryz.ntmps73
    go_wp2_with (go_at_call 72; refine (C.out).mono ?_; rintro e w1 ⟨rfl, hb⟩)
    go_ret2
    exact ⟨rfl, hb⟩
  | some y =>
    obtain ⟨a, b⟩ := y
    rw [q] at k
    have ha : a.length ≤ maxLen := by
      have e := (sp_some q).1
      have : a.length ≤ l.length := by rw [e]; simp
      omega
    have kn := fun W => wordsNumber_any a 1 W ha
    have C := hide k
    simp only []
    cases hn : numB a
    · rw [if_neg Bool.false_ne_true]
      rw [numE_no hn] at kn
      have D := hide kn
      clear k q kn ha hn
      go_enter Tryz.func73, Tryz.ntmps73
      go_wp2_with (first
        | (go_at_call 72; refine (C.out).mono ?_; rintro e w1 ⟨rfl, hb⟩)
        | (go_at_call 127; refine (D.out _).mono ?_; rintro e w' ⟨rfl, rfl⟩))
      exact ⟨rfl, rfl, hb⟩
    · rw [if_pos rfl]
      rw [numE_yes hn] at kn
      have hb := numN_bd a hn
      have hm : numN a * secs ≤ 9999999 * 86400 := Int.mul_le_mul hb.2 h1 h0 (by omega)
      have hm0 : 0 ≤ numN a * secs := Int.mul_nonneg hb.1 h0
      have D := hide kn
      clear k q kn ha hn
      go_enter Tryz.func73, Tryz.ntmps73
      go_wp2_with (first
        | (go_at_call 72; refine (C.out).mono ?_; rintro e w1 ⟨rfl, hb⟩)
        | (go_at_call 127; refine (D.out _).mono ?_; rintro e w' ⟨rfl, rfl⟩))
      go_ret2
      exact ⟨rfl, ‹Below _ _ _›⟩

end Go.Proofs.YthpndgcaoeokeaaGreatDoor
