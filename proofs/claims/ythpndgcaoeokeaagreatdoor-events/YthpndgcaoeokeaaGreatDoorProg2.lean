/- The program's own: days.There, when.readDay, when.readClock, when.readTime. -/
import Derived.Test.YthpndgcaoeokeaaGreatDoorProg1
import Derived.ChangeKeysEq
import Derived.Deep.RegionHeld3
import Derived.Deep.DrawnRows
namespace Go.Proofs.YthpndgcaoeokeaaGreatDoor
open Go.RowKit Go.Sort

def validB (y m d : Int) : Bool := decide (1 ≤ m) && decide (m ≤ 12) && decide (1 ≤ d) && decide (d ≤ Cal.md y m)
theorem validB_iff (y m d : Int) : validB y m d = true ↔ Cal.Valid y m d := by
  simp [validB, Cal.Valid, and_assoc]

/-- two days compared as a whole -/
theorem eq_days (a b c x y z : Int) (w : World) :
    (Op.equalIn 10000 106 (.agg #[.int .i64 a, .int .i64 b, .int .i64 c]) (.agg #[.int .i64 x, .int .i64 y, .int .i64 z])).run Tryz.prog w = .ok ((a == x) && (b == y) && (c == z)) w := by
  have hs : (Tryz.prog.info? 3).isSome = true := by kernel_rfl
  obtain ⟨i, hi⟩ := Option.isSome_iff_exists.1 hs
  have hc : Tryz.prog.cellsOf 3 = 1 := by kernel_rfl
  rw [run_equalIn_array w 9999 _ _ Tryz.underlying106 hi, hc]
  rw [show List.range 3 = [0, 1, 2] from rfl]
  by_cases h1 : a = x <;> by_cases h2 : b = y <;> by_cases h3 : c = z <;> simp [Op.eqItems, part, go_sem, h1, h2, h3]

theorem thereB {y m d : Int} (hy : 1 ≤ y) (hm : 0 ≤ m) (hd : 0 ≤ d) :
    (Cal.ofY (Cal.num y m d) == y && Cal.ofM (Cal.num y m d) == m && Cal.ofD (Cal.num y m d) == d) = validB y m d := by
  rw [Bool.eq_iff_iff, validB_iff, ← Cal.there_iff hy hm hd]
  simp [and_assoc]

theorem dayNumber_in (W : World) (y m d : Int) (D : Nat) (os : Array Obj) (h0 : 1 ≤ y) (h1 : y ≤ 10000) (h2 : 0 ≤ m) (h3 : m ≤ 100) (h4 : 0 ≤ d) (h5 : d ≤ 100) :
    Calls Tryz.prog 120 #[.agg #[.int .i64 y, .int .i64 m, .int .i64 d]] (grow (redrawn W D) os) fun e w'' => e = .returned (.int .i64 (Cal.num y m d)) ∧ ∃ p : Regrown, w'' = grow (redrawn W p.d) p.os :=
  Calls.regrown_of (dayNumber_any y m d _ h0 h1 h2 h3 h4 h5)
theorem daysOf_in (W : World) (n : Int) (D : Nat) (os : Array Obj) (h0 : -719468 ≤ n) (h1 : n ≤ 1000000) :
    Calls Tryz.prog 121 #[.int .i64 n] (grow (redrawn W D) os) fun e w'' => e = .returned (.agg #[.int .i64 (Cal.ofY n), .int .i64 (Cal.ofM n), .int .i64 (Cal.ofD n)]) ∧ ∃ p : Regrown, w'' = grow (redrawn W p.d) p.os :=
  Calls.regrown_of (daysOf_any n _ h0 h1)

set_option maxRecDepth 100000 in
set_option maxHeartbeats 2000000 in
theorem there_any (y m d : Int) (w : World) (h0 : 1 ≤ y) (h1 : y ≤ 2199) (h2 : 0 ≤ m) (h3 : m ≤ 99) (h4 : 0 ≤ d) (h5 : d ≤ 99) :
    Calls Tryz.prog 124 #[.agg #[.int .i64 y, .int .i64 m, .int .i64 d]] w fun e w' => e = .returned (.bool (validB y m d)) ∧ Below w.heap.size w w' := by
  have hn : -719468 ≤ Cal.num y m d ∧ Cal.num y m d ≤ 1000000 := by
    unfold Cal.num Cal.ty Cal.tm; split <;> omega
  go_enter Tryz.func124, Tryz.ntmps124
  go_wp2
  have hbw : Below w.heap.size w (w.alloc (.cells #[.int .i64 y, .int .i64 m, .int .i64 d] 106)) := (Below.refl _ _).alloc (Nat.le_refl _) _
  have c0 : (w.alloc (.cells #[.int .i64 y, .int .i64 m, .int .i64 d] 106)).cell? ⟨w.heap.size, 0, none⟩ = some (.int .i64 y) := by simp [go_sem]
  have c1 : (w.alloc (.cells #[.int .i64 y, .int .i64 m, .int .i64 d] 106)).cell? ⟨w.heap.size, 1, none⟩ = some (.int .i64 m) := by simp [go_sem]
  have c2 : (w.alloc (.cells #[.int .i64 y, .int .i64 m, .int .i64 d] 106)).cell? ⟨w.heap.size, 2, none⟩ = some (.int .i64 d) := by simp [go_sem]
  generalize (w.alloc (.cells #[.int .i64 y, .int .i64 m, .int .i64 d] 106)) = W at *
  have heq := eq_days
  have k0 := cell_regrown c0
  have k1 := cell_regrown c1
  have k2 := cell_regrown c2
  clear c0 c1 c2
  refine wp_region_quiet_below (by kernel_rfl) (by kernel_rfl) ?_
  repeat (go_big_quiet_step (first | exact dayNumber_in W _ _ _ _ _ (by omega) (by omega) (by omega) (by omega) (by omega) (by omega) | exact daysOf_in W _ _ _ (by omega) (by omega)))
  refine wpQuiet_nil ?_
  intro _ hw'
  obtain ⟨⟨dq, osq⟩, hw''⟩ := hw'
  subst hw''
  go_wp2
  go_ret
  exact ⟨congrArg (fun b => Ending.returned (.bool b)) (thereB h0 h2 h4), hbw.trans ((below_regrown W dq osq).mono hbw.size)⟩

theorem bcell {W w1 : World} (hb : Below W.heap.size W w1) : (∀ b o, b < W.heap.size → w1.cell? ⟨b, o, none⟩ = W.cell? ⟨b, o, none⟩) ∧ (∀ b o, b < W.heap.size → w1.frozen? ⟨b, o, none⟩ = W.frozen? ⟨b, o, none⟩) :=
  ⟨fun b o h => hb.cell (p := ⟨b, o, none⟩) h, fun b o h => hb.frozen (p := ⟨b, o, none⟩) h⟩

/-- a day as it is written -/
def DayOk (t : ByteArray) : Prop := 1970 ≤ digs (cut t 0 4) ∧ digs (cut t 0 4) ≤ 2199 ∧ Cal.Valid (digs (cut t 0 4)) (digs (cut t 4 2)) (digs (cut t 6 2))

theorem allDig_cut (t : ByteArray) (a b : Nat) : allDig (t.extract a b) = (cut t a (b - a)).all dig := by
  unfold allDig; rw [extract_cut]
theorem digs_yes {l : List UInt8} (h : l.all dig = true) : digs l = dval l := by unfold digs; rw [if_pos h]
theorem digs_no {l : List UInt8} (h : l.all dig = false) : digs l = -1 := by unfold digs; rw [if_neg (by rw [h]; exact Bool.false_ne_true)]

/-- how the reading of a day ends -/
def dayE (y m d : Int) : Ending := if 1970 ≤ y ∧ y ≤ 2199 ∧ validB y m d = true then .returned (dayA y m d) else .panicked (rsn 1)
theorem dayE_yes {y m d : Int} (h : 1970 ≤ y ∧ y ≤ 2199 ∧ validB y m d = true) : dayE y m d = .returned (dayA y m d) := by unfold dayE; rw [if_pos h]
theorem dayE_no {y m d : Int} (h : ¬ (1970 ≤ y ∧ y ≤ 2199 ∧ validB y m d = true)) : dayE y m d = .panicked (rsn 1) := by unfold dayE; rw [if_neg h]

attribute [local go_sem] Go.wp_at_zero Go.wp_at_succ
set_option maxRecDepth 100000 in
set_option maxHeartbeats 4000000 in
/-- the day's three numbers are read: what stands behind the first statement -/
theorem readDay_digits (t : ByteArray) (w : World) (y m d : Int) (h8 : t.size = 8) (d1 : allDig (t.extract 0 4) = true) (d2 : allDig (t.extract 4 6) = true) (d3 : allDig (t.extract 6 t.size) = true)
    (e1 : dval (t.extract 0 4).data.toList = y) (e2 : dval (t.extract 4 6).data.toList = m) (e3 : dval (t.extract 6 t.size).data.toList = d)
    (y0 : 0 ≤ y) (y1 : y ≤ 9999) (m0 : 0 ≤ m) (m1 : m ≤ 99) (d0 : 0 ≤ d) (d9 : d ≤ 99) :
    Calls Tryz.prog 69 #[.string t] w fun E w' => E = dayE y m d ∧ Below w.heap.size w w' := by
  have z1 : (4 : Int) ≤ t.size := by omega
  have z2 : (6 : Int) ≤ t.size := by omega
  have z3 : (8 : Int) ≤ t.size := by omega
  have z4 : (t.size : Int) ≤ 8 := by omega
  have s1 : (t.extract 0 4).size ≤ 7 := by simp [ByteArray.size_extract]; omega
  have s2 : (t.extract 4 6).size ≤ 7 := by simp [ByteArray.size_extract]; omega
  have s3 : (t.extract 6 t.size).size ≤ 7 := by simp [ByteArray.size_extract]; omega
  have H8 := hide h8
  have c1 := fun W => words_digits_yes (t.extract 0 4) 1 W s1 d1
  have c2 := fun W => words_digits_yes (t.extract 4 6) 1 W s2 d2
  have c3 := fun W => words_digits_yes (t.extract 6 t.size) 1 W s3 d3
  rw [e1] at c1
  rw [e2] at c2
  rw [e3] at c3
  have C1 := hide c1
  have C2 := hide c2
  have C3 := hide c3
  clear h8 c1 c2 c3 e1 e2 e3 d1 d2 d3 s1 s2 s3
  go_enter Tryz.func69, Tryz.ntmps69
  go_wp2
  go_region_held3 (fun w' => True) (trivial)
    (first
      | (go_at_call_of 123 (Value.string (t.extract 0 4)); refine (C1.out _).mono ?_; rintro e w' ⟨rfl, rfl⟩)
      | (go_at_call_of 123 (Value.string (t.extract 4 6)); refine (C2.out _).mono ?_; rintro e w' ⟨rfl, rfl⟩)
      | (go_at_call_of 123 (Value.string (t.extract 6 t.size)); refine (C3.out _).mono ?_; rintro e w' ⟨rfl, rfl⟩))
  all_goals
    by_cases ya : 1970 ≤ y
    case neg =>
      have ya' : decide (1970 ≤ y) = false := by simpa using ya
      go_wp2_with (go_at_call 65; refine (unless_no _ _).mono ?_; rintro e w' ⟨rfl, rfl⟩)
      exact ⟨rfl, by rw [dayE_no (by omega)], (((Below.refl _ _).alloc (Nat.le_refl _) _).alloc (by simp) _).drew⟩
    case pos =>
      by_cases yb : y ≤ 2199
      case neg =>
        have yb' : decide (y ≤ 2199) = false := by simpa using yb
        go_wp2_with (go_at_call 65; refine (unless_no _ _).mono ?_; rintro e w' ⟨rfl, rfl⟩)
        exact ⟨rfl, by rw [dayE_no (by omega)], (((Below.refl _ _).alloc (Nat.le_refl _) _).alloc (by simp) _).drew⟩
      case pos =>
        have hbw : Below w.heap.size w (((w.alloc (.cells #[.int .i64 0, .int .i64 0, .int .i64 0] 106)).alloc (.cells #[.int .i64 y, .int .i64 m, .int .i64 d] 106)).drew) := (((Below.refl _ _).alloc (Nat.le_refl _) _).alloc (by simp) _).drew
        cases hv : validB y m d
        case false =>
          go_wp2_with (first
            | (go_at_call_of 65 (Value.bool true); refine (unless_yes _ _).mono ?_; rintro e w' ⟨rfl, rfl⟩)
            | (go_at_call_of 65 (Value.bool false); refine (unless_no _ _).mono ?_; rintro e w' ⟨rfl, rfl⟩)
            | (go_at_call 124; refine (there_any _ _ _ _ (by omega) (by omega) (by omega) (by omega) (by omega) (by omega)).mono ?_; rintro e w1 ⟨rfl, hb1⟩; rw [hv]))
          exact ⟨rfl, by rw [dayE_no (by simp [hv])], hbw.trans (hb1.mono hbw.size)⟩
        case true =>
          go_wp2_with (first
            | (go_at_call 65; refine (unless_yes _ _).mono ?_; rintro e w' ⟨rfl, rfl⟩)
            | (go_at_call 124; refine (there_any _ _ _ _ (by omega) (by omega) (by omega) (by omega) (by omega) (by omega)).mono ?_; rintro e w1 ⟨rfl, hb1⟩; rw [hv]; obtain ⟨hc, hf⟩ := bcell hb1; have hz := hb1.size))
          have i0 : (w1.cell? ⟨w.heap.size, 0, none⟩).isSome = true := by rw [hc _ _ (by simp; omega)]; simp [go_sem]
          have i1 : (w1.cell? ⟨w.heap.size, 1, none⟩).isSome = true := by rw [hc _ _ (by simp; omega)]; simp [go_sem]
          have i2 : (w1.cell? ⟨w.heap.size, 2, none⟩).isSome = true := by rw [hc _ _ (by simp; omega)]; simp [go_sem]
          exact bodyPost_ret (v := .agg #[.int .i64 y, .int .i64 m, .int .i64 d]) (by simp [results, Tryz.results69, go_sem, i0, i1, i2]) rfl
            ⟨by rw [dayE_yes ⟨ya, yb, hv⟩]; rfl, (((hbw.trans (hb1.mono hbw.size)).setCell (Nat.le_refl _) _).setCell (Nat.le_refl _) _).setCell (Nat.le_refl _) _⟩
end Go.Proofs.YthpndgcaoeokeaaGreatDoor
