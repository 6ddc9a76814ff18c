/- The program's own: when.cutUnit, when.readLength, when.Length. -/
import Derived.Test.YthpndgcaoeokeaaGreatDoorProg12
import Derived.Test.YthpndgcaoeokeaaGreatDoorLenEq3
namespace Go.Proofs.YthpndgcaoeokeaaGreatDoor
open Go.RowKit Go.Sort

/-- how the cutting of a unit ends -/
def unitE (mark : UInt8) (secs : Int) (l : List UInt8) : Ending := match unitC mark secs l with
  | some (v, r) => .returned (.tuple #[.int .i64 v, .string ⟨r.toArray⟩])
  | none => .panicked (rsn 1)

set_option maxHeartbeats 1000000 in
theorem cutUnit_any (l : List UInt8) (mark : UInt8) (secs : Int) (w : World) (hl : l.length ≤ maxLen) (h0 : 0 ≤ secs) (h1 : secs ≤ 86400) :
    Calls Tryz.prog 73 #[.string ⟨l.toArray⟩, .string ⟨#[mark]⟩, .int .i64 secs] w fun E w' => E = unitE mark secs l ∧ Below w.heap.size w w' := by
  have k := strCut_any l mark w hl
  unfold unitE unitC
  unfold cutV at k
  cases q : sp mark l with
  | none =>
    rw [q] at k
    have C := hide k
    clear k q
    go_enter Tryz.func73, Tryz.ntmps73
    go_wp2_with (go_at_call 72; refine (C.out).mono ?_; rintro e w1 ⟨rfl, hb⟩)
    go_ret2
    exact ⟨rfl, hb⟩
  | some y =>
    obtain ⟨a, b⟩ := y
    rw [q] at k
    have ha : a.length ≤ maxLen := by
      have e := (sp_some q).1
      have : a.length ≤ l.length := by rw [e]; simp
      omega
    have kn := fun W => wordsNumber_any a 1 W ha
    have C := hide k
    simp only []
    cases hn : numB a
    · rw [if_neg Bool.false_ne_true]
      rw [numE_no hn] at kn
      have D := hide kn
      clear k q kn ha hn
      go_enter Tryz.func73, Tryz.ntmps73
      go_wp2_with (first
        | (go_at_call 72; refine (C.out).mono ?_; rintro e w1 ⟨rfl, hb⟩)
        | (go_at_call 127; refine (D.out _).mono ?_; rintro e w' ⟨rfl, rfl⟩))
      exact ⟨rfl, rfl, hb⟩
    · rw [if_pos rfl]
      rw [numE_yes hn] at kn
      have hb := numN_bd a hn
      have hm : numN a * secs ≤ 9999999 * 86400 := Int.mul_le_mul hb.2 h1 h0 (by omega)
      have hm0 : 0 ≤ numN a * secs := Int.mul_nonneg hb.1 h0
      have D := hide kn
      clear k q kn ha hn
      go_enter Tryz.func73, Tryz.ntmps73
      go_wp2_with (first
        | (go_at_call 72; refine (C.out).mono ?_; rintro e w1 ⟨rfl, hb⟩)
        | (go_at_call 127; refine (D.out _).mono ?_; rintro e w' ⟨rfl, rfl⟩))
      go_ret2
      exact ⟨rfl, ‹Below _ _ _›⟩

end Go.Proofs.YthpndgcaoeokeaaGreatDoor
