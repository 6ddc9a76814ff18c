/- The argument of the laws: a list of steps, opened. -/
import Derived.Test.YthpndgcaoeokeaaGreatDoorLaw4
import Derived.Deep.Slices
import Derived.Lib.SmallJoins
import Derived.Lib.LaidTab
import Derived.Stop.LaidErr
import Derived.MakeChecks
import Derived.Test.YthpndgcaoeokeaaGreatDoorRows
namespace Go.Proofs.YthpndgcaoeokeaaGreatDoor
open Go.ChangeShapes Go.WideShapes Go.ChangeAt Go.RowKit

theorem cellsStep : Tryz.prog.cellsOf 65 = 7 := by kernel_rfl
theorem cellsInt : Tryz.prog.cellsOf 3 = 1 := by kernel_rfl
theorem cellsString : Tryz.prog.cellsOf 9 = 1 := by kernel_rfl
theorem cellsStrings : Tryz.prog.cellsOf 52 = 1 := by kernel_rfl
theorem spotless {w : World} {a : Addr} {v : Value} (h : w.cell? a = some v) : a.spot = none := by
  unfold World.cell? at h
  split at h
  · split at h
    · cases h
    · rename_i hn; cases hs : a.spot with
      | none => rfl
      | some x => rw [hs] at hn; simp at hn
  · cases h
theorem take1 {α : Type} {l : List α} {k : Nat} {c : α} (h : (l.drop k).take 1 = [c]) : l[k]? = some c := by
  have := congrArg (·[0]?) h
  simpa using this
section
variable {H : Type} {enc : TypeId × Value → H} {w : World} {spare : Nat → Bool} {held : Bool}
theorem step_open {n : Nat} {cs : List Value} {x : DataW H × List MemPlace} (h : DataW.trod enc Tryz.prog w 0 spare held n 65 cs = some x) :
    ∃ (k a n m : Int) (S T : ByteArray) (sa : Option Addr) (sl sc : Nat), S.size ≤ maxLen ∧ cs[0]? = some (.int .i64 k) ∧ cs[1]? = some (.int .i64 a) ∧ cs[2]? = some (.int .i64 n) ∧ cs[3]? = some (.int .i64 m) ∧
      cs[4]? = some (.string S) ∧ cs[5]? = some (.string T) ∧ cs[6]? = some (.slice sa sl sc) := by
  obtain ⟨xs, n', _, _, hl, hx, hf⟩ := DataW.trod_struct Tryz.underlying65 h
  have hx7 : xs.length = 7 := hx
  have f0 : DataW.trod enc Tryz.prog w 0 spare held n' 3 ((cs.drop 0).take (Tryz.prog.cellsOf 3)) = xs[0]? := hf 0 _ rfl
  have f1 : DataW.trod enc Tryz.prog w 0 spare held n' 3 ((cs.drop 1).take (Tryz.prog.cellsOf 3)) = xs[1]? := hf 1 _ rfl
  have f2 : DataW.trod enc Tryz.prog w 0 spare held n' 3 ((cs.drop 2).take (Tryz.prog.cellsOf 3)) = xs[2]? := hf 2 _ rfl
  have f3 : DataW.trod enc Tryz.prog w 0 spare held n' 3 ((cs.drop 3).take (Tryz.prog.cellsOf 3)) = xs[3]? := hf 3 _ rfl
  have f4 : DataW.trod enc Tryz.prog w 0 spare held n' 9 ((cs.drop 4).take (Tryz.prog.cellsOf 9)) = xs[4]? := hf 4 _ rfl
  have f5 : DataW.trod enc Tryz.prog w 0 spare held n' 9 ((cs.drop 5).take (Tryz.prog.cellsOf 9)) = xs[5]? := hf 5 _ rfl
  have f6 : DataW.trod enc Tryz.prog w 0 spare held n' 52 ((cs.drop 6).take (Tryz.prog.cellsOf 52)) = xs[6]? := hf 6 _ rfl
  rw [cellsInt] at f0 f1 f2 f3
  rw [cellsString] at f4 f5
  rw [cellsStrings] at f6
  rw [List.getElem?_eq_getElem (by omega)] at f0 f1 f2 f3 f4 f5 f6
  obtain ⟨k, e0, _⟩ := DataW.trod_int Tryz.underlying3 f0
  obtain ⟨a, e1, _⟩ := DataW.trod_int Tryz.underlying3 f1
  obtain ⟨n, e2, _⟩ := DataW.trod_int Tryz.underlying3 f2
  obtain ⟨m, e3, _⟩ := DataW.trod_int Tryz.underlying3 f3
  obtain ⟨S, e4, _, hS⟩ := DataW.trod_string Tryz.underlying9 f4
  obtain ⟨T, e5, _⟩ := DataW.trod_string Tryz.underlying9 f5
  obtain ⟨sa, sl, sc, e6⟩ := Joins.slice_form Tryz.underlying52 f6
  exact ⟨k, a, n, m, S, T, sa, sl, sc, hS, take1 e0, take1 e1, take1 e2, take1 e3, take1 e4, take1 e5, take1 e6⟩
theorem steps_open {n : Nat} {v : Value} {x : DataW H × List MemPlace} (h : DataW.trod enc Tryz.prog w 0 spare held n 22 [v] = some x) :
    (∃ sa cap, v = .slice sa 0 cap) ∨ ∃ b off len cap, v = .slice (some ⟨b, off, none⟩) len cap ∧ b < w.heap.size ∧ len ≤ maxLen ∧ ∀ i, i < len → StepAt w b (off + i * 7) := by
  rcases Go.Deep.open_slice Tryz.underlying22 h with ⟨hv, _⟩ | ⟨a, len, cap, m, n, D, Pl, hv, _, hlc, hcm, hm, _, hx⟩
  · exact Or.inl ⟨none, 0, by simpa using hv⟩
  obtain rfl : v = .slice (some a) len cap := by simpa using hv
  rcases Nat.eq_zero_or_pos len with rfl | hp
  · exact Or.inl ⟨some a, cap, rfl⟩
  right
  have hle : len ≤ m := by rw [hm]; split <;> omega
  rw [cellsStep] at hx
  have cell : ∀ i, i < len → ∃ cs', cs'.length = 7 ∧ (∀ j, j < 7 → w.cell? ((a.add (i * 7)).add j) = cs'[j]?) ∧ DataW.trod enc Tryz.prog w 0 spare held n 65 cs' = some (D i, Pl i) := fun i hi => by
    obtain ⟨cs', h1, h2⟩ := hx i (by omega)
    obtain ⟨_, hl, hc⟩ := World.cells?_some h1
    exact ⟨cs', hl, hc, h2⟩
  obtain ⟨c0, l0, g0, _⟩ := cell 0 hp
  have q0 : w.cell? a = some c0[0] := by
    have := g0 0 (by omega)
    rw [List.getElem?_eq_getElem (by omega)] at this
    simpa [Addr.add] using this
  have hs := spotless q0
  have hb := World.block_lt_of_cell? w a q0
  obtain ⟨b, off, sp⟩ := a
  obtain rfl : sp = none := hs
  have at_ : ∀ i j, (Addr.add (Addr.add ⟨b, off, none⟩ i) j) = ⟨b, off + i + j, none⟩ := fun i j => by
    unfold Addr.add
    by_cases hi : i = 0 <;> by_cases hj : j = 0 <;> simp [hi, hj]
  refine ⟨b, off, len, cap, rfl, hb, by omega, fun i hi => ?_⟩
  obtain ⟨cs, hl, hc, ht⟩ := cell i hi
  obtain ⟨k, a, n, m, S, T, sa, sl, sc, hS, e0, e1, e2, e3, e4, e5, e6⟩ := step_open ht
  have c : ∀ j, j < 7 → w.cell? ⟨b, off + i * 7 + j, none⟩ = cs[j]? := fun j hj => by rw [← at_]; exact hc j hj
  exact ⟨k, a, n, m, S, T, sa, sl, sc, hS, (c 0 (by omega)).trans e0, (c 1 (by omega)).trans e1, (c 2 (by omega)).trans e2, (c 3 (by omega)).trans e3, (c 4 (by omega)).trans e4, (c 5 (by omega)).trans e5, (c 6 (by omega)).trans e6⟩
end

theorem gTab : Tryz.prog.globalNamed "internal/strconv.uint64pow10" = some 3 := by kernel_rfl
theorem gTabType : (Tryz.prog.globals[3]?).map (·.type) = some 354 := by kernel_rfl
theorem cellsTab : Tryz.prog.cellsOf 354 = 20 := by kernel_rfl
theorem cellsU64 : Tryz.prog.cellsOf 309 = 1 := by kernel_rfl
theorem tab_of {W : World} {a b c d : String × DataW Unit} {r : List (String × DataW Unit)} (h : laidMet Tryz.prog (a :: b :: c :: d :: ("internal/strconv.uint64pow10", Rows.laid_internal_strconv_uint64pow10) :: r) W) : Tab W :=
  Lib.tabIs_of_head gTab gTabType Tryz.underlying354 Tryz.underlying309 cellsU64 cellsTab (show laidMet Tryz.prog (("internal/strconv.uint64pow10", Lib.tabData .u64 Lib.pow10Tab) :: r) W from h.tail.tail.tail.tail)
end Go.Proofs.YthpndgcaoeokeaaGreatDoor
