/- The statements' own: heads and upTo, as far as times go. -/
import Derived.Test.YthpndgcaoeokeaaGreatDoorLaw1
namespace Go.Proofs.YthpndgcaoeokeaaGreatDoor
open Go.RowKit Go.Sort

theorem head_parse : parseV ⟨#[50, 48, 50, 52, 48, 50, 50, 57, 84, 48, 48, 48, 48, 48, 48, 90]⟩ = .tuple #[.int .i64 1709164800, .int .i64 0] := by
  have h : TimeOk ⟨#[50, 48, 50, 52, 48, 50, 50, 57, 84, 48, 48, 48, 48, 48, 48, 90]⟩ := by
    unfold TimeOk Cal.Valid; decide +kernel
  rw [parseV_yes h]
  have : timeN ⟨#[50, 48, 50, 52, 48, 50, 50, 57, 84, 48, 48, 48, 48, 48, 48, 90]⟩ = 1709164800 := by decide +kernel
  rw [this]
theorem head_length : lenV (lenL (⟨#[80, 49, 68, 84, 49, 72]⟩ : ByteArray).data.toList) = .tuple #[.int .i64 90000, .int .i64 0] := by
  have : lenL [80, 49, 68, 84, 49, 72] = some 90000 := by decide +kernel
  show lenV (lenL [80, 49, 68, 84, 49, 72]) = _
  rw [this]; rfl
theorem head_print : printV 1 = .tuple #[.string ⟨#[49, 57, 55, 48, 48, 49, 48, 49, 84, 48, 48, 48, 48, 48, 49, 90]⟩, .int .i64 0] := by
  have : printL 1 = [49, 57, 55, 48, 48, 49, 48, 49, 84, 48, 48, 48, 48, 48, 49, 90] := by decide +kernel
  unfold printV
  rw [this]; rfl

set_option maxRecDepth 100000 in
set_option maxHeartbeats 2000000 in
theorem heads_times (w : World) (ht : Tab w) :
    Calls Tryz.prog 31 #[.int .i64 3] w fun E w' => E = .returned (.bool true) ∧ Below w.heap.size w w' := by
  have c1 := fun W => parse_any ⟨#[50, 48, 50, 52, 48, 50, 50, 57, 84, 48, 48, 48, 48, 48, 48, 90]⟩ W
  have c2 := fun W => length_any ⟨#[80, 49, 68, 84, 49, 72]⟩ W (by show 6 ≤ maxLen; unfold maxLen; omega)
  have c3 := fun W (h : Tab W) => print_any 1 W h
  rw [head_parse] at c1
  rw [head_length] at c2
  rw [head_print] at c3
  have C1 := hide c1
  have C2 := hide c2
  have C3 := hide c3
  have HT := hide ht
  clear c1 c2 c3 ht
  go_enter Tryz.func31, Tryz.ntmps31
  go_wp2_with (first
    | (go_at_call 19; refine (C1.out _).mono ?_; rintro e w1 ⟨rfl, hb1⟩)
    | (go_at_call 20; refine (C2.out _).mono ?_; rintro e w2 ⟨rfl, hb2⟩)
    | (go_at_call 18; refine (C3.out _ (HT.out.on (hb1.trans (hb2.mono hb1.size)))).mono ?_; rintro e w3 ⟨rfl, hb3⟩))
  go_ret
  have h12 := hb1.trans (hb2.mono hb1.size)
  exact ⟨rfl, h12.trans (hb3.mono h12.size)⟩

/-- a step lies at a place -/
def StepAt (w : World) (b o : Nat) : Prop := ∃ (k a n m : Int) (S T : ByteArray) (sa : Option Addr) (sl sc : Nat), S.size ≤ maxLen ∧
  w.cell? ⟨b, o, none⟩ = some (.int .i64 k) ∧ w.cell? ⟨b, o + 1, none⟩ = some (.int .i64 a) ∧ w.cell? ⟨b, o + 2, none⟩ = some (.int .i64 n) ∧ w.cell? ⟨b, o + 3, none⟩ = some (.int .i64 m) ∧
  w.cell? ⟨b, o + 4, none⟩ = some (.string S) ∧ w.cell? ⟨b, o + 5, none⟩ = some (.string T) ∧ w.cell? ⟨b, o + 6, none⟩ = some (.slice sa sl sc)
end Go.Proofs.YthpndgcaoeokeaaGreatDoor
