/- The statements' own: Check among the steps (up to Events). The statements' own: the document's example of Check. The statements' own: heads, upTo and Events. Events: the row of bounded bulk, lifted: whatever the script, the answer is the document's. -/
import Derived.Test.YthpndgcaoeokeaaGreatDoorLaw4
import Derived.Test.YthpndgcaoeokeaaGreatDoorE15
import Derived.Test.YthpndgcaoeokeaaGreatDoorE16
import Derived.Test.YthpndgcaoeokeaaGreatDoorE9
import Derived.Test.YthpndgcaoeokeaaGreatDoorCards
import Derived.Test.YthpndgcaoeokeaaGreatDoorTie
import Derived.WalkKit
import Derived.ProofKit
import Derived.OpenShut
import Derived.Deep.DeepHandedRow
import Derived.Shelf.LaysM
import Derived.LaidMore
import Derived.Lay
import Derived.Carry
namespace Go.Proofs.YthpndgcaoeokeaaGreatDoor
open Go.RowKit Go.Sort

/-- what lies in the memory from the start -/
structure Ready (w : World) : Prop where
  tab : Tab w
  ml : ML w
  n1 : NamesAt w 1 0 propNames
  g1 : 1 < w.heap.size
  n2 : NamesAt w 2 0 partNames
  g2 : 2 < w.heap.size
theorem Ready.on {w w' : World} (h : Ready w) (hb : Below w.heap.size w w') : Ready w' :=
  ⟨h.tab.on hb, h.ml.on hb, names_on h.n1 h.g1 hb, Nat.lt_of_lt_of_le h.g1 hb.size, names_on h.n2 h.g2 hb, Nat.lt_of_lt_of_le h.g2 hb.size⟩
theorem chkV_form (s : List UInt8) : ∃ (t : ByteArray) (e : Int), chkV s = .tuple #[.string t, .int .i64 e] := by
  unfold chkV
  cases readF s with
  | error x => exact ⟨_, _, rfl⟩
  | ok d => exact ⟨_, _, rfl⟩
set_option maxRecDepth 100000 in
set_option maxHeartbeats 2000000 in
theorem times_check (a n m : Int) (S T : ByteArray) (sa : Option Addr) (sl sc : Nat) (w : World) (hS : S.size ≤ 1048575) (hR : Ready w) :
    Calls Tryz.prog 57 #[.agg #[.int .i64 4, .int .i64 a, .int .i64 n, .int .i64 m, .string S, .string T, .slice sa sl sc]] w fun E w' => E = .returned (.bool true) ∧ Below w.heap.size w w' := by
  have hl : S.data.toList.length = S.size := by rw [Array.length_toList]; rfl
  have eS : (⟨S.data.toList.toArray⟩ : ByteArray) = S := ba_self S
  have c1 := fun W (h : Ready W) => check_any S.data.toList W h.ml h.tab (by omega)
  have c2 := fun W (h : Ready W) => refCheck_any S.data.toList W (by omega) h.n1 h.g1 h.n2 h.g2
  obtain ⟨p, e, hv⟩ := chkV_form S.data.toList
  rw [hv, eS] at c1
  rw [hv, show ba S.data.toList = S from eS] at c2
  have C1 := hide c1
  have C2 := hide c2
  have HR := hide hR
  clear c1 c2 hv hS hR hl eS
  go_enter Tryz.func57, Tryz.ntmps57
  go_wp2_with (first
    | (go_at_call 22; refine (C1.out _ (HR.out.on ((Below.refl _ _).alloc (Nat.le_refl _) _))).mono ?_; rintro e w1 ⟨rfl, hb1⟩; obtain ⟨hc, hf⟩ := bcell hb1; have hbw := ((Below.refl w.heap.size w).alloc (Nat.le_refl _) _).trans (hb1.mono (by simp)))
    | (go_at_call 111; refine (C2.out _ (HR.out.on hbw)).mono ?_; rintro e w2 ⟨rfl, hb2⟩)
    | (go_at_call 108; refine (num_any _ _).mono ?_; rintro e w' ⟨rfl, rfl⟩))
  go_ret
  exact ⟨rfl, hbw.trans (hb2.mono hbw.size)⟩
theorem times_ev (k a n m : Int) (S T : ByteArray) (sa : Option Addr) (sl sc : Nat) (w : World) (hS : S.size ≤ 1048575) (hR : Ready w) (h1 : 1 ≤ k) (h4 : k ≤ 4) :
    Calls Tryz.prog 57 #[.agg #[.int .i64 k, .int .i64 a, .int .i64 n, .int .i64 m, .string S, .string T, .slice sa sl sc]] w fun E w' => E = .returned (.bool true) ∧ Below w.heap.size w w' := by
  by_cases h : k = 4
  · subst h; exact times_check a n m S T sa sl sc w hS hR
  · exact times_any k a n m S T sa sl sc w (by unfold maxLen; omega) hR.tab h1 (by omega)
set_option maxRecDepth 100000 in
set_option maxHeartbeats 2000000 in
theorem step_ev (p : Nat) (k a n m : Int) (S T : ByteArray) (sa : Option Addr) (sl sc : Nat) (w : World) (hS : S.size ≤ 1048575) (hR : Ready w) (h1 : 1 ≤ k) (h4 : k ≤ 4) :
    Calls Tryz.prog 32 #[.pointer (some ⟨p, 0, none⟩), .agg #[.int .i64 k, .int .i64 a, .int .i64 n, .int .i64 m, .string S, .string T, .slice sa sl sc]] w fun E w' => E = .returned (.bool true) ∧ Below w.heap.size w w' := by
  have C := hide (fun W (h : Ready W) => times_ev k a n m S T sa sl sc W hS h h1 h4)
  have HR := hide hR
  clear hR hS
  go_enter Tryz.func32, Tryz.ntmps32
  go_wp2_with (go_at_call 57; refine (C.out _ (HR.out.on ((Below.refl _ _).alloc (Nat.le_refl _) _))).mono ?_; rintro e w1 ⟨rfl, hb1⟩)
  go_ret
  exact ⟨rfl, ((Below.refl w.heap.size w).alloc (Nat.le_refl _) _).trans (hb1.mono (by simp))⟩
end Go.Proofs.YthpndgcaoeokeaaGreatDoor
namespace Go.Proofs.YthpndgcaoeokeaaGreatDoor
open Go.RowKit Go.Sort

def oneL : List UInt8 := [66, 69, 71, 73, 78, 58, 86, 69, 86, 69, 78, 84, 13, 10, 68, 84, 69, 78, 68, 58, 50, 48, 50, 52, 48, 49, 48, 50, 84, 48, 49, 48, 48, 48, 48, 90, 13, 10, 68, 84, 83, 84, 65, 82, 84, 58, 50, 48, 50, 52, 48, 49, 48, 50, 84, 48, 48, 48, 48, 48, 48, 90, 13, 10, 85, 73, 68, 58, 97, 49, 13, 10, 82, 82, 85, 76, 69, 58, 87, 75, 83, 84, 61, 77, 79, 59, 66, 89, 68, 65, 89, 61, 84, 85, 44, 84, 72, 59, 70, 82, 69, 81, 61, 87, 69, 69, 75, 76, 89, 13, 10, 69, 78, 68, 58, 86, 69, 86, 69, 78, 84, 13, 10]
def oneT : List UInt8 := [66, 69, 71, 73, 78, 58, 86, 69, 86, 69, 78, 84, 13, 10, 85, 73, 68, 58, 97, 49, 13, 10, 68, 84, 83, 84, 65, 82, 84, 58, 50, 48, 50, 52, 48, 49, 48, 50, 84, 48, 48, 48, 48, 48, 48, 90, 13, 10, 68, 85, 82, 65, 84, 73, 79, 78, 58, 80, 84, 51, 54, 48, 48, 83, 13, 10, 82, 82, 85, 76, 69, 58, 70, 82, 69, 81, 61, 87, 69, 69, 75, 76, 89, 59, 66, 89, 68, 65, 89, 61, 84, 85, 44, 84, 72, 13, 10, 69, 78, 68, 58, 86, 69, 86, 69, 78, 84, 13, 10]
def oneR : List UInt8 := [70, 82, 69, 81, 61, 87, 69, 69, 75, 76, 89, 59, 66, 89, 68, 65, 89, 61, 84, 85, 44, 84, 72]
def seenB : Bool := match readF oneL with
  | .error _ => false
  | .ok d => decide (val d.f 0 = [97, 49]) && decide (d.st = 1704153600) && decide (d.ln = 3600) && decide (d.rl.map (fun F => Lib.join (txts F 9) [59]) = some oneR) && decide (d.ex = []) && decide (d.xt = []) && !openOf d.f && decide (kindOf d.f = 1)
set_option maxRecDepth 100000 in
theorem one_seen : seenB = true := by decide +kernel
theorem one_dec : Lib.decDigits 3600 = [51, 54, 48, 48] := by
  rw [dec_snoc (by decide), dec_snoc (by decide), dec_snoc (by decide), Lib.decDigits_one (by decide)]
  rfl
theorem one_print : ptx 1704153600 = [50, 48, 50, 52, 48, 49, 48, 50, 84, 48, 48, 48, 48, 48, 48, 90] := by decide +kernel
set_option maxRecDepth 100000 in
theorem one_text : txl (beginL :: (uidL ++ [97, 49]) :: (dtsL ++ ptx 1704153600) :: (durL ++ [51, 54, 48, 48] ++ [83]) :: (rruL ++ oneR) :: [endL]) = oneT := by decide +kernel
theorem head_check : chkV oneL = .tuple #[.string ⟨oneT.toArray⟩, .int .i64 0] := by
  have h := one_seen
  unfold seenB at h
  unfold chkV
  cases hr : readF oneL with
  | error x => rw [hr] at h; cases h
  | ok d =>
    rw [hr] at h
    simp only [Bool.and_eq_true, decide_eq_true_eq, Bool.not_eq_true'] at h
    obtain ⟨⟨⟨⟨⟨⟨⟨h1, h2⟩, h3⟩, h4⟩, h5⟩, h6⟩, h7⟩, h8⟩ := h
    simp only []
    have e : chkT d = oneT := by
      unfold chkT
      rw [h1, h2, h3, h4, h5, h6, h7, h8, ← one_text]
      unfold evT ev4
      rw [show (3600 : Int).toNat = 3600 from rfl, one_dec]
      rfl
    rw [e]
end Go.Proofs.YthpndgcaoeokeaaGreatDoor
namespace Go.Proofs.YthpndgcaoeokeaaGreatDoor
open Go.RowKit Go.Sort

set_option maxRecDepth 100000 in
set_option maxHeartbeats 4000000 in
theorem heads_ev (w : World) (hR : Ready w) :
    Calls Tryz.prog 31 #[.int .i64 4] w fun E w' => E = .returned (.bool true) ∧ Below w.heap.size w w' := by
  have c1 := fun W => parse_any ⟨#[50, 48, 50, 52, 48, 50, 50, 57, 84, 48, 48, 48, 48, 48, 48, 90]⟩ W
  have c2 := fun W => length_any ⟨#[80, 49, 68, 84, 49, 72]⟩ W (by show 6 ≤ maxLen; unfold maxLen; omega)
  have c3 := fun W (h : Tab W) => print_any 1 W h
  have c4 := fun W (h : Ready W) => check_any oneL W h.ml h.tab (by decide)
  rw [head_parse] at c1
  rw [head_length] at c2
  rw [head_print] at c3
  rw [head_check] at c4
  unfold oneL oneT at c4
  have C1 := hide c1
  have C2 := hide c2
  have C3 := hide c3
  have C4 := hide c4
  have HR := hide hR
  clear c1 c2 c3 c4 hR
  go_enter Tryz.func31, Tryz.ntmps31
  go_wp2_with (first
    | (go_at_call 19; refine (C1.out _).mono ?_; rintro e w1 ⟨rfl, hb1⟩)
    | (go_at_call 20; refine (C2.out _).mono ?_; rintro e w2 ⟨rfl, hb2⟩; have h12 := hb1.trans (hb2.mono hb1.size))
    | (go_at_call 18; refine (C3.out _ (HR.out.tab.on h12)).mono ?_; rintro e w3 ⟨rfl, hb3⟩; have h13 := h12.trans (hb3.mono h12.size))
    | (go_at_call 22; refine (C4.out _ (HR.out.on h13)).mono ?_; rintro e w4 ⟨rfl, hb4⟩))
  go_ret
  exact ⟨rfl, h13.trans (hb4.mono h13.size)⟩
/-- a step lies at a place, its text not too long -/
def StepE (w : World) (b o : Nat) : Prop := ∃ (k a n m : Int) (S T : ByteArray) (sa : Option Addr) (sl sc : Nat), S.size ≤ 1048575 ∧
  w.cell? ⟨b, o, none⟩ = some (.int .i64 k) ∧ w.cell? ⟨b, o + 1, none⟩ = some (.int .i64 a) ∧ w.cell? ⟨b, o + 2, none⟩ = some (.int .i64 n) ∧ w.cell? ⟨b, o + 3, none⟩ = some (.int .i64 m) ∧
  w.cell? ⟨b, o + 4, none⟩ = some (.string S) ∧ w.cell? ⟨b, o + 5, none⟩ = some (.string T) ∧ w.cell? ⟨b, o + 6, none⟩ = some (.slice sa sl sc)
set_option maxRecDepth 100000 in
set_option maxHeartbeats 4000000 in
theorem upTo_ev (b off len cap : Nat) (w : World) (hR : Ready w) (hb : b < w.heap.size) (hlen : len ≤ 9223372036854775807) (hst : ∀ i, i < len → StepE w b (off + i * 7)) :
    Calls Tryz.prog 15 #[.slice (some ⟨b, off, none⟩) len cap, .int .i64 4] w fun E w' => E = .returned (.int .i64 (-1)) ∧ Below w.heap.size w w' := by
  have CH := hide (heads_ev w hR)
  have HR := hide hR
  have HS := hide hst
  clear hR hst
  go_enter Tryz.func15, Tryz.ntmps15
  go_wp2_with (go_at_call 31; refine (CH.out).mono ?_; rintro e w1 ⟨rfl, hb1⟩)
  have hz := hb1.size
  go_loopw [7] (fun t wr => ∃ i : Nat, i ≤ len ∧ t = .int .i64 i ∧ Below w.heap.size w wr ∧ w1.heap.size < wr.heap.size ∧ Empty w1.heap.size wr) (fun t _ => len - (intOf t).toNat)
  case atStart =>
    refine ⟨0, by omega, rfl, hb1.alloc hb1.size _, by simp, ?_⟩
    refine ⟨?_, ?_, ?_⟩ <;> simp [go_sem]
  case round =>
    obtain ⟨i, hi, rfl, hbr, hlt, hem⟩ := hrel
    by_cases hil : i < len
    case neg =>
      go_wp2
      go_ret
      exact ⟨rfl, hbr⟩
    case pos =>
      obtain ⟨k, a, n, m, S, T, sa, sl, sc, hS, q0, q1, q2, q3, q4, q5, q6⟩ := HS.out i hil
      have r0 : wr.cell? ⟨b, off + i * 7, none⟩ = some (.int .i64 k) := by rw [hbr.cell (p := ⟨b, off + i * 7, none⟩) hb]; exact q0
      have r1 : wr.cell? ⟨b, off + i * 7 + 1, none⟩ = some (.int .i64 a) := by rw [hbr.cell (p := ⟨b, off + i * 7 + 1, none⟩) hb]; exact q1
      have r2 : wr.cell? ⟨b, off + i * 7 + 2, none⟩ = some (.int .i64 n) := by rw [hbr.cell (p := ⟨b, off + i * 7 + 2, none⟩) hb]; exact q2
      have r3 : wr.cell? ⟨b, off + i * 7 + 3, none⟩ = some (.int .i64 m) := by rw [hbr.cell (p := ⟨b, off + i * 7 + 3, none⟩) hb]; exact q3
      have r4 : wr.cell? ⟨b, off + i * 7 + 4, none⟩ = some (.string S) := by rw [hbr.cell (p := ⟨b, off + i * 7 + 4, none⟩) hb]; exact q4
      have r5 : wr.cell? ⟨b, off + i * 7 + 5, none⟩ = some (.string T) := by rw [hbr.cell (p := ⟨b, off + i * 7 + 5, none⟩) hb]; exact q5
      have r6 : wr.cell? ⟨b, off + i * 7 + 6, none⟩ = some (.slice sa sl sc) := by rw [hbr.cell (p := ⟨b, off + i * 7 + 6, none⟩) hb]; exact q6
      clear q0 q1 q2 q3 q4 q5 q6
      by_cases hk : 4 < k
      case pos =>
        go_wp2
        exact ⟨⟨i + 1, by omega, by go_num, hbr, hlt, hem⟩, by simp [intOf]; omega⟩
      case neg =>
       by_cases h1 : 1 ≤ k
       case pos =>
        have CS := hide (step_ev w1.heap.size k a n m S T sa sl sc wr hS (HR.out.on hbr) h1 (by omega))
        go_wp2_with (first
          | (go_at_call 32; refine (CS.out).mono ?_; rintro e w2 ⟨rfl, hb2⟩)
          | (go_at_call 33; refine (still_empty _ _ (hem.on hb2 hlt)).mono ?_; rintro e w' ⟨rfl, rfl⟩))
        exact ⟨⟨i + 1, by omega, by go_num, hbr.trans (hb2.mono hbr.size), Nat.lt_of_lt_of_le hlt hb2.size, hem.on hb2 hlt⟩, by simp [intOf]; omega⟩
       case neg =>
        have CS := hide (step_none w1.heap.size k a n m S T sa sl sc wr hem hlt (by omega))
        go_wp2_with (first
          | (go_at_call 32; refine (CS.out).mono ?_; rintro e w2 ⟨rfl, hb2⟩)
          | (go_at_call 33; refine (still_empty _ _ (hem.on hb2 hlt)).mono ?_; rintro e w' ⟨rfl, rfl⟩))
        exact ⟨⟨i + 1, by omega, by go_num, hbr.trans (hb2.mono hbr.size), Nat.lt_of_lt_of_le hlt hb2.size, hem.on hb2 hlt⟩, by simp [intOf]; omega⟩
set_option maxRecDepth 100000 in
theorem upTo_nil4 (sa : Option Addr) (cap : Nat) (w : World) (hR : Ready w) :
    Calls Tryz.prog 15 #[.slice sa 0 cap, .int .i64 4] w fun E w' => E = .returned (.int .i64 (-1)) ∧ Below w.heap.size w w' := by
  have CH := hide (heads_ev w hR)
  clear hR
  go_enter Tryz.func15, Tryz.ntmps15
  go_wp2_with (go_at_call 31; refine (CH.out).mono ?_; rintro e w1 ⟨rfl, hb1⟩)
  have hz := hb1.size
  go_loopw [7] (fun t wr => t = .int .i64 0 ∧ Below w.heap.size w wr) (fun _ _ => 0)
  case atStart => exact ⟨rfl, hb1.alloc hb1.size _⟩
  case round =>
    obtain ⟨rfl, hbr⟩ := hrel
    go_wp2
    go_ret
    exact ⟨rfl, hbr⟩
set_option maxRecDepth 100000 in
theorem events_of (v : Value) (w : World) (h : Calls Tryz.prog 15 #[v, .int .i64 4] w fun E w' => E = .returned (.int .i64 (-1)) ∧ Below w.heap.size w w') :
    Calls Tryz.prog 5 #[v] w fun E w' => E = .returned (.bool true) ∧ Below w.heap.size w w' := by
  have CH := hide h
  clear h
  go_enter Tryz.func5, Tryz.ntmps5
  go_wp2_with (go_at_call 15; refine (CH.out).mono ?_; rintro e w1 ⟨rfl, hb1⟩)
  all_goals go_ret
  all_goals exact ⟨rfl, hb1⟩
end Go.Proofs.YthpndgcaoeokeaaGreatDoor
namespace Go.Proofs.YthpndgcaoeokeaaGreatDoor
open Go.ChangeShapes Go.WideShapes Go.ChangeAt Go.RowKit

theorem own : ownKnob Tryz.prog.godebug = none := by kernel_rfl
theorem laidOut : laidOutB Tryz.prog = true := by kernel_rfl
theorem bulk_one {H : Type} (d : DataW H) : 1 ≤ Rows.uptoBulk d := by
  cases d with
  | lit l => cases l <;> simp [Rows.uptoBulk]
  | nil => simp [Rows.uptoBulk]
  | ptr d => simp [Rows.uptoBulk]
  | slice elems spare => simp [Rows.uptoBulk]
  | agg parts => simp [Rows.uptoBulk]
  | iface t d => simp [Rows.uptoBulk]
  | map entries => simp [Rows.uptoBulk]
  | held h => simp [Rows.uptoBulk]
theorem bulk_part {H : Type} {d : DataW H} : ∀ {l : List (DataW H)}, d ∈ l → Rows.uptoBulk d ≤ Rows.uptoBulkAll l
  | x :: r, h => by
    simp only [Rows.uptoBulkAll]
    rcases List.mem_cons.1 h with e | e
    · subst e; omega
    · have := bulk_part e; omega
section
variable {H : Type} {enc : TypeId × Value → H} {w : World} {spare : Nat → Bool} {held : Bool}
/-- a step's text is a part of what is read -/
theorem step_bulk {n : Nat} {cs : List Value} {x : DataW H × List MemPlace} (h : DataW.trod enc Tryz.prog w 0 spare held n 65 cs = some x) {S : ByteArray} (hc : cs[4]? = some (.string S)) : S.size + 2 ≤ Rows.uptoBulk x.1 := by
  obtain ⟨xs, n', _, hxe, hl, hx, hf⟩ := DataW.trod_struct Tryz.underlying65 h
  have hx7 : xs.length = 7 := hx
  have f4 : DataW.trod enc Tryz.prog w 0 spare held n' 9 ((cs.drop 4).take (Tryz.prog.cellsOf 9)) = xs[4]? := hf 4 _ rfl
  rw [cellsString, List.getElem?_eq_getElem (by omega)] at f4
  obtain ⟨S', e4, e5, _⟩ := DataW.trod_string Tryz.underlying9 f4
  have hS : S' = S := by have := (take1 e4).symm.trans hc; simpa using this
  subst hS
  have hm : DataW.lit (.string S'.data.toList) ∈ xs.map (·.1) := List.mem_map.2 ⟨xs[4], List.getElem_mem _, by rw [e5]⟩
  have h1 := bulk_part hm
  rw [hxe]
  simp only [Rows.uptoBulk] at h1 ⊢
  have h2 : S'.data.toList.length = S'.size := by rw [Array.length_toList]; rfl
  omega
theorem steps_bulk {n : Nat} {v : Value} {x : DataW H × List MemPlace} (h : DataW.trod enc Tryz.prog w 0 spare held n 22 [v] = some x) (hb : Rows.uptoBulk x.1 ≤ 1048576) :
    (∃ sa cap, v = .slice sa 0 cap) ∨ ∃ b off len cap, v = .slice (some ⟨b, off, none⟩) len cap ∧ b < w.heap.size ∧ len ≤ maxLen ∧ ∀ i, i < len → StepE w b (off + i * 7) := by
  rcases Go.Deep.open_slice Tryz.underlying22 h with ⟨hv, _⟩ | ⟨a, len, cap, m, n, D, Pl, hv, _, hlc, hcm, hm, hxe, hx⟩
  · exact Or.inl ⟨none, 0, by simpa using hv⟩
  obtain rfl : v = .slice (some a) len cap := by simpa using hv
  rcases Nat.eq_zero_or_pos len with rfl | hp
  · exact Or.inl ⟨some a, cap, rfl⟩
  right
  have hle : len ≤ m := by rw [hm]; split <;> omega
  have hD : ∀ i, i < len → Rows.uptoBulk (D i) ≤ 1048576 := fun i hi => by
    have := bulk_part (d := D i) (l := (List.range len).map D) (List.mem_map.2 ⟨i, List.mem_range.2 hi, rfl⟩)
    rw [hxe] at hb
    simp only [Rows.uptoBulk] at hb
    omega
  rw [cellsStep] at hx
  have cell : ∀ i, i < len → ∃ cs', cs'.length = 7 ∧ (∀ j, j < 7 → w.cell? ((a.add (i * 7)).add j) = cs'[j]?) ∧ DataW.trod enc Tryz.prog w 0 spare held n 65 cs' = some (D i, Pl i) := fun i hi => by
    obtain ⟨cs', h1, h2⟩ := hx i (by omega)
    obtain ⟨_, hl, hc⟩ := World.cells?_some h1
    exact ⟨cs', hl, hc, h2⟩
  obtain ⟨c0, l0, g0, _⟩ := cell 0 hp
  have q0 : w.cell? a = some c0[0] := by
    have := g0 0 (by omega)
    rw [List.getElem?_eq_getElem (by omega)] at this
    simpa [Addr.add] using this
  have hs := spotless q0
  have hbk := World.block_lt_of_cell? w a q0
  obtain ⟨b, off, sp⟩ := a
  obtain rfl : sp = none := hs
  have at_ : ∀ i j, (Addr.add (Addr.add ⟨b, off, none⟩ i) j) = ⟨b, off + i + j, none⟩ := fun i j => by
    unfold Addr.add
    by_cases hi : i = 0 <;> by_cases hj : j = 0 <;> simp [hi, hj]
  refine ⟨b, off, len, cap, rfl, hbk, by omega, fun i hi => ?_⟩
  obtain ⟨cs, hl, hc, ht⟩ := cell i hi
  obtain ⟨k, a, n, m, S, T, sa, sl, sc, hS, e0, e1, e2, e3, e4, e5, e6⟩ := step_open ht
  have h5 := step_bulk ht e4
  have h6 := hD i hi
  have c : ∀ j, j < 7 → w.cell? ⟨b, off + i * 7 + j, none⟩ = cs[j]? := fun j hj => by rw [← at_]; exact hc j hj
  exact ⟨k, a, n, m, S, T, sa, sl, sc, by simp only [] at h5; omega, (c 0 (by omega)).trans e0, (c 1 (by omega)).trans e1, (c 2 (by omega)).trans e2, (c 3 (by omega)).trans e3, (c 4 (by omega)).trans e4, (c 5 (by omega)).trans e5, (c 6 (by omega)).trans e6⟩
end
theorem ml_of {W : World} (h : W.ShapedOpen Tryz.prog) : ML W := by
  obtain ⟨m, hm⟩ := cell_of_shapedOpen_int (g := 0) (zero := #[.int .i64 0]) (t := 3) h (of_decide_eq_true (by kernel_rfl)) (by kernel_rfl) rfl (by kernel_rfl) (by kernel_rfl) Tryz.underlying3
  exact ⟨World.block_lt_of_cell? W _ hm, m, hm⟩
theorem ready_ev {W : World} (hL : laidMetH Tryz.prog Rows.eventsUptoRow.laid W) (hS : W.ShapedOpen Tryz.prog) : Ready W := by
  rw [MakeChecks.laidMetH_plain _ _ _ (by kernel_rfl)] at hL
  obtain ⟨n1, n2⟩ := names_of hL
  have h1 : NamesAt W 1 0 propNames := fun j hj => by rw [Nat.zero_add]; exact n1 j hj
  have h2 : NamesAt W 2 0 partNames := fun j hj => by rw [Nat.zero_add]; exact n2 j hj
  exact ⟨tab_of hL, ml_of hS, h1, World.block_lt_of_cell? W _ (n1 0 (by decide)), h2, World.block_lt_of_cell? W _ (n2 0 (by decide))⟩
theorem events_reads (os : Os) {H : Type} (enc : TypeId × Value → H) : ∃ places, DataW.whole enc Tryz.prog ((World.laidAll Tryz.prog os Rows.eventsUptoRow.laid).forCall (fun _ _ => 0) ⟨#[], #[.slice none 0 0], []⟩).memory Tryz.f5.params.toList Rows.eventsSpec.vars false #[Value.slice none 0 0].toList 8 = some ([.nil], [], places) :=
  ⟨[], by kernel_rfl⟩
set_option maxRecDepth 100000 in
theorem events_lifted (os : Os) (started : os.Started) (H : Type) (enc : TypeId × Value → H) (F : Stop.Interp) :
    ReturnsInHanded {} Tryz.checked os 5 .any ((Rows.OpenSpec.upto Rows.eventsSpec).preRow enc Tryz.prog Tryz.f5 Rows.eventsUptoRow.domain false Rows.eventsUptoRow.laid) (((Rows.OpenSpec.upto Rows.eventsSpec).at F).post enc Tryz.prog Tryz.f5 false true false false) := by
  obtain ⟨places, hx⟩ := events_reads os enc
  refine returnsInHanded_of_row (C := Tryz.checked) (s := Rows.OpenSpec.upto Rows.eventsSpec) own started (by kernel_rfl) Tryz.func5
    (witness_row_at (enc := enc) (C := Tryz.checked) false (World.laidAll Tryz.prog os Rows.eventsUptoRow.laid) #[.slice none 0 0] (World.laidAll_os _ _ _) (by kernel_rfl) (by kernel_rfl) (by kernel_rfl)
      (OpenSpec.preRow_of_cond 8 hx (by kernel_rfl) (fun k hk => by cases hk; kernel_rfl) (by kernel_rfl) (laidMet_laidAll _ (by kernel_rfl) (by kernel_rfl)))) ?_
  intro W base args ds gs before hval0 hW _ hcond _ hL hS _
  have hval : ∀ (j : Nat) t v, Tryz.f5.params[j]? = some t → args[j]? = some v → Value.okWide Tryz.prog W .any base t v := hval0
  have hW' := hW
  obtain ⟨p, q, hA0, hV, rfl, _, _⟩ := hW
  have hA : DataW.TrodAll enc Tryz.prog W 0 (fun _ => true) true Tryz.f5.params.toList args.toList ds p := hA0
  rw [Tryz.params5] at hA hval
  obtain ⟨v0, d0, rfl, rfl, h0⟩ := trodAll_one hA
  obtain ⟨rfl, rfl⟩ := trodVars_none hV
  obtain ⟨sv, sn, sk, rfl⟩ := okWide_slice Tryz.underlying22 (hval 0 22 v0 rfl rfl)
  have hk := hcond _ rfl
  clear hA0 hV hval0 hval hcond
  simp only [List.append_nil] at hW'
  have hlt : ∀ x ∈ p, x.block < W.heap.size := fun x hx => hW'.lt x hx
  have hR : Ready W := ready_ev hL hS
  have hbk : Rows.uptoBulk d0 ≤ 1048576 := by
    have h1 : Rows.uptoBulkAll ([d0] ++ ([] : List (DataW H))) ≤ 1048576 := of_decide_eq_true hk
    simp only [List.append_nil, Rows.uptoBulkAll] at h1
    omega
  have fin : Calls Tryz.prog 5 #[.slice sv sn sk] W fun e w' => e = .returned (.bool true) ∧ Below W.heap.size W w' := by
    refine events_of _ W ?_
    obtain ⟨fuel, hf⟩ := h0
    rcases steps_bulk (v := .slice sv sn sk) hf hbk with ⟨sa, cap, e⟩ | ⟨b, off, len, cap, e, hb, hlen, hst⟩ <;> rw [e]
    · exact upTo_nil4 sa cap W hR
    · exact upTo_ev b off len cap W hR hb (Nat.le_trans hlen (by decide)) hst
  refine fin.mono fun e W' ⟨he, hb⟩ => ?_
  subst he
  have hback : DataW.Trod enc Tryz.prog W' 0 (fun b => decide (b < W.heap.size)) true 22 (.slice sv sn sk) d0 p :=
    Below.trod laidOut (by kernel_rfl) (of_decide_eq_true (by kernel_rfl)) h0 hb hlt
  exact ⟨_, rfl, [d0], [], p, [], p, [], hW', trodAll_mk1 (shut_bool Tryz.underlying4 _), trodAll_mk1 hback, rfl, hb.frame _, fun h => by cases h⟩
end Go.Proofs.YthpndgcaoeokeaaGreatDoor
