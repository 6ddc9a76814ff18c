/- The statements' own: num, times, step, still, as far as times go. -/
import Derived.Test.YthpndgcaoeokeaaGreatDoorProg15
namespace Go.Proofs.YthpndgcaoeokeaaGreatDoor
open Go.RowKit Go.Sort

theorem num_any (e : Int) (w : World) : Calls Tryz.prog 108 #[.int .i64 e] w fun E w' => E = .returned (.int .i64 e) ∧ w = w' := by
  go_enter Tryz.func108, Tryz.ntmps108
  go_wp2
  go_ret
  exact ⟨rfl, rfl⟩

theorem parseV_form (s : ByteArray) : ∃ n e : Int, parseV s = .tuple #[.int .i64 n, .int .i64 e] := by
  by_cases h : TimeOk s
  · exact ⟨_, _, parseV_yes h⟩
  · exact ⟨_, _, parseV_no h⟩
theorem printV_form (n : Int) : ∃ (t : ByteArray) (e : Int), printV n = .tuple #[.string t, .int .i64 e] := by
  unfold printV; cases isTimeB n
  · exact ⟨_, _, rfl⟩
  · exact ⟨_, _, rfl⟩
theorem lenV_form (o : Option Int) : ∃ n e : Int, lenV o = .tuple #[.int .i64 n, .int .i64 e] := by
  cases o with
  | none => exact ⟨_, _, rfl⟩
  | some n => exact ⟨_, _, rfl⟩


set_option maxRecDepth 100000 in
set_option maxHeartbeats 2000000 in
theorem times_parse (a n m : Int) (S T : ByteArray) (sa : Option Addr) (sl sc : Nat) (w : World) (hS : S.size ≤ maxLen) (ht : Tab w) :
    Calls Tryz.prog 57 #[.agg #[.int .i64 1, .int .i64 a, .int .i64 n, .int .i64 m, .string S, .string T, .slice sa sl sc]] w fun E w' => E = .returned (.bool true) ∧ Below w.heap.size w w' := by
  have c1 := fun W => parse_any S W
  have c2 := fun W => refParse_any S W hS
  obtain ⟨p, e, hv⟩ := parseV_form S
  rw [hv] at c1 c2
  have C1 := hide c1
  have C2 := hide c2
  have HT := hide ht
  clear c1 c2 hv hS ht
  go_enter Tryz.func57, Tryz.ntmps57
  go_wp2_with (first
    | (go_at_call 19; refine (C1.out _).mono ?_; rintro e w1 ⟨rfl, hb1⟩; obtain ⟨hc, hf⟩ := bcell hb1)
    | (go_at_call 107; refine (C2.out _).mono ?_; rintro e w' ⟨rfl, rfl⟩)
    | (go_at_call 108; refine (num_any _ _).mono ?_; rintro e w' ⟨rfl, rfl⟩))
  go_ret
  have hb := ((Below.refl w.heap.size w).alloc (Nat.le_refl _) _).trans (hb1.mono (by simp))
  exact ⟨rfl, hb⟩

set_option maxRecDepth 100000 in
set_option maxHeartbeats 2000000 in
theorem times_print (a n m : Int) (S T : ByteArray) (sa : Option Addr) (sl sc : Nat) (w : World) (ht : Tab w) :
    Calls Tryz.prog 57 #[.agg #[.int .i64 2, .int .i64 a, .int .i64 n, .int .i64 m, .string S, .string T, .slice sa sl sc]] w fun E w' => E = .returned (.bool true) ∧ Below w.heap.size w w' := by
  have c1 := fun W (h : Tab W) => print_any n W h
  have c2 := fun W => refPrint_any n W
  obtain ⟨p, e, hv⟩ := printV_form n
  rw [hv] at c1 c2
  have C1 := hide c1
  have C2 := hide c2
  have HT := hide ht
  clear c1 c2 hv ht
  go_enter Tryz.func57, Tryz.ntmps57
  go_wp2_with (first
    | (go_at_call 18; refine (C1.out _ (HT.out.on ((Below.refl _ _).alloc (Nat.le_refl _) _))).mono ?_; rintro e w1 ⟨rfl, hb1⟩; obtain ⟨hc, hf⟩ := bcell hb1)
    | (go_at_call 109; refine (C2.out _).mono ?_; rintro e w2 ⟨rfl, hb2⟩)
    | (go_at_call 108; refine (num_any _ _).mono ?_; rintro e w' ⟨rfl, rfl⟩))
  go_ret
  have hb := ((Below.refl w.heap.size w).alloc (Nat.le_refl _) _).trans (hb1.mono (by simp))
  exact ⟨rfl, hb.trans (hb2.mono hb.size)⟩

set_option maxRecDepth 100000 in
set_option maxHeartbeats 2000000 in
theorem times_length (a n m : Int) (S T : ByteArray) (sa : Option Addr) (sl sc : Nat) (w : World) (hS : S.size ≤ maxLen) (ht : Tab w) :
    Calls Tryz.prog 57 #[.agg #[.int .i64 3, .int .i64 a, .int .i64 n, .int .i64 m, .string S, .string T, .slice sa sl sc]] w fun E w' => E = .returned (.bool true) ∧ Below w.heap.size w w' := by
  have c1 := fun W => length_any S W hS
  have c2 := fun W => refLength_any S W hS
  obtain ⟨p, e, hv⟩ := lenV_form (lenL S.data.toList)
  rw [hv] at c1 c2
  have C1 := hide c1
  have C2 := hide c2
  have HT := hide ht
  clear c1 c2 hv hS ht
  go_enter Tryz.func57, Tryz.ntmps57
  go_wp2_with (first
    | (go_at_call 20; refine (C1.out _).mono ?_; rintro e w1 ⟨rfl, hb1⟩; obtain ⟨hc, hf⟩ := bcell hb1)
    | (go_at_call 110; refine (C2.out _).mono ?_; rintro e w2 ⟨rfl, hb2⟩)
    | (go_at_call 108; refine (num_any _ _).mono ?_; rintro e w' ⟨rfl, rfl⟩))
  go_ret
  have hb := ((Below.refl w.heap.size w).alloc (Nat.le_refl _) _).trans (hb1.mono (by simp))
  exact ⟨rfl, hb.trans (hb2.mono hb.size)⟩

theorem times_any (k a n m : Int) (S T : ByteArray) (sa : Option Addr) (sl sc : Nat) (w : World) (hS : S.size ≤ maxLen) (ht : Tab w) (h1 : 1 ≤ k) (h3 : k ≤ 3) :
    Calls Tryz.prog 57 #[.agg #[.int .i64 k, .int .i64 a, .int .i64 n, .int .i64 m, .string S, .string T, .slice sa sl sc]] w fun E w' => E = .returned (.bool true) ∧ Below w.heap.size w w' := by
  have : k = 1 ∨ k = 2 ∨ k = 3 := by omega
  rcases this with rfl | rfl | rfl
  · exact times_parse a n m S T sa sl sc w hS ht
  · exact times_print a n m S T sa sl sc w ht
  · exact times_length a n m S T sa sl sc w hS ht

/-- the law's world, empty: it lies at p -/
def Empty (p : Nat) (w : World) : Prop :=
  w.cell? ⟨p, 0, none⟩ = some (.slice none 0 0) ∧ w.cell? ⟨p, 1, none⟩ = some (.int .i64 0) ∧ w.cell? ⟨p, 2, none⟩ = some (.slice none 0 0)

set_option maxRecDepth 100000 in
set_option maxHeartbeats 2000000 in
theorem still_empty (p : Nat) (w : World) (h : Empty p w) :
    Calls Tryz.prog 33 #[.pointer (some ⟨p, 0, none⟩)] w fun E w' => E = .returned (.bool true) ∧ w = w' := by
  obtain ⟨h0, h1, h2⟩ := h
  go_enter Tryz.func33, Tryz.ntmps33
  go_wp2
  go_loop [3] (fun i => i = .int .i64 0) (fun _ => 0)
  case atStart => rfl
  case round =>
    subst hrel
    go_wp2
    go_ret
    exact ⟨rfl, rfl⟩

set_option maxRecDepth 100000 in
set_option maxHeartbeats 2000000 in
theorem step_times (p : Nat) (k a n m : Int) (S T : ByteArray) (sa : Option Addr) (sl sc : Nat) (w : World) (hS : S.size ≤ maxLen) (ht : Tab w) (h1 : 1 ≤ k) (h3 : k ≤ 3) :
    Calls Tryz.prog 32 #[.pointer (some ⟨p, 0, none⟩), .agg #[.int .i64 k, .int .i64 a, .int .i64 n, .int .i64 m, .string S, .string T, .slice sa sl sc]] w fun E w' => E = .returned (.bool true) ∧ Below w.heap.size w w' := by
  have C := hide (fun W (h : Tab W) => times_any k a n m S T sa sl sc W hS h h1 h3)
  have HT := hide ht
  clear ht hS
  go_enter Tryz.func32, Tryz.ntmps32
  go_wp2_with (go_at_call 57; refine (C.out _ (HT.out.on ((Below.refl _ _).alloc (Nat.le_refl _) _))).mono ?_; rintro e w1 ⟨rfl, hb1⟩)
  go_ret
  exact ⟨rfl, ((Below.refl w.heap.size w).alloc (Nat.le_refl _) _).trans (hb1.mono (by simp))⟩

set_option maxRecDepth 100000 in
set_option maxHeartbeats 2000000 in
theorem step_none (p : Nat) (k a n m : Int) (S T : ByteArray) (sa : Option Addr) (sl sc : Nat) (w : World) (h : Empty p w) (hp : p < w.heap.size) (h1 : k < 1) :
    Calls Tryz.prog 32 #[.pointer (some ⟨p, 0, none⟩), .agg #[.int .i64 k, .int .i64 a, .int .i64 n, .int .i64 m, .string S, .string T, .slice sa sl sc]] w fun E w' => E = .returned (.bool true) ∧ Below w.heap.size w w' := by
  obtain ⟨c0, c1, c2⟩ := h
  have d0 : ∀ o, (w.alloc o).cell? ⟨p, 0, none⟩ = some (.slice none 0 0) := fun o => by rw [World.cell?_alloc_past _ _ _ hp]; exact c0
  have e1 : decide (1 ≤ k) = false := by simp; omega
  have e5 : (k == 5) = false := by rw [beq_eq_false_iff_ne]; omega
  have e6 : (k == 6) = false := by rw [beq_eq_false_iff_ne]; omega
  go_enter Tryz.func32, Tryz.ntmps32
  go_wp2
  go_ret
  exact ⟨rfl, (Below.refl w.heap.size w).alloc (Nat.le_refl _) _⟩
end Go.Proofs.YthpndgcaoeokeaaGreatDoor
