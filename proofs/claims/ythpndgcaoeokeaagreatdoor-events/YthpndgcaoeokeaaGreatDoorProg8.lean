/- The program's own: giveup.Answer, of each of the functions that it is handed. -/
import Derived.Test.YthpndgcaoeokeaaGreatDoorProg7
namespace Go.Proofs.YthpndgcaoeokeaaGreatDoor
open Go.RowKit Go.Sort

set_option maxRecDepth 100000 in
set_option maxHeartbeats 1000000 in
theorem answerParse_yes (p : Addr) (n : Int) (w : World)
    (hf : ∀ W, Below w.heap.size w W → Calls Tryz.prog 38 #[.pointer (some p)] W fun E w' => E = .returned (.int .i64 n) ∧ Below W.heap.size W w') :
    Calls Tryz.prog 37 #[.func (.func 38) #[] #[.pointer (some p)]] w fun E w' => E = .returned (.tuple #[.int .i64 n, .int .i64 0]) ∧ Below w.heap.size w w' := by
  have hmf : ∀ (fn : Fn) (first cap : Array Value) (w : World), (Instr.makeFunc fn first cap).run Tryz.prog w = .ok (.func fn first cap) w := fun _ _ _ _ => rfl
  have HF := hide hf
  clear hf
  go_enter_defers Tryz.func37, Tryz.ntmps37
  go_wp2_with fail
  refine (HF.out _ ((Below.refl _ _).alloc (Nat.le_refl _) _)).mono ?_
  rintro e w1 ⟨rfl, hb1⟩
  obtain ⟨hc, hfz⟩ := bcell hb1
  have hz := hb1.size
  have h0 : w1.cell? ⟨w.heap.size, 0, none⟩ = some (.int .i64 0) := by rw [hc _ _ (by simp)]; simp [go_sem]
  have h1 : w1.frozen? ⟨w.heap.size, 0, none⟩ = false := by rw [hfz _ _ (by simp)]; simp [go_sem]
  have hlt : w.heap.size < w1.heap.size := by simp at hz; omega
  have hb : Below w.heap.size w w1 := ((Below.refl _ _).alloc (Nat.le_refl _) _).trans (hb1.mono (by simp))
  clear hc hfz hb1 hz
  go_wp2
  refine leaves_cons (f := 68) (args := #[.pointer (some ⟨w.heap.size, 0, none⟩)]) (by simp) (by simp [go_sem]) ?_
  refine (catchInt_idle _ _).mono ?_
  rintro e u' w'' ⟨rfl, rfl, rfl⟩
  refine ⟨.tuple #[.int .i64 n, .int .i64 0], ?_, rfl, hb.setCell (Nat.le_refl _) _⟩
  simp [results, Tryz.results37, go_sem, h0]

set_option maxRecDepth 100000 in
set_option maxHeartbeats 1000000 in
theorem answerParse_no (p : Addr) (x : Int) (w : World)
    (hf : ∀ W, Below w.heap.size w W → Calls Tryz.prog 38 #[.pointer (some p)] W fun E w' => E = .panicked (rsn x) ∧ Below W.heap.size W w') :
    Calls Tryz.prog 37 #[.func (.func 38) #[] #[.pointer (some p)]] w fun E w' => E = .returned (.tuple #[.int .i64 0, .int .i64 x]) ∧ Below w.heap.size w w' := by
  have hmf : ∀ (fn : Fn) (first cap : Array Value) (w : World), (Instr.makeFunc fn first cap).run Tryz.prog w = .ok (.func fn first cap) w := fun _ _ _ _ => rfl
  have HF := hide hf
  clear hf
  go_enter_defers Tryz.func37, Tryz.ntmps37
  go_wp2_with fail
  refine (HF.out _ ((Below.refl _ _).alloc (Nat.le_refl _) _)).mono ?_
  rintro e w1 ⟨rfl, hb1⟩
  obtain ⟨hc, hfz⟩ := bcell hb1
  have hz := hb1.size
  have h0 : w1.cell? ⟨w.heap.size, 0, none⟩ = some (.int .i64 0) := by rw [hc _ _ (by simp)]; simp [go_sem]
  have h1 : w1.frozen? ⟨w.heap.size, 0, none⟩ = false := by rw [hfz _ _ (by simp)]; simp [go_sem]
  have hlt : w.heap.size < w1.heap.size := by simp at hz; omega
  have hb : Below w.heap.size w w1 := ((Below.refl _ _).alloc (Nat.le_refl _) _).trans (hb1.mono (by simp))
  clear hc hfz hb1 hz
  refine leaves_cons (f := 68) (args := #[.pointer (some ⟨w.heap.size, 0, none⟩)]) (by simp) (by simp [go_sem]) ?_
  refine (catchInt_panicking ⟨w.heap.size, 0, none⟩ x (.int .i64 0) [] _ h0 h1 hlt).mono ?_
  rintro e u' w'' ⟨rfl, rfl, rfl⟩
  refine ⟨.tuple #[.int .i64 0, .int .i64 x], ?_, rfl, (hb.alloc (Nat.le_of_lt hlt) _).setCell (Nat.le_refl _) _⟩
  have h2 : ((w1.alloc (.cells #[.int .i64 x] 103)).cell? ⟨w.heap.size, 0, none⟩).isSome = true := by
    rw [World.cell?_alloc_past _ _ _ hlt, h0]; rfl
  simp [results, Tryz.results37, go_sem, h2]

set_option maxRecDepth 100000 in
set_option maxHeartbeats 1000000 in
theorem answerLength_yes (p : Addr) (n : Int) (w : World)
    (hf : ∀ W, Below w.heap.size w W → Calls Tryz.prog 40 #[.pointer (some p)] W fun E w' => E = .returned (.int .i64 n) ∧ Below W.heap.size W w') :
    Calls Tryz.prog 37 #[.func (.func 40) #[] #[.pointer (some p)]] w fun E w' => E = .returned (.tuple #[.int .i64 n, .int .i64 0]) ∧ Below w.heap.size w w' := by
  have hmf : ∀ (fn : Fn) (first cap : Array Value) (w : World), (Instr.makeFunc fn first cap).run Tryz.prog w = .ok (.func fn first cap) w := fun _ _ _ _ => rfl
  have HF := hide hf
  clear hf
  go_enter_defers Tryz.func37, Tryz.ntmps37
  go_wp2_with fail
  refine (HF.out _ ((Below.refl _ _).alloc (Nat.le_refl _) _)).mono ?_
  rintro e w1 ⟨rfl, hb1⟩
  obtain ⟨hc, hfz⟩ := bcell hb1
  have hz := hb1.size
  have h0 : w1.cell? ⟨w.heap.size, 0, none⟩ = some (.int .i64 0) := by rw [hc _ _ (by simp)]; simp [go_sem]
  have h1 : w1.frozen? ⟨w.heap.size, 0, none⟩ = false := by rw [hfz _ _ (by simp)]; simp [go_sem]
  have hlt : w.heap.size < w1.heap.size := by simp at hz; omega
  have hb : Below w.heap.size w w1 := ((Below.refl _ _).alloc (Nat.le_refl _) _).trans (hb1.mono (by simp))
  clear hc hfz hb1 hz
  go_wp2
  refine leaves_cons (f := 68) (args := #[.pointer (some ⟨w.heap.size, 0, none⟩)]) (by simp) (by simp [go_sem]) ?_
  refine (catchInt_idle _ _).mono ?_
  rintro e u' w'' ⟨rfl, rfl, rfl⟩
  refine ⟨.tuple #[.int .i64 n, .int .i64 0], ?_, rfl, hb.setCell (Nat.le_refl _) _⟩
  simp [results, Tryz.results37, go_sem, h0]

set_option maxRecDepth 100000 in
set_option maxHeartbeats 1000000 in
theorem answerLength_no (p : Addr) (x : Int) (w : World)
    (hf : ∀ W, Below w.heap.size w W → Calls Tryz.prog 40 #[.pointer (some p)] W fun E w' => E = .panicked (rsn x) ∧ Below W.heap.size W w') :
    Calls Tryz.prog 37 #[.func (.func 40) #[] #[.pointer (some p)]] w fun E w' => E = .returned (.tuple #[.int .i64 0, .int .i64 x]) ∧ Below w.heap.size w w' := by
  have hmf : ∀ (fn : Fn) (first cap : Array Value) (w : World), (Instr.makeFunc fn first cap).run Tryz.prog w = .ok (.func fn first cap) w := fun _ _ _ _ => rfl
  have HF := hide hf
  clear hf
  go_enter_defers Tryz.func37, Tryz.ntmps37
  go_wp2_with fail
  refine (HF.out _ ((Below.refl _ _).alloc (Nat.le_refl _) _)).mono ?_
  rintro e w1 ⟨rfl, hb1⟩
  obtain ⟨hc, hfz⟩ := bcell hb1
  have hz := hb1.size
  have h0 : w1.cell? ⟨w.heap.size, 0, none⟩ = some (.int .i64 0) := by rw [hc _ _ (by simp)]; simp [go_sem]
  have h1 : w1.frozen? ⟨w.heap.size, 0, none⟩ = false := by rw [hfz _ _ (by simp)]; simp [go_sem]
  have hlt : w.heap.size < w1.heap.size := by simp at hz; omega
  have hb : Below w.heap.size w w1 := ((Below.refl _ _).alloc (Nat.le_refl _) _).trans (hb1.mono (by simp))
  clear hc hfz hb1 hz
  refine leaves_cons (f := 68) (args := #[.pointer (some ⟨w.heap.size, 0, none⟩)]) (by simp) (by simp [go_sem]) ?_
  refine (catchInt_panicking ⟨w.heap.size, 0, none⟩ x (.int .i64 0) [] _ h0 h1 hlt).mono ?_
  rintro e u' w'' ⟨rfl, rfl, rfl⟩
  refine ⟨.tuple #[.int .i64 0, .int .i64 x], ?_, rfl, (hb.alloc (Nat.le_of_lt hlt) _).setCell (Nat.le_refl _) _⟩
  have h2 : ((w1.alloc (.cells #[.int .i64 x] 103)).cell? ⟨w.heap.size, 0, none⟩).isSome = true := by
    rw [World.cell?_alloc_past _ _ _ hlt, h0]; rfl
  simp [results, Tryz.results37, go_sem, h2]

set_option maxRecDepth 100000 in
set_option maxHeartbeats 1000000 in
theorem answerPrint_yes (p : Addr) (n : ByteArray) (w : World)
    (hf : ∀ W, Below w.heap.size w W → Calls Tryz.prog 35 #[.pointer (some p)] W fun E w' => E = .returned (.string n) ∧ Below W.heap.size W w') :
    Calls Tryz.prog 34 #[.func (.func 35) #[] #[.pointer (some p)]] w fun E w' => E = .returned (.tuple #[.string n, .int .i64 0]) ∧ Below w.heap.size w w' := by
  have hmf : ∀ (fn : Fn) (first cap : Array Value) (w : World), (Instr.makeFunc fn first cap).run Tryz.prog w = .ok (.func fn first cap) w := fun _ _ _ _ => rfl
  have HF := hide hf
  clear hf
  go_enter_defers Tryz.func34, Tryz.ntmps34
  go_wp2_with fail
  refine (HF.out _ ((Below.refl _ _).alloc (Nat.le_refl _) _)).mono ?_
  rintro e w1 ⟨rfl, hb1⟩
  obtain ⟨hc, hfz⟩ := bcell hb1
  have hz := hb1.size
  have h0 : w1.cell? ⟨w.heap.size, 0, none⟩ = some (.int .i64 0) := by rw [hc _ _ (by simp)]; simp [go_sem]
  have h1 : w1.frozen? ⟨w.heap.size, 0, none⟩ = false := by rw [hfz _ _ (by simp)]; simp [go_sem]
  have hlt : w.heap.size < w1.heap.size := by simp at hz; omega
  have hb : Below w.heap.size w w1 := ((Below.refl _ _).alloc (Nat.le_refl _) _).trans (hb1.mono (by simp))
  clear hc hfz hb1 hz
  go_wp2
  refine leaves_cons (f := 63) (args := #[.pointer (some ⟨w.heap.size, 0, none⟩)]) (by simp) (by simp [go_sem]) ?_
  refine (catchString_idle _ _).mono ?_
  rintro e u' w'' ⟨rfl, rfl, rfl⟩
  refine ⟨.tuple #[.string n, .int .i64 0], ?_, rfl, hb.setCell (Nat.le_refl _) _⟩
  simp [results, Tryz.results34, go_sem, h0]

set_option maxRecDepth 100000 in
set_option maxHeartbeats 1000000 in
theorem answerPrint_no (p : Addr) (x : Int) (w : World)
    (hf : ∀ W, Below w.heap.size w W → Calls Tryz.prog 35 #[.pointer (some p)] W fun E w' => E = .panicked (rsn x) ∧ Below W.heap.size W w') :
    Calls Tryz.prog 34 #[.func (.func 35) #[] #[.pointer (some p)]] w fun E w' => E = .returned (.tuple #[.string ⟨#[]⟩, .int .i64 x]) ∧ Below w.heap.size w w' := by
  have hmf : ∀ (fn : Fn) (first cap : Array Value) (w : World), (Instr.makeFunc fn first cap).run Tryz.prog w = .ok (.func fn first cap) w := fun _ _ _ _ => rfl
  have HF := hide hf
  clear hf
  go_enter_defers Tryz.func34, Tryz.ntmps34
  go_wp2_with fail
  refine (HF.out _ ((Below.refl _ _).alloc (Nat.le_refl _) _)).mono ?_
  rintro e w1 ⟨rfl, hb1⟩
  obtain ⟨hc, hfz⟩ := bcell hb1
  have hz := hb1.size
  have h0 : w1.cell? ⟨w.heap.size, 0, none⟩ = some (.int .i64 0) := by rw [hc _ _ (by simp)]; simp [go_sem]
  have h1 : w1.frozen? ⟨w.heap.size, 0, none⟩ = false := by rw [hfz _ _ (by simp)]; simp [go_sem]
  have hlt : w.heap.size < w1.heap.size := by simp at hz; omega
  have hb : Below w.heap.size w w1 := ((Below.refl _ _).alloc (Nat.le_refl _) _).trans (hb1.mono (by simp))
  clear hc hfz hb1 hz
  refine leaves_cons (f := 63) (args := #[.pointer (some ⟨w.heap.size, 0, none⟩)]) (by simp) (by simp [go_sem]) ?_
  refine (catchString_panicking ⟨w.heap.size, 0, none⟩ x (.int .i64 0) [] _ h0 h1 hlt).mono ?_
  rintro e u' w'' ⟨rfl, rfl, rfl⟩
  refine ⟨.tuple #[.string ⟨#[]⟩, .int .i64 x], ?_, rfl, (hb.alloc (Nat.le_of_lt hlt) _).setCell (Nat.le_refl _) _⟩
  have h2 : ((w1.alloc (.cells #[.int .i64 x] 103)).cell? ⟨w.heap.size, 0, none⟩).isSome = true := by
    rw [World.cell?_alloc_past _ _ _ hlt, h0]; rfl
  simp [results, Tryz.results34, go_sem, h2]

set_option maxRecDepth 100000 in
set_option maxHeartbeats 1000000 in
theorem answerCheck_yes (p : Addr) (n : ByteArray) (w : World)
    (hf : ∀ W, Below w.heap.size w W → Calls Tryz.prog 42 #[.pointer (some p)] W fun E w' => E = .returned (.string n) ∧ Below W.heap.size W w') :
    Calls Tryz.prog 34 #[.func (.func 42) #[] #[.pointer (some p)]] w fun E w' => E = .returned (.tuple #[.string n, .int .i64 0]) ∧ Below w.heap.size w w' := by
  have hmf : ∀ (fn : Fn) (first cap : Array Value) (w : World), (Instr.makeFunc fn first cap).run Tryz.prog w = .ok (.func fn first cap) w := fun _ _ _ _ => rfl
  have HF := hide hf
  clear hf
  go_enter_defers Tryz.func34, Tryz.ntmps34
  go_wp2_with fail
  refine (HF.out _ ((Below.refl _ _).alloc (Nat.le_refl _) _)).mono ?_
  rintro e w1 ⟨rfl, hb1⟩
  obtain ⟨hc, hfz⟩ := bcell hb1
  have hz := hb1.size
  have h0 : w1.cell? ⟨w.heap.size, 0, none⟩ = some (.int .i64 0) := by rw [hc _ _ (by simp)]; simp [go_sem]
  have h1 : w1.frozen? ⟨w.heap.size, 0, none⟩ = false := by rw [hfz _ _ (by simp)]; simp [go_sem]
  have hlt : w.heap.size < w1.heap.size := by simp at hz; omega
  have hb : Below w.heap.size w w1 := ((Below.refl _ _).alloc (Nat.le_refl _) _).trans (hb1.mono (by simp))
  clear hc hfz hb1 hz
  go_wp2
  refine leaves_cons (f := 63) (args := #[.pointer (some ⟨w.heap.size, 0, none⟩)]) (by simp) (by simp [go_sem]) ?_
  refine (catchString_idle _ _).mono ?_
  rintro e u' w'' ⟨rfl, rfl, rfl⟩
  refine ⟨.tuple #[.string n, .int .i64 0], ?_, rfl, hb.setCell (Nat.le_refl _) _⟩
  simp [results, Tryz.results34, go_sem, h0]

set_option maxRecDepth 100000 in
set_option maxHeartbeats 1000000 in
theorem answerCheck_no (p : Addr) (x : Int) (w : World)
    (hf : ∀ W, Below w.heap.size w W → Calls Tryz.prog 42 #[.pointer (some p)] W fun E w' => E = .panicked (rsn x) ∧ Below W.heap.size W w') :
    Calls Tryz.prog 34 #[.func (.func 42) #[] #[.pointer (some p)]] w fun E w' => E = .returned (.tuple #[.string ⟨#[]⟩, .int .i64 x]) ∧ Below w.heap.size w w' := by
  have hmf : ∀ (fn : Fn) (first cap : Array Value) (w : World), (Instr.makeFunc fn first cap).run Tryz.prog w = .ok (.func fn first cap) w := fun _ _ _ _ => rfl
  have HF := hide hf
  clear hf
  go_enter_defers Tryz.func34, Tryz.ntmps34
  go_wp2_with fail
  refine (HF.out _ ((Below.refl _ _).alloc (Nat.le_refl _) _)).mono ?_
  rintro e w1 ⟨rfl, hb1⟩
  obtain ⟨hc, hfz⟩ := bcell hb1
  have hz := hb1.size
  have h0 : w1.cell? ⟨w.heap.size, 0, none⟩ = some (.int .i64 0) := by rw [hc _ _ (by simp)]; simp [go_sem]
  have h1 : w1.frozen? ⟨w.heap.size, 0, none⟩ = false := by rw [hfz _ _ (by simp)]; simp [go_sem]
  have hlt : w.heap.size < w1.heap.size := by simp at hz; omega
  have hb : Below w.heap.size w w1 := ((Below.refl _ _).alloc (Nat.le_refl _) _).trans (hb1.mono (by simp))
  clear hc hfz hb1 hz
  refine leaves_cons (f := 63) (args := #[.pointer (some ⟨w.heap.size, 0, none⟩)]) (by simp) (by simp [go_sem]) ?_
  refine (catchString_panicking ⟨w.heap.size, 0, none⟩ x (.int .i64 0) [] _ h0 h1 hlt).mono ?_
  rintro e u' w'' ⟨rfl, rfl, rfl⟩
  refine ⟨.tuple #[.string ⟨#[]⟩, .int .i64 x], ?_, rfl, (hb.alloc (Nat.le_of_lt hlt) _).setCell (Nat.le_refl _) _⟩
  have h2 : ((w1.alloc (.cells #[.int .i64 x] 103)).cell? ⟨w.heap.size, 0, none⟩).isSome = true := by
    rw [World.cell?_alloc_past _ _ _ hlt, h0]; rfl
  simp [results, Tryz.results34, go_sem, h2]
end Go.Proofs.YthpndgcaoeokeaaGreatDoor
