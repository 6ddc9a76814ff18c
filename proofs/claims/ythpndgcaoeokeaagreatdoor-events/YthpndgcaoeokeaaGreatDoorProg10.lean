/- The program's own: when.padded, when.writeTime. -/
import Derived.Test.YthpndgcaoeokeaaGreatDoorProg9
import Derived.Test.YthpndgcaoeokeaaGreatDoorShelf
import Derived.Lib.AppendIntMem
namespace Go.Proofs.YthpndgcaoeokeaaGreatDoor
open Go.RowKit Go.Sort

/-- the library's table of powers of ten, as the row lists it -/
def Tab (w : World) : Prop := Lib.TabIs Tryz.prog w "internal/strconv.uint64pow10" .u64 Lib.pow10Tab
theorem Tab.on {w w' : World} (h : Tab w) (hb : Below w.heap.size w w') : Tab w' := Lib.tabBelow_of_tabIs h w' hb

set_option maxRecDepth 100000 in
theorem repeat0 (s : ByteArray) (w : World) : Calls Tryz.prog 122 #[.string s, .int .i64 0] w fun e w' => e = .returned (.string ⟨#[]⟩) ∧ w = w' := by
  go_enter Tryz.func122, Tryz.ntmps122
  go_wp2
  go_ret
  exact ⟨rfl, rfl⟩
set_option maxRecDepth 100000 in
theorem repeat1 (s : ByteArray) (w : World) : Calls Tryz.prog 122 #[.string s, .int .i64 1] w fun e w' => e = .returned (.string s) ∧ w = w' := by
  go_enter Tryz.func122, Tryz.ntmps122
  go_wp2
  go_ret
  exact ⟨rfl, rfl⟩

theorem dec_snoc {u : Nat} (h : ¬ u < 10) : Lib.decDigits u = Lib.decDigits (u / 10) ++ [UInt8.ofNat (48 + u % 10)] := by
  rw [Lib.decDigits, dif_neg h]
theorem pad_dec2 (u : Nat) (h : ¬ u < 10) (h2 : u < 100) : Lib.decDigits u = pad 2 u := by
  rw [dec_snoc h, Lib.decDigits_one (by omega)]
  simp only [pad, List.nil_append, List.singleton_append]
  congr 1
  · congr 1; omega
theorem pad_dec1 (u : Nat) (h : u < 10) : [48] ++ Lib.decDigits u = pad 2 u := by
  rw [Lib.decDigits_one h]
  simp only [pad, List.nil_append, List.singleton_append]
  congr 1
  · have : (48 + (u : Int) / 10 % 10).toNat = 48 := by omega
    rw [this]; rfl
  · congr 1; congr 1; omega
theorem pad_dec4 (u : Nat) (h : 1000 ≤ u) (h2 : u < 10000) : Lib.decDigits u = pad 4 u := by
  rw [dec_snoc (by omega), dec_snoc (u := u / 10) (by omega), dec_snoc (u := u / 10 / 10) (by omega), Lib.decDigits_one (by omega)]
  have a1 : (48 + (u : Int) / 10 / 10 / 10 % 10).toNat = 48 + u / 10 / 10 / 10 := by omega
  have a2 : (48 + (u : Int) / 10 / 10 % 10).toNat = 48 + u / 10 / 10 % 10 := by omega
  have a3 : (48 + (u : Int) / 10 % 10).toNat = 48 + u / 10 % 10 := by omega
  have a4 : (48 + (u : Int) % 10).toNat = 48 + u % 10 := by omega
  simp only [pad, List.nil_append, a1, a2, a3, a4]

theorem itoa_nat (u : Nat) (w : World) (h : u ≤ 10000000) (ht : Tab w) :
    Calls Tryz.prog 83 #[.int .i64 u] w fun e w' => e = .returned (.string ⟨(Lib.decDigits u).toArray⟩) ∧ Below w.heap.size w w' :=
  (Tryz.strconv_Itoa (u : Int) (by omega) (by omega) w ht).mono fun e w' ⟨h1, k, os, h2⟩ => by
    rw [Lib.itoa_nonneg] at h1
    refine ⟨h1, ?_⟩
    rw [h2]
    refine ⟨rfl, rfl, rfl, by simp [grow, World.drewN], fun j hj => ?_⟩
    simp [grow, World.drewN, Array.getElem?_append, hj]

set_option maxHeartbeats 1000000 in
theorem whenPadded_any (u width : Nat) (w : World) (ht : Tab w) (h : (width = 2 ∧ u < 100) ∨ (width = 4 ∧ 1000 ≤ u ∧ u < 10000)) :
    Calls Tryz.prog 67 #[.int .i64 u, .int .i64 width] w fun e w' => e = .returned (.string ⟨(pad width u).toArray⟩) ∧ Below w.heap.size w w' := by
  have c := itoa_nat u w (by omega) ht
  have hl : (Lib.decDigits u).length = Lib.nDigits u := Lib.decDigits_length u
  have C := hide c
  clear c
  rcases h with ⟨rfl, h2⟩ | ⟨rfl, h4, h5⟩
  · by_cases h1 : u < 10
    · have e1 : (Lib.decDigits u).length = 1 := by rw [Lib.decDigits_one h1]; rfl
      have E := hide (pad_dec1 u h1)
      clear hl
      go_enter Tryz.func67, Tryz.ntmps67
      go_wp2_with (first
        | (go_at_call 83; refine (C.out).mono ?_; rintro e w1 ⟨rfl, hb⟩)
        | (go_at_call 122; refine (repeat1 _ _).mono ?_; rintro e w' ⟨rfl, rfl⟩))
      go_ret
      exact ⟨ret_str ((ba_app [48] _).trans (by rw [E.out])), hb⟩
    · have e1 : (Lib.decDigits u).length = 2 := by rw [pad_dec2 u h1 h2, pad_length]
      have E := hide (pad_dec2 u h1 h2)
      clear hl
      go_enter Tryz.func67, Tryz.ntmps67
      go_wp2_with (first
        | (go_at_call 83; refine (C.out).mono ?_; rintro e w1 ⟨rfl, hb⟩)
        | (go_at_call 122; refine (repeat0 _ _).mono ?_; rintro e w' ⟨rfl, rfl⟩))
      go_ret
      exact ⟨ret_str ((ba_app [] _).trans (by rw [E.out, List.nil_append])), hb⟩
  · have e1 : (Lib.decDigits u).length = 4 := by rw [pad_dec4 u h4 h5, pad_length]
    have E := hide (pad_dec4 u h4 h5)
    clear hl
    go_enter Tryz.func67, Tryz.ntmps67
    go_wp2_with (first
      | (go_at_call 83; refine (C.out).mono ?_; rintro e w1 ⟨rfl, hb⟩)
      | (go_at_call 122; refine (repeat0 _ _).mono ?_; rintro e w' ⟨rfl, rfl⟩))
    go_ret
    exact ⟨ret_str ((ba_app [] _).trans (by rw [E.out, List.nil_append])), hb⟩
end Go.Proofs.YthpndgcaoeokeaaGreatDoor
