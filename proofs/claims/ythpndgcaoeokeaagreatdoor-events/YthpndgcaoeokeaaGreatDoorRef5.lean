/- The document's Print (fallowref). -/
import Derived.Test.YthpndgcaoeokeaaGreatDoorRef4
import Derived.Lib.QuietBelow
namespace Go.Proofs.YthpndgcaoeokeaaGreatDoor
open Go.RowKit Go.Sort

theorem ofY_bd {n : Int} (h0 : 0 ≤ n) (h1 : n < 84006) : 1970 ≤ Cal.ofY n ∧ Cal.ofY n ≤ 2199 ∧ Cal.Valid (Cal.ofY n) (Cal.ofM n) (Cal.ofD n) := by
  have v := Cal.of_valid n (by omega)
  have e := Cal.of_num n (by omega)
  have i := Cal.in_year v
  refine ⟨?_, ?_, v⟩
  · by_cases q : 1970 ≤ Cal.ofY n
    · exact q
    · have := Cal.num_jan1_mono (Cal.ofY n + 1) (1970 - Cal.ofY n - 1).toNat
      rw [show Cal.ofY n + 1 + ((1970 - Cal.ofY n - 1).toNat : Int) = 1970 from by omega, Cal.num_epoch] at this
      omega
  · by_cases q : Cal.ofY n ≤ 2199
    · exact q
    · have := Cal.num_jan1_mono 2200 (Cal.ofY n - 2200).toNat
      rw [show 2200 + ((Cal.ofY n - 2200).toNat : Int) = Cal.ofY n from by omega, Cal.num_end] at this
      omega

def printL (n : Int) : List UInt8 :=
  pad 4 (Cal.ofY (n / 86400)) ++ pad 2 (Cal.ofM (n / 86400)) ++ pad 2 (Cal.ofD (n / 86400)) ++ [84] ++ pad 2 (n % 86400 / 3600) ++ pad 2 (n % 86400 / 60 % 60) ++ pad 2 (n % 86400 % 60) ++ [90]
def printV (n : Int) : Value := if isTimeB n then .tuple #[.string ⟨(printL n).toArray⟩, .int .i64 0] else .tuple #[.string ⟨#[]⟩, .int .i64 1]

theorem printL_eq (n : Int) : (⟨(pad 4 (Cal.ofY (n / 86400))).toArray⟩ : ByteArray) ++ ⟨(pad 2 (Cal.ofM (n / 86400))).toArray⟩ ++ ⟨(pad 2 (Cal.ofD (n / 86400))).toArray⟩ ++ ⟨#[84]⟩ ++
    ⟨(pad 2 (n % 86400 / 3600)).toArray⟩ ++ ⟨(pad 2 (n % 86400 / 60 % 60)).toArray⟩ ++ ⟨(pad 2 (n % 60)).toArray⟩ ++ ⟨#[90]⟩ = ⟨(printL n).toArray⟩ := by
  unfold printL
  rw [show n % 86400 % 60 = n % 60 from by omega]
  simp only [ba_app]

theorem padded_in (W : World) (n size : Int) (d : Nat) (os : Array Obj) (h0 : 0 ≤ n) (h1 : n ≤ 10000000) (h2 : 0 ≤ size) (h3 : size ≤ 10) :
    Calls Tryz.prog 184 #[.int .i64 n, .int .i64 size] (grow (redrawn W d) os) fun e w'' => e = .returned (.string ⟨(pad size.toNat n).toArray⟩) ∧ ∃ p : Regrown, w'' = grow (redrawn W p.d) p.os := by
  obtain ⟨k, rfl⟩ := Int.eq_ofNat_of_zero_le h2
  exact Calls.regrown_of (padded_any n k _ h0 h1 (by omega))

set_option maxRecDepth 100000 in
set_option maxHeartbeats 4000000 in
theorem refPrint_any (n : Int) (w : World) :
    Calls Tryz.prog 109 #[.int .i64 n] w fun e w' => e = .returned (printV n) ∧ Below w.heap.size w w' := by
  cases ht : isTimeB n
  · have hv : printV n = .tuple #[.string ⟨#[]⟩, .int .i64 1] := by unfold printV; rw [ht]; rfl
    rw [hv]
    clear hv
    go_enter Tryz.func109, Tryz.ntmps109
    go_wp2_with (go_at_call 182; refine (isTime_any _ _).mono ?_; rintro e w' ⟨rfl, rfl⟩)
    go_ret2
    exact ⟨rfl, Below.refl _ _⟩
  · have hv : printV n = .tuple #[.string ⟨(printL n).toArray⟩, .int .i64 0] := by unfold printV; rw [ht]; rfl
    rw [hv]
    have hb : 0 ≤ n ∧ n < 7258118400 := by simpa [isTimeB] using ht
    have hd := ofY_bd (n := n / 86400) (by omega) (by omega)
    obtain ⟨d1, d2, d3, d4, d5, d6⟩ := hd
    have hm := Cal.md_bd (Cal.ofY (n / 86400)) (Cal.ofM (n / 86400))
    clear hv
    go_enter Tryz.func109, Tryz.ntmps109
    go_wp2_with (first
      | (go_at_call 182; refine (isTime_any _ _).mono ?_; rintro e w' ⟨rfl, rfl⟩)
      | (go_at_call 183; refine (dayOf_any _ _ (by omega) (by omega)).mono ?_; rintro e w1 ⟨rfl, hb1⟩; unfold dayV))
    have hsz := hb1.size
    have hbw : Below w.heap.size w (w1.alloc (.cells #[.int .i64 (Cal.ofY (n / 86400)), .int .i64 (Cal.ofM (n / 86400)), .int .i64 (Cal.ofD (n / 86400)), .int .i64 (n / 86400), .int .i64 ((n / 86400 + 3) % 7)] 236)) := hb1.alloc hb1.size _
    have c0 : (w1.alloc (.cells #[.int .i64 (Cal.ofY (n / 86400)), .int .i64 (Cal.ofM (n / 86400)), .int .i64 (Cal.ofD (n / 86400)), .int .i64 (n / 86400), .int .i64 ((n / 86400 + 3) % 7)] 236)).cell? ⟨w1.heap.size, 0, none⟩ = some (.int .i64 (Cal.ofY (n / 86400))) := by simp [go_sem]
    have c1 : (w1.alloc (.cells #[.int .i64 (Cal.ofY (n / 86400)), .int .i64 (Cal.ofM (n / 86400)), .int .i64 (Cal.ofD (n / 86400)), .int .i64 (n / 86400), .int .i64 ((n / 86400 + 3) % 7)] 236)).cell? ⟨w1.heap.size, 1, none⟩ = some (.int .i64 (Cal.ofM (n / 86400))) := by simp [go_sem]
    have c2 : (w1.alloc (.cells #[.int .i64 (Cal.ofY (n / 86400)), .int .i64 (Cal.ofM (n / 86400)), .int .i64 (Cal.ofD (n / 86400)), .int .i64 (n / 86400), .int .i64 ((n / 86400 + 3) % 7)] 236)).cell? ⟨w1.heap.size, 2, none⟩ = some (.int .i64 (Cal.ofD (n / 86400))) := by simp [go_sem]
    generalize (w1.alloc (.cells #[.int .i64 (Cal.ofY (n / 86400)), .int .i64 (Cal.ofM (n / 86400)), .int .i64 (Cal.ofD (n / 86400)), .int .i64 (n / 86400), .int .i64 ((n / 86400 + 3) % 7)] 236)) = W at *
    have k0 := cell_regrown c0
    have k1 := cell_regrown c1
    have k2 := cell_regrown c2
    clear c0 c1 c2 hb1 hsz
    have hl := pad_length
    refine wp_region_quiet_below (by kernel_rfl) (by kernel_rfl) ?_
    repeat (go_big_quiet_step (first | exact padded_in W _ _ _ _ (by omega) (by omega) (by omega) (by omega)))
    refine wpQuiet_nil ?_
    intro _ hw'
    obtain ⟨⟨dq, osq⟩, hw''⟩ := hw'
    subst hw''
    go_wp2
    go_ret2
    refine ⟨?_, hbw.trans ((below_regrown W dq osq).mono hbw.size)⟩
    exact congrArg (fun s => Ending.returned (.tuple #[.string s, .int .i64 0])) (printL_eq n)
end Go.Proofs.YthpndgcaoeokeaaGreatDoor
