/- The days that EXDATE takes out (the program's). The days of an event's rule, or the start's alone (the program's). A drawn region within a fence, by the operations that are done. Of no program. The times of an event's rule without EXDATE's (the program's), as an iterator. The program's own: the text of lines (words.Text), of a time and of times (events.timeText, timesText). The document's reading of an event as functions on bytes (fallowref.fields, Read). The program's own: the text of an event ((events.Event).Text). Written by gen41.py. -/
import Derived.Test.YthpndgcaoeokeaaGreatDoorCm20
import Derived.Shelf.RegionOpen
import Derived.OrdersIn
import Derived.RangeFuncCalls
import Derived.Lib.Builder
import Derived.Lib.AppendStr
import Derived.Lib.UnsafeStr
import Derived.Laws.Externs
namespace Go.Proofs.YthpndgcaoeokeaaGreatDoor
open Go.RowKit Go.Sort
attribute [local go_sem] Oper.semAt_some
attribute [local go_sem] wide_fn wide_depth
attribute [local simp] wide_fn wide_depth

/-- an event's cells -/
def evL (u : ByteArray) (st ln : Int) (hr : Bool) (r : RuleD) (m md wk pl : Value) (tx : ByteArray) (exv xtv : Value) (tr : Bool) (k : Int) : List Value :=
  [.string u, .int .i64 st, .int .i64 ln, .bool hr, .int .i64 r.fq, .int .i64 r.iv, .int .i64 r.ct, .int .i64 r.un, m, md, wk, pl, .int .i64 r.ws, .string tx, exv, xtv, .bool tr, .int .i64 k]
theorem IntsW.keep {w w' : World} {v : Value} {zs : List Int} (h : IntsW w v zs) (hk : ∀ k, v.ownBlock = some k → w'.heap[k]? = w.heap[k]?) : IntsW w' v zs :=
  h.imp id fun ⟨g, cap, rest, h1, h2⟩ => ⟨g, cap, rest, h1, (hk g (by rw [h1]; rfl)).trans h2⟩
theorem IntsW.blk {w : World} {v : Value} {zs : List Int} (h : IntsW w v zs) {k : Nat} (e : v.ownBlock = some k) : k < w.heap.size := by
  rcases h with ⟨rfl, _⟩ | ⟨g, cap, rest, rfl, h2⟩
  · cases e
  · cases e; exact h2.lt
theorem IntsW.sl {w : World} {v : Value} {zs : List Int} (h : IntsW w v zs) : ∃ a c, v = .slice a zs.length c := by
  rcases h with ⟨rfl, rfl⟩ | ⟨g, cap, rest, rfl, _⟩ <;> exact ⟨_, _, rfl⟩
theorem IntsW.cell {w : World} {a : Option Addr} {n c i : Nat} {zs : List Int} {z : Int} (h : IntsW w (.slice a n c) zs) (hz : zs[i]? = some z) : ∃ g, a = some ⟨g, 0, none⟩ ∧ w.cell? ⟨g, i, none⟩ = some (.int .i64 z) := by
  rcases h with ⟨_, rfl⟩ | ⟨g, cap, rest, e, hr⟩
  · simp at hz
  · cases e
    refine ⟨g, rfl, hr.cell ?_⟩
    have hi := (List.getElem?_eq_some_iff.1 hz).1
    rw [List.getElem?_map, List.getElem?_append_left hi, hz]; rfl

set_option maxRecDepth 100000 in
set_option maxHeartbeats 8000000 in
theorem daysOut_n (u : ByteArray) (st ln : Int) (hr : Bool) (r : RuleD) (m md wk pl : Value) (tx : ByteArray) (exv xtv : Value) (ex : List Int) (tr : Bool) (k : Int) (w : World) (hm : ∃ a n c, m = .slice a n c) (hmd : ∃ a n c, md = .slice a n c) (hwk : ∃ a n c, wk = .slice a n c) (hpl : ∃ a n c, pl = .slice a n c) (hxt : ∃ a n c, xtv = .slice a n c)
    (hex : IntsW w exv ex) (hle : ex.length ≤ 1000) (hb : ∀ t ∈ ex, 0 ≤ t ∧ t ≤ 7258118400) (s0 : 0 ≤ st) :
    Calls Tryz.prog 216 #[.agg (evL u st ln hr r m md wk pl tx exv xtv tr k).toArray] w fun e w' => ∃ b n ds, e = .returned (.map (some b)) ∧ w.heap.size ≤ b ∧ OutM w' b n ds ∧ (∀ d, d ∈ ds ↔ ∃ t ∈ ex, t % 86400 = st % 86400 ∧ t / 86400 = d) ∧ Below w.heap.size w w' := by
  obtain ⟨a1, n1, c1, rfl⟩ := hm
  obtain ⟨a2, n2, c2, rfl⟩ := hmd
  obtain ⟨a3, n3, c3, rfl⟩ := hwk
  obtain ⟨a4, n4, c4, rfl⟩ := hpl
  obtain ⟨a6, n6, c6, rfl⟩ := hxt
  obtain ⟨a5, c5, rfl⟩ := hex.sl
  have hmx : Tryz.prog.follows .mixedOrders = true := by kernel_rfl
  have hexk : Hid (∀ wr, Below w.heap.size w wr → IntsW wr (.slice a5 ex.length c5) ex) := hide fun wr hbb => hex.keep fun k e => hbb.block k (hex.blk e)
  have hbx := hide hb
  clear hex hb
  unfold evL
  generalize r.fq = fq
  generalize r.iv = iv
  generalize r.ct = ct
  generalize r.un = un
  generalize r.ws = ws
  have r1 := RowAt.new w [.string u, .int .i64 st, .int .i64 ln, .bool hr, .int .i64 fq, .int .i64 iv, .int .i64 ct, .int .i64 un, .slice a1 n1 c1, .slice a2 n2 c2, .slice a3 n3 c3, .slice a4 n4 c4, .int .i64 ws, .string tx, .slice a5 ex.length c5, .slice a6 n6 c6, .bool tr, .int .i64 k] 79
  have hbw : Below w.heap.size w (w.alloc (.cells #[.string u, .int .i64 st, .int .i64 ln, .bool hr, .int .i64 fq, .int .i64 iv, .int .i64 ct, .int .i64 un, .slice a1 n1 c1, .slice a2 n2 c2, .slice a3 n3 c3, .slice a4 n4 c4, .int .i64 ws, .string tx, .slice a5 ex.length c5, .slice a6 n6 c6, .bool tr, .int .i64 k] 79)) := (Below.refl _ _).alloc (Nat.le_refl _) _
  refine (callsIn_wide (n := 0)).1 ?_
  refine callsIn_of_wp Tryz.func216 rfl trivial ?_ rfl
  simp only [Tryz.ntmps216, List.size_toArray, List.length_cons, List.length_nil, Nat.reduceAdd, Nat.reduceSub, Array.replicate_succ, Array.replicate_zero, List.push_toArray, List.append_toArray, List.nil_append, List.cons_append]
  have hwlt : w.heap.size < (w.alloc (.cells #[.string u, .int .i64 st, .int .i64 ln, .bool hr, .int .i64 fq, .int .i64 iv, .int .i64 ct, .int .i64 un, .slice a1 n1 c1, .slice a2 n2 c2, .slice a3 n3 c3, .slice a4 n4 c4, .int .i64 ws, .string tx, .slice a5 ex.length c5, .slice a6 n6 c6, .bool tr, .int .i64 k] 79)).heap.size := by simp
  gi_upto_region 1 with fail
  have eW : w.alloc (.cells [.string u, .int .i64 st, .int .i64 ln, .bool hr, .int .i64 fq, .int .i64 iv, .int .i64 ct, .int .i64 un, .slice a1 n1 c1, .slice a2 n2 c2, .slice a3 n3 c3, .slice a4 n4 c4, .int .i64 ws, .string tx, .slice a5 ex.length c5, .slice a6 n6 c6, .bool tr, .int .i64 k].toArray 79) = w.alloc (.cells #[.string u, .int .i64 st, .int .i64 ln, .bool hr, .int .i64 fq, .int .i64 iv, .int .i64 ct, .int .i64 un, .slice a1 n1 c1, .slice a2 n2 c2, .slice a3 n3 c3, .slice a4 n4 c4, .int .i64 ws, .string tx, .slice a5 ex.length c5, .slice a6 n6 c6, .bool tr, .int .i64 k] 79) := rfl
  rw [eW] at r1
  clear eW
  generalize w.alloc (.cells #[.string u, .int .i64 st, .int .i64 ln, .bool hr, .int .i64 fq, .int .i64 iv, .int .i64 ct, .int .i64 un, .slice a1 n1 c1, .slice a2 n2 c2, .slice a3 n3 c3, .slice a4 n4 c4, .int .i64 ws, .string tx, .slice a5 ex.length c5, .slice a6 n6 c6, .bool tr, .int .i64 k] 79) = W at *
  have om := OutM.made W
  have hbm : Below W.heap.size W (W.alloc (.map #[] 0)) := (Below.refl _ _).alloc (Nat.le_refl _) _
  have hmk := run_makeMap (P := Tryz.prog) 264 W
  gi_upto_region 2 with fail
  replace r1 := r1.on hbm
  replace hbw := hbw.trans (hbm.mono hbw.size)
  have hbW : w.heap.size < W.heap.size := hwlt
  generalize W.alloc (.map #[] 0) = W1 at *
  generalize W.heap.size = b at *
  have g14 := r1.cell (k := 14) rfl
  gi_wp2_with fail
  clear g14 hwlt hmk
  gi_loopg [10] ex.length (fun q cv wr => ∃ (i n : Nat) (ds : List Int), i + q = ex.length ∧ cv = .int .i64 i ∧ n ≤ 2 * i ∧ ds.length ≤ i ∧ OutM wr b n ds ∧ Below w.heap.size w wr ∧ RowAt wr w.heap.size [.string u, .int .i64 st, .int .i64 ln, .bool hr, .int .i64 fq, .int .i64 iv, .int .i64 ct, .int .i64 un, .slice a1 n1 c1, .slice a2 n2 c2, .slice a3 n3 c3, .slice a4 n4 c4, .int .i64 ws, .string tx, .slice a5 ex.length c5, .slice a6 n6 c6, .bool tr, .int .i64 k] 79 ∧ Hid (∀ d, d ∈ ds ↔ ∃ t ∈ ex.take i, t % 86400 = st % 86400 ∧ t / 86400 = d))
  case atStart => exact ⟨0, 0, [], by omega, rfl, by omega, Nat.le_refl _, om, hbw, r1, hide (by simp)⟩
  case round =>
    clear om hbw r1
    obtain ⟨i, n, ds, hiq, rfl, hn, hdl, om, hbw, r1, HD⟩ := hrel
    have hsr := hbw.size
    by_cases hi : i = ex.length
    case pos =>
      have HE := hide (show ∀ d, d ∈ ds ↔ ∃ t ∈ ex, t % 86400 = st % 86400 ∧ t / 86400 = d from fun d => by rw [HD.out d, hi, List.take_length])
      clear HD
      subst hi
      gi_wp2_with fail
      go_ret
      exact ⟨b, n, ds, rfl, by omega, om, HE.out, hbw⟩
    case neg =>
      have hilt : i < ex.length := by omega
      obtain ⟨t, ht⟩ : ∃ t, ex[i]? = some t := ⟨_, List.getElem?_eq_getElem hilt⟩
      obtain ⟨ht0, ht1⟩ := hbx.out t (List.mem_of_getElem? ht)
      obtain ⟨gx, hax, hcx⟩ := (hexk.out wr hbw).cell ht
      have htk := hide (show ∀ t', t' ∈ ex.take (i + 1) ↔ t' ∈ ex.take i ∨ t' = t from fun t' => by
        rw [List.take_add_one, ht]; simp)
      subst hax
      have g1 := r1.cell (k := 1) rfl
      have hmt : t.tmod 86400 = t % 86400 := Int.tmod_eq_emod_of_nonneg ht0
      have hms : st.tmod 86400 = st % 86400 := Int.tmod_eq_emod_of_nonneg s0
      clear ht
      by_cases heq : t % 86400 = st % 86400
      case neg =>
        have heq' : (t % 86400 == st % 86400) = false := by simpa using heq
        have HE := hide (show ∀ d, d ∈ ds ↔ ∃ t ∈ ex.take (i + 1), t % 86400 = st % 86400 ∧ t / 86400 = d from fun d => by
          rw [HD.out d]
          constructor
          · rintro ⟨t', h1, h2⟩; exact ⟨t', (htk.out t').2 (.inl h1), h2⟩
          · rintro ⟨t', h1, h2, h3⟩
            rcases (htk.out t').1 h1 with h | rfl
            · exact ⟨t', h, h2, h3⟩
            · exact absurd h2 heq)
        clear HD htk
        gi_wp2_with fail
        gi_roundg (gk - 1)
        case measure => omega
        case rel => exact ⟨i + 1, n, ds, by omega, by go_num, by omega, by omega, om, hbw, r1, HE⟩
      case pos =>
        have HE := hide (show ∀ d, d ∈ t / 86400 :: ds ↔ ∃ t ∈ ex.take (i + 1), t % 86400 = st % 86400 ∧ t / 86400 = d from fun d => by
          rw [List.mem_cons, HD.out d]
          constructor
          · rintro (rfl | ⟨t', h1, h2⟩)
            · exact ⟨t, (htk.out t).2 (.inr rfl), heq, rfl⟩
            · exact ⟨t', (htk.out t').2 (.inl h1), h2⟩
          · rintro ⟨t', h1, h2, h3⟩
            rcases (htk.out t').1 h1 with h | rfl
            · exact .inr ⟨t', h, h2, h3⟩
            · exact .inl h3.symm)
        have heq' : (t % 86400 == st % 86400) = true := by simpa using heq
        clear HD htk
        have hcnt : ds.count (t / 86400) ≤ 1000 := Nat.le_trans List.count_le_length (by omega)
        gi_upto_region 6 with fail
        gi_region_with_o (gi_at_call 66; refine (callsIn_wide.2 (ofTime_n t _ ht0 ht1)).mono ?_; rintro e w2 ⟨rfl, hb2⟩; have hb2' : Below wr.heap.size wr w2 := ⟨hb2.os, hb2.tape, hb2.output, hb2.size, hb2.block⟩; have om2 := om.keep (hb2'.block b om.lt); have hlk := om2.look (t / 86400) (by omega) (by omega); obtain ⟨v0, sp, W3, hme, om3, hx3, hes⟩ := om2.entry (by omega) (t / 86400) (by omega) (by omega); have hlk3 := om3.look (t / 86400) (by omega) (by omega); obtain ⟨W4, hst4, om4, hx4⟩ := hes ((ds.count (t / 86400) : Int) + 1) (by omega) (by omega) rfl; have hwr : IntKind.i64.wrap ((ds.count (t / 86400) : Int) + 1) = (ds.count (t / 86400) : Int) + 1 := wrap_ok (by omega) (by omega))
        all_goals
          clear hlk hme hlk3 hst4 hwr hes
          have hs2 := hb2'.size
          have hb4 := hbw.trans ((hb2'.mono hsr).trans (hx4.below (B := w.heap.size) (by omega) (fun k hk => by omega)))
          have r4 := (r1.on hb2').exc hx4 (show ¬ (w.heap.size = b) by omega)
          gi_wp2_with fail
          gi_roundg (gk - 1)
          case measure => omega
          case rel => exact ⟨i + 1, n + 1, t / 86400 :: ds, by omega, by go_num, by omega, by simp; omega, om4, hb4, r4, HE⟩
end Go.Proofs.YthpndgcaoeokeaaGreatDoor
namespace Go.Proofs.YthpndgcaoeokeaaGreatDoor
open Go.RowKit Go.Sort
attribute [local go_sem] Oper.semAt_some
attribute [local go_sem] wide_fn wide_depth
attribute [local simp] wide_fn wide_depth

def lastOf (un s to : Int) : Int := min (to - 1) un - s % 86400

set_option maxRecDepth 100000 in
set_option maxHeartbeats 4000000 in
theorem days_n (fq iv ct un ws : Int) (m md wk pl : Value) (tx : ByteArray) (s f to : Int) (w : World) (h1 : ∃ a n c, m = .slice a n c) (h2 : ∃ a n c, md = .slice a n c) (h3 : ∃ a n c, wk = .slice a n c) (h4 : ∃ a n c, pl = .slice a n c)
    (s0 : 0 ≤ s) (t0 : 0 ≤ to) (t1 : to ≤ 7258118400) (u0 : 0 ≤ un) (u1 : un ≤ 9223372036854775807) :
    Calls Tryz.prog 280 #[ruleV fq iv ct un m md wk pl ws tx, .int .i64 s, .int .i64 f, .int .i64 to] w fun e w' =>
      e = .returned (.func (.func 313) #[] #[.pointer (some ⟨w.heap.size, 0, none⟩), .pointer (some ⟨w.heap.size + 1, 0, none⟩), .pointer (some ⟨w.heap.size + 2, 0, none⟩), .pointer (some ⟨w.heap.size + 4, 0, none⟩), .pointer (some ⟨w.heap.size + 3, 0, none⟩)]) ∧
      w' = ((((w.alloc (.cells (ruleC fq iv ct un m md wk pl ws tx).toArray 76)).alloc (.cells #[.int .i64 s] 3)).alloc (.cells #[.int .i64 f] 3)).alloc (.cells #[.int .i64 (s % 86400)] 3)).alloc (.cells #[.int .i64 (lastOf un s to)] 3) := by
  obtain ⟨a1, n1, c1, rfl⟩ := h1
  obtain ⟨a2, n2, c2, rfl⟩ := h2
  obtain ⟨a3, n3, c3, rfl⟩ := h3
  obtain ⟨a4, n4, c4, rfl⟩ := h4
  have hm : 0 ≤ s % 86400 ∧ s % 86400 < 86400 := by omega
  have hms : s.tmod 86400 = s % 86400 := Int.tmod_eq_emod_of_nonneg s0
  unfold ruleV ruleC lastOf
  go_enter Tryz.func280, Tryz.ntmps280
  go_wp2_with fail
  go_ret
  exact ⟨rfl, rfl⟩

set_option maxRecDepth 100000 in
set_option maxHeartbeats 4000000 in
theorem oneDay_it (u : ByteArray) (st ln : Int) (hr : Bool) (r : RuleD) (m md wk pl : Value) (tx : ByteArray) (exv xtv : Value) (tr : Bool) (k : Int) (f to : Int) (bf be bt : Nat) (w : World) (s0 : 0 ≤ st) (s1 : st ≤ 7258118400)
    (q1 : RowAt w bf [.int .i64 f] 3) (q2 : RowAt w be (evL u st ln hr r m md wk pl tx exv xtv tr k) 79) (q3 : RowAt w bt [.int .i64 to] 3) :
    ItL Tryz.prog 281 #[.pointer (some ⟨bf, 0, none⟩), .pointer (some ⟨be, 0, none⟩), .pointer (some ⟨bt, 0, none⟩)] (dayL (if f ≤ st ∧ st < to then [st / 86400] else [])) (fun k => k = bf ∨ k = be ∨ k = bt) w := by
  intro l W O J Js Jp hsz hR hO h0J hY
  replace q1 := q1.keep (hR bf (.inl rfl))
  replace q2 := q2.keep (hR be (.inr (.inl rfl)))
  replace q3 := q3.keep (hR bt (.inr (.inr rfl)))
  have g1 := q1.cell (k := 0) rfl
  have g2 : W.cell? ⟨be, 1, none⟩ = some (.int .i64 st) := q2.cell (k := 1) rfl
  have g3 := q3.cell (k := 0) rfl
  have st0 : St O W (J 0) O W := ⟨Exc.refl _ _, fun _ h => .inl h, fun _ h => h, h0J⟩
  clear hR hO q1 q2 q3
  refine callsIn_of_wp Tryz.func281 rfl trivial ?_ rfl
  simp only [Tryz.ntmps281, List.size_toArray, List.length_cons, List.length_nil, Nat.reduceAdd, Nat.reduceSub, Array.replicate_succ, Array.replicate_zero, List.push_toArray, List.append_toArray, List.nil_append, List.cons_append]
  by_cases h1 : f ≤ st
  case neg =>
    rw [if_neg (fun h => h1 h.1)] at hY ⊢
    have h1' : st < f := by omega
    clear hY
    gi_wp2_with fail
    go_end0
    exact .inl ⟨⟨_, rfl⟩, .inl st0.fin⟩
  case pos =>
    by_cases h2 : st < to
    case neg =>
      rw [if_neg (fun h => h2 h.2)] at hY ⊢
      have h2' : to ≤ st := by omega
      clear hY
      gi_wp2_with fail
      go_end0
      exact .inl ⟨⟨_, rfl⟩, .inl st0.fin⟩
    case pos =>
      rw [if_pos ⟨h1, h2⟩] at hY ⊢
      gi_wp2_with fail
      refine ((callsIn_wide.2 (ofTime_n st _ s0 s1)).mono ?_)
      rintro e W1 ⟨rfl, hb1⟩
      have st1 := st0.below hb1
      obtain ⟨f1, t1, a1, b1, hy1, hR1⟩ := hY 0 #[dnV (st / 86400)] rfl W1 O st1.exc st1.dO st1.Od st1.on
      clear g1 g2 g3 hY
      gi_wp2_with fail
      refine hR1.mono ?_
      clear hy1 hR1
      rintro e W2 (⟨rfl, hp⟩ | ⟨rfl, hp⟩ | ⟨c, rfl, hp⟩)
      case inl =>
        obtain ⟨D1, st2, _, _⟩ := st1.post hp
        gi_wp2_with fail
        go_end0
        exact .inl ⟨⟨_, rfl⟩, .inl st2.fin⟩
      case inr.inl =>
        obtain ⟨D1, st2, _, _⟩ := st1.post hp
        gi_wp2_with fail
        go_end0
        exact .inl ⟨⟨_, rfl⟩, .inr st2.fin⟩
      case inr.inr =>
        obtain ⟨D1, st2, _, _⟩ := st1.post hp
        gi_wp2_with fail
        exact ⟨rfl, .inr ⟨c, rfl, st2.fin⟩⟩

/-- the days of the rule, or the start's -/
def rdL (hr : Bool) (r : RuleD) (st f to : Int) : List Int := if hr then dysL r st f (lastOf r.un st to) else if f ≤ st ∧ st < to then [st / 86400] else []
/-- a call gives an iterator over xs that reads blocks of E and new ones alone -/
def GivesIt (xs : List (Array Value)) (E : Blocks) (w : World) : Ending → World → Prop := fun e w' =>
  ∃ g lb R, e = .returned (.func (.func g) #[] lb) ∧ ItL Tryz.prog g lb xs R w' ∧ (∀ k, R k → k < w'.heap.size ∧ (E k ∨ w.heap.size ≤ k)) ∧ (∀ args w, (callFunc g args).run Tryz.prog w = .ok (.enter g args) w) ∧ Below w.heap.size w w'

set_option maxRecDepth 100000 in
set_option maxHeartbeats 4000000 in
theorem ruleDays_n (u : ByteArray) (st ln : Int) (hr : Bool) (r : RuleD) (m md wk pl : Value) (tx : ByteArray) (exv xtv : Value) (tr : Bool) (k : Int) (f to : Int) (w : World) (hl : RuleL w r m md wk pl) (ho : hr = true → RuleOk r) (hx1 : ∃ a n c, exv = .slice a n c) (hx2 : ∃ a n c, xtv = .slice a n c)
    (s0 : 0 ≤ st) (s1 : st ≤ 7258118400) (f0 : -1000000000000 ≤ f) (f1 : f ≤ 7258118400) (t0 : 0 ≤ to) (t1 : to ≤ 7258118400) :
    Calls Tryz.prog 217 #[.agg (evL u st ln hr r m md wk pl tx exv xtv tr k).toArray, .int .i64 f, .int .i64 to] w (GivesIt (dayL (rdL hr r st f to)) (LB m md wk pl) w) := by
  have eg1 : ∀ args w, (callFunc 281 args).run Tryz.prog w = .ok (.enter 281 args) w := enters_of Tryz.func281 (by kernel_rfl) rfl
  have eg2 : ∀ args w, (callFunc 313 args).run Tryz.prog w = .ok (.enter 313 args) w := enters_of Tryz.func313 (by kernel_rfl) rfl
  replace eg1 := hide eg1
  replace eg2 := hide eg2
  have q0 := row3_0 w (evL u st ln hr r m md wk pl tx exv xtv tr k) 79 (.cells #[.int .i64 f] 3) (.cells #[.int .i64 to] 3)
  have q1 := row3_1 w (.cells (evL u st ln hr r m md wk pl tx exv xtv tr k).toArray 79) [.int .i64 f] 3 (.cells #[.int .i64 to] 3)
  have q2 := row3_2 w (.cells (evL u st ln hr r m md wk pl tx exv xtv tr k).toArray 79) (.cells #[.int .i64 f] 3) [.int .i64 to] 3
  have hbw := bl_three w (.cells (evL u st ln hr r m md wk pl tx exv xtv tr k).toArray 79) (.cells #[.int .i64 f] 3) (.cells #[.int .i64 to] 3)
  have hsz : (((w.alloc (.cells (evL u st ln hr r m md wk pl tx exv xtv tr k).toArray 79)).alloc (.cells #[.int .i64 f] 3)).alloc (.cells #[.int .i64 to] 3)).heap.size = w.heap.size + 3 := by simp
  obtain ⟨a1, e1⟩ := hl.ms.form
  obtain ⟨a2, e2⟩ := hl.mds.form
  obtain ⟨a3, e3⟩ := hl.wks.form
  obtain ⟨a4, e4⟩ := hl.pls.form
  obtain ⟨a5, n5, c5, rfl⟩ := hx1
  obtain ⟨a6, n6, c6, rfl⟩ := hx2
  have fm : ∃ a n c, m = .slice a n c := ⟨_, _, _, e1⟩
  have fmd : ∃ a n c, md = .slice a n c := ⟨_, _, _, e2⟩
  have fwk : ∃ a n c, wk = .slice a n c := ⟨_, _, _, e3⟩
  have fpl : ∃ a n c, pl = .slice a n c := ⟨_, _, _, e4⟩
  clear e1 e2 e3 e4
  cases hr
  case false =>
    have hit := hide (fun (W : World) (p0 : RowAt W w.heap.size (evL u st ln false r m md wk pl tx (.slice a5 n5 c5) (.slice a6 n6 c6) tr k) 79) (p1 : RowAt W (w.heap.size + 1) [.int .i64 f] 3) (p2 : RowAt W (w.heap.size + 1 + 1) [.int .i64 to] 3) => oneDay_it u st ln false r m md wk pl tx (.slice a5 n5 c5) (.slice a6 n6 c6) tr k f to (w.heap.size + 1) w.heap.size (w.heap.size + 1 + 1) W s0 s1 p1 p0 p2)
    clear hl ho
    obtain ⟨a1, n1, c1, rfl⟩ := fm
    obtain ⟨a2, n2, c2, rfl⟩ := fmd
    obtain ⟨a3, n3, c3, rfl⟩ := fwk
    obtain ⟨a4, n4, c4, rfl⟩ := fpl
    unfold evL at *
    go_enter Tryz.func217, Tryz.ntmps217
    go_wp2_with fail
    go_ret
    exact ⟨_, _, _, rfl, hit.out _ q0 q1 q2, fun k hk => by
      refine ⟨?_, .inr ?_⟩
      · have := hsz; rcases hk with rfl | rfl | rfl <;> omega
      · rcases hk with rfl | rfl | rfl <;> omega, eg1.out, hbw⟩
  case true =>
    replace ho := ho rfl
    have hD := hide (fun W => days_n r.fq r.iv r.ct r.un r.ws m md wk pl tx st f to W fm fmd fwk fpl s0 t0 t1 ho.un0 ho.un9)
    have hun0 := ho.un0
    have hit := hide (fun (W W' : World) (hb : Below w.heap.size w W) (hW : W' = ((((W.alloc (.cells (ruleC r.fq r.iv r.ct r.un m md wk pl r.ws tx).toArray 76)).alloc (.cells #[.int .i64 st] 3)).alloc (.cells #[.int .i64 f] 3)).alloc (.cells #[.int .i64 (st % 86400)] 3)).alloc (.cells #[.int .i64 (lastOf r.un st to)] 3)) => show ItL Tryz.prog 313 #[.pointer (some ⟨W.heap.size, 0, none⟩), .pointer (some ⟨W.heap.size + 1, 0, none⟩), .pointer (some ⟨W.heap.size + 2, 0, none⟩), .pointer (some ⟨W.heap.size + 4, 0, none⟩), .pointer (some ⟨W.heap.size + 3, 0, none⟩)] (dayL (rdL true r st f to)) (fun k => k = W.heap.size ∨ k = W.heap.size + 1 ∨ k = W.heap.size + 2 ∨ k = W.heap.size + 4 ∨ k = W.heap.size + 3 ∨ LB m md wk pl k) W' ∧ Below W.heap.size W W' ∧ W'.heap.size = W.heap.size + 5 from by
      subst hW
      obtain ⟨x0, x1, x2, x3, xb⟩ := row4 W (ruleC r.fq r.iv r.ct r.un m md wk pl r.ws tx) 76 (.int .i64 st) (.int .i64 f) (.int .i64 (st % 86400)) 3 3 3
      have x4 := RowAt.new ((((W.alloc (.cells (ruleC r.fq r.iv r.ct r.un m md wk pl r.ws tx).toArray 76)).alloc (.cells #[.int .i64 st] 3)).alloc (.cells #[.int .i64 f] 3)).alloc (.cells #[.int .i64 (st % 86400)] 3)) [.int .i64 (lastOf r.un st to)] 3
      have b5 := (Below.refl _ ((((W.alloc (.cells (ruleC r.fq r.iv r.ct r.un m md wk pl r.ws tx).toArray 76)).alloc (.cells #[.int .i64 st] 3)).alloc (.cells #[.int .i64 f] 3)).alloc (.cells #[.int .i64 (st % 86400)] 3))).alloc (Nat.le_refl _) (.cells #[.int .i64 (lastOf r.un st to)] 3)
      simp only [World.size_alloc] at x4
      have hb' := xb.trans (b5.mono xb.size)
      refine ⟨?_, hb', by simp⟩
      unfold rdL
      rw [if_pos rfl]
      exact days_it r m md wk pl tx st f (lastOf r.un st to) W.heap.size (W.heap.size + 1) (W.heap.size + 2) (W.heap.size + 4) (W.heap.size + 3) _ ((hl.on hb).on hb') ho s0 s1 f0 f1 (by unfold lastOf; omega) (by unfold lastOf; omega) (x0.on b5) (x1.on b5) (x2.on b5) x4 (x3.on b5))
    have hblk := hide (fun (k : Nat) (h : LB m md wk pl k) => hl.blk h)
    clear hl ho
    obtain ⟨a1, n1, c1, rfl⟩ := fm
    obtain ⟨a2, n2, c2, rfl⟩ := fmd
    obtain ⟨a3, n3, c3, rfl⟩ := fwk
    obtain ⟨a4, n4, c4, rfl⟩ := fpl
    unfold evL at *
    unfold ruleV at hD
    replace hsz := hide hsz
    go_enter Tryz.func217, Tryz.ntmps217
    go_upto_region 1 with fail
    have eW : ((w.alloc (.cells [.string u, .int .i64 st, .int .i64 ln, .bool true, .int .i64 r.fq, .int .i64 r.iv, .int .i64 r.ct, .int .i64 r.un, .slice a1 n1 c1, .slice a2 n2 c2, .slice a3 n3 c3, .slice a4 n4 c4, .int .i64 r.ws, .string tx, .slice a5 n5 c5, .slice a6 n6 c6, .bool tr, .int .i64 k].toArray 79)).alloc (.cells #[.int .i64 f] 3)).alloc (.cells #[.int .i64 to] 3) = ((w.alloc (.cells #[.string u, .int .i64 st, .int .i64 ln, .bool true, .int .i64 r.fq, .int .i64 r.iv, .int .i64 r.ct, .int .i64 r.un, .slice a1 n1 c1, .slice a2 n2 c2, .slice a3 n3 c3, .slice a4 n4 c4, .int .i64 r.ws, .string tx, .slice a5 n5 c5, .slice a6 n6 c6, .bool tr, .int .i64 k] 79)).alloc (.cells #[.int .i64 f] 3)).alloc (.cells #[.int .i64 to] 3) := rfl
    try rw [eW] at q0 q1 q2 hbw hsz
    clear eW
    generalize ((w.alloc (.cells #[.string u, .int .i64 st, .int .i64 ln, .bool true, .int .i64 r.fq, .int .i64 r.iv, .int .i64 r.ct, .int .i64 r.un, .slice a1 n1 c1, .slice a2 n2 c2, .slice a3 n3 c3, .slice a4 n4 c4, .int .i64 r.ws, .string tx, .slice a5 n5 c5, .slice a6 n6 c6, .bool tr, .int .i64 k] 79)).alloc (.cells #[.int .i64 f] 3)).alloc (.cells #[.int .i64 to] 3) = W at *
    have g1 := q0.cell (k := 1) rfl
    have g3 := q0.cell (k := 3) rfl
    have g4 := q0.cell (k := 4) rfl
    have g5 := q0.cell (k := 5) rfl
    have g6 := q0.cell (k := 6) rfl
    have g7 := q0.cell (k := 7) rfl
    have g8 := q0.cell (k := 8) rfl
    have g9 := q0.cell (k := 9) rfl
    have g10 := q0.cell (k := 10) rfl
    have g11 := q0.cell (k := 11) rfl
    have g12 := q0.cell (k := 12) rfl
    have g13 := q0.cell (k := 13) rfl
    have p1 := q1.cell (k := 0) rfl
    have p2 := q2.cell (k := 0) rfl
    go_wp2_with fail
    refine (hD.out _).mono ?_
    rintro e W' ⟨rfl, hW'⟩
    obtain ⟨hi1, hi2, hi3⟩ := hit.out _ _ hbw hW'
    clear hW' hit g1 g3 g4 g5 g6 g7 g8 g9 g10 g11 g12 g13 p1 p2
    go_wp2_with fail
    go_ret
    replace hsz := hsz.out
    refine ⟨_, _, _, rfl, hi1, fun k hk => ?_, eg2.out, hbw.trans (hi2.mono hbw.size)⟩
    rcases hk with h | h | h | h | h | h
    · exact ⟨by omega, .inr (by omega)⟩
    · exact ⟨by omega, .inr (by omega)⟩
    · exact ⟨by omega, .inr (by omega)⟩
    · exact ⟨by omega, .inr (by omega)⟩
    · exact ⟨by omega, .inr (by omega)⟩
    · exact ⟨by have := hblk.out k h; omega, .inl h⟩
end Go.Proofs.YthpndgcaoeokeaaGreatDoor
namespace Go.Proofs.YthpndgcaoeokeaaGreatDoor
open Go.RowKit

section
variable {F : Fence} {nF : Nat} {P : Program} {ops : Array Oper} {Q : Exit → Act → World → Prop} {md : Region.Mode}

theorem wpAnyIn_listed (I : (Nat → Bool) → Act → World → Prop) (hf : forward md ops = true)
    (H : ∀ (L : Nat → Bool) i o a w, ops[i]? = some o → L i = false → (∀ e ∈ o.after, Region.binds md e = true → L e.on = true) → (∀ j oj, ops[j]? = some oj → L j = true → ∀ e ∈ oj.after, Region.binds md e = true → L e.on = true) →
      I L a w → wpOpIn F nF P ops Q i (fun a' w' => I (fun k => decide (k = i) || L k) a' w') a w)
    (D : ∀ (L : Nat → Bool) a w, (∀ i, i < ops.size → L i = true) → I L a w → Q .normal a w) :
    ∀ (fuel : Nat) (listed : Array Bool) (a : Act) (w : World), listed.size = ops.size → listed.toList.count false ≤ fuel → I (fun k => listed.getD k false) a w → (∀ i o, ops[i]? = some o → listed.getD i false = true → ∀ e ∈ o.after, Region.binds md e = true → listed.getD e.on false = true) → wpAnyIn F nF P md ops Q fuel listed a w := by
  intro fuel
  induction fuel with
  | zero =>
    intro listed a w hs hc hI hC
    have hall : ∀ i, i < ops.size → listed.getD i false = true := fun i hi => by
      rw [getD_lt _ (by omega)]
      cases hb : listed[i]'(by omega)
      · exfalso
        have : false ∈ listed.toList := by rw [← hb]; exact Array.mem_def.1 (Array.getElem_mem _)
        have := List.count_pos_iff.2 this
        omega
      · rfl
    have hr : Region.ready md ops listed = [] := by
      rw [List.eq_nil_iff_forall_not_mem]
      intro i hi
      obtain ⟨h1, h2, _⟩ := ready_spec hi
      have := hall i h1
      rw [getD_lt _ (by omega)] at this h2
      rw [this] at h2; cases h2
    exact ⟨hr, D _ a w hall hI⟩
  | succ fuel ih =>
    intro listed a w hs hc hI hC
    refine ⟨fun hr => D _ a w (all_listed hf hs hr) hI, fun i hi => ?_⟩
    obtain ⟨h1, h2, o, ho, h3⟩ := ready_spec hi
    have h2' : listed.getD i false = false := by rw [getD_lt _ (by omega)] at h2 ⊢; exact h2
    refine wpOpIn_mono (fun a' w' q => ?_) (H (fun k => listed.getD k false) i o a w ho h2' h3 hC hI)
    have hL : (fun k => (listed.setIfInBounds i true).getD k false) = fun k => decide (k = i) || listed.getD k false := by
      funext k
      by_cases hki : k = i
      · subst hki; rw [getD_lt _ (by simp; omega)]; simp
      · by_cases hks : k < listed.size
        · rw [getD_lt _ (by simpa using hks), Array.getElem_setIfInBounds_ne (by simpa using hks) (fun e => hki e.symm), getD_lt _ hks]
          simp [hki]
        · simp [Array.getD, hks, hki]
    refine ih (listed.setIfInBounds i true) a' w' (by simp [hs]) ?_ (by rw [hL]; exact q) (fun j oj hoj hl e he hb => ?_)
    · rw [Array.toList_setIfInBounds, List.count_set (by rw [Array.length_toList]; omega)]
      have : listed.toList[i]'(by rw [Array.length_toList]; omega) = false := by
        rw [getD_lt _ (by omega)] at h2
        simpa using h2
      rw [this]
      have hp : 0 < listed.toList.count false := List.count_pos_iff.2 (by rw [← this]; exact List.getElem_mem _)
      show listed.toList.count false - 1 + 0 ≤ fuel
      omega
    · have hLk : ∀ k, (listed.setIfInBounds i true).getD k false = (decide (k = i) || listed.getD k false) := fun k => congrFun hL k
      rw [hLk] at hl ⊢
      by_cases hji : j = i
      · subst hji
        rw [ho] at hoj; cases hoj
        rw [h3 e he hb]; simp
      · simp only [hji, decide_false, Bool.false_or] at hl
        rw [hC j oj hoj hl e he hb]; simp
theorem wpIn_region_listed {id : Nat} {a : Act} {w : World} (I : (Nat → Bool) → Act → World → Prop) (hm : P.follows .mixedOrders = true) (hf : forward .any ops = true)
    (H : ∀ (L : Nat → Bool) i o a w, ops[i]? = some o → L i = false → (∀ e ∈ o.after, Region.binds .any e = true → L e.on = true) → (∀ j oj, ops[j]? = some oj → L j = true → ∀ e ∈ oj.after, Region.binds .any e = true → L e.on = true) →
      I L a w → wpOpIn F nF P ops Q i (fun a' w' => I (fun k => decide (k = i) || L k) a' w') a w)
    (D : ∀ (L : Nat → Bool) a w, (∀ i, i < ops.size → L i = true) → I L a w → Q .normal a w) (hI : I (fun _ => false) a { w with drawn := w.drawn + 1 }) : (Code.region id ops true).wpIn F nF P Q a w :=
  wpIn_region_any hm (wpAnyIn_listed I hf H D ops.size (Array.replicate ops.size false) a _ (by simp) (by rw [Array.toList_replicate, List.count_replicate]; simp) (by
    have e : (fun k => (Array.replicate ops.size false).getD k false) = fun _ => false := by
      funext k
      by_cases hk : k < ops.size
      · rw [getD_lt _ (by simpa using hk)]; simp
      · simp [Array.getD, hk]
    rw [e]; exact hI) (fun i o ho h => by
    rw [getD_lt _ (by simpa using (Array.getElem?_eq_some_iff.1 ho).1)] at h; simp at h))

/-- an operation that is wanted -/
theorem opIn_want {i : Nat} {o : Oper} {a : Act} {w : World} {K : Act → World → Prop} (ho : ops[i]? = some o) (hw : Region.wanted o (yielded ops a.tmps) = true) (h : o.wpIn F nF P a w K Q) : wpOpIn F nF P ops Q i K a w := by
  unfold wpOpIn; rw [ho]; simp only [hw, if_true]; exact h
theorem opIn_plain {i : Nat} {o : Oper} {a : Act} {w : World} {K : Act → World → Prop} (ho : ops[i]? = some o) (hg : o.guard = none) (h : o.wpIn F nF P a w K Q) : wpOpIn F nF P ops Q i K a w :=
  opIn_want ho (by unfold Region.wanted; rw [hg]) h
theorem opIn_skip {i : Nat} {o : Oper} {a : Act} {w : World} {K : Act → World → Prop} (ho : ops[i]? = some o) (hw : Region.wanted o (yielded ops a.tmps) = false) (hF : ∀ f, F.fn f) (h : K (a.put o.dst undef) w) : wpOpIn F nF P ops Q i K a w := by
  unfold wpOpIn; rw [ho]; simp only [hw]; exact ⟨fun f _ => hF f, h⟩
theorem opIn_value {o : Oper} {a : Act} {w w' : World} {K : Act → World → Prop} {v : Value} (hF : ∀ f, F.fn f) (hd : ∀ c, o.op ≠ .defer c) (h : (execOp a.eval o).run P w = .ok (.value v) w') (hK : K (a.put o.dst v) w') : o.wpIn F nF P a w K Q := by
  unfold Oper.wpIn
  refine ⟨fun f _ => hF f, ?_⟩
  rw [Oper.semAt_plain F _ _ hd, h]
  exact hK
theorem opIn_call {l' : Nat} {o : Oper} {a : Act} {w w' : World} {K : Act → World → Prop} {f : FuncId} {args : Array Value} {v : Value} (hd : ∀ c, o.op ≠ .defer c) (h : (execOp a.eval o).run P w = .ok (.enter f args) w') (hc : Calls P f args w' fun e w'' => e = .returned v ∧ Below w'.heap.size w' w'')
    (h1 : ∀ w'', Below w'.heap.size w' w'' → K (a.put o.dst v) w'') : o.wpIn (Fence.wide.inRound l') 0 P a w K Q := by
  unfold Oper.wpIn
  refine ⟨fun f _ => trivial, ?_⟩
  rw [Oper.semAt_plain _ _ _ hd, h]
  refine ⟨fun h => (by simp [Fence.wide] at h), (CallsIn.inRound l' (callsIn_wide.2 hc)).mono ?_⟩
  rintro e w'' ⟨rfl, hb⟩
  exact h1 w'' hb
theorem opIn_yield {l' l : Nat} {o : Oper} {a : Act} {w w' : World} {K : Act → World → Prop} {f : FuncId} {t : Array Value} {cA cB : Code} {R : Ending → World → Prop} (hd : ∀ c, o.op ≠ .defer c) (h : (execOp a.eval o).run P w = .ok (.round l f t cA cB) w') (hR : RoundIn Fence.wide 0 P l f t cA cB w' R)
    (h1 : ∀ v w'', R (.returned v) w'' → K (a.put o.dst v) w'') (h2 : ∀ c w'', R (.panicked c) w'' → Q (.panic c) a w'') (h3 : ∀ w'', ¬ R .outgrown w'') : o.wpIn (Fence.wide.inRound l') 0 P a w K Q := by
  unfold Oper.wpIn
  refine ⟨fun f _ => trivial, ?_⟩
  rw [Oper.semAt_plain _ _ _ hd, h]
  have hR' : RoundIn (Fence.wide.inRound l') 0 P l f t cA cB w' R := hR
  refine ⟨fun h => (by simp [Fence.wide] at h), hR'.mono ?_⟩
  intro e w'' he
  cases e with
  | returned v => exact h1 v w'' he
  | panicked c => exact h2 c w'' he
  | outgrown => exact absurd he (h3 w'')
end

/-- a region with one yield: the operations ahead of it (they only grow the memory), it, and those behind it -/
structure YI (s0 y n0 : Nat) (fix : List (Nat × Value)) (W : World) (N : Nat → Value → Prop) (T Fa : World → Prop) (Bz : Bool → Nat → Value → Prop) (L : Nat → Bool) (a : Act) (w : World) : Prop where
  size : a.tmps.size = n0
  defers : a.defers = []
  fixed : ∀ p ∈ fix, a.eval (.tmp p.1) = p.2
  pre : L y = false → Below W.heap.size W w ∧ ∀ j, y < j → L j = false
  vals : ∀ j, j < y → L j = true → N j (a.eval (.tmp (s0 + j)))
  post : L y = true → (∀ j, j < y → L j = true) ∧ ∃ b : Bool, a.eval (.tmp (s0 + y)) = .bool b ∧ (b = true → T w) ∧ (b = false → Fa w) ∧ ∀ j, y < j → L j = true → Bz b j (a.eval (.tmp (s0 + j)))

section
variable {s0 y n0 : Nat} {fix : List (Nat × Value)} {W : World} {N : Nat → Value → Prop} {T Fa : World → Prop} {Bz : Bool → Nat → Value → Prop} {L : Nat → Bool} {a : Act} {w : World}
theorem YI.start (h1 : a.tmps.size = n0) (h2 : a.defers = []) (h3 : ∀ p ∈ fix, a.eval (.tmp p.1) = p.2) (h4 : Below W.heap.size W w) : YI s0 y n0 fix W N T Fa Bz (fun _ => false) a w :=
  ⟨h1, h2, h3, fun _ => ⟨h4, fun _ _ => rfl⟩, fun _ _ h => (by cases h), fun h => (by cases h)⟩
theorem YI.below (h : YI s0 y n0 fix W N T Fa Bz L a w) {j : Nat} (hj : j < y) (hL : L j = false) : Below W.heap.size W w := by
  cases hy : L y
  · exact (h.pre hy).1
  · have := (h.post hy).1 j hj; rw [hL] at this; cases this
theorem YI.stepPre (h : YI s0 y n0 fix W N T Fa Bz L a w) {j : Nat} (hj : j < y) (hL : L j = false) (hn : s0 + y < n0) (hfx : ∀ p ∈ fix, p.1 < s0) {v : Value} {w' : World} (hv : N j v) (hb : Below w.heap.size w w') {dst : Option Nat} (hd : dst = some (s0 + j)) :
    YI s0 y n0 fix W N T Fa Bz (fun k => decide (k = j) || L k) (a.put dst v) w' := by
  subst hd
  have hy : L y = false := by
    cases hy : L y
    · rfl
    · have := (h.post hy).1 j hj; rw [hL] at this; cases this
  have hs : s0 + j < a.tmps.size := by rw [h.size]; omega
  refine ⟨by rw [put_size]; exact h.size, by rw [put_defers]; exact h.defers, fun p hp => by rw [ev_ne (by have := hfx p hp; omega)]; exact h.fixed p hp, fun _ => ⟨(h.pre hy).1.trans (hb.mono (h.pre hy).1.size), fun k hk => ?_⟩, fun k hk hl => ?_, fun hl => ?_⟩
  · simp only [Bool.or_eq_false_iff, decide_eq_false_iff_not]
    exact ⟨by omega, (h.pre hy).2 k hk⟩
  · by_cases hkj : k = j
    · subst hkj; rw [ev_same hs]; exact hv
    · rw [ev_ne (by omega)]
      exact h.vals k hk (by simpa [hkj] using hl)
  · have hne : ¬ y = j := by omega
    simp only [hne, decide_false, Bool.false_or] at hl
    rw [hy] at hl; cases hl
theorem YI.stepY (h : YI s0 y n0 fix W N T Fa Bz L a w) (hall : ∀ j, j < y → L j = true) (hL : L y = false) (hn : s0 + y < n0) (hfx : ∀ p ∈ fix, p.1 < s0) {b : Bool} {w' : World} (hT : b = true → T w') (hF : b = false → Fa w') {dst : Option Nat} (hd : dst = some (s0 + y)) :
    YI s0 y n0 fix W N T Fa Bz (fun k => decide (k = y) || L k) (a.put dst (.bool b)) w' := by
  subst hd
  have hs : s0 + y < a.tmps.size := by rw [h.size]; omega
  refine ⟨by rw [put_size]; exact h.size, by rw [put_defers]; exact h.defers, fun p hp => by rw [ev_ne (by have := hfx p hp; omega)]; exact h.fixed p hp, fun hl => by simp at hl, fun k hk hl => ?_, fun _ => ⟨fun k hk => by simp [hall k hk], b, ev_same hs, hT, hF, fun k hk hl => ?_⟩⟩
  · rw [ev_ne (by omega)]
    exact h.vals k hk (hall k hk)
  · have hne : ¬ k = y := by omega
    simp only [hne, decide_false, Bool.false_or] at hl
    rw [(h.pre hL).2 k hk] at hl; cases hl
theorem YI.stepPost (h : YI s0 y n0 fix W N T Fa Bz L a w) {j : Nat} (hj : y < j) (hL : L j = false) (hLy : L y = true) (hn : s0 + j < n0) (hfx : ∀ p ∈ fix, p.1 < s0) {v : Value} (hv : ∀ b, a.eval (.tmp (s0 + y)) = .bool b → Bz b j v) {dst : Option Nat} (hd : dst = some (s0 + j)) :
    YI s0 y n0 fix W N T Fa Bz (fun k => decide (k = j) || L k) (a.put dst v) w := by
  subst hd
  have hs : s0 + j < a.tmps.size := by rw [h.size]; omega
  obtain ⟨p1, b, p2, p3, p4, p5⟩ := h.post hLy
  refine ⟨by rw [put_size]; exact h.size, by rw [put_defers]; exact h.defers, fun p hp => by rw [ev_ne (by have := hfx p hp; omega)]; exact h.fixed p hp, fun hl => ?_, fun k hk hl => ?_, fun _ => ⟨fun k hk => by simp [p1 k hk], b, by rw [ev_ne (by omega)]; exact p2, p3, p4, fun k hk hl => ?_⟩⟩
  · simp [hLy] at hl
  · rw [ev_ne (by omega)]
    exact h.vals k hk (p1 k hk)
  · by_cases hkj : k = j
    · subst hkj; rw [ev_same hs]; exact hv b p2
    · rw [ev_ne (by omega)]
      exact p5 k hk (by simpa [hkj] using hl)
end
/-- a region that only grows the memory -/
structure YP (s0 m n0 : Nat) (fix : List (Nat × Value)) (W : World) (N : Nat → Value → Prop) (L : Nat → Bool) (a : Act) (w : World) : Prop where
  size : a.tmps.size = n0
  defers : a.defers = []
  fixed : ∀ p ∈ fix, a.eval (.tmp p.1) = p.2
  below : Below W.heap.size W w
  vals : ∀ j, j < m → L j = true → N j (a.eval (.tmp (s0 + j)))
theorem YP.step {s0 m n0 : Nat} {fix : List (Nat × Value)} {W : World} {N : Nat → Value → Prop} {L : Nat → Bool} {a : Act} {w : World} (h : YP s0 m n0 fix W N L a w) {j : Nat} (hj : j < m) (hn : s0 + m ≤ n0) (hfx : ∀ p ∈ fix, p.1 < s0) {v : Value} {w' : World} (hv : N j v) (hb : Below w.heap.size w w') {dst : Option Nat} (hd : dst = some (s0 + j)) :
    YP s0 m n0 fix W N (fun k => decide (k = j) || L k) (a.put dst v) w' := by
  subst hd
  have hs : s0 + j < a.tmps.size := by rw [h.size]; omega
  refine ⟨by rw [put_size]; exact h.size, by rw [put_defers]; exact h.defers, fun p hp => by rw [ev_ne (by have := hfx p hp; omega)]; exact h.fixed p hp, h.below.trans (hb.mono h.below.size), fun k hk hl => ?_⟩
  by_cases hkj : k = j
  · subst hkj; rw [ev_same hs]; exact hv
  · rw [ev_ne (by omega)]
    exact h.vals k hk (by simpa [hkj] using hl)
theorem wanted_at {ops : Array Oper} {o : Oper} {a : Act} {j d : Nat} {b c : Bool} (hg : o.guard = some (j, b)) (hj : ((ops[j]?).bind (·.dst)) = some d) (hd : d < a.tmps.size) (h : a.eval (.tmp d) = .bool c) : Region.wanted o (yielded ops a.tmps) = (c == b) := by
  unfold Region.wanted
  rw [hg]
  show (yielded ops a.tmps j == some b) = (c == b)
  unfold yielded
  rw [hj]
  have e : a.tmps[d]? = some (.bool c) := by
    have h' : a.tmps.getD d undef = .bool c := h
    rw [Array.getD_eq_getD_getElem?, Array.getElem?_eq_getElem hd] at h'
    rw [Array.getElem?_eq_getElem hd]
    exact congrArg some h'
  simp only [Option.bind_some, e]
  cases b <;> cases c <;> rfl
end Go.Proofs.YthpndgcaoeokeaaGreatDoor
namespace Go.Proofs.YthpndgcaoeokeaaGreatDoor
open Go.RowKit Go.Sort
attribute [local go_sem] Oper.semAt_some
attribute [local go_sem] wide_fn wide_depth
attribute [local simp] wide_fn wide_depth

set_option maxRecDepth 10000 in
theorem act_lit29 (a : Act) (h : a.tmps.size = 29) (hd : a.defers = []) : ∃ f : Nat → Value, a = ⟨List.toArray (f 0 :: f 1 :: f 2 :: f 3 :: f 4 :: f 5 :: f 6 :: f 7 :: f 8 :: f 9 :: f 10 :: f 11 :: f 12 :: f 13 :: f 14 :: f 15 :: f 16 :: f 17 :: f 18 :: f 19 :: f 20 :: f 21 :: f 22 :: f 23 :: f 24 :: f 25 :: f 26 :: f 27 :: f 28 :: []), []⟩ ∧ ∀ k, a.eval (.tmp k) = f k := by
  obtain ⟨t, d⟩ := a
  simp only [] at h hd
  subst hd
  refine ⟨fun k => t.getD k undef, ?_, fun k => rfl⟩
  congr 1
  apply Array.ext'
  apply List.ext_getElem?
  intro i
  by_cases hi : i < 29
  · rw [show t.toList[i]? = some (t.getD i undef) from by simp [Array.getD, h, hi]]
    match i, hi with
    | 0, _ => rfl
    | 1, _ => rfl
    | 2, _ => rfl
    | 3, _ => rfl
    | 4, _ => rfl
    | 5, _ => rfl
    | 6, _ => rfl
    | 7, _ => rfl
    | 8, _ => rfl
    | 9, _ => rfl
    | 10, _ => rfl
    | 11, _ => rfl
    | 12, _ => rfl
    | 13, _ => rfl
    | 14, _ => rfl
    | 15, _ => rfl
    | 16, _ => rfl
    | 17, _ => rfl
    | 18, _ => rfl
    | 19, _ => rfl
    | 20, _ => rfl
    | 21, _ => rfl
    | 22, _ => rfl
    | 23, _ => rfl
    | 24, _ => rfl
    | 25, _ => rfl
    | 26, _ => rfl
    | 27, _ => rfl
    | 28, _ => rfl
    | k + 29, h => omega
  · rw [List.getElem?_eq_none (by simp; omega), List.getElem?_eq_none (by simp; omega)]

def intL (l : List Int) : List (Array Value) := l.map fun n => #[.int .i64 n]
theorem intL_len (l : List Int) : (intL l).length = l.length := by unfold intL; simp
theorem intL_get {l : List Int} {i : Nat} {n : Int} (h : l[i]? = some n) : (intL l)[i]? = some #[.int .i64 n] := by unfold intL; rw [List.getElem?_map, h]; rfl

/-- the times, of these days, without those of ex -/
def rbF (st : Int) (ex : List Int) (l : List Int) : List Int := (l.map fun d => d * 86400 + st % 86400).filter fun t => !ex.contains t
def rbL (hr : Bool) (r : RuleD) (st f to : Int) (ex : List Int) : List Int := rbF st ex (rdL hr r st f to)
theorem rbF_cons (st : Int) (ex : List Int) (d : Int) (l : List Int) : rbF st ex (d :: l) = (if ex.contains (d * 86400 + st % 86400) then [] else [d * 86400 + st % 86400]) ++ rbF st ex l := by
  unfold rbF
  rw [List.map_cons, List.filter_cons]
  cases h : ex.contains (d * 86400 + st % 86400) <;> simp
theorem dysF_mem (s f last ct : Int) : ∀ (c : Int) (l : List Int) (d : Int), d ∈ dysF s f last ct c l → d ∈ l
  | _, [], d, h => by simp [dysF] at h
  | c, x :: l, d, h => by
    rw [dysF] at h
    split at h
    · exact List.mem_cons_of_mem _ (dysF_mem s f last ct c l d h)
    · split at h
      · simp at h
      · rcases List.mem_append.1 h with h | h
        · split at h
          · simp at h; subst h; simp
          · simp at h
        · split at h
          · simp at h
          · exact List.mem_cons_of_mem _ (dysF_mem s f last ct (c + 1) l d h)
theorem rdL_bd (hr : Bool) (r : RuleD) (ho : hr = true → RuleOk r) (st f to : Int) (s0 : 0 ≤ st) (s1 : st ≤ 7258118400) (f1 : f ≤ 7258118400) (t1 : to ≤ 7258118400) : ∀ d ∈ rdL hr r st f to, -400 ≤ d ∧ d ≤ 300000 := by
  intro d hd
  unfold rdL at hd
  split at hd
  · rename_i hr'
    exact (chosenL_bd _ (startW_ok (ho hr') _) st f _ s0 s1 f1 (by unfold lastOf; omega)).2 d (dysF_mem _ _ _ _ _ _ _ hd)
  · split at hd
    · simp at hd; omega
    · simp at hd
theorem out_iff {st d : Int} {ex ds : List Int} (h : ∀ d, d ∈ ds ↔ ∃ t ∈ ex, t % 86400 = st % 86400 ∧ t / 86400 = d) : (ds.count d = 0 ↔ ex.contains (d * 86400 + st % 86400) = false) := by
  rw [List.count_eq_zero, h d]
  rw [← Bool.not_eq_true, List.contains_iff_mem]
  constructor
  · intro hn hm
    exact hn ⟨_, hm, by omega, by omega⟩
  · rintro hn ⟨t, ht, h1, h2⟩
    exact hn (by rw [show d * 86400 + st % 86400 = t from by omega]; exact ht)

/-- the outer loop, within: of the elements to come -/
def DK (O : Blocks) (W0 : World) (J : Nat → Says) (E : Nat → Nat → Prop) (i : Nat) : Says := fun D W => ∃ (q : Nat) (D0 : Blocks), Inn O W0 (J q) D0 D W ∧ E q i
theorem DK.onD {O : Blocks} {W0 : World} {J : Nat → Says} {E : Nat → Nat → Prop} {i : Nat} {D : Blocks} {W : World} (hD : ∀ k, D k → k < W.heap.size) (h : DK O W0 J E i D W) : On D (DK O W0 J E i) W := by
  obtain ⟨q, D0, h1, h2⟩ := h
  exact ⟨hD, fun W2 hk => ⟨q, D0, h1.keep hk, h2⟩⟩

def fixB (be b4 b5 b6 : Nat) : List (Nat × Value) := [(1, .pointer (some ⟨be, 0, none⟩)), (4, .pointer (some ⟨b4, 0, none⟩)), (5, .pointer (some ⟨b5, 0, none⟩)), (6, .pointer (some ⟨b6, 0, none⟩))]
def NB (l be bm : Nat) (d st : Int) (j : Nat) (v : Value) : Prop := match j with
  | 0 => v = .map (some bm)
  | 1 => v = dnV d
  | 2 => v = .int .i64 0
  | 3 => v = .bool true
  | 4 => v = .bool true
  | 5 => v = .func (.yield l) #[] #[]
  | 6 => v = dnV d
  | 7 => v = .int .i64 (d * 86400)
  | 8 => v = .pointer (some ⟨be, 1, none⟩)
  | 9 => v = .int .i64 st
  | 10 => v = .int .i64 (st % 86400)
  | _ => v = .int .i64 (d * 86400 + st % 86400)
def BB (b : Bool) (_ : Nat) (v : Value) : Prop := v = .bool (!b)
end Go.Proofs.YthpndgcaoeokeaaGreatDoor
namespace Go.Proofs.YthpndgcaoeokeaaGreatDoor
open Go.RowKit Go.Sort

/-- lines with their ends -/
def txl (ls : List (List UInt8)) : List UInt8 := ls.flatMap (· ++ [13, 10])
end Go.Proofs.YthpndgcaoeokeaaGreatDoor
namespace Go.Proofs.YthpndgcaoeokeaaGreatDoor

def val (f : Nat → Option (List UInt8)) (k : Nat) : List UInt8 := (f k).getD []
def evLs (s : List UInt8) : List (List UInt8) := (lns (unf s) []).1
/-- are a text's lines those of an event, its first and last one? -/
def framed (s : List UInt8) : Bool := (lns (unf s) []).2 && decide (s.length ≤ 2000) && decide (2 ≤ (evLs s).length) && decide ((evLs s).getD 0 [] = beginL) && decide ((evLs s).getD ((evLs s).length - 1) [] = endL)
def opaqL : List UInt8 := [79, 80, 65, 81, 85, 69]
def trspL : List UInt8 := [84, 82, 65, 78, 83, 80, 65, 82, 69, 78, 84]
def confL : List UInt8 := [67, 79, 78, 70, 73, 82, 77, 69, 68]
def tentL : List UInt8 := [84, 69, 78, 84, 65, 84, 73, 86, 69]
def cancL : List UInt8 := [67, 65, 78, 67, 69, 76, 76, 69, 68]
/-- are the properties those that must be there, and UID, TRANSP and STATUS as they must be? -/
def must (f : Nat → Option (List UInt8)) : Bool := has f 0 && has f 1 && (has f 2 != has f 3) && nameB (ba (val f 0))
def words2 (f : Nat → Option (List UInt8)) : Bool := !(has f 7 && (decide (wrd (val f 7) opaqL trspL [] = 0) || decide (val f 7 = []))) && !(has f 8 && decide (wrd (val f 8) confL tentL cancL = 0))
def fieldsF (s : List UInt8) : Option (Nat → Option (List UInt8)) :=
  if framed s then match flds propNames 58 (innerL (evLs s)) (fun _ => none) with
    | none => none
    | some f => if must f && words2 f then some f else none
  else none
def tmO (o : Option (List UInt8)) : Option (List Int) := match o with | none => some [] | some v => timesF (ba v)
def rlO (o : Option (List UInt8)) : Option (Option (Nat → Option (List UInt8))) := match o with | none => some none | some v => (ruleF v).map some
def kindOf (f : Nat → Option (List UInt8)) : Int := if has f 8 then wrd (val f 8) confL tentL cancL else 1
def openOf (f : Nat → Option (List UInt8)) : Bool := decide (val f 7 = trspL)
/-- an event that was read -/
structure EvD where
  f : Nat → Option (List UInt8)
  st : Int
  ln : Int
  ex : List Int
  xt : List Int
  rl : Option (Nat → Option (List UInt8))
/-- an event, or the error -/
def readF (s : List UInt8) : Except Int EvD := match fieldsF s with
  | none => .error 2
  | some f => match timF (val f 1) with
    | none => .error 1
    | some st => match lnF st (f 3) (f 2) with
      | none => .error 1
      | some ln => match tmO (f 5) with
        | none => .error 1
        | some ex => match tmO (f 6) with
          | none => .error 1
          | some xt => match rlO (f 4) with
            | none => .error 3
            | some rl => .ok ⟨f, st, ln, ex, xt, rl⟩
end Go.Proofs.YthpndgcaoeokeaaGreatDoor
namespace Go.Proofs.YthpndgcaoeokeaaGreatDoor
open Go.RowKit Go.Sort

/-- the region that begins the lines: where each operation leaves its value, and which -/
def kBeg : ByteArray := ⟨#[66, 69, 71, 73, 78, 58, 86, 69, 86, 69, 78, 84]⟩
def kUid : ByteArray := ⟨#[85, 73, 68, 58]⟩
def kDts : ByteArray := ⟨#[68, 84, 83, 84, 65, 82, 84, 58]⟩
def kDur : ByteArray := ⟨#[68, 85, 82, 65, 84, 73, 79, 78, 58, 80, 84]⟩
def kS : ByteArray := ⟨#[83]⟩
def rowF (U T D : ByteArray) : List Value := [.string kBeg, .string (kUid ++ U), .string (kDts ++ T), .string (kDur ++ D ++ kS)]
theorem evFld_run (b k off : Nat) (h : (k, off) = (0, 0) ∨ (k, off) = (1, 1) ∨ (k, off) = (2, 2)) (w : World) : (Instr.fieldAt 79 (.pointer (some ⟨b, 0, none⟩)) k).run Tryz.prog w = .ok (.pointer (some ⟨b, off, none⟩)) w := by
  rcases h with h | h | h <;> cases h <;> go_simp
end Go.Proofs.YthpndgcaoeokeaaGreatDoor
