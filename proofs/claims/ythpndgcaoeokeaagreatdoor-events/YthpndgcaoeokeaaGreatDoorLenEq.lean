/- How a length is read by cutting comes to the same as by going through it byte by byte (plain lists). -/
import Derived.Test.YthpndgcaoeokeaaGreatDoorRef7
namespace Go.Proofs.YthpndgcaoeokeaaGreatDoor

/-- a text cut at the first byte c -/
def sp (c : UInt8) : List UInt8 → Option (List UInt8 × List UInt8)
  | [] => none
  | x :: r => if x = c then some ([], r) else (sp c r).map fun q => (x :: q.1, q.2)

theorem sp_none {c : UInt8} : ∀ {l : List UInt8}, c ∉ l → sp c l = none
  | [], _ => rfl
  | x :: r, h => by
    unfold sp
    rw [if_neg (fun e => h (by rw [e]; exact List.mem_cons_self)), sp_none (fun q => h (List.mem_cons_of_mem _ q))]
    rfl
theorem sp_at {c : UInt8} : ∀ {a b : List UInt8}, c ∉ a → sp c (a ++ c :: b) = some (a, b)
  | [], b, _ => by simp [sp]
  | x :: r, b, h => by
    simp only [List.cons_append]
    unfold sp
    rw [if_neg (fun e => h (by rw [e]; exact List.mem_cons_self)), sp_at (fun q => h (List.mem_cons_of_mem _ q))]
    rfl
theorem sp_some {c : UInt8} : ∀ {l a b : List UInt8}, sp c l = some (a, b) → l = a ++ c :: b ∧ c ∉ a
  | [], _, _, h => by cases h
  | x :: r, a, b, h => by
    unfold sp at h
    by_cases e : x = c
    · rw [if_pos e] at h; cases h; subst e; simp
    · rw [if_neg e] at h
      cases q : sp c r with
      | none => rw [q] at h; cases h
      | some y =>
        rw [q] at h
        obtain ⟨a', b'⟩ := y
        cases h
        obtain ⟨h1, h2⟩ := sp_some q
        refine ⟨by rw [h1]; rfl, ?_⟩
        intro m
        rcases List.mem_cons.1 m with m | m
        · exact e m.symm
        · exact h2 m

theorem numB_dig {l : List UInt8} (h : numB l = true) : ∀ x ∈ l, dig x = true := by
  simp only [numB, Bool.and_eq_true, decide_eq_true_eq] at h
  have : l.all dig = true := by
    cases q : l.all dig
    · have := h.2; unfold digs at this; rw [if_neg (by rw [q]; exact Bool.false_ne_true)] at this; omega
    · rfl
  exact List.all_eq_true.1 this

def unitC (mark : UInt8) (secs : Int) (l : List UInt8) : Option (Int × List UInt8) :=
  match sp mark l with
  | none => some (0, l)
  | some (a, b) => if numB a = true then some (numN a * secs, b) else none

def chain : List (UInt8 × Int) → List UInt8 → Option Int
  | [], l => if l = [] then some 0 else none
  | (m, s) :: ms, l => match unitC m s l with
    | none => none
    | some (v, r) => (chain ms r).map (v + ·)

theorem chain_absent {m : UInt8} {s : Int} {ms : List (UInt8 × Int)} {l : List UInt8} (h : m ∉ l) : chain ((m, s) :: ms) l = chain ms l := by
  simp only [chain, unitC, sp_none h]
  cases chain ms l with
  | none => rfl
  | some v => simp
theorem chain_nil (ms : List (UInt8 × Int)) : chain ms [] = some 0 := by
  induction ms with
  | nil => rfl
  | cons m ms ih => obtain ⟨m, s⟩ := m; rw [chain_absent (by simp), ih]
/-- a byte that is no digit, and none of the marks, stands in the way -/
theorem chain_other {x : UInt8} (hx : dig x = false) : ∀ (ms : List (UInt8 × Int)) (l : List UInt8), (∀ m ∈ ms, m.1 ≠ x) → x ∈ l → chain ms l = none
  | [], l, _, h => by
    unfold chain
    rw [if_neg]
    intro e; rw [e] at h; cases h
  | (m, s) :: ms, l, hm, h => by
    cases q : sp m l with
    | none => 
      have : chain ((m, s) :: ms) l = (chain ms l).map (0 + ·) := by simp only [chain, unitC, q]
      rw [this, chain_other hx ms l (fun y hy => hm y (List.mem_cons_of_mem _ hy)) h]
      rfl
    | some y =>
      obtain ⟨a, b⟩ := y
      obtain ⟨e, _⟩ := sp_some q
      simp only [chain, unitC, q]
      by_cases hn : numB a = true
      · rw [if_pos hn]
        have hb : x ∈ b := by
          rw [e] at h
          rcases List.mem_append.1 h with h | h
          · have := numB_dig hn x h; rw [hx] at this; cases this
          · rcases List.mem_cons.1 h with h | h
            · exact absurd h.symm (hm (m, s) List.mem_cons_self)
            · exact h
        simp only [chain_other hx ms b (fun y hy => hm y (List.mem_cons_of_mem _ hy)) hb]
        rfl
      · rw [if_neg hn]
/-- a mark behind another byte that is no digit -/
theorem chain_behind {m c : UInt8} {s : Int} {ms : List (UInt8 × Int)} {ds r : List UInt8} (hds : m ∉ ds) (hc : dig c = false) (hcm : c ≠ m) (hm : m ∈ r) :
    chain ((m, s) :: ms) (ds ++ c :: r) = none := by
  have : m ∈ ds ++ c :: r := by simp [hm]
  cases q : sp m (ds ++ c :: r) with
  | none =>
    exfalso
    clear hds hm
    have : ∀ l : List UInt8, m ∈ l → sp m l ≠ none := by
      intro l
      induction l with
      | nil => intro h; cases h
      | cons x l ih =>
        intro h
        unfold sp
        by_cases e : x = m
        · rw [if_pos e]; simp
        · rw [if_neg e]
          rcases List.mem_cons.1 h with h | h
          · exact absurd h.symm e
          · have := ih h
            cases q : sp m l with
            | none => exact absurd q this
            | some y => simp
    exact this _ ‹_› q
  | some y =>
    obtain ⟨a, b⟩ := y
    obtain ⟨e, ha⟩ := sp_some q
    have hca : c ∈ a := by
      rcases List.append_eq_append_iff.1 e with ⟨t, e1, e2⟩ | ⟨t, e1, e2⟩
      · cases t with
        | nil => simp at e2; exact absurd e2.1 hcm
        | cons y t => simp at e2; rw [e1, ← e2.1]; simp
      · cases t with
        | nil => simp at e2; exact absurd e2.1.symm hcm
        | cons y t => simp at e2; exfalso; apply hds; rw [e1, ← e2.1]; simp
    simp only [chain, unitC, q]
    rw [if_neg]
    intro hn
    have := numB_dig hn c hca
    rw [hc] at this; cases this

theorem chain_here {m : UInt8} {s : Int} {ms : List (UInt8 × Int)} {ds r : List UInt8} (hds : m ∉ ds) (hn : numB ds = true) :
    chain ((m, s) :: ms) (ds ++ m :: r) = (chain ms r).map (numN ds * s + ·) := by
  simp only [chain, unitC, sp_at hds, hn, if_true]
theorem chain_here_no {m : UInt8} {s : Int} {ms : List (UInt8 × Int)} {ds r : List UInt8} (hds : m ∉ ds) (hn : numB ds = false) :
    chain ((m, s) :: ms) (ds ++ m :: r) = none := by
  simp only [chain, unitC, sp_at hds]
  rw [if_neg (by rw [hn]; exact Bool.false_ne_true)]

theorem lenGo_run : ∀ (ds rest cur : List UInt8) (u : Nat) (t : Bool) (s : Int) (p : Nat), (∀ x ∈ ds, dig x = true) → lenGo (ds ++ rest) cur u t s p = lenGo rest (cur ++ ds) u t s p
  | [], _, _, _, _, _, _, _ => by simp
  | x :: ds, rest, cur, u, t, s, p, h => by
    simp only [List.cons_append]
    conv => lhs; unfold lenGo
    rw [if_pos (h x List.mem_cons_self), lenGo_run ds rest (cur ++ [x]) u t s p (fun y hy => h y (List.mem_cons_of_mem _ hy))]
    simp

/-- digits, and what follows them -/
theorem split_digits (l : List UInt8) : ∃ ds rest, l = ds ++ rest ∧ (∀ x ∈ ds, dig x = true) ∧ (rest = [] ∨ ∃ c r, rest = c :: r ∧ dig c = false) := by
  induction l with
  | nil => exact ⟨[], [], rfl, by simp, .inl rfl⟩
  | cons x l ih =>
    cases h : dig x
    · exact ⟨[], x :: l, rfl, by simp, .inr ⟨x, l, rfl, h⟩⟩
    · obtain ⟨ds, rest, e, hd, hr⟩ := ih
      refine ⟨x :: ds, rest, by rw [e]; rfl, ?_, hr⟩
      intro y hy
      rcases List.mem_cons.1 hy with rfl | hy
      · exact h
      · exact hd y hy
end Go.Proofs.YthpndgcaoeokeaaGreatDoor
