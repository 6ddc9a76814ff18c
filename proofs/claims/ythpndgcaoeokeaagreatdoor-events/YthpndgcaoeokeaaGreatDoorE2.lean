/- What the library's ReplaceAll makes of a text's folds is what the document's unfolding makes of it. What the library's Split makes of a text is what the document's split makes of it. What the library's Split makes of a text's lines is what the document's lines are. A list in order, each once: what the document's list of times is, by its members alone. The document's Check as functions on bytes: what both sides are to be held against. -/
import Derived.Test.YthpndgcaoeokeaaGreatDoorE1
import Derived.Lib.Replace
import Derived.Lib.Split
import Derived.Lib.IndexLaws
namespace Go.Proofs.YthpndgcaoeokeaaGreatDoor
open Go.Lib

def foldL : List UInt8 := [13, 10, 32]
/-- all instances replaced by nothing -/
def rep (s : List UInt8) : List UInt8 := replaceK foldL [] (count s foldL) s
theorem rep_eq (s : List UInt8) : replaceAll s foldL [] = rep s := by
  unfold replaceAll replace rep
  rw [if_neg (by decide)]
  unfold replaceNum
  rw [if_pos (.inl (by decide))]
theorem rep_none {s : List UInt8} (h : index s foldL = -1) : rep s = s := by
  unfold rep; rw [count_miss h]; rfl
theorem rep_some {s : List UInt8} {i : Nat} (h : index s foldL = i) : rep s = s.take i ++ rep (s.drop (i + 3)) := by
  unfold rep
  rw [count_hit (by decide) h, Nat.add_comm, replaceK_hit _ _ _ _ i h]
  simp [foldL]
theorem index_pre (r : List UInt8) : index (13 :: 10 :: 32 :: r) foldL = 0 := by
  unfold index; rw [if_pos (by simp [foldL])]
theorem rep_pre (r : List UInt8) : rep (13 :: 10 :: 32 :: r) = rep r := by
  rw [rep_some (i := 0) (index_pre r)]; simp
theorem rep_cons {a : UInt8} {r : List UInt8} (h : foldL.isPrefixOf (a :: r) = false) : rep (a :: r) = a :: rep r := by
  have e : index (a :: r) foldL = if index r foldL == -1 then -1 else index r foldL + 1 := by
    rw [index, if_neg (by rw [h]; exact Bool.false_ne_true)]
  have hge := index_ge r foldL
  by_cases hm : index r foldL = -1
  · rw [rep_none hm, rep_none (by rw [e, hm]; rfl)]
  · obtain ⟨i, hi⟩ : ∃ i : Nat, index r foldL = i := ⟨(index r foldL).toNat, by omega⟩
    rw [rep_some hi, rep_some (s := a :: r) (i := i + 1) (by rw [e, hi, if_neg (by simp)]; rfl)]
    simp
theorem unf_rep : ∀ s : List UInt8, unf s = rep s
  | [] => (rep_none rfl).symm
  | [a] => by
    rw [rep_cons (by simp [foldL, List.isPrefixOf]), rep_none rfl]; rfl
  | [a, b] => by
    rw [rep_cons (by simp [foldL, List.isPrefixOf]), rep_cons (by simp [foldL, List.isPrefixOf]), rep_none rfl]; rfl
  | a :: b :: c :: r => by
    rw [unf]
    split
    · rename_i h
      obtain ⟨rfl, rfl, rfl⟩ := h
      rw [rep_pre, unf_rep r]
    · rename_i h
      rw [rep_cons, unf_rep (b :: c :: r)]
      simp only [foldL, List.isPrefixOf, Bool.and_eq_false_iff, beq_eq_false_iff_ne, Bool.and_true]
      by_cases h1 : a = 13
      · by_cases h2 : b = 10
        · have h3 : c ≠ 32 := fun h3 => h ⟨h1, h2, h3⟩
          exact .inr (.inr (Ne.symm h3))
        · exact .inr (.inl (Ne.symm h2))
      · exact .inl (Ne.symm h1)
end Go.Proofs.YthpndgcaoeokeaaGreatDoor
namespace Go.Proofs.YthpndgcaoeokeaaGreatDoor
open Go.Lib

/-- the pieces between the bytes c -/
def spl (c : UInt8) : List UInt8 → List (List UInt8)
  | [] => [[]]
  | a :: r => if a = c then [] :: spl c r else match spl c r with | [] => [[a]] | h :: t => (a :: h) :: t
theorem spl_ne (c : UInt8) (l : List UInt8) : spl c l ≠ [] := by
  cases l with
  | nil => simp [spl]
  | cons a r =>
    rw [spl]
    split
    · simp
    · split <;> simp
/-- the first piece grows at its head -/
def glue (acc : List UInt8) : List (List UInt8) → List (List UInt8)
  | [] => [acc]
  | h :: t => (acc ++ h) :: t
theorem glue_nil {l : List (List UInt8)} (h : l ≠ []) : glue [] l = l := by
  cases l with
  | nil => exact absurd rfl h
  | cons a t => rfl
theorem glue_hit {c a : UInt8} {acc r : List UInt8} (h : a = c) : glue acc (spl c (a :: r)) = acc :: spl c r := by
  rw [spl, if_pos h]; simp [glue]
theorem glue_miss {c a : UInt8} {acc r : List UInt8} (h : ¬ a = c) : glue acc (spl c (a :: r)) = glue (acc ++ [a]) (spl c r) := by
  rw [spl, if_neg h]
  cases hs : spl c r with
  | nil => exact absurd hs (spl_ne c r)
  | cons x t => simp [glue]
theorem spf_spl (s : ByteArray) (c : UInt8) : ∀ k, k ≤ s.size → (spf s c.toNat k).2.map (·.data.toList) ++ glue (cut s (spf s c.toNat k).1 (k - (spf s c.toNat k).1)) (spl c (s.data.toList.drop k)) = spl c s.data.toList
  | 0, _ => by simp [spf, cut, glue_nil (spl_ne c _)]
  | k + 1, hk => by
    have ih := spf_spl s c k (by omega)
    have hf := (spf_le s c.toNat k).1
    rw [drop_cons s k (by omega)] at ih
    by_cases h : s[k]'(by omega) = c
    · have h' : at0 s k = (c.toNat : Int) := by rw [← at0_get s k (by omega), h]
      rw [glue_hit h] at ih
      rw [spf_hit h', ← ih]
      simp only [Nat.sub_self, List.map_append, List.map_cons, List.map_nil, extract_cut, List.append_assoc, List.singleton_append]
      rw [show cut s (k + 1) 0 = [] from by simp [cut], glue_nil (spl_ne c _)]
    · have h' : ¬ at0 s k = (c.toNat : Int) := fun e => by
        rw [← at0_get s k (by omega)] at e
        exact h (UInt8.toNat_inj.1 (by omega))
      rw [glue_miss h] at ih
      rw [spf_miss h', ← ih, show k + 1 - (spf s c.toNat k).1 = (k - (spf s c.toNat k).1) + 1 from by omega, cut_snoc s _ _ (by omega)]
      have : s[(spf s c.toNat k).1 + (k - (spf s c.toNat k).1)]'(by omega) = s[k]'(by omega) := by congr 1; omega
      rw [this]
theorem splitF_spl (s : ByteArray) (c : UInt8) : (splitF s c.toNat).map (·.data.toList) = spl c s.data.toList := by
  have h := spf_spl s c s.size (Nat.le_refl _)
  rw [dropE] at h
  rw [← h]
  unfold splitF
  simp [spl, glue, cut]

theorem spl_none {c : UInt8} : ∀ {l : List UInt8}, c ∉ l → spl c l = [l]
  | [], _ => rfl
  | a :: r, h => by
    rw [List.mem_cons] at h
    rw [spl, if_neg (fun e => h (.inl e.symm)), spl_none (fun m => h (.inr m))]
theorem spl_at {c : UInt8} : ∀ {x y : List UInt8}, c ∉ x → spl c (x ++ c :: y) = x :: spl c y
  | [], y, _ => by rw [List.nil_append, spl, if_pos rfl]
  | a :: r, y, h => by
    rw [List.mem_cons] at h
    rw [List.cons_append, spl, if_neg (fun e => h (.inl e.symm)), spl_at (fun m => h (.inr m))]
theorem splitK_spl (c : UInt8) : ∀ (n : Nat) (l : List UInt8), l.length ≤ n → splitK [c] 0 (count l [c]) l = spl c l
  | n, l, hn => by
    have hge := indexByte_ge l c
    by_cases hm : indexByte l c = -1
    · have h1 : index l [c] = -1 := (index_one l c).trans hm
      rw [count_miss h1, spl_none]
      · rfl
      · intro m
        obtain ⟨k, hk⟩ := List.getElem?_of_mem m
        exact indexByte_none hm k hk
    · obtain ⟨o, ho⟩ : ∃ o : Nat, indexByte l c = o := ⟨(indexByte l c).toNat, by omega⟩
      have h1 : index l [c] = o := (index_one l c).trans ho
      obtain ⟨g1, g2⟩ := indexByte_some ho
      have hlt : o < l.length := (List.getElem?_eq_some_iff.1 g1).1
      have e : l = l.take o ++ c :: l.drop (o + 1) := by
        conv => lhs; rw [← List.take_append_drop o l]
        rw [List.drop_eq_getElem_cons hlt]
        rw [List.getElem?_eq_getElem hlt] at g1
        rw [Option.some.inj g1]
      have hnm : c ∉ l.take o := by
        intro m
        obtain ⟨k, hk⟩ := List.getElem?_of_mem m
        rw [List.getElem?_take] at hk
        by_cases q : k < o
        · rw [if_pos q] at hk; exact g2 k q hk
        · rw [if_neg q] at hk; cases hk
      have hm' : ¬ (index l [c] == -1) = true := fun e => by have := beq_iff_eq.1 e; omega
      have et : (index l [c]).toNat = o := by omega
      have hr : spl c l = l.take o :: spl c (l.drop (o + 1)) := by
        conv => lhs; rw [e]
        exact spl_at hnm
      rw [count_hit (by simp) h1, Nat.add_comm, splitK, if_neg hm', et, hr]
      cases n with
      | zero => omega
      | succ n =>
        have := splitK_spl c n (l.drop (o + 1)) (by rw [List.length_drop]; omega)
        simpa using this
end Go.Proofs.YthpndgcaoeokeaaGreatDoor
namespace Go.Proofs.YthpndgcaoeokeaaGreatDoor
open Go.Lib

def crlf : List UInt8 := [13, 10]
/-- the pieces between the ends of lines -/
def spl2 : List UInt8 → List (List UInt8)
  | [] => [[]]
  | [a] => [[a]]
  | a :: b :: r => if a = 13 ∧ b = 10 then [] :: spl2 r else glue [a] (spl2 (b :: r))
theorem glue_ne (acc : List UInt8) (l : List (List UInt8)) : glue acc l ≠ [] := by cases l <;> simp [glue]
theorem glue_glue (a b : List UInt8) (l : List (List UInt8)) (h : l ≠ []) : glue a (glue b l) = glue (a ++ b) l := by
  cases l with
  | nil => exact absurd rfl h
  | cons x t => simp [glue]
theorem spl2_ne : ∀ l : List UInt8, spl2 l ≠ []
  | [] => by simp [spl2]
  | [a] => by simp [spl2]
  | a :: b :: r => by
    rw [spl2]
    split
    · simp
    · exact glue_ne _ _
theorem glue_cons_ne (acc : List UInt8) {l : List (List UInt8)} (h : l ≠ []) : (acc :: l).dropLast = acc :: l.dropLast := by
  cases l with
  | nil => exact absurd rfl h
  | cons x t => rfl
theorem lns_spl2 : ∀ (u acc : List UInt8), lns u acc = ((glue acc (spl2 u)).dropLast, ((glue acc (spl2 u)).getLast?.getD []).isEmpty)
  | [], acc => by simp [lns, spl2, glue]
  | [a], acc => by simp [lns, spl2, glue]
  | a :: b :: r, acc => by
    rw [lns, spl2]
    split
    · have ih := lns_spl2 r []
      rw [glue_nil (spl2_ne r)] at ih
      rw [ih]
      simp only [glue, List.append_nil]
      rw [glue_cons_ne acc (spl2_ne r)]
      cases hs : spl2 r with
      | nil => exact absurd hs (spl2_ne r)
      | cons x t => simp [List.getLast?_cons_cons]
    · rw [lns_spl2 (b :: r) (acc ++ [a]), glue_glue _ _ _ (spl2_ne _)]
/-- all instances -/
def spc (s : List UInt8) : List (List UInt8) := splitK crlf 0 (count s crlf) s
theorem spc_none {s : List UInt8} (h : index s crlf = -1) : spc s = [s] := by
  unfold spc; rw [count_miss h]; rfl
theorem spc_some {s : List UInt8} {i : Nat} (h : index s crlf = i) : spc s = s.take i :: spc (s.drop (i + 2)) := by
  have hm' : ¬ (index s crlf == -1) = true := fun e => by have := beq_iff_eq.1 e; omega
  have et : (index s crlf).toNat = i := by omega
  unfold spc
  rw [count_hit (by decide) h, Nat.add_comm, splitK, if_neg hm', et]
  simp [crlf]
theorem spc_pre (r : List UInt8) : spc (13 :: 10 :: r) = [] :: spc r := by
  have : index (13 :: 10 :: r) crlf = (0 : Nat) := by unfold index; rw [if_pos (by simp [crlf])]; rfl
  rw [spc_some this]; simp
theorem spc_cons {a : UInt8} {r : List UInt8} (h : crlf.isPrefixOf (a :: r) = false) : spc (a :: r) = glue [a] (spc r) := by
  have e : index (a :: r) crlf = if index r crlf == -1 then -1 else index r crlf + 1 := by
    rw [index, if_neg (by rw [h]; exact Bool.false_ne_true)]
  have hge := index_ge r crlf
  by_cases hm : index r crlf = -1
  · rw [spc_none hm, spc_none (by rw [e, hm]; rfl)]; rfl
  · obtain ⟨i, hi⟩ : ∃ i : Nat, index r crlf = i := ⟨(index r crlf).toNat, by omega⟩
    rw [spc_some hi, spc_some (s := a :: r) (i := i + 1) (by rw [e, hi, if_neg (by simp)]; rfl)]
    simp [glue]
theorem spl2_spc : ∀ s : List UInt8, spl2 s = spc s
  | [] => (spc_none rfl).symm
  | [a] => by
    rw [spc_cons (by simp [crlf, List.isPrefixOf]), spc_none rfl]; rfl
  | a :: b :: r => by
    rw [spl2]
    split
    · rename_i h
      obtain ⟨rfl, rfl⟩ := h
      rw [spc_pre, spl2_spc r]
    · rename_i h
      rw [spc_cons, spl2_spc (b :: r)]
      simp only [crlf, List.isPrefixOf, Bool.and_eq_false_iff, beq_eq_false_iff_ne, Bool.and_true]
      by_cases h1 : a = 13
      · exact .inr (Ne.symm (fun h2 => h ⟨h1, h2⟩))
      · exact .inl (Ne.symm h1)
theorem glue_snoc (acc : List UInt8) {l : List (List UInt8)} (x : List UInt8) (h : l ≠ []) : glue acc (l ++ [x]) = glue acc l ++ [x] := by
  cases l with
  | nil => exact absurd rfl h
  | cons y t => simp [glue]
theorem spl2_end : ∀ l : List UInt8, spl2 (l ++ [13, 10]) = spl2 l ++ [[]]
  | [] => by simp [spl2]
  | [a] => by
    show spl2 (a :: 13 :: [10]) = _
    simp [spl2, glue]
  | a :: b :: r => by
    show spl2 (a :: b :: (r ++ [13, 10])) = _
    rw [spl2, spl2]
    split
    · rw [spl2_end r]; rfl
    · rw [show b :: (r ++ [13, 10]) = (b :: r) ++ [13, 10] from rfl, spl2_end (b :: r), glue_snoc _ _ (spl2_ne _)]
theorem spl2_last : ∀ u : List UInt8, (spl2 u).getLast?.getD [] = [] → u = [] ∨ ∃ i, u = i ++ [13, 10]
  | [], _ => .inl rfl
  | [a], h => by simp [spl2] at h
  | a :: b :: r, h => by
    rw [spl2] at h
    split at h
    · rename_i hab
      obtain ⟨rfl, rfl⟩ := hab
      have hr : (spl2 r).getLast?.getD [] = [] := by
        cases hs : spl2 r with
        | nil => exact absurd hs (spl2_ne r)
        | cons x t => rw [hs, List.getLast?_cons_cons] at h; exact h
      rcases spl2_last r hr with rfl | ⟨i, rfl⟩
      · exact .inr ⟨[], rfl⟩
      · exact .inr ⟨13 :: 10 :: i, rfl⟩
    · have hr : (spl2 (b :: r)).getLast?.getD [] = [] := by
        cases hs : spl2 (b :: r) with
        | nil => exact absurd hs (spl2_ne _)
        | cons x t =>
          rw [hs] at h
          cases t with
          | nil => simp [glue] at h
          | cons y t => simp only [glue] at h; rw [List.getLast?_cons_cons] at h ⊢; exact h
      rcases spl2_last (b :: r) hr with h0 | ⟨i, hi⟩
      · cases h0
      · exact .inr ⟨a :: i, by rw [hi]; rfl⟩
/-- the document's lines, of a text that ends as a line does -/
theorem lns_yes (i : List UInt8) : lns (i ++ [13, 10]) [] = (spc i, true) := by
  rw [lns_spl2, glue_nil (spl2_ne _), spl2_end, ← spl2_spc]
  simp
/-- and of one that doesn't -/
theorem lns_no {u : List UInt8} (h0 : u ≠ []) (h : ∀ i, u ≠ i ++ [13, 10]) : (lns u []).2 = false := by
  rw [lns_spl2, glue_nil (spl2_ne _)]
  cases hs : (spl2 u).getLast?.getD [] with
  | nil =>
    rcases spl2_last u hs with h1 | ⟨i, h1⟩
    · exact absurd h1 h0
    · exact absurd h1 (h i)
  | cons x t => rfl
end Go.Proofs.YthpndgcaoeokeaaGreatDoor
namespace Go.Proofs.YthpndgcaoeokeaaGreatDoor

def Inc (l : List Int) : Prop := l.Pairwise (· < ·)
theorem wth_mem (n : Int) : ∀ (zs : List Int) (d : Bool) (x : Int), x ∈ wth n d zs ↔ (x = n ∧ d = false) ∨ (x ∈ zs ∧ x ≠ n)
  | [], d, x => by cases d <;> simp [wth]
  | a :: r, d, x => by
    rw [wth, List.mem_append, List.mem_append, wth_mem n r]
    cases d
    · by_cases h1 : n ≤ a
      · by_cases h2 : a = n
        · subst h2
          simp
          constructor
          · rintro (h | ⟨h, h'⟩)
            · exact .inl h
            · exact .inr ⟨.inr h, h'⟩
          · rintro (h | ⟨h | h, h'⟩)
            · exact .inl h
            · exact absurd h h'
            · exact .inr ⟨h, h'⟩
        · simp [h1, h2]
          constructor
          · rintro ((h | h) | ⟨h, h'⟩)
            · exact .inl h
            · exact .inr ⟨.inl h, by rw [h]; exact h2⟩
            · exact .inr ⟨.inr h, h'⟩
          · rintro (h | ⟨h | h, h'⟩)
            · exact .inl (.inl h)
            · exact .inl (.inr h)
            · exact .inr ⟨h, h'⟩
      · have h2 : ¬ a = n := by omega
        simp [h1, h2]
        constructor
        · rintro (h | h | ⟨h, h'⟩)
          · exact .inr ⟨.inl h, by rw [h]; exact h2⟩
          · exact .inl h
          · exact .inr ⟨.inr h, h'⟩
        · rintro (h | ⟨h | h, h'⟩)
          · exact .inr (.inl h)
          · exact .inl h
          · exact .inr (.inr ⟨h, h'⟩)
    · by_cases h2 : a = n
      · subst h2
        simp
        exact fun h h' => absurd h' h
      · simp [h2]
        constructor
        · rintro (h | ⟨h, h'⟩)
          · exact ⟨.inl h, by rw [h]; exact h2⟩
          · exact ⟨.inr h, h'⟩
        · rintro ⟨h | h, h'⟩
          · exact .inl h
          · exact .inr ⟨h, h'⟩
theorem wth_inc (n : Int) : ∀ (zs : List Int) (d : Bool), Inc zs → Inc (wth n d zs)
  | [], d, _ => by cases d <;> simp [wth, Inc]
  | a :: r, d, h => by
    obtain ⟨ha, hr⟩ := List.pairwise_cons.1 h
    have ihT := wth_inc n r true hr
    have ihF := wth_inc n r false hr
    rw [wth]
    cases d
    · by_cases h1 : n ≤ a
      · by_cases h2 : a = n
        · simp only [h2, Int.le_refl, and_self, if_true, List.append_nil, List.singleton_append, decide_true, Bool.or_true]
          refine List.pairwise_cons.2 ⟨fun x hx => ?_, ihT⟩
          rcases (wth_mem n r true x).1 hx with ⟨_, h⟩ | ⟨hx, _⟩
          · cases h
          · have := ha x hx; omega
        · simp only [h1, h2, and_self, if_true, if_false, List.cons_append, List.nil_append, decide_true, Bool.or_true]
          refine List.pairwise_cons.2 ⟨fun x hx => ?_, List.pairwise_cons.2 ⟨fun x hx => ?_, ihT⟩⟩
          · rcases List.mem_cons.1 hx with rfl | hx
            · omega
            · rcases (wth_mem n r true x).1 hx with ⟨_, h⟩ | ⟨hx, _⟩
              · cases h
              · have := ha x hx; omega
          · rcases (wth_mem n r true x).1 hx with ⟨_, h⟩ | ⟨hx, _⟩
            · cases h
            · exact ha x hx
      · have h2 : ¬ a = n := by omega
        have h3 : ¬ (false = false ∧ n ≤ a) := fun h => h1 h.2
        rw [if_neg h3, if_neg h2, show (false || decide (n ≤ a)) = false from by simp [h1]]
        simp only [List.nil_append, List.singleton_append]
        refine List.pairwise_cons.2 ⟨fun x hx => ?_, ihF⟩
        rcases (wth_mem n r false x).1 hx with ⟨h, _⟩ | ⟨hx, _⟩
        · omega
        · exact ha x hx
    · by_cases h2 : a = n
      · rw [if_neg (fun h => by cases h.1), if_pos h2]
        exact ihT
      · rw [if_neg (fun h => by cases h.1), if_neg h2]
        simp only [List.nil_append, List.singleton_append, Bool.true_or]
        refine List.pairwise_cons.2 ⟨fun x hx => ?_, ihT⟩
        rcases (wth_mem n r true x).1 hx with ⟨_, h⟩ | ⟨hx, _⟩
        · cases h
        · exact ha x hx
/-- two lists in order, each once, of the same members are one -/
theorem inc_eq : ∀ {l m : List Int}, Inc l → Inc m → (∀ x, x ∈ l ↔ x ∈ m) → l = m
  | [], [], _, _, _ => rfl
  | [], b :: m, _, _, h => absurd ((h b).2 (by simp)) (by simp)
  | a :: l, [], _, _, h => absurd ((h a).1 (by simp)) (by simp)
  | a :: l, b :: m, hl, hm, h => by
    obtain ⟨ha, hl'⟩ := List.pairwise_cons.1 hl
    obtain ⟨hb, hm'⟩ := List.pairwise_cons.1 hm
    have e : a = b := by
      have h1 := (h a).1 (by simp)
      have h2 := (h b).2 (by simp)
      rcases List.mem_cons.1 h1 with h1 | h1
      · exact h1
      · rcases List.mem_cons.1 h2 with h2 | h2
        · exact h2.symm
        · have := ha b h2; have := hb a h1; omega
    subst e
    rw [inc_eq hl' hm' fun x => ?_]
    constructor
    · intro hx
      rcases List.mem_cons.1 ((h x).1 (List.mem_cons_of_mem _ hx)) with e | h'
      · have := ha x hx; omega
      · exact h'
    · intro hx
      rcases List.mem_cons.1 ((h x).2 (List.mem_cons_of_mem _ hx)) with e | h'
      · have := hb x hx; omega
      · exact h'
end Go.Proofs.YthpndgcaoeokeaaGreatDoor
namespace Go.Proofs.YthpndgcaoeokeaaGreatDoor

/-- a text as bytes -/
def ba (l : List UInt8) : ByteArray := ⟨l.toArray⟩
/-- is a part of a rule as it must be? -/
def partOk (k : Nat) (v : List UInt8) : Bool := match k with
  | 0 => decide (0 < frq v)
  | 1 => decide (0 < sgn v 100)
  | 2 => decide (0 < sgn v 1000)
  | 3 => timeB (ba v)
  | 4 => (listF (ba v) 12 false).isSome
  | 5 => (listF (ba v) 31 true).isSome
  | 6 => (daysF (ba v)).isSome
  | 7 => (listF (ba v) 366 true).isSome
  | 8 => decide (0 ≤ wdI v)
  | _ => false
def has (f : Nat → Option (List UInt8)) (k : Nat) : Bool := (f k).isSome
/-- has BYDAY an ordinal? -/
def ordinals (f : Nat → Option (List UInt8)) : Bool := match f 6 with
  | none => false
  | some v => match daysF (ba v) with
    | none => false
    | some q => q.2.any fun o => decide (o ≠ 0)
def freqOf (f : Nat → Option (List UInt8)) : Int := match f 0 with | none => 0 | some v => frq v
/-- do a rule's parts agree? -/
def agree (f : Nat → Option (List UInt8)) : Bool :=
  has f 0 && !(has f 2 && has f 3) && !(has f 5 && decide (freqOf f = 2)) && !(ordinals f && (decide (freqOf f < 3) || has f 5)) && (!has f 7 || has f 4 || has f 5 || has f 6)
def eachOk (f : Nat → Option (List UInt8)) : Bool := (List.range 9).all fun k => match f k with | none => true | some v => partOk k v
/-- the pieces of a text, as bytes -/
def piecesL (c : UInt8) (s : List UInt8) : List (List UInt8) := (splitF (ba s) c.toNat).map (·.data.toList)
/-- a rule's parts, if it is one -/
def ruleF (s : List UInt8) : Option (Nat → Option (List UInt8)) := match flds partNames 61 (piecesL 59 s) (fun _ => none) with
  | none => none
  | some f => if eachOk f && agree f then some f else none
/-- a rule as it is printed -/
def ruleText (f : Nat → Option (List UInt8)) : List UInt8 :=
  (((List.range 9).filterMap fun k => (f k).map fun v => partNames.getD k [] ++ 61 :: v).filter fun t => decide (t ≠ [73, 78, 84, 69, 82, 86, 65, 76, 61, 49]) && decide (t ≠ [87, 75, 83, 84, 61, 77, 79])).intersperse [59] |>.flatten
end Go.Proofs.YthpndgcaoeokeaaGreatDoor
