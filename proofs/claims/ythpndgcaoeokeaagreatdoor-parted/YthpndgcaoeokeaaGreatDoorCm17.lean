/- Iterators that give a list of elements: what the loop and the iterator promise each other; the law for the loop; a panic within a round. Of no program. The days of a span (the program's), as an iterator. Loops over iterators that give lists: the law for the walk; lists of a loop's own that grow. Of no program. -/
import Derived.Test.YthpndgcaoeokeaaGreatDoorCm16
import Derived.RangeFuncLeaves
import Derived.Sort.LoopGhostIn
import Derived.TacticsIn
import Derived.RegionIn
import Derived.Maps.OwnIn
import Derived.OwnWalkIn
namespace Go.Proofs.YthpndgcaoeokeaaGreatDoor
open Go.RowKit

/-! ### A panic within a round -/
def roundPostP (P : Program) (l : Nat) (R : Ending → World → Prop) : Exit → Act → World → Prop
  | .normal, _, w => ∃ v w', (Instr.endRound l none).run P w = .ok v w' ∧ R (.returned v) w'
  | .ret, _, w => ∃ v w', (Instr.endRound l (some .ret)).run P w = .ok v w' ∧ R (.returned v) w'
  | .exit id, _, w => ∃ v w', (Instr.endRound l (some (.exit id))).run P w = .ok v w' ∧ R (.returned v) w'
  | .goto t, _, w => ∃ v w', (Instr.endRound l (some (.goto t))).run P w = .ok v w' ∧ R (.returned v) w'
  | .panic c, a, w => a.defers = [] ∧ R (.panicked c) w
  | .outgrown, _, _ => False

theorem roundIn_of_wpInP {F : Fence} {n : Nat} {P : Program} {l : Nat} {f : FuncId} {fn : Func} {tmps : Array Value} {assign body : Code} {w : World} {R : Ending → World → Prop} (hF : F.fn f) (hfn : P.funcs[f]? = some fn)
    (h : assign.wpIn (F.inRound l) n P (Exit.then (fun a₁ w₁ => ∃ w₂, (Instr.beginRound l).run P w₁ = .ok () w₂ ∧ body.wpIn (F.inRound l) n P (roundPostP P l R) a₁ w₂) (fun _ _ _ => False))
      { tmps := tmps, defers := [] } w) :
    RoundIn F n P l f tmps assign body w R := by
  refine ⟨hF, fun c cs hr => ?_⟩
  let b : Frame := { (default : Frame) with fn := f, kind := .normal, roundOf := some l }
  have hb0 : Frame.round l f tmps assign body .normal = b.atR { tmps := tmps, defers := [] } [.code assign, .beginRound, .code body] := by
    simp [Frame.round, Frame.atR, b]
  have hr' : (F.inRound l).room ((c :: cs).length + 1 + n) := hr
  have hF' : (F.inRound l).fn b.fn := hF
  obtain ⟨e, a₁, w₁, hq, harr⟩ := h b [.beginRound, .code body] (c :: cs) rfl hF' hr'
  rw [← hb0] at harr
  cases e with
  | normal =>
    obtain ⟨w₂, hbr, hbody⟩ := hq
    have s1 : StepsIn (Machine.fenced P (F.inRound l)) P (lone (b.atR a₁ [.beginRound, .code body]) (c :: cs) w₁) (lone (b.atR a₁ [.code body]) (c :: cs) w₂) :=
      .one (fenced_calm (fr := b.atR a₁ [.beginRound, .code body]) hF' hr' rfl) (stepR_beginRound rfl hbr)
    obtain ⟨e₂, a₂, w₃, hq₂, harr₂⟩ := hbody b [] (c :: cs) rfl hF' hr'
    cases e₂ with
    | normal =>
      obtain ⟨v, w₄, hend, hR⟩ := hq₂
      exact ⟨.returned v, w₄, hR, (StepsIn.trans harr s1).trans (StepsIn.trans harr₂ (.one (fenced_calm (fr := b.atR a₂ []) hF' hr' rfl) (stepR_round_end rfl rfl hend)))⟩
    | ret =>
      obtain ⟨v, w₄, hend, hR⟩ := hq₂
      obtain ⟨k₁, hs⟩ := harr₂.2 rfl
      exact ⟨.returned v, w₄, hR, (StepsIn.trans harr s1).trans (StepsIn.trans hs (.one (fenced_calm (fr := b.atR a₂ (.code .ret :: k₁)) hF' hr' rfl) (stepR_round_ret rfl rfl hend)))⟩
    | exit id =>
      obtain ⟨v, w₄, hend, hR⟩ := hq₂
      obtain ⟨k₁, hk, hs⟩ := harr₂.2 rfl rfl
      exact ⟨.returned v, w₄, hR, (StepsIn.trans harr s1).trans (StepsIn.trans hs (.one (fenced_calm (fr := b.atR a₂ (.code (.exit id) :: k₁)) hF' hr' rfl) (stepR_round_exit rfl rfl hk hend)))⟩
    | goto t =>
      obtain ⟨v, w₄, hend, hR⟩ := hq₂
      obtain ⟨k₁, hk, hs⟩ := harr₂.2 rfl rfl
      exact ⟨.returned v, w₄, hR, (StepsIn.trans harr s1).trans (StepsIn.trans hs (.one (fenced_calm (fr := b.atR a₂ (.code (.goto t) :: k₁)) hF' hr' rfl) (stepR_round_goto rfl rfl hk hend)))⟩
    | panic chain =>
      obtain ⟨hd, hR⟩ := hq₂
      obtain ⟨todo, hs⟩ := harr₂
      have hl : ({ b.atR a₂ todo with mode := .panicking chain } : Frame).leaving P w₃ (.panicked chain) := ⟨rfl, hd, fn, hfn⟩
      have hfe : (lone { b.atR a₂ todo with mode := .panicking chain } (c :: cs) w₃).fenced P (F.inRound l) := fenced_leaving hF' hr' hl
      exact ⟨.panicked chain, w₃, hR, (StepsIn.trans harr s1).trans (StepsIn.trans hs (.one hfe (step_leave_panicked hl)))⟩
    | outgrown => exact hq₂.elim
  | exit id => exact hq.elim
  | goto t => exact hq.elim
  | ret => exact hq.elim
  | panic chain => exact hq.elim
  | outgrown => exact hq.elim

/-! ### What is held, and by which blocks -/
abbrev Blocks := Nat → Prop
abbrev Says := Blocks → World → Prop

/-- J is said of the blocks D and of the world, and leans on D alone -/
def On (D : Blocks) (J : Says) (W : World) : Prop := (∀ k, D k → k < W.heap.size) ∧ HoldAt D (J D) W
theorem On.out {D : Blocks} {J : Says} {W : World} (h : On D J W) : J D W := h.2.out
theorem On.on {D : Blocks} {J : Says} {W W' : World} (h : On D J W) (hk : ∀ k, D k → W'.heap[k]? = W.heap[k]?) : On D J W' :=
  ⟨fun k hd => lt_of_same (h.1 k hd) (hk k hd), h.2.on hk⟩
theorem On.below {D : Blocks} {J : Says} {W W' : World} (h : On D J W) (hb : Below W.heap.size W W') : On D J W' := h.on fun k hd => hb.block k (h.1 k hd)
theorem On.put {D : Blocks} {J : Says} {W : World} (h : On D J W) {r : Nat} (hr : ¬ D r) (o : Obj) : On D J (W.putObj r o) :=
  h.on fun _ hd => World.putObj_heap_other (fun e => hr (e ▸ hd))
theorem On.alloc {D : Blocks} {J : Says} {W : World} (h : On D J W) (o : Obj) : On D J (W.alloc o) := h.on fun k hd => Below.heap_alloc _ _ _ (h.1 k hd)
theorem On.imp {D : Blocks} {J J' : Says} {W : World} (h : On D J W) (hj : ∀ w, J D w → J' D w) : On D J' W := ⟨h.1, fun W2 hk => hj _ (h.2 W2 hk)⟩

/-- how something ends that may turn the blocks of O and lay new ones from N on: the blocks D that it leaves, and what is said of them -/
def PostL (O : Blocks) (N : Nat) (J : Says) (W W' : World) : Prop :=
  Exc O W W' ∧ ∃ D : Blocks, (∀ k, D k → O k ∨ N ≤ k) ∧ (∀ k, O k → D k) ∧ On D J W'

theorem PostL.imp {O : Blocks} {N : Nat} {J J' : Says} {W W' : World} (h : PostL O N J W W') (hj : ∀ D w, J D w → J' D w) : PostL O N J' W W' := by
  obtain ⟨x, D, d1, d2, d3⟩ := h
  exact ⟨x, D, d1, d2, d3.imp (hj D)⟩

/-- an iterator's word: it calls yield with each of xs in turn, till one says false; it reads the blocks of R; the loop's own blocks are those of O at first -/
def ItL (P : Program) (g : Nat) (lb : Array Value) (xs : List (Array Value)) (R : Blocks) (w : World) : Prop :=
  ∀ (l : Nat) (W : World) (O : Blocks) (J : Nat → Says) (Js : Says) (Jp : List PanicEntry → Says),
    w.heap.size ≤ W.heap.size → (∀ k, R k → W.heap[k]? = w.heap[k]?) → (∀ k, O k → ¬ R k) → On O (J 0) W →
    (∀ i x, xs[i]? = some x → ∀ (W1 : World) (D : Blocks), Exc O W W1 → (∀ k, D k → O k ∨ W.heap.size ≤ k) → (∀ k, O k → D k) → On D (J i) W1 →
      YieldAt Fence.wide 0 P l x W1 fun e W' =>
        (e = .returned (.bool true) ∧ PostL D W1.heap.size (J (i + 1)) W1 W') ∨ (e = .returned (.bool false) ∧ PostL D W1.heap.size Js W1 W') ∨ (∃ c, e = .panicked c ∧ PostL D W1.heap.size (Jp c) W1 W')) →
    CallsIn Fence.wide 0 P g (#[.func (.yield l) #[] #[]] ++ lb) W fun e W' =>
      ((∃ v, e = .returned v) ∧ (PostL O W.heap.size (J xs.length) W W' ∨ PostL O W.heap.size Js W W')) ∨ (∃ c, e = .panicked c ∧ PostL O W.heap.size (Jp c) W W')

/-- what is asked at the end of a round's body -/
def bodyL (D : Blocks) (J : Says) (Jx : Code → Says) (Jp : List PanicEntry → Says) (W : World) : Exit → Act → World → Prop
  | .normal, _, W' => PostL D W.heap.size J W W'
  | .ret, _, W' => PostL D W.heap.size (Jx .ret) W W'
  | .exit id, _, W' => PostL D W.heap.size (Jx (.exit id)) W W'
  | .goto t, _, W' => PostL D W.heap.size (Jx (.goto t)) W W'
  | .panic c, a, W' => a.defers = [] ∧ PostL D W.heap.size (Jp c) W W'
  | .outgrown, _, _ => False

/-! ### Code in a frame of a function that is known -/
def wpF (f : FuncId) (P : Program) (c : Code) (Q : Exit → Act → World → Prop) (a : Act) (w : World) : Prop :=
  ∀ (b : Frame) (k : List Item) (cs : List Frame), b.roundOf = none → b.fn = f →
    ∃ e a' w', Q e a' w' ∧ ArrivesIn (Machine.fenced P Fence.wide) P (lone (b.atR a (.code c :: k)) cs w) b k cs e a' w'

section wpF
variable {f : FuncId} {P : Program} {Q : Exit → Act → World → Prop} {a : Act} {w : World}

theorem wpF_of {c : Code} (h : c.wpIn Fence.wide 0 P Q a w) : wpF f P c Q a w := fun b k cs hro _ => h b k cs hro trivial (room_wide _)

theorem wpF_seq {x y : Code} (h : ∀ K : Act → World → Prop, (∀ a w, wpF f P y Q a w → K a w) → wpF f P x (Exit.then K Q) a w) : wpF f P (Code.seq x y) Q a w := by
  intro b k cs hro hb
  have h0 : (lone (b.atR a (.code (.seq x y) :: k)) cs w).fenced P Fence.wide := fenced_wide _ _
  obtain ⟨e, a₁, w₁, hq, harr⟩ := h (wpF f P y Q) (fun _ _ h => h) b (.code y :: k) cs hro hb
  cases e with
  | normal =>
    obtain ⟨e₂, a₂, w₂, hq₂, harr₂⟩ := hq b k cs hro hb
    exact ⟨e₂, a₂, w₂, hq₂, .of_steps (.head h0 stepR_seq harr) harr₂⟩
  | exit id => exact ⟨_, a₁, w₁, hq, .of_steps (.one h0 stepR_seq) (.pass (x := .code y) rfl (fun _ _ => .inl (by simp)) harr)⟩
  | goto l => exact ⟨_, a₁, w₁, hq, .of_steps (.one h0 stepR_seq) (.pass (x := .code y) rfl (fun _ _ => .inl (by simp)) harr)⟩
  | ret => exact ⟨_, a₁, w₁, hq, .of_steps (.one h0 stepR_seq) (.pass (x := .code y) rfl (fun _ _ => .inl (by simp)) harr)⟩
  | panic ch => exact ⟨_, a₁, w₁, hq, .of_steps (.one h0 stepR_seq) (.pass (x := .code y) rfl (fun _ _ => .inl (by simp)) harr)⟩
  | outgrown => exact ⟨_, a₁, w₁, hq, .of_steps (.one h0 stepR_seq) (.pass (x := .code y) rfl (fun _ _ => .inl (by simp)) harr)⟩

theorem wpF_block {id : Nat} {c : Code} (h : wpF f P c (Exit.inBlock id Q) a w) : wpF f P (Code.block id c) Q a w := by
  intro b k cs hro hb
  have hf0 : ∀ m, Machine.fenced P Fence.wide m := fun m => fenced_wide _ m
  obtain ⟨e, a₁, w₁, hq, harr⟩ := h b (.inBlock id :: k) cs hro hb
  cases e with
  | normal => exact ⟨.normal, a₁, w₁, hq, .head (hf0 _) stepR_block (StepsIn.trans harr (.one (hf0 _) stepR_inBlock))⟩
  | exit id' =>
    by_cases hid : id' = id
    · simp only [Exit.inBlock, hid, if_true] at hq
      exact ⟨.normal, a₁, w₁, hq, .head (hf0 _) stepR_block (harr.1 k (by simp [exitTo, hid]))⟩
    · simp only [Exit.inBlock, hid, if_false] at hq
      have this : (id == id') = false := by simp; exact fun h => hid h.symm
      have hx : exitTo id' (.inBlock id :: k) = exitTo id' k := by simp [exitTo, this]
      exact ⟨.exit id', a₁, w₁, hq, fun k' hk => .head (hf0 _) stepR_block (harr.1 k' (by rw [hx]; exact hk)),
        fun hr' hk => by rw [hro] at hr'; cases hr'⟩
  | goto l =>
    have hx : gotoIn l (.inBlock id :: k) = gotoIn l k := by simp [gotoIn]
    exact ⟨_, a₁, w₁, hq, fun k' hk => .head (hf0 _) stepR_block (harr.1 k' (by rw [hx]; exact hk)),
      fun hr' hk => by rw [hro] at hr'; cases hr'⟩
  | ret => exact ⟨_, a₁, w₁, hq, .of_steps (.one (hf0 _) stepR_block) harr⟩
  | panic ch => exact ⟨_, a₁, w₁, hq, .of_steps (.one (hf0 _) stepR_block) harr⟩
  | outgrown => exact ⟨_, a₁, w₁, hq, .of_steps (.one (hf0 _) stepR_block) harr⟩

theorem wpF_range {g : Operand} {ps : Array Tmp} {assign body : Code}
    (h : ∃ (l : Nat) (mark : List Deferred) (w₁ : World) (d : Deferred) (w₁' : World) (f' : FuncId) (args : Array Value) (w₂ : World),
      (Instr.enterLoop f a.tmps ps assign body none).run P w = .ok (l, mark) w₁ ∧
      (resolve a.eval (rangeCall g l) 0).run P w₁ = .ok d w₁' ∧
      (invoke d.target d.args).run P w₁' = .ok (.enter f' args) w₂ ∧
      CallsIn Fence.wide 0 P f' args w₂ (rangePost Fence.wide 0 P l Q { a with defers := mark ++ a.defers })) :
    wpF f P (Code.rangeFunc g ps assign body) Q a w := by
  intro b k cs hro hb
  have hf0 : ∀ m, Machine.fenced P Fence.wide m := fun m => fenced_wide _ m
  obtain ⟨l, mark, w₁, d, w₁', f', args, w₂, he, hres, hinv, hF, hcall⟩ := h
  rw [← hb, ← hro] at he
  have henter := stepR_rangeFunc (P := P) (b := b) (a := a) (k := k) (cs := cs) (w := w) he hres hinv
  obtain ⟨e, w₃, fr, hR, hsteps, hfn, hleave⟩ := hcall (b.atR { a with defers := mark ++ a.defers } (.inRangeFunc l :: k) :: cs) (room_wide _)
  cases e with
  | outgrown =>
    obtain ⟨a₀, w₀, hq⟩ := hR
    exact ⟨.outgrown, a₀, w₀, hq, .inr (Outgrown.of_steps (.one henter) hsteps)⟩
  | returned v =>
    obtain ⟨jump, w₄, hend, hj⟩ := hR
    have sback : StepsIn (Machine.fenced P Fence.wide) P (lone (b.atR a (.code (.rangeFunc g ps assign body) :: k)) cs w) (lone (b.atR { a with defers := mark ++ a.defers } ((jump.map Item.code).toList ++ k)) cs w₄) := by
      refine .head (hf0 _) henter (StepsIn.trans hsteps (.head (hf0 _) ?_ (.one (hf0 _) (stepR_endRangeFunc hend))))
      rw [← finish_atR_inRangeFunc l v]; exact step_leave_returned hleave
    cases jump with
    | none => exact ⟨.normal, _, w₄, hj, sback⟩
    | some c =>
      obtain ⟨e', a'', w₅, hq, harr⟩ := hj b k cs hro trivial (room_wide _)
      exact ⟨e', a'', w₅, hq, .of_steps sback harr⟩
  | panicked chain =>
    refine ⟨.panic chain, _, w₃, hR, .inRangeFunc l :: k, .head (hf0 _) henter (StepsIn.trans hsteps (.one (hf0 _) ?_))⟩
    rw [← Frame.raise_atR]; exact step_leave_panicked hleave

/-- a function's contract from its body -/
theorem callsIn_of_wpF {fn : Func} {c : Code} {args : Array Value} {R : Ending → World → Prop} (hf : P.funcs[f]? = some fn) (hb : fn.body = some c)
    (h : wpF f P c (bodyPostM Fence.wide 0 P fn R) { tmps := args ++ Array.replicate (fn.ntmps - args.size) undef, defers := [] } w) : CallsIn Fence.wide 0 P f args w R := by
  refine ⟨trivial, fun cs hr => ?_⟩
  have hF : Fence.wide.fn f := trivial
  have hf0 : ∀ m, Machine.fenced P Fence.wide m := fun m => fenced_wide _ m
  let b : Frame := { (default : Frame) with fn := f, kind := .normal, roundOf := none }
  have henter : Frame.enter P f args .normal =
      b.atR { tmps := args ++ Array.replicate (fn.ntmps - args.size) undef, defers := [] } [.code c] := by
    simp [Frame.enter, Frame.atR, hf, hb, b]
  obtain ⟨e, a', w', hq, harr⟩ := h b [] cs rfl rfl
  rw [← henter] at harr
  cases e with
  | normal =>
    obtain ⟨e', w'', fr', hR, hs, hfn, hl⟩ := leaves_stepsInM a'.defers .returning w' { b.atR a' [] with mode := .returning } cs rfl rfl rfl hf rfl hF hr hq
    exact ⟨e', w'', fr', hR, ComesIn.of_steps (StepsIn.trans harr (.one (hf0 _) (stepR_end rfl))) hs, hfn, hl⟩
  | ret =>
    obtain ⟨todo, hs₀⟩ := harr.1 rfl
    obtain ⟨e', w'', fr', hR, hs, hfn, hl⟩ := leaves_stepsInM a'.defers .returning w' { b.atR a' todo with mode := .returning } cs rfl rfl rfl hf rfl hF hr hq
    exact ⟨e', w'', fr', hR, ComesIn.of_steps hs₀ hs, hfn, hl⟩
  | panic chain =>
    obtain ⟨todo, hs₀⟩ := harr
    obtain ⟨e', w'', fr', hR, hs, hfn, hl⟩ := leaves_stepsInM a'.defers (.panicking chain) w' { b.atR a' todo with mode := .panicking chain } cs rfl rfl rfl hf rfl hF hr hq
    exact ⟨e', w'', fr', hR, ComesIn.of_steps hs₀ hs, hfn, hl⟩
  | exit id => exact hq.elim
  | goto l => exact hq.elim
  | outgrown => exact ⟨.outgrown, w', b, hq, harr.resolve_left (by simp [b]), rfl, trivial⟩
end wpF

/-- the loop over an iterator that gives a list -/
theorem range_list {f : FuncId} {fnc : Func} {P : Program} (hfnc : P.funcs[f]? = some fnc) {g : Operand} {ps : Array Tmp} {assign body : Code} {Q : Exit → Act → World → Prop} {a : Act} {w : World}
    {gf : Nat} {lb : Array Value} {xs : List (Array Value)} (hg : a.eval g = .func (.func gf) #[] lb) (eg : ∀ args w, (callFunc gf args).run P w = .ok (.enter gf args) w)
    {R : Blocks} {w0 : World} (hit : ItL P gf lb xs R w0) (hws : w0.heap.size ≤ w.heap.size) (hwR : ∀ k, R k → w.heap[k]? = w0.heap[k]?) (hRw : ∀ k, R k → k < w.heap.size)
    (O : Blocks) (hO : ∀ k, O k → ¬ R k) (J : Nat → Says) (Jx : Code → Says) (Jp : List PanicEntry → Says) (B : Nat → Act → Says) (hps : ∀ x ∈ xs, x.size = ps.size) (h0 : On O (J 0) w)
    (hassign : ∀ (l : Nat) (i : Nat) (x : Array Value), xs[i]? = some x → ∀ (W : World) (D : Blocks), Exc O w W → w.heap.size + 2 ≤ W.heap.size → (∀ k, O k → D k) → On D (J i) W →
      ∀ K : Act → World → Prop, (∀ a1 W1 D1, Below W.heap.size W W1 → (∀ k, D1 k → D k ∨ W.heap.size ≤ k) → (∀ k, D k → D1 k) → On D1 (B i a1) W1 → K a1 W1) →
      assign.wpIn (Fence.wide.inRound l) 0 P (Exit.then K (fun _ _ _ => False)) { tmps := (ps.zip x).foldl (fun t (p, v) => t.setIfInBounds p v) a.tmps, defers := [] } W)
    (hbody : ∀ (l : Nat) (i : Nat) (x : Array Value), xs[i]? = some x → ∀ (a1 : Act) (W : World) (D : Blocks), Exc O w W → w.heap.size + 2 ≤ W.heap.size → (∀ k, O k → D k) → On D (B i a1) W →
      body.wpIn (Fence.wide.inRound l) 0 P (bodyL D (J (i + 1)) Jx Jp W) a1 W)
    (hdone : ∀ (W : World), PostL O (w.heap.size + 2) (J xs.length) w W → w.heap.size + 2 ≤ W.heap.size → W.heap[w.heap.size]? = some (.deferred (some [])) → Q .normal { a with defers := { target := .collected w.heap.size, args := #[] } :: a.defers } W)
    (hstop : ∀ (c : Code) (W : World), PostL O (w.heap.size + 2) (Jx c) w W → w.heap.size + 2 ≤ W.heap.size → W.heap[w.heap.size]? = some (.deferred (some [])) → c.wpIn Fence.wide 0 P Q { a with defers := { target := .collected w.heap.size, args := #[] } :: a.defers } W)
    (hpan : ∀ (c : List PanicEntry) (W : World), PostL O (w.heap.size + 2) (Jp c) w W → w.heap.size + 2 ≤ W.heap.size → W.heap[w.heap.size]? = some (.deferred (some [])) → Q (.panic c) { a with defers := { target := .collected w.heap.size, args := #[] } :: a.defers } W) :
    wpF f P (Code.rangeFunc g ps assign body) Q a w := by
  refine wpF_range ?_
  obtain ⟨rec, hrec⟩ : ∃ rec : LoopState → Option Code → Loop, rec = fun st pe => { state := st, pending := pe, fn := f, tmps := a.tmps, params := ps, assign, body, defers := w.heap.size } := ⟨_, rfl⟩
  obtain ⟨W1, hW1⟩ : ∃ W1, (w.alloc (.deferred (some []))).alloc (.loop (rec .ready none)) = W1 := ⟨_, rfl⟩
  have hL1 : W1.heap[w.heap.size + 1]? = some (.loop (rec .ready none)) := by
    rw [← hW1]; have := World.alloc_heap_new (w.alloc (.deferred (some []))) (.loop (rec .ready none)); rwa [World.size_alloc] at this
  have hK1 : W1.heap[w.heap.size]? = some (.deferred (some [])) := by
    rw [← hW1]; exact (Below.heap_alloc _ _ _ (by simp)).trans (World.alloc_heap_new w _)
  have hS1 : W1.heap.size = w.heap.size + 2 := by rw [← hW1]; simp
  have hB1 : Below w.heap.size w W1 := by
    rw [← hW1]; exact ((Below.refl _ w).alloc (Nat.le_refl _) _).alloc (by simp) _
  refine ⟨w.heap.size + 1, [{ target := .collected w.heap.size, args := #[] }], W1, { target := .fn (.func gf) lb, args := #[.func (.yield (w.heap.size + 1)) #[] #[]] }, W1, gf,
    #[.func (.yield (w.heap.size + 1)) #[] #[]] ++ lb, W1, ?_, ?_, ?_, ?_⟩
  · rw [← hW1, hrec]; exact run_enterLoop_outer _ _ _ _ _
  · simp only [resolve, hg]
    simp [go_sem]
  · simp [invoke, go_sem, eg]
  · -- the loop's word is given to the iterator with the record beside it
    have nOl : ¬ O (w.heap.size + 1) := fun h => by have := h0.1 _ h; omega
    have nOd : ¬ O w.heap.size := fun h => by have := h0.1 _ h; omega
    obtain ⟨L, hL⟩ : ∃ L : Says → LoopState → Option Code → Says, L = fun J st pe D W => (∃ D0 : Blocks, (∀ k, D k ↔ D0 k ∨ k = w.heap.size + 1) ∧ ¬ D0 (w.heap.size + 1) ∧ (∀ k, O k → D0 k) ∧ (∀ k, D0 k → O k ∨ w.heap.size + 2 ≤ k) ∧ On D0 J W) ∧ W.heap[w.heap.size + 1]? = some (.loop (rec st pe)) := ⟨_, rfl⟩
    -- making and taking it apart
    have mk : ∀ (J : Says) (st : LoopState) (pe : Option Code) (D0 : Blocks) (W : World), (∀ k, O k → D0 k) → (∀ k, D0 k → O k ∨ w.heap.size + 2 ≤ k) → On D0 J W → W.heap[w.heap.size + 1]? = some (.loop (rec st pe)) →
        On (fun k => D0 k ∨ k = w.heap.size + 1) (L J st pe) W := fun J st pe D0 W h1 h2 h3 h4 => by
      have n0 : ¬ D0 (w.heap.size + 1) := fun h => (h2 _ h).elim nOl (by omega)
      refine ⟨fun k hk => ?_, fun W2 hk => ?_⟩
      · rcases hk with hk | rfl
        · exact h3.1 k hk
        · exact (Array.getElem?_eq_some_iff.1 h4).1
      · rw [hL]
        exact ⟨⟨D0, fun k => Iff.rfl, n0, h1, h2, h3.on fun k hd => hk k (.inl hd)⟩, (hk _ (.inr rfl)).trans h4⟩
    refine (hit (w.heap.size + 1) W1 (fun k => O k ∨ k = w.heap.size + 1)
      (fun i => L (J i) .ready none) (fun D W => ∃ c, L (Jx c) .done (some c) D W) (fun c => L (Jp c) .busy none) (by omega) (fun k hk => (hB1.block k (hRw k hk)).trans (hwR k hk))
      (fun k hk => by
        rcases hk with hk | rfl
        · exact hO k hk
        · exact fun hr => by have := hRw _ hr; omega) (mk _ _ _ O W1 (fun _ h => h) (fun _ h => .inl h) (h0.below hB1) hL1) ?_).mono ?_
    · intro i x hx W D hexc hDO hOD hD
      obtain ⟨⟨D0, hDD, n0, hO0, h0O, hon⟩, hl⟩ := by have := hD.out; rw [hL] at this; exact this
      have hlt : w.heap.size + 1 < W.heap.size := (Array.getElem?_eq_some_iff.1 hl).1
      have hxw : Exc O w W := (Exc.of_below hB1).trans hexc (fun j hj => hj.elim .inl (fun e => .inr (by omega)))
      have hsw : w.heap.size + 2 ≤ W.heap.size := by have := hexc.size; omega
      have hy := run_yield (P := P) (args := x) hl (by rw [hrec]; exact hps x (List.mem_of_getElem? hx))
      rw [hrec] at hy
      refine ⟨f, _, assign, body, hy, roundIn_of_wpInP trivial hfnc (hassign _ i x hx W D0 hxw hsw hO0 hon _ ?_)⟩
      clear hy
      intro a1 W2 D1 hb2 h1D hD1 hon1
      have hl2 : W2.heap[w.heap.size + 1]? = some (.loop (rec .ready none)) := (hb2.block _ hlt).trans hl
      have hlt2 : w.heap.size + 1 < W2.heap.size := (Array.getElem?_eq_some_iff.1 hl2).1
      have n1 : ¬ D1 (w.heap.size + 1) := fun h => (h1D _ h).elim n0 (by omega)
      refine ⟨_, run_beginRound hl2 (by rw [hrec]), ?_⟩
      obtain ⟨W3, hW3⟩ : ∃ W3, W2.putObj (w.heap.size + 1) (.loop { rec .ready none with state := .busy }) = W3 := ⟨_, rfl⟩
      have hl3 : W3.heap[w.heap.size + 1]? = some (.loop { rec .ready none with state := .busy }) := by rw [← hW3]; exact World.putObj_heap_same hlt2
      have hs3 : W3.heap.size = W2.heap.size := by rw [← hW3]; simp
      have hon3 : On D1 (B i a1) W3 := by rw [← hW3]; exact hon1.put n1 _
      have hx3 : Exc D W W3 := by rw [← hW3]; exact (Exc.of_below hb2).put (.inl ((hDD _).2 (.inr rfl))) _
      have hxw3 : Exc O w W3 := by
        rw [← hW3]; exact ((hxw.trans1 (Exc.of_below hb2)).put (.inr (by omega)) _)
      rw [hW3]
      clear hW3
      refine wpIn_mono (hbody _ i x hx a1 W3 D1 hxw3 (by have := hb2.size; omega) (fun k hk => hD1 k (hO0 k hk)) hon3) ?_
      -- how a round ends
      have fin : ∀ (J' : Says) (W4 : World), PostL D1 W3.heap.size J' W3 W4 → W4.heap[w.heap.size + 1]? = some (.loop { rec .ready none with state := .busy }) ∧
          ∀ (o : Obj) (st : LoopState) (pe : Option Code), o = .loop (rec st pe) → PostL D W.heap.size (L J' st pe) W (W4.putObj (w.heap.size + 1) o) := fun J' W4 h4 => by
        obtain ⟨hx4, D2, d1, d2, d3⟩ := h4
        have hl4 := (hx4.block _ (by omega) n1).trans hl3
        have hlt4 : w.heap.size + 1 < W4.heap.size := (Array.getElem?_eq_some_iff.1 hl4).1
        have n2 : ¬ D2 (w.heap.size + 1) := fun h => (d1 _ h).elim n1 (by omega)
        refine ⟨hl4, fun o st pe ho => ⟨?_, fun k => D2 k ∨ k = w.heap.size + 1, fun k hk => ?_, fun k hk => ?_, ?_⟩⟩
        · refine (hx3.trans hx4 fun j hj => ?_).put (.inl ((hDD _).2 (.inr rfl))) _
          rcases h1D j hj with h | h
          · exact .inl ((hDD j).2 (.inl h))
          · exact .inr h
        · rcases hk with hk | rfl
          · rcases d1 k hk with h | h
            · rcases h1D k h with h | h
              · exact .inl ((hDD k).2 (.inl h))
              · exact .inr h
            · exact .inr (by have := hx3.size; omega)
          · exact .inl ((hDD _).2 (.inr rfl))
        · rcases (hDD k).1 hk with h | h
          · exact .inl (d2 k (hD1 k h))
          · exact .inr h
        · refine mk J' st pe D2 _ (fun k hk => d2 k (hD1 k (hO0 k hk))) (fun k hk => ?_) (d3.put n2 _) (by rw [World.putObj_heap_same hlt4, ho])
          rcases d1 k hk with h | h
          · rcases h1D k h with h | h
            · exact h0O k h
            · exact .inr (by omega)
          · exact .inr (by have := hx3.size; omega)
      rintro e a3 W4 hp
      cases e with
      | normal =>
        obtain ⟨hl4, h4⟩ := fin _ W4 hp
        have hr := run_endRound (P := P) none hl4
        exact ⟨_, _, hr, .inl ⟨rfl, h4 _ _ _ (by rw [hrec]; rfl)⟩⟩
      | ret =>
        obtain ⟨hl4, h4⟩ := fin _ W4 hp
        have hr := run_endRound (P := P) (some .ret) hl4
        exact ⟨_, _, hr, .inr (.inl ⟨rfl, (h4 _ .done (some .ret) (by rw [hrec]; rfl)).imp fun D w h => ⟨_, h⟩⟩)⟩
      | exit id =>
        obtain ⟨hl4, h4⟩ := fin _ W4 hp
        have hr := run_endRound (P := P) (some (.exit id)) hl4
        exact ⟨_, _, hr, .inr (.inl ⟨rfl, (h4 _ .done (some (.exit id)) (by rw [hrec]; rfl)).imp fun D w h => ⟨_, h⟩⟩)⟩
      | goto t =>
        obtain ⟨hl4, h4⟩ := fin _ W4 hp
        have hr := run_endRound (P := P) (some (.goto t)) hl4
        exact ⟨_, _, hr, .inr (.inl ⟨rfl, (h4 _ .done (some (.goto t)) (by rw [hrec]; rfl)).imp fun D w h => ⟨_, h⟩⟩)⟩
      | panic ch =>
        obtain ⟨hd, hp⟩ := hp
        obtain ⟨hl4, h4⟩ := fin _ W4 hp
        refine ⟨hd, .inr (.inr ⟨ch, rfl, ?_⟩)⟩
        have e4 : W4.putObj (w.heap.size + 1) (.loop { rec .ready none with state := .busy }) = W4 := by
          obtain ⟨hlt4, he⟩ := Array.getElem?_eq_some_iff.1 hl4
          have : W4.heap.setIfInBounds (w.heap.size + 1) (.loop { rec .ready none with state := .busy }) = W4.heap := by
            apply Array.ext_getElem?
            intro j
            rw [Array.getElem?_setIfInBounds]
            split
            · rename_i ej
              subst ej
              exact hl4.symm
            · rfl
          show { W4 with heap := _ } = W4
          rw [this]
        rw [← e4]
        exact h4 _ .busy none (by rw [hrec])
      | outgrown => exact hp.elim
    · -- the iterator has ended
      have back : ∀ (J' : Says) (st : LoopState) (pe : Option Code) (W2 : World), PostL (fun k => O k ∨ k = w.heap.size + 1) W1.heap.size (L J' st pe) W1 W2 →
          W2.heap[w.heap.size + 1]? = some (.loop (rec st pe)) ∧ PostL O (w.heap.size + 2) J' w W2 ∧ w.heap.size + 2 ≤ W2.heap.size ∧ W2.heap[w.heap.size]? = some (.deferred (some [])) ∧
          ∀ o, PostL O (w.heap.size + 2) J' w (W2.putObj (w.heap.size + 1) o) ∧ w.heap.size + 2 ≤ (W2.putObj (w.heap.size + 1) o).heap.size ∧ (W2.putObj (w.heap.size + 1) o).heap[w.heap.size]? = some (.deferred (some [])) := fun J' st pe W2 h2 => by
        obtain ⟨hx, D, d1, d2, d3⟩ := h2
        have h3 := d3.out
        rw [hL] at h3
        obtain ⟨⟨D0, hDD, n0, hO0, h0O, hon⟩, hl⟩ := h3
        have hs2 : w.heap.size + 2 ≤ W2.heap.size := by have := hx.size; omega
        have hd2 : W2.heap[w.heap.size]? = some (.deferred (some [])) := (hx.block _ (by omega) (fun h => h.elim nOd (by omega))).trans hK1
        have hxw : Exc O w W2 := (Exc.of_below hB1).trans hx (fun j hj => hj.elim .inl (fun e => .inr (by omega)))
        refine ⟨hl, ⟨hxw, D0, h0O, hO0, hon⟩, hs2, hd2, fun o => ⟨⟨hxw.put (.inr (by omega)) _, D0, h0O, hO0, hon.put n0 _⟩, by simpa using hs2, ?_⟩⟩
        rw [World.putObj_heap_other (by omega)]
        exact hd2
      rintro e W2 (⟨⟨v, rfl⟩, hp | hp⟩ | ⟨c, rfl, hp⟩)
      · obtain ⟨hl, _, _, _, h2⟩ := back _ _ _ W2 hp
        have he := run_endLoop (P := P) hl (by rw [hrec]; simp)
        obtain ⟨k1, k2, k3⟩ := h2 (.loop { rec .ready none with state := .exhausted })
        rw [hrec] at he k1 k2 k3
        refine ⟨none, _, he, ?_⟩
        exact hdone _ k1 k2 k3
      · obtain ⟨hx, D, d1, d2, d3⟩ := hp
        obtain ⟨c, hc⟩ := d3.out
        have hon : On D (L (Jx c) .done (some c)) W2 := by
          refine ⟨d3.1, fun W3 hk => ?_⟩
          have hc' := hc
          rw [hL] at hc' ⊢
          obtain ⟨⟨D0, hDD, n0, hO0, h0O, hon⟩, hl⟩ := hc'
          exact ⟨⟨D0, hDD, n0, hO0, h0O, hon.on fun k hd => hk k ((hDD k).2 (.inl hd))⟩, (hk _ ((hDD _).2 (.inr rfl))).trans hl⟩
        obtain ⟨hl, _, _, _, h2⟩ := back (Jx c) .done (some c) W2 ⟨hx, D, d1, d2, hon⟩
        have he := run_endLoop (P := P) hl (by rw [hrec]; simp)
        obtain ⟨k1, k2, k3⟩ := h2 (.loop { rec .done (some c) with state := .exhausted })
        rw [hrec] at he k1 k2 k3
        refine ⟨some c, _, he, ?_⟩
        exact hstop c _ k1 k2 k3
      · obtain ⟨hl, k1, k2, k3, _⟩ := back _ _ _ W2 hp
        exact hpan c W2 k1 k2 k3
end Go.Proofs.YthpndgcaoeokeaaGreatDoor
namespace Go.Proofs.YthpndgcaoeokeaaGreatDoor
open Go.RowKit Go.Sort
attribute [local go_sem] Oper.semAt_some

/-- the numbers from a on, n of them -/
def from' (a : Int) (n : Nat) : List Int := (List.range n).map fun (i : Nat) => a + i
theorem from_get (a : Int) (n i : Nat) (h : i < n) : (from' a n)[i]? = some (a + i) := by
  unfold from'; rw [List.getElem?_map, List.getElem?_range h]; rfl
theorem from_len (a : Int) (n : Nat) : (from' a n).length = n := by unfold from'; simp

theorem RowAt.keep {w w' : World} {g : Nat} {cs : List Value} {t : TypeId} (h : RowAt w g cs t) (e : w'.heap[g]? = w.heap[g]?) : RowAt w' g cs t := e.trans h

theorem On.set {D : Blocks} {J : Says} {W : World} (h : On D J W) {b o : Nat} (hb : ¬ D b) (v : Value) : On D J (W.setCell ⟨b, o, none⟩ v) :=
  h.on fun k hk => Below.heap_setCell _ _ _ _ (fun (e : k = b) => hb (e ▸ hk))

theorem eq_dn (a b : Int) (w : World) (ha : -700000 ≤ a) (hb : -700000 ≤ b) :
    (Op.equalIn 10000 106 (.agg #[.int .i64 (Cal.ofY a), .int .i64 (Cal.ofM a), .int .i64 (Cal.ofD a)]) (.agg #[.int .i64 (Cal.ofY b), .int .i64 (Cal.ofM b), .int .i64 (Cal.ofD b)])).run Tryz.prog w = .ok (decide (a = b)) w := by
  rw [eq_days]
  congr 1
  rw [Bool.eq_iff_iff]
  simp only [Bool.and_eq_true, beq_iff_eq, decide_eq_true_eq]
  constructor
  · rintro ⟨⟨h1, h2⟩, h3⟩
    exact dn_inj ha hb (by unfold dnV dayA; rw [h1, h2, h3])
  · rintro rfl; exact ⟨⟨rfl, rfl⟩, rfl⟩

def dayL (l : List Int) : List (Array Value) := l.map fun n => #[dnV n]
theorem dayL_len (l : List Int) : (dayL l).length = l.length := by unfold dayL; simp
theorem dayL_get {l : List Int} {i : Nat} {n : Int} (h : l[i]? = some n) : (dayL l)[i]? = some #[dnV n] := by unfold dayL; rw [List.getElem?_map, h]; rfl

set_option maxRecDepth 100000 in
set_option maxHeartbeats 8000000 in
theorem all_it (a : Int) (n : Nat) (g : Nat) (w : World) (h0 : -600000 ≤ a) (h1 : a + n ≤ 800000) (hr : RowAt w g (spanC a (a + n)) 370) :
    ItL Tryz.prog 361 #[.pointer (some ⟨g, 0, none⟩)] (dayL (from' a n)) (fun k => k = g) w := by
  intro l W O J Js Jp hsz hR hO h0J hY
  have hrW : RowAt W g (spanC a (a + n)) 370 := hr.keep (hR g rfl)
  have hlt := hrW.lt
  have hnO : ¬ O g := fun h => hO g h rfl
  rw [dayL_len, from_len]
  refine callsIn_of_wp Tryz.func361 rfl trivial ?_ rfl
  simp only [Tryz.ntmps361, List.size_toArray, List.length_cons, List.length_nil, Nat.reduceAdd, Nat.reduceSub, Array.replicate_succ, Array.replicate_zero, List.push_toArray, List.append_toArray, List.nil_append, List.cons_append]
  unfold spanC at hrW
  obtain ⟨⟨z0, z1, z2, z3, z4, z5⟩, y0, y1, y2, y3, y4, y5⟩ := cells6 hrW
  gi_wp2_with fail
  have rp := RowAt.new W [.int .i64 (Cal.ofY a), .int .i64 (Cal.ofM a), .int .i64 (Cal.ofD a)] 106
  have hbp : Below W.heap.size W (W.alloc (.cells #[.int .i64 (Cal.ofY a), .int .i64 (Cal.ofM a), .int .i64 (Cal.ofD a)] 106)) := (Below.refl _ _).alloc (Nat.le_refl _) _
  generalize (W.alloc (.cells #[.int .i64 (Cal.ofY a), .int .i64 (Cal.ofM a), .int .i64 (Cal.ofD a)] 106)) = W0 at *
  clear z0 z1 z2 z3 z4 z5 y0 y1 y2 y3 y4 y5
  gi_loopg [3] n (fun k p wr => ∃ (i b : Nat) (D : Blocks), i + k = n ∧ p = .pointer (some ⟨b, 0, none⟩) ∧ W.heap.size ≤ b ∧ Exc O W wr ∧ RowAt wr b [.int .i64 (Cal.ofY (a + i)), .int .i64 (Cal.ofM (a + i)), .int .i64 (Cal.ofD (a + i))] 106 ∧ ¬ D b ∧ (∀ k, D k → O k ∨ W.heap.size ≤ k) ∧ (∀ k, O k → D k) ∧ On D (J i) wr)
  case atStart =>
    exact ⟨0, W.heap.size, O, by omega, rfl, Nat.le_refl _, Exc.of_below hbp, by simpa using rp, fun h => by have := h0J.1 _ h; omega, fun _ h => .inl h, fun _ h => h, h0J.below hbp⟩
  case round =>
    obtain ⟨i, b, D, hik, rfl, hWb, hx, hb, hDb, hDO, hOD, hon⟩ := hrel
    have hg := hrW.exc hx hnO
    obtain ⟨⟨z0, z1, z2, z3, z4, z5⟩, y0, y1, y2, y3, y4, y5⟩ := cells6 hg
    obtain ⟨c0, c1, c2, _, _, _⟩ := cells3 hb
    have heq := eq_dn (a + i) (a + n) wr (by omega) (by omega)
    by_cases hin : i = n
    case pos =>
      subst hin
      simp only [decide_true] at heq
      gi_wp2_with fail
      go_end0
      exact .inl ⟨⟨_, rfl⟩, .inl ⟨hx, D, hDO, hOD, hon⟩⟩
    case neg =>
      rw [decide_eq_false (by omega)] at heq
      obtain ⟨f1, t1, a1, b1, hy1, hR1⟩ := hY i _ (dayL_get (from_get a n i (by omega))) wr D hx hDO hOD hon
      unfold dnV dayA at hy1
      gi_wp2_with fail
      refine ⟨rfl, hR1.mono ?_⟩
      clear hy1 hR1 heq z0 z1 z2 z3 z4 z5 y0 y1 y2 y3 y4 y5 c0 c1 c2
      rintro e W1 (⟨rfl, hx1, D1, d1, d2, hon1⟩ | ⟨rfl, hx1, D1, d1, d2, hon1⟩ | ⟨c, rfl, hx1, D1, d1, d2, hon1⟩)
      case inl =>
        have hb1 := hb.exc hx1 hDb
        have hD1b : ¬ D1 b := fun h => (d1 _ h).elim hDb (by have := hb.lt; omega)
        have hx1' : Exc O W W1 := hx.trans hx1 (fun j hj => hDO j hj)
        obtain ⟨c0, c1, c2, _, _, _⟩ := cells3 hb1
        gi_wp2_with fail
        refine ⟨trivial, rfl, ?_⟩
        have hnx := next_n (a + i) (W1.alloc (.cells #[.int .i64 (Cal.ofY (a + i)), .int .i64 (Cal.ofM (a + i)), .int .i64 (Cal.ofD (a + i))] 106)) (by omega) (by omega)
        unfold dnV dayA at hnx
        refine (callsIn_wide.2 hnx).mono ?_
        rintro e W2 ⟨rfl, hb2⟩
        clear c0 c1 c2
        have r2 := (RowAt.new W1 [.int .i64 (Cal.ofY (a + i)), .int .i64 (Cal.ofM (a + i)), .int .i64 (Cal.ofD (a + i))] 106).on hb2
        have hx2 : Exc O W W2 := (hx1'.alloc _).trans1 (Exc.of_below hb2)
        have hon2 := (hon1.alloc (.cells #[.int .i64 (Cal.ofY (a + i)), .int .i64 (Cal.ofM (a + i)), .int .i64 (Cal.ofD (a + i))] 106)).below hb2
        have hs1 := hx1'.size
        have hD2 : ¬ D1 W1.heap.size := fun h => by have := hon1.1 _ h; omega
        obtain ⟨c0, c1, c2, v0, v1, v2⟩ := cells3 r2
        gi_wp2_with fail
        gi_roundg (gk - 1)
        case measure => omega
        case rel =>
          refine ⟨i + 1, W1.heap.size, D1, by omega, rfl, by omega, ?_, ?_, hD2, ?_, fun k hk => d2 k (hOD k hk), ?_⟩
          · exact ((hx2.setCell (.inr (by simpa using hs1)) _).setCell (.inr (by simpa using hs1)) _).setCell (.inr (by simpa using hs1)) _
          · have := ((r2.set (k := 0) (.int .i64 (Cal.ofY (a + i + 1)))).set (k := 1) (.int .i64 (Cal.ofM (a + i + 1)))).set (k := 2) (.int .i64 (Cal.ofD (a + i + 1)))
            simpa [Int.add_assoc] using this
          · intro k hk
            rcases d1 k hk with h | h
            · exact hDO k h
            · exact .inr (by have := hx.size; omega)
          · exact ((hon2.set hD2 _).set hD2 _).set hD2 _
      case inr.inl =>
        gi_wp2_with fail
        refine bodyPost_ret (results_none rfl _ _ _) rfl ?_
        exact .inl ⟨⟨_, rfl⟩, .inr ⟨hx.trans hx1 (fun j hj => hDO j hj), D1, fun k hk => (d1 k hk).elim (hDO k) (fun h => .inr (by have := hx.size; omega)), fun k hk => d2 k (hOD k hk), hon1⟩⟩
      case inr.inr =>
        gi_wp2_with fail
        exact ⟨rfl, .inr ⟨c, rfl, hx.trans hx1 (fun j hj => hDO j hj), D1, fun k hk => (d1 k hk).elim (hDO k) (fun h => .inr (by have := hx.size; omega)), fun k hk => d2 k (hOD k hk), hon1⟩⟩

set_option maxHeartbeats 1000000 in
theorem all_n (a b : Int) (w : World) :
    Calls Tryz.prog 355 #[spanV a b] w fun e w' => e = .returned (.func (.func 361) #[] #[.pointer (some ⟨w.heap.size, 0, none⟩)]) ∧ w' = w.alloc (.cells (spanC a b).toArray 370) := by
  unfold spanV spanC
  go_enter Tryz.func355, Tryz.ntmps355
  go_wp2_with fail
  go_ret
  exact ⟨rfl, rfl⟩
end Go.Proofs.YthpndgcaoeokeaaGreatDoor
namespace Go.Proofs.YthpndgcaoeokeaaGreatDoor
open Go.RowKit

/-- what is known where a round's body begins: the blocks D1 are as they were behind the assignment -/
def BodyGo (P : Program) (O : Blocks) (w : World) (body : Code) (J : Says) (Jx : Code → Says) (Jp : List PanicEntry → Says) (a1 : Act) (D1 : Blocks) (W1 : World) : Prop :=
  ∀ (l : Nat) (W2 : World), (∀ k, D1 k → W2.heap[k]? = W1.heap[k]?) → Exc O w W2 → w.heap.size + 2 ≤ W2.heap.size → body.wpIn (Fence.wide.inRound l) 0 P (bodyL D1 J Jx Jp W2) a1 W2

theorem range_go {f : FuncId} {fnc : Func} {P : Program} (hfnc : P.funcs[f]? = some fnc) {g : Operand} {ps : Array Tmp} {assign body : Code} {Q : Exit → Act → World → Prop} {a : Act} {w : World}
    {gf : Nat} {lb : Array Value} {xs : List (Array Value)} (hg : a.eval g = .func (.func gf) #[] lb) (eg : ∀ args w, (callFunc gf args).run P w = .ok (.enter gf args) w)
    {R : Blocks} {w0 : World} (hit : ItL P gf lb xs R w0) (hws : w0.heap.size ≤ w.heap.size) (hwR : ∀ k, R k → w.heap[k]? = w0.heap[k]?) (hRw : ∀ k, R k → k < w.heap.size)
    (O : Blocks) (hO : ∀ k, O k → ¬ R k) (J : Nat → Says) (Jx : Code → Says) (Jp : List PanicEntry → Says) (hps : ∀ x ∈ xs, x.size = ps.size) (h0 : On O (J 0) w)
    (hround : ∀ (l : Nat) (i : Nat) (x : Array Value), xs[i]? = some x → ∀ (W : World) (D : Blocks), Exc O w W → w.heap.size + 2 ≤ W.heap.size → (∀ k, O k → D k) → On D (J i) W →
      ∀ K : Act → World → Prop, (∀ a1 W1 D1, Below W.heap.size W W1 → (∀ k, D1 k → D k ∨ W.heap.size ≤ k) → (∀ k, D k → D1 k) → (∀ k, D1 k → k < W1.heap.size) →
        BodyGo P O w body (J (i + 1)) Jx Jp a1 D1 W1 → K a1 W1) →
      assign.wpIn (Fence.wide.inRound l) 0 P (Exit.then K (fun _ _ _ => False)) { tmps := (ps.zip x).foldl (fun t (p, v) => t.setIfInBounds p v) a.tmps, defers := [] } W)
    (hdone : ∀ (W : World), PostL O (w.heap.size + 2) (J xs.length) w W → w.heap.size + 2 ≤ W.heap.size → W.heap[w.heap.size]? = some (.deferred (some [])) → Q .normal { a with defers := { target := .collected w.heap.size, args := #[] } :: a.defers } W)
    (hstop : ∀ (c : Code) (W : World), PostL O (w.heap.size + 2) (Jx c) w W → w.heap.size + 2 ≤ W.heap.size → W.heap[w.heap.size]? = some (.deferred (some [])) → c.wpIn Fence.wide 0 P Q { a with defers := { target := .collected w.heap.size, args := #[] } :: a.defers } W)
    (hpan : ∀ (c : List PanicEntry) (W : World), PostL O (w.heap.size + 2) (Jp c) w W → w.heap.size + 2 ≤ W.heap.size → W.heap[w.heap.size]? = some (.deferred (some [])) → Q (.panic c) { a with defers := { target := .collected w.heap.size, args := #[] } :: a.defers } W) :
    wpF f P (Code.rangeFunc g ps assign body) Q a w := by
  refine range_list hfnc hg eg hit hws hwR hRw O hO J Jx Jp (fun i a1 D W => BodyGo P O w body (J (i + 1)) Jx Jp a1 D W) hps h0 ?_ ?_ hdone hstop hpan
  · intro l i x hx W D he hs hOD hon K hK
    refine hround l i x hx W D he hs hOD hon K fun a1 W1 D1 hb h1 h2 h3 hgo => hK a1 W1 D1 hb h1 h2 ⟨h3, fun W2 hk l' W3 hk' => hgo l' W3 fun k hd => (hk' k hd).trans (hk k hd)⟩
  · intro l i x hx a1 W D he hs hOD hon
    exact hon.out l W (fun _ _ => rfl) he hs

theorem own_keep {w w' : World} {B s : Nat} {e : TypeId} {v : Value} {n : Nat} {xs : List Value} (h : w.ownsRow B e s v n xs) (hk : ∀ g, v.ownBlock = some g → w'.heap[g]? = w.heap[g]?) : w'.ownsRow B e s v n xs :=
  ⟨h.1, h.2.elim .inl fun ⟨g, cap, cur, h1, h2, h3, h4⟩ => .inr ⟨g, cap, cur, h1, h2, (hk g (by rw [h1]; rfl)).trans h3, h4⟩⟩

/-- the variable at block p holds a list of the loop's own -/
def SlJ (p : Nat) (T e : TypeId) (sz B n : Nat) (xs : List Value) : Says := fun D W =>
  D p ∧ ∃ v, RowAt W p [v] T ∧ (∀ k, v.ownBlock = some k → D k ∧ k ≠ p) ∧ W.ownsRow B e sz v n xs
theorem SlJ.onD {p : Nat} {T e : TypeId} {sz B n : Nat} {xs : List Value} {D : Blocks} {W : World} (hD : ∀ k, D k → k < W.heap.size) (h : SlJ p T e sz B n xs D W) : On D (SlJ p T e sz B n xs) W := by
  obtain ⟨h1, v, h2, h3, h4⟩ := h
  exact ⟨hD, fun W2 hk => ⟨h1, v, (hk p h1).trans h2, h3, own_keep h4 fun g hg => hk g (h3 g hg).1⟩⟩

/-- one element more, laid by itself, on a list of one's own: within a fence -/
theorem app_in {F : Fence} {nF : Nat} {P : Program} {ops : Array Oper} {rest : List Oper} {o : Oper} {a : Act} {Q : Exit → Act → World → Prop} {W : World} (hgd : o.guard = none) (s x : Operand) (t e : TypeId) (z : Value) (size bytes : Nat)
    (ho : o.op = .call { callee := .builtin .append, args := #[s, x], argTypes := #[t, t] }) (hu : P.underlying t = some (.slice e))
    (hinfo : (P.info? e).map (fun i => (i.zero, i.size, i.bytes)) = some (some z, size, bytes)) (hz : z.cells.size = size) (hsz : 0 < size) (B : Nat) (v : Value) (n : Nat) (xs : List Value) (hs : a.eval s = v)
    (hown : W.ownsRow B e size v n xs) (hB : B ≤ W.heap.size) (p : Nat) (news : List Value) (hx : a.eval x = .slice (some ⟨p, 0, none⟩) 1 1) (hl : news.length = size)
    (hc : ∀ j u, news[j]? = some u → W.cell? ⟨p, j, none⟩ = some u) (h1 : ∀ u ∈ news, u.oneCell' = true) (hn : n ≤ 4194304) (hbytes : bytes ≤ 64)
    (h : ∀ v' W', W'.ownsRow B e size v' (n + 1) (xs ++ news) → W.grownBy W' v.ownBlock → (v'.ownBlock = v.ownBlock ∨ v'.ownBlock = some W.heap.size) → wpListIn F nF P ops Q rest (a.put o.dst v') W') :
    wpListIn F nF P ops Q (o :: rest) a W := by
  obtain ⟨i0, hi, hz0, hz1, hz2⟩ := info_parts hinfo
  refine Go.wpListIn_append_own_at W hgd s x t ho B e i0 z size bytes hu hi hz0 hz1 hz2 hz hsz v n xs hs hown ⟨p, 0, none⟩ 1 1 news hx (by omega) ?_ h1 ?_ ?_ hB ?_
  · intro j u hj
    have := hc j u hj
    have e : ((⟨p, 0, none⟩ : Addr).add j) = ⟨p, j, none⟩ := by
      unfold Addr.add
      split
      · rename_i hj0; subst hj0; rfl
      · simp
    rw [e]; exact this
  · unfold maxLen; omega
  · have : (n + 1) * bytes ≤ 4194305 * 64 := Nat.mul_le_mul (by omega) hbytes
    omega
  · intro v' W' hown' hgrow _ hat
    exact h v' W' hown' hgrow hat
theorem Exc.grown {O : Blocks} {A W W' : World} {row : Option Nat} (h : Exc O A W) (hg : W.grownBy W' row) (hr : ∀ k, row = some k → O k ∨ A.heap.size ≤ k) : Exc O A W' :=
  ⟨hg.os.trans h.os, hg.tape.trans h.tape, hg.output.trans h.output, Nat.le_trans h.size hg.size, fun k hk ho => by
    have hne : some k ≠ row := fun e => (hr k e.symm).elim ho (by omega)
    exact (hg.block k (Nat.lt_of_lt_of_le hk h.size) hne).trans (h.block k hk ho)⟩

theorem own_sl {w : World} {B s n : Nat} {e : TypeId} {v : Value} {xs : List Value} (h : w.ownsRow B e s v n xs) : ∃ a c, v = .slice a n c := by
  rcases h.2 with ⟨rfl, rfl⟩ | ⟨g, cap, cur, rfl, _⟩
  · exact ⟨_, _, rfl⟩
  · exact ⟨_, _, rfl⟩

/-- a round's end: the loop's list has grown and is stored -/
theorem post_app {D1 : Blocks} {W2 W3 W4 : World} {p B sz n' : Nat} {T e : TypeId} {v v' : Value} {xs' : List Value} (hD1 : ∀ k, D1 k → k < W2.heap.size) (hp : D1 p) (hx : Exc D1 W2 W3) (q : RowAt W3 p [v] T)
    (hv : ∀ k, v.ownBlock = some k → D1 k ∧ k ≠ p) (hg : W3.grownBy W4 v.ownBlock) (hat : v'.ownBlock = v.ownBlock ∨ v'.ownBlock = some W3.heap.size) (ho : W4.ownsRow B e sz v' n' xs') :
    PostL D1 W2.heap.size (SlJ p T e sz B n' xs') W2 (W4.setCell ⟨p, 0, none⟩ v') := by
  have hp3 := q.lt
  have q4 : RowAt W4 p [v] T := (hg.block p hp3 (fun e => (hv p e.symm).2 rfl)).trans q
  have hs2 := hx.size
  have hs3 := hg.size
  have hv' : ∀ k, v'.ownBlock = some k → (D1 k ∨ W2.heap.size ≤ k) ∧ k ≠ p ∧ k < W4.heap.size := fun k hk => by
    have hlt := (ho.lt k hk).2
    rcases hat with h | h
    · have := hv k (h ▸ hk)
      exact ⟨.inl this.1, this.2, hlt⟩
    · rw [h] at hk
      injection hk with hk
      exact ⟨.inr (by omega), by omega, hlt⟩
  refine ⟨(hx.grown hg fun k hk => .inl (hv k hk).1).setCell (.inl hp) _, fun k => D1 k ∨ v'.ownBlock = some k, fun k hk => hk.elim .inl fun h => (hv' k h).1, fun k hk => .inl hk, ?_⟩
  refine SlJ.onD (fun k hk => ?_) ⟨.inl hp, v', q4.set (k := 0) v', fun k hk => ⟨.inr hk, (hv' k hk).2.1⟩, own_keep ho fun g hgb => Below.heap_setCell _ _ _ _ (fun (e : g = p) => (hv' g hgb).2.1 e)⟩
  · rw [World.size_setCell]
    rcases hk with hk | hk
    · have := hD1 k hk; omega
    · exact (hv' k hk).2.2
end Go.Proofs.YthpndgcaoeokeaaGreatDoor
