/- A range over a function whose body may end in a panic: the laws of the walk for that, out of the kit's own steps. Package tx: the fields of a kind, one by one. -/
import Derived.Test.YtihiacbhdcahkaaGreatDoorH01
import Derived.RangeFuncBound
import Derived.RangeFuncCalls
import Derived.RangeFuncLeaves
import Derived.RangeFuncNested
import Derived.Lib.Hide
import Derived.Laws.Rows
import Derived.Laws.Tables
import Derived.OwnWalkIn
import Derived.Test.YtihiacbhdcahkaaGreatDoorTX4g
namespace Go.Proofs.YtihiacbhdcahkaaGreatDoor
open Go Go.RowKit

/-- What a statement does, in a frame of a function that is there. -/
def WpE (P : Program) (c : Code) (Q : Exit → Act → World → Prop) (a : Act) (w : World) : Prop :=
  ∀ (b : Frame) (k : List Item) (cs : List Frame), b.roundOf = none → (∃ g, P.funcs[b.fn]? = some g) →
    ∃ e a' w', Q e a' w' ∧ ArrivesIn (Machine.fenced P Fence.wide) P (lone (b.atR a (.code c :: k)) cs w) b k cs e a' w'

theorem WpE.of {n : Nat} {P : Program} {c : Code} {Q : Exit → Act → World → Prop} {a : Act} {w : World} (h : c.wpIn Fence.wide n P Q a w) : WpE P c Q a w :=
  fun b k cs hro _ => h b k cs hro trivial (room_wide _)
theorem WpE.mono {P : Program} {c : Code} {Q Q' : Exit → Act → World → Prop} {a : Act} {w : World} (h : WpE P c Q a w) (hq : ∀ e a w, Q e a w → Q' e a w) : WpE P c Q' a w :=
  fun b k cs hro hg => let ⟨e, a', w', q, r⟩ := h b k cs hro hg; ⟨e, a', w', hq _ _ _ q, r⟩
theorem wpE_seq {P : Program} {x y : Code} {Q : Exit → Act → World → Prop} {a : Act} {w : World} (h : WpE P x (Exit.then (WpE P y Q) Q) a w) : WpE P (Code.seq x y) Q a w := by
  intro b k cs hro hg
  have h0 : (lone (b.atR a (.code (.seq x y) :: k)) cs w).fenced P Fence.wide := fenced_wide _ _
  obtain ⟨e, a₁, w₁, hq, harr⟩ := h b (.code y :: k) cs hro hg
  cases e with
  | normal =>
    obtain ⟨e₂, a₂, w₂, hq₂, harr₂⟩ := hq b k cs hro hg
    exact ⟨e₂, a₂, w₂, hq₂, .of_steps (.head h0 stepR_seq harr) harr₂⟩
  | exit id => exact ⟨_, a₁, w₁, hq, .of_steps (.one h0 stepR_seq) (.pass (x := .code y) rfl (fun _ _ => .inl (by simp)) harr)⟩
  | goto l => exact ⟨_, a₁, w₁, hq, .of_steps (.one h0 stepR_seq) (.pass (x := .code y) rfl (fun _ _ => .inl (by simp)) harr)⟩
  | ret => exact ⟨_, a₁, w₁, hq, .of_steps (.one h0 stepR_seq) (.pass (x := .code y) rfl (fun _ _ => .inl (by simp)) harr)⟩
  | panic ch => exact ⟨_, a₁, w₁, hq, .of_steps (.one h0 stepR_seq) (.pass (x := .code y) rfl (fun _ _ => .inl (by simp)) harr)⟩
  | outgrown => exact ⟨_, a₁, w₁, hq, .of_steps (.one h0 stepR_seq) (.pass (x := .code y) rfl (fun _ _ => .inl (by simp)) harr)⟩
theorem wpE_block {P : Program} {id : Nat} {c : Code} {Q : Exit → Act → World → Prop} {a : Act} {w : World} (h : WpE P c (Exit.inBlock id Q) a w) : WpE P (Code.block id c) Q a w := by
  intro b k cs hro hg
  have h0 : (lone (b.atR a (.code (.block id c) :: k)) cs w).fenced P Fence.wide := fenced_wide _ _
  obtain ⟨e, a₁, w₁, hq, harr⟩ := h b (.inBlock id :: k) cs hro hg
  cases e with
  | normal => exact ⟨.normal, a₁, w₁, hq, .head h0 stepR_block (StepsIn.trans harr (.one (fenced_wide _ _) stepR_inBlock))⟩
  | exit id' =>
    by_cases hid : id' = id
    · simp only [Exit.inBlock, hid, if_true] at hq
      exact ⟨.normal, a₁, w₁, hq, .head h0 stepR_block (harr.1 k (by simp [exitTo, hid]))⟩
    · simp only [Exit.inBlock, hid, if_false] at hq
      have this : (id == id') = false := by simp; exact fun h => hid h.symm
      have hx : exitTo id' (.inBlock id :: k) = exitTo id' k := by simp [exitTo, this]
      exact ⟨.exit id', a₁, w₁, hq, fun k' hk => .head h0 stepR_block (harr.1 k' (by rw [hx]; exact hk)),
        fun hr' hk => let ⟨k₁, h1, h2⟩ := harr.2 hr' (by rw [hx]; exact hk); ⟨k₁, h1, .head h0 stepR_block h2⟩⟩
  | goto l =>
    have hx : gotoIn l (.inBlock id :: k) = gotoIn l k := by simp [gotoIn]
    exact ⟨_, a₁, w₁, hq, fun k' hk => .head h0 stepR_block (harr.1 k' (by rw [hx]; exact hk)),
      fun hr' hk => let ⟨k₁, h1, h2⟩ := harr.2 hr' (by rw [hx]; exact hk); ⟨k₁, h1, .head h0 stepR_block h2⟩⟩
  | ret => exact ⟨_, a₁, w₁, hq, .of_steps (.one h0 stepR_block) harr⟩
  | panic ch => exact ⟨_, a₁, w₁, hq, .of_steps (.one h0 stepR_block) harr⟩
  | outgrown => exact ⟨_, a₁, w₁, hq, .of_steps (.one h0 stepR_block) harr⟩
/-- A piece that the walk can do, and then more. -/
theorem wpE_then {n : Nat} {P : Program} {x y : Code} {Q : Exit → Act → World → Prop} {a : Act} {w : World} (h : x.wpIn Fence.wide n P (Exit.then (WpE P y Q) Q) a w) : WpE P (Code.seq x y) Q a w := wpE_seq (.of h)

theorem calls_of_wpE {n : Nat} {P : Program} {f : FuncId} {fn : Func} {c : Code} {args : Array Value} {w : World} {R : Ending → World → Prop} (hf : P.funcs[f]? = some fn) (hb : fn.body = some c)
    (h : WpE P c (bodyPostM Fence.wide n P fn R) { tmps := args ++ Array.replicate (fn.ntmps - args.size) undef, defers := [] } w) : Calls P f args w R := by
  refine (callsIn_wide (n := n)).1 ⟨trivial, fun cs hr => ?_⟩
  let b : Frame := { (default : Frame) with fn := f, kind := .normal, roundOf := none }
  have henter : Frame.enter P f args .normal =
      b.atR { tmps := args ++ Array.replicate (fn.ntmps - args.size) undef, defers := [] } [.code c] := by
    simp [Frame.enter, Frame.atR, hf, hb, b]
  obtain ⟨e, a', w', hq, harr⟩ := h b [] cs rfl ⟨fn, hf⟩
  rw [← henter] at harr
  have hF : Fence.wide.fn f := trivial
  cases e with
  | normal =>
    obtain ⟨e', w'', fr', hR, hs, hfn, hl⟩ := leaves_stepsInM a'.defers .returning w' { b.atR a' [] with mode := .returning } cs rfl rfl rfl hf rfl hF hr hq
    exact ⟨e', w'', fr', hR, ComesIn.of_steps (StepsIn.trans harr (.one (fenced_wide _ _) (stepR_end rfl))) hs, hfn, hl⟩
  | ret =>
    obtain ⟨todo, hs₀⟩ := harr.1 rfl
    obtain ⟨e', w'', fr', hR, hs, hfn, hl⟩ := leaves_stepsInM a'.defers .returning w' { b.atR a' todo with mode := .returning } cs rfl rfl rfl hf rfl hF hr hq
    exact ⟨e', w'', fr', hR, ComesIn.of_steps hs₀ hs, hfn, hl⟩
  | panic chain =>
    obtain ⟨todo, hs₀⟩ := harr
    obtain ⟨e', w'', fr', hR, hs, hfn, hl⟩ := leaves_stepsInM a'.defers (.panicking chain) w' { b.atR a' todo with mode := .panicking chain } cs rfl rfl rfl hf rfl hF hr hq
    exact ⟨e', w'', fr', hR, ComesIn.of_steps hs₀ hs, hfn, hl⟩
  | exit id => exact hq.elim
  | goto l => exact hq.elim
  | outgrown => exact ⟨.outgrown, w', b, hq, harr.resolve_left (by simp [b]), rfl, trivial⟩

/-- How a round may end. -/
def roundPostX (P : Program) (l : Nat) (R : Ending → World → Prop) : Exit → Act → World → Prop
  | .normal, _, w => ∃ v w', (Instr.endRound l none).run P w = .ok v w' ∧ R (.returned v) w'
  | .panic ch, a, w => a.defers = [] ∧ R (.panicked ch) w
  | _, _, _ => False

theorem roundIn_of_wpInX {n : Nat} {P : Program} {l : Nat} {f : FuncId} {tmps : Array Value} {assign body : Code} {w : World} {R : Ending → World → Prop} (hg : ∃ g, P.funcs[f]? = some g)
    (h : assign.wpIn (Fence.wide.inRound l) n P (Exit.then (fun a₁ w₁ => ∃ w₂, (Instr.beginRound l).run P w₁ = .ok () w₂ ∧ body.wpIn (Fence.wide.inRound l) n P (roundPostX P l R) a₁ w₂) (fun _ _ _ => False))
      { tmps := tmps, defers := [] } w) :
    RoundIn Fence.wide n P l f tmps assign body w R := by
  refine ⟨trivial, fun c cs hr => ?_⟩
  let b : Frame := { (default : Frame) with fn := f, kind := .normal, roundOf := some l }
  have hb0 : Frame.round l f tmps assign body .normal = b.atR { tmps := tmps, defers := [] } [.code assign, .beginRound, .code body] := by
    simp [Frame.round, Frame.atR, b]
  have hr' : (Fence.wide.inRound l).room ((c :: cs).length + 1 + n) := hr
  have hF' : (Fence.wide.inRound l).fn b.fn := trivial
  obtain ⟨e, a₁, w₁, hq, harr⟩ := h b [.beginRound, .code body] (c :: cs) rfl hF' hr'
  rw [← hb0] at harr
  cases e with
  | normal =>
    obtain ⟨w₂, hbr, hbody⟩ := hq
    have s1 : StepsIn (Machine.fenced P Fence.wide) P (lone (b.atR a₁ [.beginRound, .code body]) (c :: cs) w₁) (lone (b.atR a₁ [.code body]) (c :: cs) w₂) :=
      .one (fenced_wide _ _) (stepR_beginRound rfl hbr)
    obtain ⟨e₂, a₂, w₃, hq₂, harr₂⟩ := hbody b [] (c :: cs) rfl hF' hr'
    cases e₂ with
    | normal =>
      obtain ⟨v, w₄, hend, hR⟩ := hq₂
      exact ⟨.returned v, w₄, hR, (StepsIn.trans harr s1).trans (StepsIn.trans harr₂ (.one (fenced_wide _ _) (stepR_round_end rfl rfl hend)))⟩
    | panic chain =>
      obtain ⟨hd, hR⟩ := hq₂
      obtain ⟨todo, hs⟩ := harr₂
      exact ⟨.panicked chain, w₃, hR, (StepsIn.trans harr s1).trans (StepsIn.trans hs (.one (fenced_wide _ _) (step_leave_panicked ⟨rfl, hd, hg⟩)))⟩
    | ret => exact hq₂.elim
    | exit id => exact hq₂.elim
    | goto t => exact hq₂.elim
    | outgrown => exact hq₂.elim
  | exit id => exact hq.elim
  | goto t => exact hq.elim
  | ret => exact hq.elim
  | panic chain => exact hq.elim
  | outgrown => exact hq.elim

/-- The statement, in a frame of a function that is there. -/
theorem wpE_rangeFunc {n : Nat} {P : Program} {g : Operand} {ps : Array Tmp} {assign body : Code} {Q : Exit → Act → World → Prop} {a : Act} {w : World} (_h1 : 1 ≤ n)
    (h : ∀ fn, (∃ x, P.funcs[fn]? = some x) → ∃ (l : Nat) (mark : List Deferred) (w₁ : World) (d : Deferred) (w₁' : World) (f : FuncId) (args : Array Value) (w₂ : World),
      (Instr.enterLoop fn a.tmps ps assign body none).run P w = .ok (l, mark) w₁ ∧
      (resolve a.eval (rangeCall g l) 0).run P w₁ = .ok d w₁' ∧
      (invoke d.target d.args).run P w₁' = .ok (.enter f args) w₂ ∧
      CallsIn Fence.wide (n - 1) P f args w₂ (rangePost Fence.wide n P l Q { a with defers := mark ++ a.defers })) :
    WpE P (Code.rangeFunc g ps assign body) Q a w := by
  intro b k cs hro hex
  have hr : Fence.wide.room (cs.length + 1 + n) := room_wide _
  have hb : Fence.wide.fn b.fn := trivial
  obtain ⟨l, mark, w₁, d, w₁', f, args, w₂, he, hres, hinv, hF, hcall⟩ := h b.fn hex
  rw [← hro] at he
  have h0 : (lone (b.atR a (.code (.rangeFunc g ps assign body) :: k)) cs w).fenced P Fence.wide := fenced_wide _ _
  have henter := stepR_rangeFunc (P := P) (b := b) (a := a) (k := k) (cs := cs) (w := w) he hres hinv
  obtain ⟨e, w₃, fr, hR, hsteps, hfn, hleave⟩ := hcall (b.atR { a with defers := mark ++ a.defers } (.inRangeFunc l :: k) :: cs) (room_wide _)
  cases e with
  | outgrown =>
    obtain ⟨a₀, w₀, hq⟩ := hR
    exact ⟨.outgrown, a₀, w₀, hq, .inr (Outgrown.of_steps (.one henter) hsteps)⟩
  | returned v =>
    have hl : (lone fr (b.atR { a with defers := mark ++ a.defers } (.inRangeFunc l :: k) :: cs) w₃).fenced P Fence.wide := fenced_wide _ _
    obtain ⟨jump, w₄, hend, hj⟩ := hR
    have sback : StepsIn (Machine.fenced P Fence.wide) P (lone (b.atR a (.code (.rangeFunc g ps assign body) :: k)) cs w) (lone (b.atR { a with defers := mark ++ a.defers } ((jump.map Item.code).toList ++ k)) cs w₄) := by
      refine .head h0 henter (StepsIn.trans hsteps (.head hl ?_ (.one (fenced_wide _ _) (stepR_endRangeFunc hend))))
      rw [← finish_atR_inRangeFunc l v]; exact step_leave_returned hleave
    cases jump with
    | none => exact ⟨.normal, _, w₄, hj, sback⟩
    | some c =>
      obtain ⟨e', a'', w₅, hq, harr⟩ := hj b k cs hro hb hr
      exact ⟨e', a'', w₅, hq, .of_steps sback harr⟩
  | panicked chain =>
    have hl : (lone fr (b.atR { a with defers := mark ++ a.defers } (.inRangeFunc l :: k) :: cs) w₃).fenced P Fence.wide := fenced_wide _ _
    refine ⟨.panic chain, _, w₃, hR, .inRangeFunc l :: k, .head h0 henter (StepsIn.trans hsteps (.one hl ?_))⟩
    rw [← Frame.raise_atR]; exact step_leave_panicked hleave

theorem yieldAt_anyX {m m' : Nat} {P : Program} {l : Nat} {args : Array Value} {W : World} {R : Ending → World → Prop} (h : YieldAt Fence.wide m P l args W R) : YieldAt Fence.wide m' P l args W R := by
  obtain ⟨fn, tmps, assign, body, hy, h1, h2⟩ := h
  exact ⟨fn, tmps, assign, body, hy, h1, fun c cs _ => h2 c cs (room_wide _)⟩
/-- How the body of a round may be left. -/
def lxPost {α : Type} (B : Nat) (T : Nat → Prop) (I : List α → World → Prop) (Ip : List PanicEntry → World → Prop) (xs : List α) (W : World) : Exit → Act → World → Prop
  | .normal, _, W' => KeepsFrom B W W' ∧ (∀ b, b < W.heap.size → T b → W'.heap[b]? = W.heap[b]?) ∧ I xs W'
  | .panic ch, a, W' => a.defers = [] ∧ KeepsFrom B W W' ∧ Ip ch W'
  | _, _, _ => False

theorem range_lx {α : Type} {P : Program} {n : Nat} {g : Operand} {ps : Array Tmp} {assign body : Code} {Q : Exit → Act → World → Prop} {a : Act} {w : World} (h1 : 1 ≤ n)
    {gf : Nat} {lb : Array Value} (hg : a.eval g = .func (.func gf) #[] lb) (eg : ∀ args w, (callFunc gf args).run P w = .ok (.enter gf args) w)
    {encs : α → Array Value} (hps : ∀ x, (encs x).size = ps.size) (I : List α → World → Prop) (hI : OwnFrom w.heap.size I) (hIq : ∀ pre A B, I pre A → A.grownBy B (some (w.heap.size + 2)) → I pre B) (Ip : List PanicEntry → World → Prop)
    (T : Nat → Prop) (hT : ∀ b, T b → b ≠ w.heap.size + 1) (S : List α → Prop)
    (G : List α → α → Prop)
    (hseq : ∀ (l : Nat) (J : List α → World → Prop) (Jp : List PanicEntry → World → Prop) (W : World), W.heap.size = w.heap.size + 2 → (∀ pre A, J pre A → I pre A) →
      (∀ pre A B, J pre A → A.grownBy B (some (w.heap.size + 2)) → J pre B) →
      (∀ m pre x A, J pre A → G pre x → YieldAt Fence.wide m P l (encs x) A fun e W' =>
        (e = .returned (.bool true) ∧ J (pre ++ [x]) W' ∧ A.heap.size ≤ W'.heap.size ∧ ∀ b, b < A.heap.size → T b → W'.heap[b]? = A.heap[b]?) ∨ (∃ ch, e = .panicked ch ∧ Jp ch W')) →
      J [] W → CallsIn Fence.wide (n - 1) P gf (#[.func (.yield l) #[] #[]] ++ lb) W fun e W' => (∃ v xs, e = .returned v ∧ S xs ∧ J xs W') ∨ (∃ ch, e = .panicked ch ∧ Jp ch W'))
    (h0 : I [] w) (Ax : List α → α → Act → World → Prop) (hAx : ∀ pre x a', OwnFrom w.heap.size fun (_ : Unit) W => Ax pre x a' W)
    (hassign : ∀ (l : Nat) (pre : List α) (x : α) (A : World) (K : Act → World → Prop), I pre A → w.heap.size + 2 ≤ A.heap.size → G pre x → (∀ a' B', KeepsFrom w.heap.size A B' → (∀ b, b < A.heap.size → T b → B'.heap[b]? = A.heap[b]?) → Ax pre x a' B' → K a' B') →
      assign.wpIn (Fence.wide.inRound l) n P (Exit.then K (fun _ _ _ => False)) { tmps := (ps.zip (encs x)).foldl (fun t (p, v) => t.setIfInBounds p v) a.tmps, defers := [] } A)
    (hbody : ∀ (l : Nat) (pre : List α) (x : α) (a' : Act) (B : World), Ax pre x a' B →
      body.wpIn (Fence.wide.inRound l) n P (lxPost w.heap.size T I Ip (pre ++ [x]) B) a' B)
    (hdone : ∀ (D : Nat) (xs : List α) (W : World), w.heap.size ≤ D → S xs → I xs W → W.heap[D]? = some (.deferred (some [])) → w.heap.size + 2 ≤ W.heap.size → Q .normal { a with defers := { target := .collected D, args := #[] } :: a.defers } W)
    (hpan : ∀ (D : Nat) (ch : List PanicEntry) (W : World), w.heap.size ≤ D → Ip ch W → W.heap[D]? = some (.deferred (some [])) → Q (.panic ch) { a with defers := { target := .collected D, args := #[] } :: a.defers } W) :
    WpE P (Code.rangeFunc g ps assign body) Q a w := by
  refine wpE_rangeFunc h1 ?_
  intro fn hfn
  obtain ⟨rec, hrec⟩ : ∃ rec : LoopState → Option Code → Loop, rec = fun st pe => { state := st, pending := pe, fn, tmps := a.tmps, params := ps, assign, body, defers := w.heap.size } := ⟨_, rfl⟩
  obtain ⟨W1, hW1⟩ : ∃ W1, (w.alloc (.deferred (some []))).alloc (.loop (rec .ready none)) = W1 := ⟨_, rfl⟩
  have hL1 : W1.heap[w.heap.size + 1]? = some (.loop (rec .ready none)) := by
    rw [← hW1]; have := World.alloc_heap_new (w.alloc (.deferred (some []))) (.loop (rec .ready none)); rwa [World.size_alloc] at this
  have hK1 : W1.heap[w.heap.size]? = some (.deferred (some [])) := by
    rw [← hW1]; exact (Below.heap_alloc _ _ _ (by simp)).trans (World.alloc_heap_new w _)
  have hI1 : I [] W1 := by rw [← hW1]; exact hI.alloc _ (hI.alloc _ h0)
  have hb1 : Below w.heap.size w W1 := by rw [← hW1]; exact ((Below.refl _ w).alloc (Nat.le_refl _) _).alloc (by simp) _
  refine ⟨w.heap.size + 1, [{ target := .collected w.heap.size, args := #[] }], W1, { target := .fn (.func gf) lb, args := #[.func (.yield (w.heap.size + 1)) #[] #[]] }, W1, gf,
    #[.func (.yield (w.heap.size + 1)) #[] #[]] ++ lb, W1, ?_, ?_, ?_, ?_⟩
  · rw [← hW1, hrec]; exact run_enterLoop_outer _ _ _ _ _
  · simp only [resolve, hg]
    simp [go_sem]
  · simp [invoke, go_sem, eg]
  · refine (hseq (w.heap.size + 1)
      (fun pre W => I pre W ∧ W.heap[w.heap.size + 1]? = some (.loop (rec .ready none)) ∧ W.heap[w.heap.size]? = some (.deferred (some [])))
      (fun ch W => Ip ch W ∧ W.heap[w.heap.size]? = some (.deferred (some [])))
      W1 (by rw [← hW1]; simp) (fun _ A h => h.1)
      (fun pre A B hs hg' => ⟨hIq pre A B hs.1 hg', (hg'.block _ (Array.getElem?_eq_some_iff.1 hs.2.1).1 (by simp)).trans hs.2.1, (hg'.block _ (Array.getElem?_eq_some_iff.1 hs.2.2).1 (by simp)).trans hs.2.2⟩)
      ?_ ⟨hI1, hL1, hK1⟩).mono ?_
    · rintro m pre x W ⟨hi, hl, hk⟩ hgx
      have hlt : w.heap.size + 1 < W.heap.size := (Array.getElem?_eq_some_iff.1 hl).1
      have hy := run_yield (P := P) (args := encs x) hl (by rw [hrec]; exact hps x)
      rw [hrec] at hy
      refine yieldAt_anyX (m := n) ⟨fn, _, assign, body, hy, roundIn_of_wpInX hfn (hassign _ pre x W _ hi hlt hgx ?_)⟩
      intro a' W' hk1 hT1 hax
      have hl1 := hk1.same _ _ (by omega) hl rfl
      have hd1 := hk1.same _ _ (Nat.le_refl _) hk rfl
      have hlt1 : w.heap.size + 1 < W'.heap.size := (Array.getElem?_eq_some_iff.1 hl1).1
      refine ⟨_, run_beginRound hl1 (by rw [hrec]), ?_⟩
      have hl2 : (W'.putObj (w.heap.size + 1) (.loop { rec .ready none with state := .busy })).heap[w.heap.size + 1]? = some (.loop { rec .ready none with state := .busy }) := World.putObj_heap_same hlt1
      have hk2 : (W'.putObj (w.heap.size + 1) (.loop { rec .ready none with state := .busy })).heap[w.heap.size]? = some (.deferred (some [])) := (World.putObj_heap_other (by omega)).trans hd1
      refine wpIn_mono (hbody _ pre x a' _ ((hAx pre x a').putObj (s := ()) _ hax (by omega) hl1 rfl)) ?_
      rintro e a3 W3 hp
      cases e with
      | normal =>
        obtain ⟨hk3, hkp3, hi3⟩ := hp
        have hl3 := hk3.same _ _ (by omega) hl2 rfl
        have hend := run_endRound (P := P) none hl3
        have hlt3 := (Array.getElem?_eq_some_iff.1 hl3).1
        have hs1 := hk1.size
        have hs3 := hk3.size
        have hp : ∀ (W : World) (l : Nat) (o : Obj), (W.putObj l o).heap.size = W.heap.size := fun W l o => by simp [World.putObj]
        rw [hp] at hs3
        have hrr : ({ { rec .ready none with state := .busy } with state := if (none : Option Code).isNone then .ready else .done, pending := none } : Loop) = rec .ready none := by rw [hrec]; rfl
        rw [hrr] at hend
        refine ⟨_, _, hend, .inl ⟨rfl, ⟨hI.putObj _ hi3 (by omega) hl3 rfl, World.putObj_heap_same hlt3, (World.putObj_heap_other (by omega)).trans (hk3.same _ _ (Nat.le_refl _) hk2 rfl)⟩, by rw [hp]; omega, fun b hlt hb => ?_⟩⟩
        have := hT b hb
        rw [World.putObj_heap_other (by omega), hkp3 b (by rw [hp]; omega) hb, World.putObj_heap_other (by omega), hT1 b hlt hb]
      | panic ch =>
        obtain ⟨hdf, hk3, hi3⟩ := hp
        exact ⟨hdf, .inr ⟨ch, rfl, hi3, hk3.same _ _ (Nat.le_refl _) hk2 rfl⟩⟩
      | ret => exact hp.elim
      | exit id => exact hp.elim
      | goto t => exact hp.elim
      | outgrown => exact hp.elim
    · rintro e W2 (⟨v, xs, rfl, hS, hi, hl, hk⟩ | ⟨ch, rfl, hi, hk⟩)
      · exact ⟨none, _, by have := run_endLoop (P := P) hl (by rw [hrec]; simp); rw [hrec] at this; exact this, hdone _ xs _ (Nat.le_refl _) hS (hI.putObj _ hi (by omega) hl rfl) ((World.putObj_heap_other (by omega)).trans hk) (by have := (Array.getElem?_eq_some_iff.1 hl).1; simp only [World.putObj, Array.size_setIfInBounds]; omega)⟩
      · exact hpan _ ch _ (Nat.le_refl _) hi hk

end Go.Proofs.YtihiacbhdcahkaaGreatDoor
namespace Go.Proofs.YtihiacbhdcahkaaGreatDoor
open Go Go.RowKit Go.Lib Go.Shelf
attribute [local go_sem] Oper.semAt_some

abbrev V3 := Value × Value × Value
/-- Fields, each with its place. -/
def fsOf (xs : List V3) : List (Nat × V3) := (List.range xs.length).map fun j => (j, xs.getD j (.nilFunc, .nilFunc, .nilFunc))
theorem fs_length (xs : List V3) : (fsOf xs).length = xs.length := by simp [fsOf]
theorem fs_at {xs : List V3} {j : Nat} {x : V3} (h : xs[j]? = some x) : (fsOf xs)[j]? = some (j, x) := by
  have hj := (List.getElem?_eq_some_iff.1 h).1
  unfold fsOf
  rw [List.getElem?_map, List.getElem?_range hj]
  simp [List.getD_eq_getElem?_getD, h]
theorem fs_get {xs : List V3} {j i : Nat} {x : V3} (h : (fsOf xs)[j]? = some (i, x)) : i = j ∧ xs[j]? = some x := by
  have hj := (List.getElem?_eq_some_iff.1 h).1
  rw [fs_length] at hj
  have := fs_at (List.getElem?_eq_getElem hj)
  rw [h] at this
  cases this
  exact ⟨rfl, List.getElem?_eq_getElem hj⟩
def GoodF (xs : List V3) (pre : List (Nat × V3)) (x : Nat × V3) : Prop := pre = (fsOf xs).take pre.length ∧ (fsOf xs)[pre.length]? = some x
def encF (x : Nat × V3) : Array Value := #[.int .i64 (x.1 : Nat), .agg #[x.2.1, x.2.2.1, x.2.2.2]]
theorem fields_any (r n : Nat) (w : World) : Calls Tryz.prog 170 #[rowS r n] w fun e w' =>
    e = .returned (.func (.func 242) #[] #[.pointer (some ⟨w.heap.size, 0, none⟩)]) ∧ w' = w.alloc (.cells #[rowS r n] 129) := by
  have hmf : ∀ (fn : Fn) (first cap : Array Value) (w : World), (Instr.makeFunc fn first cap).run Tryz.prog w = .ok (.func fn first cap) w := fun _ _ _ _ => rfl
  unfold rowS
  go_enter Tryz.func170, Tryz.ntmps170
  go_wp2_with fail
  go_ret
  exact ⟨rfl, rfl⟩
set_option maxRecDepth 100000 in
set_option maxHeartbeats 4000000 in
theorem fields_seq (xs : List V3) (T : Nat → Prop) (l bs r : Nat) (J : List (Nat × V3) → World → Prop) (Jp : List PanicEntry → World → Prop) (hlen : xs.length ≤ 100)
    (hf : Hid (∀ x ∈ xs, IsFn x.1 ∧ IsFn x.2.1 ∧ IsFn x.2.2))
    (cs : Hid (∀ pre A, J pre A → A.cell? ⟨bs, 0, none⟩ = some (rowS r xs.length))) (cr : Hid (∀ pre A, J pre A → A.heap[r]? = some (.cells (pcells xs).toArray 181 (0, 0))))
    (jg : Hid (∀ pre A B, J pre A → A.grownBy B none → J pre B))
    (y : Hid (∀ m pre x A, J pre A → GoodF xs pre x → YieldAt Fence.wide m Tryz.prog l (encF x) A fun e W' =>
      (e = .returned (.bool true) ∧ J (pre ++ [x]) W' ∧ A.heap.size ≤ W'.heap.size ∧ ∀ b, b < A.heap.size → T b → W'.heap[b]? = A.heap[b]?) ∨ (∃ ch, e = .panicked ch ∧ Jp ch W')))
    (m : Nat) (W : World) (h0 : J [] W) :
    CallsIn Fence.wide m Tryz.prog 242 #[.func (.yield l) #[] #[], .pointer (some ⟨bs, 0, none⟩)] W fun e W' =>
      (∃ v zs, e = .returned v ∧ zs = fsOf xs ∧ J zs W') ∨ (∃ ch, e = .panicked ch ∧ Jp ch W') := by
  have hro : Fence.wide.round = none := rfl
  have b0 := cs.out _ _ h0
  unfold rowS at b0
  refine callsIn_of_wp Tryz.func242 rfl trivial ?_ rfl
  simp only [Tryz.ntmps242, List.size_toArray, List.length_cons, List.length_nil, Nat.reduceAdd, Nat.reduceSub, Array.replicate_succ, Array.replicate_zero, List.push_toArray, List.append_toArray, List.nil_append, List.cons_append]
  gi_wp2
  gi_loopw [7] (fun i wr => ∃ j : Nat, j ≤ xs.length ∧ i = .int .i64 (j : Int) ∧ J ((fsOf xs).take j) wr) (fun i _ => xs.length - (intOf i).toNat)
  case atStart => exact ⟨0, Nat.zero_le _, rfl, by simpa using h0⟩
  case round =>
    clear b0
    obtain ⟨j, hj, rfl, hJ⟩ := hrel
    by_cases hlt : j < xs.length
    · have hjI : (j : Int) < xs.length := by omega
      have hx := List.getElem?_eq_getElem hlt
      obtain ⟨⟨p, g, q⟩, hxx⟩ : ∃ x, xs[j] = x := ⟨_, rfl⟩
      rw [hxx] at hx
      have hfx := hf.out (p, g, q) (List.mem_of_getElem? hx)
      have hfs := fs_at hx
      have hcr := cr.out _ _ hJ
      obtain ⟨e0, e1, e2⟩ := pcells_at xs j _ hx
      have c0 : wr.cell? ⟨r, j * 3, none⟩ = some p := by simp only [World.cell?, hcr, List.getElem?_toArray]; exact e0
      have c1 : wr.cell? ⟨r, j * 3 + 1, none⟩ = some g := by simp only [World.cell?, hcr, List.getElem?_toArray]; exact e1
      have c2 : wr.cell? ⟨r, j * 3 + 2, none⟩ = some q := by simp only [World.cell?, hcr, List.getElem?_toArray]; exact e2
      have s0 := fun W a => store_fn hfx.1 W a
      have s1 := fun W a => store_fn hfx.2.1 W a
      have s2 := fun W a => store_fn hfx.2.2 W a
      have hgo : GoodF xs ((fsOf xs).take j) (j, p, g, q) := by
        have : ((fsOf xs).take j).length = j := by rw [List.length_take, fs_length]; omega
        unfold GoodF
        rw [this]
        exact ⟨rfl, hfs⟩
      have HSN : Hid ((fsOf xs).take j ++ [(j, p, g, q)] = (fsOf xs).take (j + 1)) := by
        show _ = _
        rw [List.take_add_one, hfs]
        rfl
      have hJ2 := jg.out _ _ (wr.alloc (.cells #[p, g, q] 181)) hJ (World.grownBy_alloc _ _ _)
      obtain ⟨fn, tmps, assign, body, hyy, hR⟩ := y.out (m - 1) _ _ _ hJ2 hgo
      dsimp only [encF] at hyy
      have hlen9 : (xs.length : Int) ≤ 100 := by omega
      clear hgo hfs hcr e0 e1 e2 hx hxx hJ hJ2 hfx
      gi_wp2
      refine ⟨fun h => (by cases h), hR.mono ?_⟩
      rintro e W5 (⟨rfl, hj5, hz5, hk5⟩ | ⟨ch, rfl, hjp⟩)
      · rw [HSN.out] at hj5
        have HJ5 := Lib.hid hj5
        clear hyy hR hj5 hk5
        gi_wp2
        go_roundw
        case rel => exact ⟨j + 1, by omega, by push_cast; rfl, HJ5.out⟩
        case measure => simp [intOf]; omega
      · have HJP := Lib.hid hjp
        clear hyy hR hjp
        gi_wp2_with fail
        exact ⟨rfl, .inr ⟨ch, rfl, HJP.out⟩⟩
    · have hjI : ¬ (j : Int) < xs.length := by omega
      rw [List.take_of_length_le (by rw [fs_length]; omega)] at hJ
      have HJ := Lib.hid hJ
      clear hJ
      gi_wp2_with fail
      go_end0
      exact .inl ⟨⟨_, rfl⟩, HJ.out⟩
end Go.Proofs.YtihiacbhdcahkaaGreatDoor
