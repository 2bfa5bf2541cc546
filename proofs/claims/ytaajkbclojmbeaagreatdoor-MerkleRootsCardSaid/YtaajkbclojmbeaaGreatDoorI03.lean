/- A range over a function whose body may end in a panic: the laws of the walk for that, out of the kit's own steps. Appending to rows of one's own: in which block what comes of it stands. Rows of texts: what comes in, and what a call owns. The landed package merkle: a chunk of no more bytes than it has; whether one of a row is none. Regions that draw their order: found by their numbers; in a round as everywhere, if they defer nothing. Regions that draw their order, within a round: what only reads, and a store at last. Words as values. How types and values lie in memory. -/
import Derived.Test.YtaajkbclojmbeaaGreatDoorI02
import Derived.RangeFuncBound
import Derived.RangeFuncCalls
import Derived.RangeFuncLeaves
import Derived.RangeFuncNested
import Derived.Lib.Hide
import Derived.Laws.Rows
import Derived.Laws.Tables
import Derived.OwnWalkIn
import Derived.OrdersIn
import Derived.LoopIn
import Derived.StillTailTactics
import Derived.Deep.QuietTactic
import Derived.Test.YtaajkbclojmbeaaGreatDoorI01
namespace Go.Proofs.YtaajkbclojmbeaaGreatDoor
open Go Go.RowKit

/-- A struct, loaded whole, in a walk within a fence. -/
theorem wpListIn_load_row {P : Program} {F : Fence} {m : Nat} {ops : Array Oper} {rest : List Oper} {o : Oper} {a : Act} {w : World} {Q : Exit → Act → World → Prop} (hgd : o.guard = none) (ty : TypeId) (x : Operand) (ho : o.op = .load ty x) (g : Nat) (hx : a.eval x = .pointer (some ⟨g, 0, none⟩)) (t : TypeId) (cs : Array Value) (fr : Nat × Nat) (d : TypeDesc) (hg : w.heap[g]? = some (.cells cs t fr))
    (hu : P.underlying ty = some d) (hd : (match d with | .struct _ | .array _ _ => true | _ => false) = true) (hi : (P.info? ty).map (·.size) = some cs.size) (h : wpListIn F m P ops Q rest (a.put o.dst (.agg cs)) w) : wpListIn F m P ops Q (o :: rest) a w := by
  refine wpListIn_plain hgd fun K hK => ?_
  unfold Oper.wpIn
  rw [Oper.semAt_plain F _ _ (by intro c; rw [ho]; exact fun h => nomatch h)]
  refine ⟨by intro f hf; simp [Oper.about, ho] at hf, ?_⟩
  unfold execOp
  simp only [ho, hx, Instr.loadAt, Instr.sureAddr, Sem.run_bind, Sem.run_pure, Result.andThen_ok, run_loadVar_row w g t ty cs fr d hg hu hd hi]
  exact hK _ _ h
/-- A struct, stored whole, in a walk within a fence. -/
theorem wpListIn_store_row {P : Program} {F : Fence} {m : Nat} {ops : Array Oper} {rest : List Oper} {o : Oper} {a : Act} {w : World} {Q : Exit → Act → World → Prop} (hgd : o.guard = none) (ty : TypeId) (x y : Operand) (ho : o.op = .store ty x y) (g : Nat) (cells : Array Value) (hx : a.eval x = .pointer (some ⟨g, 0, none⟩)) (hy : a.eval y = .agg cells) (t : TypeId) (old : Array Value) (hg : w.heap[g]? = some (.cells old t (0, 0)))
    (hi : (P.info? ty).map (·.size) = some cells.size) (hold : old.size = cells.size) (h1 : cells.all (·.oneCell') = true) (h : wpListIn F m P ops Q rest (a.put o.dst undef) (w.setRow g cells)) : wpListIn F m P ops Q (o :: rest) a w := by
  refine wpListIn_plain hgd fun K hK => ?_
  unfold Oper.wpIn
  rw [Oper.semAt_plain F _ _ (by intro c; rw [ho]; exact fun h => nomatch h)]
  refine ⟨by intro f hf; simp [Oper.about, ho] at hf, ?_⟩
  unfold execOp
  simp only [ho, hx, hy, Instr.storeAt, Instr.sureAddr, Sem.run_bind, Sem.run_pure, Result.andThen_ok, run_storeVar_row w g t ty old cells hg hi hold h1]
  exact hK _ _ h

/-- What a statement does, in a frame of a function that is there. -/
def WpE (P : Program) (c : Code) (Q : Exit → Act → World → Prop) (a : Act) (w : World) : Prop :=
  ∀ (b : Frame) (k : List Item) (cs : List Frame), b.roundOf = none → (∃ g, P.funcs[b.fn]? = some g) →
    ∃ e a' w', Q e a' w' ∧ ArrivesIn (Machine.fenced P Fence.wide) P (lone (b.atR a (.code c :: k)) cs w) b k cs e a' w'

theorem WpE.of {n : Nat} {P : Program} {c : Code} {Q : Exit → Act → World → Prop} {a : Act} {w : World} (h : c.wpIn Fence.wide n P Q a w) : WpE P c Q a w :=
  fun b k cs hro _ => h b k cs hro trivial (room_wide _)
theorem WpE.mono {P : Program} {c : Code} {Q Q' : Exit → Act → World → Prop} {a : Act} {w : World} (h : WpE P c Q a w) (hq : ∀ e a w, Q e a w → Q' e a w) : WpE P c Q' a w :=
  fun b k cs hro hg => let ⟨e, a', w', q, r⟩ := h b k cs hro hg; ⟨e, a', w', hq _ _ _ q, r⟩
theorem wpE_seq {P : Program} {x y : Code} {Q : Exit → Act → World → Prop} {a : Act} {w : World} (h : WpE P x (Exit.then (WpE P y Q) Q) a w) : WpE P (Code.seq x y) Q a w := by
  intro b k cs hro hg
  have h0 : (lone (b.atR a (.code (.seq x y) :: k)) cs w).fenced P Fence.wide := fenced_wide _ _
  obtain ⟨e, a₁, w₁, hq, harr⟩ := h b (.code y :: k) cs hro hg
  cases e with
  | normal =>
    obtain ⟨e₂, a₂, w₂, hq₂, harr₂⟩ := hq b k cs hro hg
    exact ⟨e₂, a₂, w₂, hq₂, .of_steps (.head h0 stepR_seq harr) harr₂⟩
  | exit id => exact ⟨_, a₁, w₁, hq, .of_steps (.one h0 stepR_seq) (.pass (x := .code y) rfl (fun _ _ => .inl (by simp)) harr)⟩
  | goto l => exact ⟨_, a₁, w₁, hq, .of_steps (.one h0 stepR_seq) (.pass (x := .code y) rfl (fun _ _ => .inl (by simp)) harr)⟩
  | ret => exact ⟨_, a₁, w₁, hq, .of_steps (.one h0 stepR_seq) (.pass (x := .code y) rfl (fun _ _ => .inl (by simp)) harr)⟩
  | panic ch => exact ⟨_, a₁, w₁, hq, .of_steps (.one h0 stepR_seq) (.pass (x := .code y) rfl (fun _ _ => .inl (by simp)) harr)⟩
  | outgrown => exact ⟨_, a₁, w₁, hq, .of_steps (.one h0 stepR_seq) (.pass (x := .code y) rfl (fun _ _ => .inl (by simp)) harr)⟩
theorem wpE_block {P : Program} {id : Nat} {c : Code} {Q : Exit → Act → World → Prop} {a : Act} {w : World} (h : WpE P c (Exit.inBlock id Q) a w) : WpE P (Code.block id c) Q a w := by
  intro b k cs hro hg
  have h0 : (lone (b.atR a (.code (.block id c) :: k)) cs w).fenced P Fence.wide := fenced_wide _ _
  obtain ⟨e, a₁, w₁, hq, harr⟩ := h b (.inBlock id :: k) cs hro hg
  cases e with
  | normal => exact ⟨.normal, a₁, w₁, hq, .head h0 stepR_block (StepsIn.trans harr (.one (fenced_wide _ _) stepR_inBlock))⟩
  | exit id' =>
    by_cases hid : id' = id
    · simp only [Exit.inBlock, hid, if_true] at hq
      exact ⟨.normal, a₁, w₁, hq, .head h0 stepR_block (harr.1 k (by simp [exitTo, hid]))⟩
    · simp only [Exit.inBlock, hid, if_false] at hq
      have this : (id == id') = false := by simp; exact fun h => hid h.symm
      have hx : exitTo id' (.inBlock id :: k) = exitTo id' k := by simp [exitTo, this]
      exact ⟨.exit id', a₁, w₁, hq, fun k' hk => .head h0 stepR_block (harr.1 k' (by rw [hx]; exact hk)),
        fun hr' hk => let ⟨k₁, h1, h2⟩ := harr.2 hr' (by rw [hx]; exact hk); ⟨k₁, h1, .head h0 stepR_block h2⟩⟩
  | goto l =>
    have hx : gotoIn l (.inBlock id :: k) = gotoIn l k := by simp [gotoIn]
    exact ⟨_, a₁, w₁, hq, fun k' hk => .head h0 stepR_block (harr.1 k' (by rw [hx]; exact hk)),
      fun hr' hk => let ⟨k₁, h1, h2⟩ := harr.2 hr' (by rw [hx]; exact hk); ⟨k₁, h1, .head h0 stepR_block h2⟩⟩
  | ret => exact ⟨_, a₁, w₁, hq, .of_steps (.one h0 stepR_block) harr⟩
  | panic ch => exact ⟨_, a₁, w₁, hq, .of_steps (.one h0 stepR_block) harr⟩
  | outgrown => exact ⟨_, a₁, w₁, hq, .of_steps (.one h0 stepR_block) harr⟩
/-- A piece that the walk can do, and then more. -/
theorem wpE_then {n : Nat} {P : Program} {x y : Code} {Q : Exit → Act → World → Prop} {a : Act} {w : World} (h : x.wpIn Fence.wide n P (Exit.then (WpE P y Q) Q) a w) : WpE P (Code.seq x y) Q a w := wpE_seq (.of h)

theorem calls_of_wpE {n : Nat} {P : Program} {f : FuncId} {fn : Func} {c : Code} {args : Array Value} {w : World} {R : Ending → World → Prop} (hf : P.funcs[f]? = some fn) (hb : fn.body = some c)
    (h : WpE P c (bodyPostM Fence.wide n P fn R) { tmps := args ++ Array.replicate (fn.ntmps - args.size) undef, defers := [] } w) : Calls P f args w R := by
  refine (callsIn_wide (n := n)).1 ⟨trivial, fun cs hr => ?_⟩
  let b : Frame := { (default : Frame) with fn := f, kind := .normal, roundOf := none }
  have henter : Frame.enter P f args .normal =
      b.atR { tmps := args ++ Array.replicate (fn.ntmps - args.size) undef, defers := [] } [.code c] := by
    simp [Frame.enter, Frame.atR, hf, hb, b]
  obtain ⟨e, a', w', hq, harr⟩ := h b [] cs rfl ⟨fn, hf⟩
  rw [← henter] at harr
  have hF : Fence.wide.fn f := trivial
  cases e with
  | normal =>
    obtain ⟨e', w'', fr', hR, hs, hfn, hl⟩ := leaves_stepsInM a'.defers .returning w' { b.atR a' [] with mode := .returning } cs rfl rfl rfl hf rfl hF hr hq
    exact ⟨e', w'', fr', hR, ComesIn.of_steps (StepsIn.trans harr (.one (fenced_wide _ _) (stepR_end rfl))) hs, hfn, hl⟩
  | ret =>
    obtain ⟨todo, hs₀⟩ := harr.1 rfl
    obtain ⟨e', w'', fr', hR, hs, hfn, hl⟩ := leaves_stepsInM a'.defers .returning w' { b.atR a' todo with mode := .returning } cs rfl rfl rfl hf rfl hF hr hq
    exact ⟨e', w'', fr', hR, ComesIn.of_steps hs₀ hs, hfn, hl⟩
  | panic chain =>
    obtain ⟨todo, hs₀⟩ := harr
    obtain ⟨e', w'', fr', hR, hs, hfn, hl⟩ := leaves_stepsInM a'.defers (.panicking chain) w' { b.atR a' todo with mode := .panicking chain } cs rfl rfl rfl hf rfl hF hr hq
    exact ⟨e', w'', fr', hR, ComesIn.of_steps hs₀ hs, hfn, hl⟩
  | exit id => exact hq.elim
  | goto l => exact hq.elim
  | outgrown => exact ⟨.outgrown, w', b, hq, harr.resolve_left (by simp [b]), rfl, trivial⟩

/-- How a round may end. -/
def roundPostX (P : Program) (l : Nat) (R : Ending → World → Prop) : Exit → Act → World → Prop
  | .normal, _, w => ∃ v w', (Instr.endRound l none).run P w = .ok v w' ∧ R (.returned v) w'
  | .panic ch, a, w => a.defers = [] ∧ R (.panicked ch) w
  | _, _, _ => False

theorem roundIn_of_wpInX {n : Nat} {P : Program} {l : Nat} {f : FuncId} {tmps : Array Value} {assign body : Code} {w : World} {R : Ending → World → Prop} (hg : ∃ g, P.funcs[f]? = some g)
    (h : assign.wpIn (Fence.wide.inRound l) n P (Exit.then (fun a₁ w₁ => ∃ w₂, (Instr.beginRound l).run P w₁ = .ok () w₂ ∧ body.wpIn (Fence.wide.inRound l) n P (roundPostX P l R) a₁ w₂) (fun _ _ _ => False))
      { tmps := tmps, defers := [] } w) :
    RoundIn Fence.wide n P l f tmps assign body w R := by
  refine ⟨trivial, fun c cs hr => ?_⟩
  let b : Frame := { (default : Frame) with fn := f, kind := .normal, roundOf := some l }
  have hb0 : Frame.round l f tmps assign body .normal = b.atR { tmps := tmps, defers := [] } [.code assign, .beginRound, .code body] := by
    simp [Frame.round, Frame.atR, b]
  have hr' : (Fence.wide.inRound l).room ((c :: cs).length + 1 + n) := hr
  have hF' : (Fence.wide.inRound l).fn b.fn := trivial
  obtain ⟨e, a₁, w₁, hq, harr⟩ := h b [.beginRound, .code body] (c :: cs) rfl hF' hr'
  rw [← hb0] at harr
  cases e with
  | normal =>
    obtain ⟨w₂, hbr, hbody⟩ := hq
    have s1 : StepsIn (Machine.fenced P Fence.wide) P (lone (b.atR a₁ [.beginRound, .code body]) (c :: cs) w₁) (lone (b.atR a₁ [.code body]) (c :: cs) w₂) :=
      .one (fenced_wide _ _) (stepR_beginRound rfl hbr)
    obtain ⟨e₂, a₂, w₃, hq₂, harr₂⟩ := hbody b [] (c :: cs) rfl hF' hr'
    cases e₂ with
    | normal =>
      obtain ⟨v, w₄, hend, hR⟩ := hq₂
      exact ⟨.returned v, w₄, hR, (StepsIn.trans harr s1).trans (StepsIn.trans harr₂ (.one (fenced_wide _ _) (stepR_round_end rfl rfl hend)))⟩
    | panic chain =>
      obtain ⟨hd, hR⟩ := hq₂
      obtain ⟨todo, hs⟩ := harr₂
      exact ⟨.panicked chain, w₃, hR, (StepsIn.trans harr s1).trans (StepsIn.trans hs (.one (fenced_wide _ _) (step_leave_panicked ⟨rfl, hd, hg⟩)))⟩
    | ret => exact hq₂.elim
    | exit id => exact hq₂.elim
    | goto t => exact hq₂.elim
    | outgrown => exact hq₂.elim
  | exit id => exact hq.elim
  | goto t => exact hq.elim
  | ret => exact hq.elim
  | panic chain => exact hq.elim
  | outgrown => exact hq.elim

/-- The statement, in a frame of a function that is there. -/
theorem wpE_rangeFunc {n : Nat} {P : Program} {g : Operand} {ps : Array Tmp} {assign body : Code} {Q : Exit → Act → World → Prop} {a : Act} {w : World} (_h1 : 1 ≤ n)
    (h : ∀ fn, (∃ x, P.funcs[fn]? = some x) → ∃ (l : Nat) (mark : List Deferred) (w₁ : World) (d : Deferred) (w₁' : World) (f : FuncId) (args : Array Value) (w₂ : World),
      (Instr.enterLoop fn a.tmps ps assign body none).run P w = .ok (l, mark) w₁ ∧
      (resolve a.eval (rangeCall g l) 0).run P w₁ = .ok d w₁' ∧
      (invoke d.target d.args).run P w₁' = .ok (.enter f args) w₂ ∧
      CallsIn Fence.wide (n - 1) P f args w₂ (rangePost Fence.wide n P l Q { a with defers := mark ++ a.defers })) :
    WpE P (Code.rangeFunc g ps assign body) Q a w := by
  intro b k cs hro hex
  have hr : Fence.wide.room (cs.length + 1 + n) := room_wide _
  have hb : Fence.wide.fn b.fn := trivial
  obtain ⟨l, mark, w₁, d, w₁', f, args, w₂, he, hres, hinv, hF, hcall⟩ := h b.fn hex
  rw [← hro] at he
  have h0 : (lone (b.atR a (.code (.rangeFunc g ps assign body) :: k)) cs w).fenced P Fence.wide := fenced_wide _ _
  have henter := stepR_rangeFunc (P := P) (b := b) (a := a) (k := k) (cs := cs) (w := w) he hres hinv
  obtain ⟨e, w₃, fr, hR, hsteps, hfn, hleave⟩ := hcall (b.atR { a with defers := mark ++ a.defers } (.inRangeFunc l :: k) :: cs) (room_wide _)
  cases e with
  | outgrown =>
    obtain ⟨a₀, w₀, hq⟩ := hR
    exact ⟨.outgrown, a₀, w₀, hq, .inr (Outgrown.of_steps (.one henter) hsteps)⟩
  | returned v =>
    have hl : (lone fr (b.atR { a with defers := mark ++ a.defers } (.inRangeFunc l :: k) :: cs) w₃).fenced P Fence.wide := fenced_wide _ _
    obtain ⟨jump, w₄, hend, hj⟩ := hR
    have sback : StepsIn (Machine.fenced P Fence.wide) P (lone (b.atR a (.code (.rangeFunc g ps assign body) :: k)) cs w) (lone (b.atR { a with defers := mark ++ a.defers } ((jump.map Item.code).toList ++ k)) cs w₄) := by
      refine .head h0 henter (StepsIn.trans hsteps (.head hl ?_ (.one (fenced_wide _ _) (stepR_endRangeFunc hend))))
      rw [← finish_atR_inRangeFunc l v]; exact step_leave_returned hleave
    cases jump with
    | none => exact ⟨.normal, _, w₄, hj, sback⟩
    | some c =>
      obtain ⟨e', a'', w₅, hq, harr⟩ := hj b k cs hro hb hr
      exact ⟨e', a'', w₅, hq, .of_steps sback harr⟩
  | panicked chain =>
    have hl : (lone fr (b.atR { a with defers := mark ++ a.defers } (.inRangeFunc l :: k) :: cs) w₃).fenced P Fence.wide := fenced_wide _ _
    refine ⟨.panic chain, _, w₃, hR, .inRangeFunc l :: k, .head h0 henter (StepsIn.trans hsteps (.one hl ?_))⟩
    rw [← Frame.raise_atR]; exact step_leave_panicked hleave

theorem yieldAt_anyX {m m' : Nat} {P : Program} {l : Nat} {args : Array Value} {W : World} {R : Ending → World → Prop} (h : YieldAt Fence.wide m P l args W R) : YieldAt Fence.wide m' P l args W R := by
  obtain ⟨fn, tmps, assign, body, hy, h1, h2⟩ := h
  exact ⟨fn, tmps, assign, body, hy, h1, fun c cs _ => h2 c cs (room_wide _)⟩
/-- How the body of a round may be left. -/
def lxPost {α : Type} (B : Nat) (T : Nat → Prop) (I : List α → World → Prop) (Ip : List PanicEntry → World → Prop) (xs : List α) (W : World) : Exit → Act → World → Prop
  | .normal, _, W' => KeepsFrom B W W' ∧ (∀ b, b < W.heap.size → T b → W'.heap[b]? = W.heap[b]?) ∧ I xs W'
  | .panic ch, a, W' => a.defers = [] ∧ KeepsFrom B W W' ∧ Ip ch W'
  | _, _, _ => False

theorem range_lx {α : Type} {P : Program} {n : Nat} {g : Operand} {ps : Array Tmp} {assign body : Code} {Q : Exit → Act → World → Prop} {a : Act} {w : World} (h1 : 1 ≤ n)
    {gf : Nat} {lb : Array Value} (hg : a.eval g = .func (.func gf) #[] lb) (eg : ∀ args w, (callFunc gf args).run P w = .ok (.enter gf args) w)
    {encs : α → Array Value} (hps : ∀ x, (encs x).size = ps.size) (I : List α → World → Prop) (hI : OwnFrom w.heap.size I) (hIq : ∀ pre A B, I pre A → A.grownBy B (some (w.heap.size + 2)) → I pre B) (Ip : List PanicEntry → World → Prop)
    (T : Nat → Prop) (hT : ∀ b, T b → b ≠ w.heap.size + 1) (S : List α → Prop)
    (G : List α → α → Prop)
    (hseq : ∀ (l : Nat) (J : List α → World → Prop) (Jp : List PanicEntry → World → Prop) (W : World), W.heap.size = w.heap.size + 2 → (∀ pre A, J pre A → I pre A) →
      (∀ pre A B, J pre A → A.grownBy B (some (w.heap.size + 2)) → J pre B) →
      (∀ m pre x A, J pre A → G pre x → YieldAt Fence.wide m P l (encs x) A fun e W' =>
        (e = .returned (.bool true) ∧ J (pre ++ [x]) W' ∧ A.heap.size ≤ W'.heap.size ∧ ∀ b, b < A.heap.size → T b → W'.heap[b]? = A.heap[b]?) ∨ (∃ ch, e = .panicked ch ∧ Jp ch W')) →
      J [] W → CallsIn Fence.wide (n - 1) P gf (#[.func (.yield l) #[] #[]] ++ lb) W fun e W' => (∃ v xs, e = .returned v ∧ S xs ∧ J xs W') ∨ (∃ ch, e = .panicked ch ∧ Jp ch W'))
    (h0 : I [] w) (Ax : List α → α → Act → World → Prop) (hAx : ∀ pre x a', OwnFrom w.heap.size fun (_ : Unit) W => Ax pre x a' W)
    (hassign : ∀ (l : Nat) (pre : List α) (x : α) (A : World) (K : Act → World → Prop), I pre A → w.heap.size + 2 ≤ A.heap.size → G pre x → (∀ a' B', KeepsFrom w.heap.size A B' → (∀ b, b < A.heap.size → T b → B'.heap[b]? = A.heap[b]?) → Ax pre x a' B' → K a' B') →
      assign.wpIn (Fence.wide.inRound l) n P (Exit.then K (fun _ _ _ => False)) { tmps := (ps.zip (encs x)).foldl (fun t (p, v) => t.setIfInBounds p v) a.tmps, defers := [] } A)
    (hbody : ∀ (l : Nat) (pre : List α) (x : α) (a' : Act) (B : World), Ax pre x a' B →
      body.wpIn (Fence.wide.inRound l) n P (lxPost w.heap.size T I Ip (pre ++ [x]) B) a' B)
    (hdone : ∀ (D : Nat) (xs : List α) (W : World), w.heap.size ≤ D → S xs → I xs W → W.heap[D]? = some (.deferred (some [])) → w.heap.size + 2 ≤ W.heap.size → Q .normal { a with defers := { target := .collected D, args := #[] } :: a.defers } W)
    (hpan : ∀ (D : Nat) (ch : List PanicEntry) (W : World), w.heap.size ≤ D → Ip ch W → W.heap[D]? = some (.deferred (some [])) → Q (.panic ch) { a with defers := { target := .collected D, args := #[] } :: a.defers } W) :
    WpE P (Code.rangeFunc g ps assign body) Q a w := by
  refine wpE_rangeFunc h1 ?_
  intro fn hfn
  obtain ⟨rec, hrec⟩ : ∃ rec : LoopState → Option Code → Loop, rec = fun st pe => { state := st, pending := pe, fn, tmps := a.tmps, params := ps, assign, body, defers := w.heap.size } := ⟨_, rfl⟩
  obtain ⟨W1, hW1⟩ : ∃ W1, (w.alloc (.deferred (some []))).alloc (.loop (rec .ready none)) = W1 := ⟨_, rfl⟩
  have hL1 : W1.heap[w.heap.size + 1]? = some (.loop (rec .ready none)) := by
    rw [← hW1]; have := World.alloc_heap_new (w.alloc (.deferred (some []))) (.loop (rec .ready none)); rwa [World.size_alloc] at this
  have hK1 : W1.heap[w.heap.size]? = some (.deferred (some [])) := by
    rw [← hW1]; exact (Below.heap_alloc _ _ _ (by simp)).trans (World.alloc_heap_new w _)
  have hI1 : I [] W1 := by rw [← hW1]; exact hI.alloc _ (hI.alloc _ h0)
  have hb1 : Below w.heap.size w W1 := by rw [← hW1]; exact ((Below.refl _ w).alloc (Nat.le_refl _) _).alloc (by simp) _
  refine ⟨w.heap.size + 1, [{ target := .collected w.heap.size, args := #[] }], W1, { target := .fn (.func gf) lb, args := #[.func (.yield (w.heap.size + 1)) #[] #[]] }, W1, gf,
    #[.func (.yield (w.heap.size + 1)) #[] #[]] ++ lb, W1, ?_, ?_, ?_, ?_⟩
  · rw [← hW1, hrec]; exact run_enterLoop_outer _ _ _ _ _
  · simp only [resolve, hg]
    simp [go_sem]
  · simp [invoke, go_sem, eg]
  · refine (hseq (w.heap.size + 1)
      (fun pre W => I pre W ∧ W.heap[w.heap.size + 1]? = some (.loop (rec .ready none)) ∧ W.heap[w.heap.size]? = some (.deferred (some [])))
      (fun ch W => Ip ch W ∧ W.heap[w.heap.size]? = some (.deferred (some [])))
      W1 (by rw [← hW1]; simp) (fun _ A h => h.1)
      (fun pre A B hs hg' => ⟨hIq pre A B hs.1 hg', (hg'.block _ (Array.getElem?_eq_some_iff.1 hs.2.1).1 (by simp)).trans hs.2.1, (hg'.block _ (Array.getElem?_eq_some_iff.1 hs.2.2).1 (by simp)).trans hs.2.2⟩)
      ?_ ⟨hI1, hL1, hK1⟩).mono ?_
    · rintro m pre x W ⟨hi, hl, hk⟩ hgx
      have hlt : w.heap.size + 1 < W.heap.size := (Array.getElem?_eq_some_iff.1 hl).1
      have hy := run_yield (P := P) (args := encs x) hl (by rw [hrec]; exact hps x)
      rw [hrec] at hy
      refine yieldAt_anyX (m := n) ⟨fn, _, assign, body, hy, roundIn_of_wpInX hfn (hassign _ pre x W _ hi hlt hgx ?_)⟩
      intro a' W' hk1 hT1 hax
      have hl1 := hk1.same _ _ (by omega) hl rfl
      have hd1 := hk1.same _ _ (Nat.le_refl _) hk rfl
      have hlt1 : w.heap.size + 1 < W'.heap.size := (Array.getElem?_eq_some_iff.1 hl1).1
      refine ⟨_, run_beginRound hl1 (by rw [hrec]), ?_⟩
      have hl2 : (W'.putObj (w.heap.size + 1) (.loop { rec .ready none with state := .busy })).heap[w.heap.size + 1]? = some (.loop { rec .ready none with state := .busy }) := World.putObj_heap_same hlt1
      have hk2 : (W'.putObj (w.heap.size + 1) (.loop { rec .ready none with state := .busy })).heap[w.heap.size]? = some (.deferred (some [])) := (World.putObj_heap_other (by omega)).trans hd1
      refine wpIn_mono (hbody _ pre x a' _ ((hAx pre x a').putObj (s := ()) _ hax (by omega) hl1 rfl)) ?_
      rintro e a3 W3 hp
      cases e with
      | normal =>
        obtain ⟨hk3, hkp3, hi3⟩ := hp
        have hl3 := hk3.same _ _ (by omega) hl2 rfl
        have hend := run_endRound (P := P) none hl3
        have hlt3 := (Array.getElem?_eq_some_iff.1 hl3).1
        have hs1 := hk1.size
        have hs3 := hk3.size
        have hp : ∀ (W : World) (l : Nat) (o : Obj), (W.putObj l o).heap.size = W.heap.size := fun W l o => by simp [World.putObj]
        rw [hp] at hs3
        have hrr : ({ { rec .ready none with state := .busy } with state := if (none : Option Code).isNone then .ready else .done, pending := none } : Loop) = rec .ready none := by rw [hrec]; rfl
        rw [hrr] at hend
        refine ⟨_, _, hend, .inl ⟨rfl, ⟨hI.putObj _ hi3 (by omega) hl3 rfl, World.putObj_heap_same hlt3, (World.putObj_heap_other (by omega)).trans (hk3.same _ _ (Nat.le_refl _) hk2 rfl)⟩, by rw [hp]; omega, fun b hlt hb => ?_⟩⟩
        have := hT b hb
        rw [World.putObj_heap_other (by omega), hkp3 b (by rw [hp]; omega) hb, World.putObj_heap_other (by omega), hT1 b hlt hb]
      | panic ch =>
        obtain ⟨hdf, hk3, hi3⟩ := hp
        exact ⟨hdf, .inr ⟨ch, rfl, hi3, hk3.same _ _ (Nat.le_refl _) hk2 rfl⟩⟩
      | ret => exact hp.elim
      | exit id => exact hp.elim
      | goto t => exact hp.elim
      | outgrown => exact hp.elim
    · rintro e W2 (⟨v, xs, rfl, hS, hi, hl, hk⟩ | ⟨ch, rfl, hi, hk⟩)
      · exact ⟨none, _, by have := run_endLoop (P := P) hl (by rw [hrec]; simp); rw [hrec] at this; exact this, hdone _ xs _ (Nat.le_refl _) hS (hI.putObj _ hi (by omega) hl rfl) ((World.putObj_heap_other (by omega)).trans hk) (by have := (Array.getElem?_eq_some_iff.1 hl).1; simp only [World.putObj, Array.size_setIfInBounds]; omega)⟩
      · exact hpan _ ch _ (Nat.le_refl _) hi hk

end Go.Proofs.YtaajkbclojmbeaaGreatDoor
namespace Go.Proofs.YtaajkbclojmbeaaGreatDoor
open Go Go.RowKit Go.Lib

theorem run_append_blk {P : Program} (w : World) (base : Nat) (t ty e : TypeId) (i : TypeInfo) (z : Value) (size bytes : Nat) (ht : P.underlying t = some (.slice e)) (hi : P.info? e = some i) (hz : i.zero = some z)
    (hsize : i.size = size) (hby : i.bytes = bytes) (hzs : z.cells.size = size) (hsz : 0 < size)
    (v : Value) (n : Nat) (xs : List Value) (hown : w.ownsRow base e size v n xs)
    (a : Addr) (m c : Nat) (news : List Value) (hl : news.length = m * size) (hnews : ∀ j u, news[j]? = some u → w.cell? (a.add j) = some u) (h1 : ∀ u ∈ news, u.oneCell' = true)
    (h63 : n + m ≤ maxLen) (hbytes : (n + m) * bytes ≤ 140737488355328) (hbase : base ≤ w.heap.size) :
    ∃ v' w', (Builtin.append_ #[t, t] ty #[v, .slice (some a) m c]).run P w = .ok v' w' ∧ w'.ownsRow base e size v' (n + m) (xs ++ news) ∧ w.grownBy w' v.ownBlock ∧
      (v'.ownBlock = v.ownBlock ∨ ∀ g, v'.ownBlock = some g → w.heap.size ≤ g) := by
  obtain ⟨v', w', hr, h2, h3, _⟩ := run_append_own (P := P) w base t ty e i z size bytes ht hi hz hsize hby hzs hsz v n xs hown a m c news hl hnews h1 h63 hbytes hbase
  refine ⟨v', w', hr, h2, h3, ?_⟩
  subst hsize
  subst hby
  rcases id hown.2 with ⟨rfl, rfl⟩ | ⟨g, cap, cur, rfl, hbg, hg, hnc, hcm, hcs, htake⟩
  · have hx : xs = [] := List.eq_nil_of_length_eq_zero (by simpa using hown.1)
    subst hx
    obtain ⟨v2, w2, hr2, k2, _, _⟩ := run_append_own (P := P) w w.heap.size t ty e i z i.size i.bytes ht hi hz rfl rfl hzs hsz (.slice none 0 0) 0 [] (World.ownsRow_nil _ _ _ _) a m c news hl hnews h1 h63 hbytes (Nat.le_refl _)
    rw [hr] at hr2
    cases hr2
    exact .inr fun g' hg' => (World.ownsRow.lt k2 g' hg').1
  · by_cases hroom : n + m ≤ cap
    · have hfit : n * i.size + news.length ≤ cur.size := by rw [hl, hcs, ← Nat.add_mul]; exact Nat.mul_le_mul_right _ hroom
      have hr2 := run_append_room (P := P) w t ty e i ht hi g n cap cur hg a m c news hl hnews h1 hroom hfit
      rw [hr] at hr2
      cases hr2
      exact .inl rfl
    · have holds : ∀ j u, xs[j]? = some u → w.cell? ((⟨g, 0, none⟩ : Addr).add j) = some u := hown.cells (g := g) rfl
      have hr2 := run_append_grow (P := P) w t ty e i z ht hi hz ⟨g, 0, none⟩ n cap xs hown.1 holds a m c news hl hnews (by omega) (by simp only [maxLen] at h63; omega) (growslice_fits (by omega) hbytes)
      rw [hr] at hr2
      cases hr2
      refine .inr fun g' hg' => ?_
      cases hg'
      exact Nat.le_refl _

/-- What an append leaves of bytes. -/
structure AppP (w w' : World) (B : Nat) (l : List UInt8) (v v' : Value) : Prop where
  own : Ow B l v' w'
  grown : w.grownBy w' v.ownBlock
  blk : v'.ownBlock = v.ownBlock ∨ ∀ g, v'.ownBlock = some g → w.heap.size ≤ g
theorem run_append_by (w : World) (ty : TypeId) (B : Nat) (l m : List UInt8) (v u : Value) (hown : Ow B l v w) (hsrc : Sr m u w) (hn : l.length + m.length ≤ 140737488355328) (hB : B ≤ w.heap.size) :
    ∃ v' w', (Builtin.append_ #[41, 41] ty #[v, u]).run Tryz.prog w = .ok v' w' ∧ AppP w w' B (l ++ m) v v' := by
  obtain ⟨i0, hi, hz0, hz1, hz2⟩ := info_parts Tryz.ofU8
  rcases hsrc with ⟨rfl, rfl⟩ | ⟨ad, c, rfl, hc⟩
  · exact ⟨v, w, run_append_owned_none (P := Tryz.prog) (w := w) B 41 ty 5 i0 1 Tryz.underlying41 hi v l.length (bc l) hown, by rwa [List.append_nil], grown_refl _ _, .inl rfl⟩
  · obtain ⟨v', w', h1, h2, h3, h4⟩ := run_append_blk (P := Tryz.prog) w B 41 ty 5 i0 (.int .u8 0) 1 1 Tryz.underlying41 hi hz0 hz1 hz2 rfl (by decide) v l.length (bc l) hown ad m.length c (bc m) (by rw [bc_length, Nat.mul_one]) hc (bc_one m) (by unfold maxLen; omega) (by omega) hB
    exact ⟨v', w', h1, by unfold Ow; rw [bc_append, List.length_append]; exact h2, h3, h4⟩
theorem wpListIn_append_by {F : Fence} {n : Nat} (w : World) {ops : Array Oper} {rest : List Oper} {o : Oper} {a : Act} {Q : Exit → Act → World → Prop} (hg : o.guard = none) (s x : Operand) (hop : o.op = .call { callee := .builtin .append, args := #[s, x], argTypes := #[41, 41] })
    (B : Nat) (l m : List UInt8) (v u : Value) (hs : a.eval s = v) (hx : a.eval x = u) (hown : Ow B l v w) (hsrc : Sr m u w) (hn : l.length + m.length ≤ 140737488355328) (hB : B ≤ w.heap.size)
    (h : ∀ v' w', AppP w w' B (l ++ m) v v' → wpListIn F n Tryz.prog ops Q rest (a.put o.dst v') w') : wpListIn F n Tryz.prog ops Q (o :: rest) a w := by
  refine wpListIn_plain hg fun K hK' => ?_
  obtain ⟨v', w', hrun, r1⟩ := run_append_by w o.type B l m v u hown hsrc hn hB
  unfold Oper.wpIn
  refine ⟨?_, ?_⟩
  · simp [Oper.about, hop, resolve, Target.leads, Sem.run_pure]
  · rw [Oper.semAt_plain F _ _ (by rw [hop]; intro c hc'; cases hc')]
    simp [execOp, hop, resolve, invoke, builtin, hs, hx, hrun, Result.andThen]
    exact hK' _ _ (h v' w' r1)
theorem wp_append_by (w : World) {o : Oper} {a : Act} {K : Act → World → Prop} {Q : Exit → Act → World → Prop} (s x : Operand) (ho : o.op = .call { callee := .builtin .append, args := #[s, x], argTypes := #[41, 41] })
    (B : Nat) (l m : List UInt8) (v u : Value) (hs : a.eval s = v) (hx : a.eval x = u) (hown : Ow B l v w) (hsrc : Sr m u w) (hn : l.length + m.length ≤ 140737488355328) (hB : B ≤ w.heap.size)
    (h : ∀ v' w', AppP w w' B (l ++ m) v v' → K (a.put o.dst v') w') : o.wp Tryz.prog a w K Q := by
  obtain ⟨v', w', hr, r1⟩ := run_append_by w o.type B l m v u hown hsrc hn hB
  unfold Oper.wp execOp
  simp only [ho, resolve, invoke, builtin, Sem.run_bind, Sem.run_pure, Result.andThen_ok, List.map_toArray, List.map_cons, List.map_nil, hs, hx, hr]
  exact h v' w' r1

/-- Bytes that may be read, in a block no older than B. -/
def SrB (B : Nat) (l : List UInt8) (v : Value) (w : World) : Prop := (v = .slice none 0 0 ∧ l = []) ∨ ∃ ad c, v = .slice (some ad) l.length c ∧ B ≤ ad.block ∧ ad.block < w.heap.size ∧ ∀ j u, (bc l)[j]? = some u → w.cell? (ad.add j) = some u
theorem SrB.sr {B : Nat} {l : List UInt8} {v : Value} {w : World} (h : SrB B l v w) : Sr l v w := by
  rcases h with h | ⟨ad, c, rfl, _, _, hc⟩
  · exact .inl h
  · exact .inr ⟨ad, c, rfl, hc⟩
theorem SrB.slice {B : Nat} {l : List UInt8} {v : Value} {w : World} (h : SrB B l v w) : ∃ a cap, v = .slice a l.length cap := by
  rcases h with ⟨rfl, rfl⟩ | ⟨ad, c, rfl, _, _, _⟩
  · exact ⟨none, 0, rfl⟩
  · exact ⟨_, _, rfl⟩
theorem SrB.mono {A B : Nat} {l : List UInt8} {v : Value} {w : World} (h : SrB B l v w) (hAB : A ≤ B) : SrB A l v w := by
  rcases h with h | ⟨ad, c, rfl, h1, h2, hc⟩
  · exact .inl h
  · exact .inr ⟨ad, c, rfl, Nat.le_trans hAB h1, h2, hc⟩
/-- A block below is changed. -/
theorem SrB.grown {B : Nat} {l : List UInt8} {v : Value} {w W : World} {row : Option Nat} (h : SrB B l v w) (hg : w.grownBy W row) (hr : ∀ g, row = some g → g < B) : SrB B l v W := by
  rcases h with h | ⟨ad, c, rfl, h1, h2, hc⟩
  · exact .inl h
  · refine .inr ⟨ad, c, rfl, h1, Nat.lt_of_lt_of_le h2 hg.size, fun j u hj => ?_⟩
    have e : (ad.add j).block = ad.block := by unfold Addr.add; split <;> rfl
    exact hg.cell (hc j u hj) (fun e' => by have := hr ad.block (by rw [← e']; rw [e]); omega)
theorem SrB.from_ {B : Nat} {l : List UInt8} {v : Value} {w W : World} (h : SrB B l v w) (hb : Below w.heap.size w W) : SrB B l v W :=
  h.grown (row := none) ⟨hb.os, hb.tape, hb.output, hb.size, fun i hi _ => hb.block i hi⟩ (fun g e => by cases e)
theorem Ow.srB {B : Nat} {l : List UInt8} {v : Value} {w : World} (h : Ow B l v w) : SrB B l v w := by
  have h' := h
  rcases h.2 with ⟨h0, h1⟩ | ⟨g, cap, cur, rfl, hB, hg, h1⟩
  · exact .inl ⟨h0, List.eq_nil_of_length_eq_zero h1⟩
  · exact .inr ⟨⟨g, 0, none⟩, cap, rfl, hB, (Array.getElem?_eq_some_iff.1 hg).1, World.ownsRow.cells h' (g := g) rfl⟩
/-- Bytes of one's own, where another block is changed. -/
theorem Ow.grown {B : Nat} {l : List UInt8} {v : Value} {w W : World} {row : Option Nat} (h : Ow B l v w) (hg : w.grownBy W row) (hr : ∀ g, v.ownBlock = some g → row ≠ some g) : Ow B l v W := by
  refine ⟨h.1, ?_⟩
  rcases h.2 with h0 | ⟨g, cap, cur, hv, hB, hgc, h1⟩
  · exact .inl h0
  · exact .inr ⟨g, cap, cur, hv, hB, (hg.block g (Array.getElem?_eq_some_iff.1 hgc).1 (fun e => hr g (by rw [hv]; rfl) e.symm)).trans hgc, h1⟩
theorem Ow.lt {B : Nat} {l : List UInt8} {v : Value} {w : World} (h : Ow B l v w) : ∀ k, v.ownBlock = some k → B ≤ k ∧ k < w.heap.size := World.ownsRow.lt h
end Go.Proofs.YtaajkbclojmbeaaGreatDoor
namespace Go.Proofs.YtaajkbclojmbeaaGreatDoor
open Go Go.RowKit Go.Lib

/-- What a slice of texts leads to. -/
inductive Ts (w : World) (n : Nat) : List (List UInt8) → Value → Prop
  | nil_ {a : Option Addr} {cap : Nat} (hm : cap ≤ maxLen) : Ts w n [] (.slice a 0 cap)
  | row {ls : List (List UInt8)} {b o cap : Nat} (hb : b < n) (hc : ls.length ≤ cap) (hm : cap ≤ maxLen)
      (c : ∀ i s, ls[i]? = some s → w.cell? ⟨b, o + i, none⟩ = some (.string ⟨s.toArray⟩)) : Ts w n ls (.slice (some ⟨b, o, none⟩) ls.length cap)
theorem Ts.from_ {w W : World} {n : Nat} {ls : List (List UInt8)} {v : Value} (h : Ts w n ls v) (hb : Below n w W) : Ts W n ls v := by
  cases h with
  | nil_ hm => exact .nil_ hm
  | row hbn hc hm c => exact .row hbn hc hm fun i s e => (hb.cell (p := ⟨_, _, none⟩) hbn).trans (c i s e)
theorem Ts.mono {w : World} {m n : Nat} {ls : List (List UInt8)} {v : Value} (h : Ts w m ls v) (hmn : m ≤ n) : Ts w n ls v := by
  cases h with
  | nil_ hm => exact .nil_ hm
  | row hbn hc hm c => exact .row (Nat.lt_of_lt_of_le hbn hmn) hc hm c
theorem Ts.slice {w : World} {n : Nat} {ls : List (List UInt8)} {v : Value} (h : Ts w n ls v) : ∃ a cap, v = .slice a ls.length cap ∧ ls.length ≤ cap ∧ cap ≤ maxLen := by
  cases h with
  | nil_ hm => exact ⟨_, _, rfl, Nat.zero_le _, hm⟩
  | row hbn hc hm c => exact ⟨_, _, rfl, hc, hm⟩
theorem Ts.at_ {w : World} {n : Nat} {ls : List (List UInt8)} {a : Option Addr} {m cap i : Nat} (h : Ts w n ls (.slice a m cap)) (hi : i < ls.length) : ∃ b o s, a = some ⟨b, o, none⟩ ∧ b < n ∧ ls[i]? = some s ∧ w.cell? ⟨b, o + i, none⟩ = some (.string ⟨s.toArray⟩) := by
  cases h with
  | nil_ hm => simp at hi
  | row hbn hc hm c => exact ⟨_, _, ls[i], rfl, hbn, List.getElem?_eq_getElem hi, c i _ (List.getElem?_eq_getElem hi)⟩

/-- Texts as cells. -/
def tc (l : List (List UInt8)) : List Value := l.map fun s => Value.string ⟨s.toArray⟩
theorem tc_append (l m : List (List UInt8)) : tc (l ++ m) = tc l ++ tc m := by simp [tc]
/-- A row of texts of one's own. -/
def OwS (B : Nat) (l : List (List UInt8)) (v : Value) (w : World) : Prop := w.ownsRow B 9 1 v l.length (tc l)
theorem OwS.nil (B : Nat) (w : World) : OwS B [] (.slice none 0 0) w := World.ownsRow_nil _ _ _ _
theorem OwS.mono {A B : Nat} {l : List (List UInt8)} {v : Value} {w : World} (h : OwS B l v w) (hAB : A ≤ B) : OwS A l v w := by
  refine ⟨h.1, ?_⟩
  rcases h.2 with h0 | ⟨g, cap, cur, hv, hb, h1⟩
  · exact .inl h0
  · exact .inr ⟨g, cap, cur, hv, by omega, h1⟩
theorem OwS.lt {B : Nat} {l : List (List UInt8)} {v : Value} {w : World} (h : OwS B l v w) : ∀ k, v.ownBlock = some k → B ≤ k ∧ k < w.heap.size := World.ownsRow.lt h
theorem OwS.len {B : Nat} {l : List (List UInt8)} {v : Value} {w : World} (h : OwS B l v w) : ∃ a cap, v = .slice a l.length cap := by
  rcases h.2 with ⟨h0, h1⟩ | ⟨g, cap, cur, rfl, hB, hg, h1⟩
  · exact ⟨none, 0, by rw [h0, h1]⟩
  · exact ⟨_, _, rfl⟩
/-- Where a row that is not empty stands, and its cells. -/
theorem OwS.row {B : Nat} {l : List (List UInt8)} {v : Value} {w : World} (h : OwS B l v w) (hl : 0 < l.length) : ∃ g cap, v = .slice (some ⟨g, 0, none⟩) l.length cap ∧ B ≤ g ∧ g < w.heap.size ∧ ∀ j n, l[j]? = some n → w.cell? ⟨g, j, none⟩ = some (.string ⟨n.toArray⟩) := by
  rcases id h.2 with ⟨_, h0⟩ | ⟨g, cap, cur, rfl, hB, hg, hnc, hcm, hcs, htake⟩
  · omega
  · refine ⟨g, cap, rfl, hB, (Array.getElem?_eq_some_iff.1 hg).1, fun j n hj => ?_⟩
    have hi := (List.getElem?_eq_some_iff.1 hj).1
    have := World.ownsRow.cellAt h j (by omega)
    rw [this]
    simp [tc, hj]
theorem OwS.grown {B : Nat} {l : List (List UInt8)} {v : Value} {w W : World} {row : Option Nat} (h : OwS B l v w) (hg : w.grownBy W row) (hr : ∀ g, v.ownBlock = some g → row ≠ some g) : OwS B l v W := by
  refine ⟨h.1, ?_⟩
  rcases h.2 with h0 | ⟨g, cap, cur, hv, hB, hgc, h1⟩
  · exact .inl h0
  · exact .inr ⟨g, cap, cur, hv, hB, (hg.block g (Array.getElem?_eq_some_iff.1 hgc).1 (fun e => hr g (by rw [hv]; rfl) e.symm)).trans hgc, h1⟩
theorem OwS.from_ {B : Nat} {l : List (List UInt8)} {v : Value} {w W : World} (h : OwS B l v w) (hb : Below w.heap.size w W) : OwS B l v W :=
  h.grown (row := none) ⟨hb.os, hb.tape, hb.output, hb.size, fun i hi _ => hb.block i hi⟩ (fun g _ e => by cases e)
theorem OwS.notCells {B : Nat} {l : List (List UInt8)} {v : Value} {w : World} (h : OwS B l v w) {c : Nat} {o : Obj} (hc : w.heap[c]? = some o) (ho : o.isCells = false) : some c ≠ v.ownBlock := fun e => by
  rcases h.2 with ⟨rfl, _⟩ | ⟨g', cap', cur', rfl, _, hg', _⟩
  · cases e
  · cases e
    rw [hg'] at hc
    cases hc
    cases ho
theorem Tryz.ofTxt : (Tryz.prog.info? 9).map (fun i => (i.zero, i.size, i.bytes)) = some (some (.string ⟨#[]⟩), 1, 16) := by kernel_rfl
structure AppS (w w' : World) (B : Nat) (l : List (List UInt8)) (v v' : Value) : Prop where
  own : OwS B l v' w'
  grown : w.grownBy w' v.ownBlock
  blk : v'.ownBlock = v.ownBlock ∨ ∀ g, v'.ownBlock = some g → w.heap.size ≤ g
theorem run_append_txt (w : World) (ty : TypeId) (B : Nat) (l : List (List UInt8)) (n : List UInt8) (g : Nat) (v : Value) (hown : OwS B l v w) (hc : w.cell? ⟨g, 0, none⟩ = some (.string ⟨n.toArray⟩)) (hn : l.length ≤ 1000000) (hB : B ≤ w.heap.size) :
    ∃ v' w', (Builtin.append_ #[22, 22] ty #[v, .slice (some ⟨g, 0, none⟩) 1 1]).run Tryz.prog w = .ok v' w' ∧ AppS w w' B (l ++ [n]) v v' := by
  obtain ⟨i0, hi, hz0, hz1, hz2⟩ := info_parts Tryz.ofTxt
  obtain ⟨v', w', h1, h2, h3, h4⟩ := run_append_blk (P := Tryz.prog) w B 22 ty 9 i0 (.string ⟨#[]⟩) 1 16 Tryz.underlying22 hi hz0 hz1 hz2 rfl (by decide) v l.length (tc l) hown ⟨g, 0, none⟩ 1 1 [.string ⟨n.toArray⟩] rfl (fun j u hj => by
    cases j with
    | zero => cases hj; exact hc
    | succ j => simp at hj) (by simp [Value.oneCell']) (by unfold maxLen; omega) (by omega) hB
  exact ⟨v', w', h1, by unfold OwS; rw [tc_append, List.length_append]; exact h2, h3, h4⟩
theorem wp_append_txt (w : World) {o : Oper} {a : Act} {K : Act → World → Prop} {Q : Exit → Act → World → Prop} (s x : Operand) (ho : o.op = .call { callee := .builtin .append, args := #[s, x], argTypes := #[22, 22] })
    (B : Nat) (l : List (List UInt8)) (n : List UInt8) (g : Nat) (v : Value) (hs : a.eval s = v) (hx : a.eval x = .slice (some ⟨g, 0, none⟩) 1 1) (hown : OwS B l v w) (hc : w.cell? ⟨g, 0, none⟩ = some (.string ⟨n.toArray⟩)) (hn : l.length ≤ 1000000) (hB : B ≤ w.heap.size)
    (h : ∀ v' w', AppS w w' B (l ++ [n]) v v' → K (a.put o.dst v') w') : o.wp Tryz.prog a w K Q := by
  obtain ⟨v', w', hr, r1⟩ := run_append_txt w o.type B l n g v hown hc hn hB
  unfold Oper.wp execOp
  simp only [ho, resolve, invoke, builtin, Sem.run_bind, Sem.run_pure, Result.andThen_ok, List.map_toArray, List.map_cons, List.map_nil, hs, hx, hr]
  exact h v' w' r1
theorem KO_appS {W W1 : World} {B : Nat} {l s : List (List UInt8)} {v v' : Value} (hA : AppS W W1 B s v v') (hO : OwS B l v W) : KeepsOthers W W1 :=
  ⟨hA.grown.size, fun c _ h ho => (hA.grown.block c (Array.getElem?_eq_some_iff.1 h).1 (hO.notCells h ho)).trans h⟩


/-- What a row of one's own leads to. -/
theorem OwS.ts {B : Nat} {l : List (List UInt8)} {v : Value} {w : World} (h : OwS B l v w) : Ts w w.heap.size l v := by
  rcases id h.2 with ⟨h0, h1⟩ | ⟨g, cap, cur, rfl, hB, hg, hnc, hcm, hcs, htake⟩
  · obtain rfl := List.eq_nil_of_length_eq_zero h1
    cases h0
    exact .nil_ (by decide)
  · refine .row (Array.getElem?_eq_some_iff.1 hg).1 hnc hcm fun i s e => ?_
    have hi := (List.getElem?_eq_some_iff.1 e).1
    rw [Nat.zero_add, World.ownsRow.cellAt h i (by omega)]
    simp [tc, e]
end Go.Proofs.YtaajkbclojmbeaaGreatDoor
namespace Go.Proofs.YtaajkbclojmbeaaGreatDoor
open Go Go.RowKit

set_option maxRecDepth 100000 in
theorem filled_any (s : List UInt8) (w : World) (h : s.length ≤ 32) : Calls Tryz.prog 35 #[.string ⟨s.toArray⟩] w fun e w' => e = .returned (.string ⟨(M.fill32 s).toArray⟩) ∧ Below w.heap.size w w' := by
  obtain ⟨c, hc⟩ : ∃ c, 32 - s.length = c := ⟨_, rfl⟩
  have hci : (32 : Int) - (s.length : Int) = c := by omega
  have HR := Lib.hid (repeat_any c w (by omega))
  have hf : M.fill32 s = s ++ List.replicate c (0 : UInt8) := by unfold M.fill32; rw [hc]
  rw [hf]
  have hrl : (List.replicate c (0 : UInt8)).length ≤ 32 := by simp; omega
  obtain ⟨r, hr⟩ : ∃ r, List.replicate c (0 : UInt8) = r := ⟨_, rfl⟩
  rw [hr] at HR hrl ⊢
  clear hf hr hc
  go_enter Tryz.func35, Tryz.ntmps35
  go_wp2_with fail
  refine HR.out.mono ?_
  rintro e w1 ⟨rfl, hb⟩
  go_wp2_with fail
  go_ret
  exact ⟨by simp; apply ByteArray.ext; simp, hb⟩
set_option maxRecDepth 100000 in
theorem noChunk_any (s : List UInt8) (w : World) : Calls Tryz.prog 15 #[.string ⟨s.toArray⟩] w fun e w' => e = .returned (.bool (!M.isC s)) ∧ w' = w := by
  by_cases h : s.length = 32
  · have hi : (s.length : Int) = 32 := by omega
    have e : M.isC s = true := by simp [M.isC, h]
    rw [e]
    go_enter Tryz.func15, Tryz.ntmps15
    go_wp2_with fail
    go_ret
    exact ⟨by simp, rfl⟩
  · have hi : ¬ (s.length : Int) = 32 := by omega
    have e : M.isC s = false := by simp [M.isC, h]
    rw [e]
    go_enter Tryz.func15, Tryz.ntmps15
    go_wp2_with fail
    go_ret
    exact ⟨by simpa using hi, rfl⟩
/-- The function as it is handed over. -/
abbrev fNo : Value := .func (.func 15) #[] #[]
set_option maxRecDepth 100000 in
set_option maxHeartbeats 4000000 in
theorem indexFunc_any (ls : List (List UInt8)) (a : Option Addr) (cap : Nat) (w : World) (hT : Ts w w.heap.size ls (.slice a ls.length cap)) (hl : ls.length ≤ 4000) :
    Calls Tryz.prog 33 #[.slice a ls.length cap, fNo] w fun e w' => (∃ j : Int, e = .returned (.int .i64 j) ∧ (ls.all M.isC = true → j = -1) ∧ (ls.all M.isC = false → 0 ≤ j)) ∧ w' = w := by
  have hen : ∀ args w, (callFunc 15 args).run Tryz.prog w = .ok (.enter 15 args) w := by
    intro args w
    simp [callFunc, go_sem, Tryz.f15]
  have HT := Lib.hid hT
  have HALL : Hid (∀ j, j ≤ ls.length → (ls.take j).all M.isC = true → j = ls.length → ls.all M.isC = true) := fun j _ h e => by rw [e, List.take_length] at h; exact h
  obtain ⟨q, hq⟩ : ∃ q, ls.all M.isC = q := ⟨_, rfl⟩
  rw [hq]
  have HQ := Lib.hid hq
  clear hT hq
  go_enter Tryz.func33, Tryz.ntmps33
  go_wp2_with fail
  go_loopw [8] (fun i wr => ∃ j : Nat, j ≤ ls.length ∧ i = .int .i64 (j : Nat) ∧ (ls.take j).all M.isC = true ∧ wr = w) (fun i _ => ls.length - (intOf i).toNat)
  case atStart => exact ⟨0, Nat.zero_le _, rfl, rfl, rfl⟩
  case round =>
    obtain ⟨j, hj, rfl, hall, rfl⟩ := hrel
    by_cases hlt : j < ls.length
    · obtain ⟨b, o, s, rfl, hbn, hs, hc⟩ := HT.out.at_ hlt
      have HN := Lib.hid (noChunk_any s wr)
      have hj9 : j < 4000 := by omega
      have hlti : (j : Int) < ls.length := by omega
      have HALLJ := Lib.hid hall
      have HS := Lib.hid hs
      clear hall hs
      cases hcs : M.isC s with
      | true =>
        rw [hcs] at HN
        have HCS := Lib.hid hcs
        clear hcs
        go_wp2_with fail
        refine HN.out.mono ?_
        rintro e w1 ⟨rfl, rfl⟩
        go_wp2_with fail
        exact ⟨⟨j + 1, by omega, by simp, by rw [List.take_add_one, HS.out]; simp [HALLJ.out, HCS.out], trivial⟩, by simp [intOf]; omega⟩
      | false =>
        rw [hcs] at HN
        have HCS := Lib.hid hcs
        clear hcs
        go_wp2_with fail
        refine HN.out.mono ?_
        rintro e w1 ⟨rfl, rfl⟩
        go_wp2_with fail
        go_ret
        refine ⟨⟨j, rfl, fun h => ?_, fun _ => by omega⟩, rfl⟩
        have := List.all_eq_true.1 (HQ.out.trans h) s (List.mem_of_getElem? HS.out)
        rw [HCS.out] at this
        cases this
    · obtain rfl : j = ls.length := by omega
      go_wp2_with fail
      go_ret
      refine ⟨⟨-1, rfl, fun _ => rfl, fun h => ?_⟩, rfl⟩
      have := HALL.out _ (Nat.le_refl _) hall rfl
      rw [HQ.out, h] at this
      cases this
set_option maxRecDepth 100000 in
theorem containsNo_any (ls : List (List UInt8)) (a : Option Addr) (cap : Nat) (w : World) (hT : Ts w w.heap.size ls (.slice a ls.length cap)) (hl : ls.length ≤ 4000) :
    Calls Tryz.prog 14 #[.slice a ls.length cap, fNo] w fun e w' => e = .returned (.bool (!ls.all M.isC)) ∧ w' = w := by
  have HI := Lib.hid (indexFunc_any ls a cap w hT hl)
  obtain ⟨q, hq⟩ : ∃ q, ls.all M.isC = q := ⟨_, rfl⟩
  rw [hq] at HI ⊢
  clear hq hT
  go_enter Tryz.func14, Tryz.ntmps14
  go_wp2_with fail
  refine HI.out.mono ?_
  rintro e w1 ⟨⟨j, rfl, h1, h2⟩, rfl⟩
  cases q with
  | true =>
    obtain rfl := h1 rfl
    go_wp2_with fail
    go_ret
    exact ⟨rfl, rfl⟩
  | false =>
    have h3 : (0 : Int) ≤ j := h2 rfl
    go_wp2_with fail
    go_ret
    exact ⟨by simp, rfl⟩
end Go.Proofs.YtaajkbclojmbeaaGreatDoor
namespace Go.Proofs.YtaajkbclojmbeaaGreatDoor
open Go Go.RowKit

/-- A region of a function's text, by its number. -/
def regAt (k : Nat) : Code → Option Code
  | .region id ops d => if id = k then some (.region id ops d) else none
  | .seq a b => (regAt k a).or (regAt k b)
  | .cond _ a b => (regAt k a).or (regAt k b)
  | .block _ b => regAt k b
  | .loop b => regAt k b
  | .rangeFunc _ _ _ b => regAt k b
  | .scope b => regAt k b
  | _ => none

/-- Left off its end, and so. -/
def nrm (R : Act → World → Prop) : Exit → Act → World → Prop
  | .normal, a, w => R a w
  | _, _, _ => False

theorem wpIn_mono' {F : Fence} {n : Nat} {P : Program} {c : Code} {R : Act → World → Prop} {Q : Exit → Act → World → Prop} {a : Act} {w : World} (h : c.wpIn F n P (nrm R) a w) (hQ : ∀ b u, R b u → Q .normal b u) : c.wpIn F n P Q a w :=
  wpIn_mono h (fun e b u h => by cases e <;> first | exact hQ _ _ h | exact h.elim)

/-! A region that draws its order, in a round: as everywhere, if it defers nothing. -/
section
variable {P : Program} {ops : Array Oper} {Q : Exit → Act → World → Prop} {md : Region.Mode}

def noDefer (ops : Array Oper) : Bool := ops.all fun o => match o.op with | .defer _ => false | _ => true

theorem rows_wide {n : Nat} {row : String} {args : Array Value} {w : World} {R : Value → World → Prop} (h : Rows P row args w R) : RowsIn Fence.wide n P row args w R :=
  fun c cs _ => let ⟨v, w', r, s⟩ := h c cs; ⟨v, w', r, stepsIn_wide.2 s⟩

theorem wp_round {l n : Nat} {o : Oper} {a : Act} {w : World} {K K' : Act → World → Prop} (ho : ∀ c, o.op ≠ .defer c) (hK : ∀ a w, K a w → K' a w) (h : o.wp P a w K Q) : o.wpIn (Fence.wide.inRound l) n P a w K' Q := by
  unfold Oper.wpIn
  refine ⟨fun _ _ => trivial, ?_⟩
  rw [show (Fence.wide.inRound l).round = some l from rfl, Oper.semAt_some l _ _ ho]
  unfold Oper.wp at h
  generalize (execOp a.eval o).run P w = r at h
  cases r with
  | ok x w' =>
    cases x <;> simp only [Oper.upon, Oper.uponIn] at h ⊢ <;>
      first
        | exact hK _ _ h
        | exact ⟨fun h => (by cases h), (callsIn_wide.2 h : CallsIn Fence.wide _ P _ _ _ _).mono (fun e w'' he => by cases e <;> first | exact hK _ _ he | exact he)⟩
        | exact ⟨fun h => (by cases h), (rows_wide h).mono (fun _ _ he => hK _ _ he)⟩
        | exact h
  | halt x w' => cases x <;> simp only [Oper.upon, Oper.uponIn] at h ⊢ <;> exact h

theorem nrm_out {R : Act → World → Prop} : ¬ LetsOut (nrm R) := fun ⟨_, _, h⟩ => h
theorem noDefer_at {i : Nat} {o : Oper} (hd : noDefer ops = true) (hi : ops[i]? = some o) : ∀ c, o.op ≠ .defer c := by
  intro c hc
  have := (Array.all_eq_true_iff_forall_mem.1 hd) o (Array.mem_of_getElem? hi)
  rw [hc] at this
  cases this
theorem wpAny_round {l n : Nat} {R : Act → World → Prop} (hd : noDefer ops = true) : ∀ (fuel : Nat) (listed : Array Bool) (a : Act) (w : World), wpAny P md ops (nrm R) fuel listed a w → wpAnyIn (Fence.wide.inRound l) n P md ops (nrm R) fuel listed a w
  | 0, _, _, _, h => h
  | fuel + 1, listed, a, w, h => by
    refine ⟨h.1, fun i hi => ?_⟩
    have h1 := h.2 i hi
    unfold wpOp at h1
    unfold wpOpIn
    cases ho : ops[i]? with
    | none => simp only [ho] at h1 ⊢; exact wpAny_round hd fuel _ _ _ h1
    | some o =>
      simp only [ho] at h1 ⊢
      by_cases hw : Region.wanted o (yielded ops a.tmps) = true
      · simp only [hw, if_true] at h1 ⊢
        rcases h1 with h1 | ⟨_, h1⟩
        · exact wp_round (noDefer_at hd ho) (fun a w => wpAny_round hd fuel _ a w) h1
        · exact absurd h1 nrm_out
      · simp only [hw, if_false, Bool.false_eq_true] at h1 ⊢
        exact ⟨fun _ _ => trivial, wpAny_round hd fuel _ _ _ h1⟩
end
end Go.Proofs.YtaajkbclojmbeaaGreatDoor
namespace Go.Proofs.YtaajkbclojmbeaaGreatDoor
open Go Go.RowKit

section
variable {P : Program} {ops : Array Oper} {Q : Exit → Act → World → Prop} {md : Region.Mode}
/-- Reads and quiet calls, and a store at last, in a round. -/
theorem round_still_tail {r m id : Nat} {Q : Exit → Act → World → Prop} {a : Act} {w : World} {l : List Oper} (n : Nat) (hm : P.follows .mixedOrders = true) (hB : Region.lexTailB .any l.toArray n = true) (hd : noDefer l.toArray = true)
    (h : wpStill P l.toArray { w with drawn := w.drawn + 1 } (fun a' => wpList P l.toArray (nrm (fun b u => Q .normal b u)) (l.drop n) a' { w with drawn := w.drawn + 1 }) (l.take n) a) : (Code.region id l.toArray true).wpIn (Fence.wide.inRound r) m P Q a w := by
  refine wpIn_mono' (R := fun b u => Q .normal b u) ?_ (fun _ _ h => h)
  simp only [Region.lexTailB, Bool.and_eq_true, decide_eq_true_eq] at hB
  obtain ⟨⟨⟨⟨hsel, hn⟩, hs⟩, hc⟩, hlex⟩ := hB
  have hn' : n < l.length := by simpa using hn
  have htl : (l.take n).length = n := by simp; omega
  have hdl : (l.drop n).length = l.toArray.size - n := by simp
  have inv0 : HeadInv .any l.toArray n (Array.replicate l.toArray.size false) :=
    ⟨by simp, fun j oj _ hl => (by rw [getD_replicate_false] at hl; cases hl), fun t _ ht => getD_in (by simpa using ht) (getD_replicate_false _ _)⟩
  have H := wpAnyL_lex (md := .any) (g := l.toArray.size - n) hsel hs hc hn (l.take n) 0 _ a (fun j hj => by
    have hj' : j < n := by rw [htl] at hj; exact hj
    simp [hj']) (by simpa using htl) inv0 (by rw [htl]; exact hlex) h
  refine wpIn_region_any hm (wpAny_round hd _ _ _ _ ?_)
  have := wpAny_of_head (Q' := nrm (fun b u => Q .normal b u)) (g := l.toArray.size - n) (fun listed a' hL => by
    have := wpAny_of_seq (md := .any) (Q' := nrm (fun b u => Q .normal b u)) (l.drop n) n listed a' { w with drawn := w.drawn + 1 } (fun j => by simp [List.getElem?_drop]) (by rw [hdl]; exact hL.1) hL.2
    rwa [hdl] at this) _ _ _ H
  rw [htl, show n + (l.toArray.size - n) = l.toArray.size by omega] at this
  exact this
end
end Go.Proofs.YtaajkbclojmbeaaGreatDoor
namespace Go.Proofs.YtaajkbclojmbeaaGreatDoor
open Go Go.RowKit

/-- A word as a value. -/
abbrev wd (a b c d : Int) : Value := .agg #[.int .u64 a, .int .u64 b, .int .u64 c, .int .u64 d]

/-- A number's word. -/
abbrev wn (N : Nat) : Value := wd (M.pt 0 N) (M.pt 1 N) (M.pt 2 N) (M.pt 3 N)

end Go.Proofs.YtaajkbclojmbeaaGreatDoor
namespace Go.Proofs.YtaajkbclojmbeaaGreatDoor
open Go Go.RowKit

/-- What a slice of types leads to, in the first n blocks. -/
inductive LayT (w : World) (n : Nat) : List M.Ty → Value → Prop
  | nil_ {a : Option Addr} {cap : Nat} (hm : cap ≤ maxLen) : LayT w n [] (.slice a 0 cap)
  | row {ts : List M.Ty} {b o cap : Nat} (V : Nat → Value) (hb : b < n) (hc : ts.length ≤ cap) (hm : cap ≤ maxLen)
      (c0 : ∀ (i : Nat) (k m : Int) (us : List M.Ty), ts[i]? = some (M.Ty.mk k m us) → w.cell? ⟨b, o + i * 3, none⟩ = some (.int .i64 k))
      (c1 : ∀ (i : Nat) (k m : Int) (us : List M.Ty), ts[i]? = some (M.Ty.mk k m us) → w.cell? ⟨b, o + i * 3 + 1, none⟩ = some (.int .i64 m))
      (c2 : ∀ (i : Nat) (k m : Int) (us : List M.Ty), ts[i]? = some (M.Ty.mk k m us) → w.cell? ⟨b, o + i * 3 + 2, none⟩ = some (V i))
      (r : ∀ (i : Nat) (k m : Int) (us : List M.Ty), ts[i]? = some (M.Ty.mk k m us) → LayT w n us (V i)) : LayT w n ts (.slice (some ⟨b, o, none⟩) ts.length cap)
theorem LayT.from_ {w W : World} {n : Nat} {ts : List M.Ty} {v : Value} (h : LayT w n ts v) (hb : Below n w W) : LayT W n ts v := by
  induction h with
  | nil_ hm => exact .nil_ hm
  | row V hlt hc hm c0 c1 c2 _ ih =>
    exact .row V hlt hc hm (fun i l d ys e => (hb.cell (p := ⟨_, _, _⟩) hlt).trans (c0 i l d ys e)) (fun i l d ys e => (hb.cell (p := ⟨_, _, _⟩) hlt).trans (c1 i l d ys e)) (fun i l d ys e => (hb.cell (p := ⟨_, _, _⟩) hlt).trans (c2 i l d ys e)) ih
theorem LayT.mono {w : World} {n m : Nat} {ts : List M.Ty} {v : Value} (h : LayT w n ts v) (hnm : n ≤ m) : LayT w m ts v := by
  induction h with
  | nil_ hm => exact .nil_ hm
  | row V hlt hc hm c0 c1 c2 _ ih => exact .row V (by omega) hc hm c0 c1 c2 ih
theorem LayT.slice {w : World} {n : Nat} {ts : List M.Ty} {v : Value} (h : LayT w n ts v) : ∃ a cap, v = .slice a ts.length cap ∧ ts.length ≤ cap ∧ cap ≤ maxLen := by
  cases h with
  | nil_ hm => exact ⟨_, _, rfl, Nat.zero_le _, hm⟩
  | row V hlt hc hm c0 c1 c2 r => exact ⟨_, _, rfl, hc, hm⟩
/-- One type of a slice. -/
theorem LayT.at_ {w : World} {n i : Nat} {ts : List M.Ty} {a : Option Addr} {cap : Nat} (h : LayT w n ts (.slice a ts.length cap)) (hi : i < ts.length) : ∃ b o k m us au cu, a = some ⟨b, o, none⟩ ∧ b < n ∧ ts[i]? = some (.mk k m us) ∧
    w.cell? ⟨b, o + i * 3, none⟩ = some (.int .i64 k) ∧ w.cell? ⟨b, o + i * 3 + 1, none⟩ = some (.int .i64 m) ∧ w.cell? ⟨b, o + i * 3 + 2, none⟩ = some (.slice au us.length cu) ∧ LayT w n us (.slice au us.length cu) := by
  cases h with
  | nil_ hm => simp at hi
  | @row _ b o cap V hlt hc hm c0 c1 c2 r =>
    obtain ⟨k, m, us, e⟩ : ∃ k m us, ts[i]? = some (.mk k m us) := by
      rw [List.getElem?_eq_getElem hi]
      obtain ⟨k, m, us⟩ := ts[i]
      exact ⟨k, m, us, rfl⟩
    obtain ⟨au, cu, hV, _, _⟩ := (r i k m us e).slice
    exact ⟨b, o, k, m, us, au, cu, rfl, hlt, e, c0 i k m us e, c1 i k m us e, hV ▸ c2 i k m us e, hV ▸ r i k m us e⟩
/-- A type as a value. -/
abbrev tv (k m : Int) (v : Value) : Value := .agg #[.int .i64 k, .int .i64 m, v]
/-- The box of a type. -/
structure BoxT (W : World) (S : Nat) (k m : Int) (v : Value) : Prop where
  c0 : W.cell? ⟨S, 0, none⟩ = some (.int .i64 k)
  c1 : W.cell? ⟨S, 1, none⟩ = some (.int .i64 m)
  c2 : W.cell? ⟨S, 2, none⟩ = some v
theorem BoxT.new (w : World) (k m : Int) (v : Value) (t : TypeId) : BoxT (w.alloc (.cells #[.int .i64 k, .int .i64 m, v] t)) w.heap.size k m v := ⟨by simp [go_sem], by simp [go_sem], by simp [go_sem]⟩
theorem BoxT.from_ {w W : World} {S n : Nat} {k m : Int} {v : Value} (h : BoxT w S k m v) (hb : Below n w W) (hS : S < n) : BoxT W S k m v :=
  ⟨(hb.cell (p := ⟨S, 0, none⟩) hS).trans h.c0, (hb.cell (p := ⟨S, 1, none⟩) hS).trans h.c1, (hb.cell (p := ⟨S, 2, none⟩) hS).trans h.c2⟩
theorem size_ty {ts : List M.Ty} {i : Nat} {x : M.Ty} (h : ts[i]? = some x) : SizeOf.sizeOf x < SizeOf.sizeOf ts := List.sizeOf_lt_of_mem (List.mem_of_getElem? h)

/-- What a slice of bits leads to. -/
inductive LayB (w : World) (n : Nat) : List Bool → Value → Prop
  | nil_ {a : Option Addr} {cap : Nat} (hm : cap ≤ maxLen) : LayB w n [] (.slice a 0 cap)
  | row {bs : List Bool} {b o cap : Nat} (hb : b < n) (hc : bs.length ≤ cap) (hm : cap ≤ maxLen)
      (c : ∀ (i : Nat) (x : Bool), bs[i]? = some x → w.cell? ⟨b, o + i, none⟩ = some (.bool x)) : LayB w n bs (.slice (some ⟨b, o, none⟩) bs.length cap)
theorem LayB.from_ {w W : World} {n : Nat} {bs : List Bool} {v : Value} (h : LayB w n bs v) (hb : Below n w W) : LayB W n bs v := by
  cases h with
  | nil_ hm => exact .nil_ hm
  | row hbn hc hm c => exact .row hbn hc hm fun i s e => (hb.cell (p := ⟨_, _, none⟩) hbn).trans (c i s e)
theorem LayB.mono {w : World} {m n : Nat} {bs : List Bool} {v : Value} (h : LayB w m bs v) (hmn : m ≤ n) : LayB w n bs v := by
  cases h with
  | nil_ hm => exact .nil_ hm
  | row hbn hc hm c => exact .row (Nat.lt_of_lt_of_le hbn hmn) hc hm c
theorem LayB.slice {w : World} {n : Nat} {bs : List Bool} {v : Value} (h : LayB w n bs v) : ∃ a cap, v = .slice a bs.length cap ∧ bs.length ≤ cap ∧ cap ≤ maxLen := by
  cases h with
  | nil_ hm => exact ⟨_, _, rfl, Nat.zero_le _, hm⟩
  | row hbn hc hm c => exact ⟨_, _, rfl, hc, hm⟩
theorem LayB.at_ {w : World} {n : Nat} {bs : List Bool} {a : Option Addr} {cap i : Nat} (h : LayB w n bs (.slice a bs.length cap)) (hi : i < bs.length) : ∃ b o x, a = some ⟨b, o, none⟩ ∧ b < n ∧ bs[i]? = some x ∧ w.cell? ⟨b, o + i, none⟩ = some (.bool x) := by
  cases h with
  | nil_ hm => simp at hi
  | row hbn hc hm c => exact ⟨_, _, bs[i], rfl, hbn, List.getElem?_eq_getElem hi, c i _ (List.getElem?_eq_getElem hi)⟩

/-- The seven cells of a value. -/
structure Cells7 (w : World) (b o : Nat) (N : Nat) (u v : Value) (p : Int) : Prop where
  c0 : w.cell? ⟨b, o, none⟩ = some (.int .u64 (M.pt 0 N))
  c1 : w.cell? ⟨b, o + 1, none⟩ = some (.int .u64 (M.pt 1 N))
  c2 : w.cell? ⟨b, o + 2, none⟩ = some (.int .u64 (M.pt 2 N))
  c3 : w.cell? ⟨b, o + 3, none⟩ = some (.int .u64 (M.pt 3 N))
  c4 : w.cell? ⟨b, o + 4, none⟩ = some u
  c5 : w.cell? ⟨b, o + 5, none⟩ = some v
  c6 : w.cell? ⟨b, o + 6, none⟩ = some (.int .i64 p)
theorem Cells7.from_ {w W : World} {b o n N : Nat} {u v : Value} {p : Int} (h : Cells7 w b o N u v p) (hb : Below n w W) (hlt : b < n) : Cells7 W b o N u v p :=
  ⟨(hb.cell (p := ⟨b, o, none⟩) hlt).trans h.c0, (hb.cell (p := ⟨b, o + 1, none⟩) hlt).trans h.c1, (hb.cell (p := ⟨b, o + 2, none⟩) hlt).trans h.c2, (hb.cell (p := ⟨b, o + 3, none⟩) hlt).trans h.c3, (hb.cell (p := ⟨b, o + 4, none⟩) hlt).trans h.c4, (hb.cell (p := ⟨b, o + 5, none⟩) hlt).trans h.c5, (hb.cell (p := ⟨b, o + 6, none⟩) hlt).trans h.c6⟩
/-- What a slice of values leads to. -/
inductive LayV (w : World) (n : Nat) : List M.Va → Value → Prop
  | nil_ {a : Option Addr} {cap : Nat} (hm : cap ≤ maxLen) : LayV w n [] (.slice a 0 cap)
  | row {vs : List M.Va} {b o cap : Nat} (U V : Nat → Value) (hb : b < n) (hc : vs.length ≤ cap) (hm : cap ≤ maxLen)
      (hN : ∀ (i : Nat) (N : Nat) (bs : List Bool) (us : List M.Va) (p : Int), vs[i]? = some (M.Va.mk N bs us p) → M.In N)
      (c : ∀ (i : Nat) (N : Nat) (bs : List Bool) (us : List M.Va) (p : Int), vs[i]? = some (M.Va.mk N bs us p) → Cells7 w b (o + i * 7) N (U i) (V i) p)
      (rb : ∀ (i : Nat) (N : Nat) (bs : List Bool) (us : List M.Va) (p : Int), vs[i]? = some (M.Va.mk N bs us p) → LayB w n bs (U i))
      (r : ∀ (i : Nat) (N : Nat) (bs : List Bool) (us : List M.Va) (p : Int), vs[i]? = some (M.Va.mk N bs us p) → LayV w n us (V i)) : LayV w n vs (.slice (some ⟨b, o, none⟩) vs.length cap)
theorem LayV.from_ {w W : World} {n : Nat} {vs : List M.Va} {v : Value} (h : LayV w n vs v) (hb : Below n w W) : LayV W n vs v := by
  induction h with
  | nil_ hm => exact .nil_ hm
  | row U V hlt hc hm hN c rb _ ih => exact .row U V hlt hc hm hN (fun i N bs us p e => (c i N bs us p e).from_ hb hlt) (fun i N bs us p e => (rb i N bs us p e).from_ hb) ih
theorem LayV.mono {w : World} {n m : Nat} {vs : List M.Va} {v : Value} (h : LayV w n vs v) (hnm : n ≤ m) : LayV w m vs v := by
  induction h with
  | nil_ hm => exact .nil_ hm
  | row U V hlt hc hm hN c rb _ ih => exact .row U V (by omega) hc hm hN c (fun i N bs us p e => (rb i N bs us p e).mono hnm) ih
theorem LayV.slice {w : World} {n : Nat} {vs : List M.Va} {v : Value} (h : LayV w n vs v) : ∃ a cap, v = .slice a vs.length cap ∧ vs.length ≤ cap ∧ cap ≤ maxLen := by
  cases h with
  | nil_ hm => exact ⟨_, _, rfl, Nat.zero_le _, hm⟩
  | row U V hlt hc hm hN c rb r => exact ⟨_, _, rfl, hc, hm⟩
/-- What a value is made of: its number, its bits, its values. -/
structure Vl (w : World) (n : Nat) (N : Nat) (bs : List Bool) (us : List M.Va) (ab : Option Addr) (cb : Nat) (au : Option Addr) (cu : Nat) : Prop where
  hN : M.In N
  b : LayB w n bs (.slice ab bs.length cb)
  v : LayV w n us (.slice au us.length cu)
theorem Vl.from_ {w W : World} {n N : Nat} {bs : List Bool} {us : List M.Va} {ab : Option Addr} {cb : Nat} {au : Option Addr} {cu : Nat} (h : Vl w n N bs us ab cb au cu) (hb : Below n w W) : Vl W n N bs us ab cb au cu := ⟨h.hN, h.b.from_ hb, h.v.from_ hb⟩
theorem Vl.mono {w : World} {n m N : Nat} {bs : List Bool} {us : List M.Va} {ab : Option Addr} {cb : Nat} {au : Option Addr} {cu : Nat} (h : Vl w n N bs us ab cb au cu) (hnm : n ≤ m) : Vl w m N bs us ab cb au cu := ⟨h.hN, h.b.mono hnm, h.v.mono hnm⟩
/-- One value of a slice. -/
theorem LayV.at_ {w : World} {n i : Nat} {vs : List M.Va} {a : Option Addr} {cap : Nat} (h : LayV w n vs (.slice a vs.length cap)) (hi : i < vs.length) : ∃ b o N bs us p ab cb au cu, a = some ⟨b, o, none⟩ ∧ b < n ∧ vs[i]? = some (.mk N bs us p) ∧
    Cells7 w b (o + i * 7) N (.slice ab bs.length cb) (.slice au us.length cu) p ∧ Vl w n N bs us ab cb au cu := by
  cases h with
  | nil_ hm => simp at hi
  | @row _ b o cap U V hlt hc hm hN c rb r =>
    obtain ⟨N, bs, us, p, e⟩ : ∃ N bs us p, vs[i]? = some (.mk N bs us p) := by
      rw [List.getElem?_eq_getElem hi]
      obtain ⟨N, bs, us, p⟩ := vs[i]
      exact ⟨N, bs, us, p, rfl⟩
    obtain ⟨au, cu, hV, _, _⟩ := (r i N bs us p e).slice
    obtain ⟨ab, cb, hU, _, _⟩ := (rb i N bs us p e).slice
    exact ⟨b, o, N, bs, us, p, ab, cb, au, cu, rfl, hlt, e, hU ▸ hV ▸ c i N bs us p e, hN i N bs us p e, hU ▸ rb i N bs us p e, hV ▸ r i N bs us p e⟩
/-- A value as a value. -/
abbrev vv (N : Nat) (u v : Value) (p : Int) : Value := .agg #[.int .u64 (M.pt 0 N), .int .u64 (M.pt 1 N), .int .u64 (M.pt 2 N), .int .u64 (M.pt 3 N), u, v, .int .i64 p]
theorem Cells7.new (w : World) (N : Nat) (u v : Value) (p : Int) (t : TypeId) : Cells7 (w.alloc (.cells #[.int .u64 (M.pt 0 N), .int .u64 (M.pt 1 N), .int .u64 (M.pt 2 N), .int .u64 (M.pt 3 N), u, v, .int .i64 p] t)) w.heap.size 0 N u v p :=
  ⟨by simp [go_sem], by simp [go_sem], by simp [go_sem], by simp [go_sem], by simp [go_sem], by simp [go_sem], by simp [go_sem]⟩
theorem size_va {vs : List M.Va} {i : Nat} {x : M.Va} (h : vs[i]? = some x) : SizeOf.sizeOf x < SizeOf.sizeOf vs := List.sizeOf_lt_of_mem (List.mem_of_getElem? h)
end Go.Proofs.YtaajkbclojmbeaaGreatDoor
