/- Bytes that a call owns: what is appended to them. A range over a function whose body may end in a panic: the laws of the walk for that, out of the kit's own steps. Appending to rows of one's own: in which block what comes of it stands. The landed package ssz: the least significant bytes of a number; slices.Reverse. The landed package num: Be, of a small number. The contract of num.Unle. A range over a function whose body never leaves: the function may, when all have come, write into cells. My own law out of the kit's one for the statement. num.digits: a number's digits of 7 or 8 bits, the lowest ones first. num.digits: what its function tells, one digit after the other. A range over num.digits: what the body does with one digit, and what holds when all have come. The contract of num.Le: a number's bytes, the lowest ones first. Plain: a full list, as a vector, as a container; how long what is put is. Plain: a row's bytes, item by item. The landed package ssz: lowest, offset. -/
import Derived.Test.YtgloapcfmlijlaaGreatDoorK10
import Derived.Lib.ConvBytes
import Derived.Lib.AppendStr
import Derived.Laws.AppendOwnNone
import Derived.Laws.OwnMore
import Derived.Laws.CopyRow
import Derived.Test.YtgloapcfmlijlaaGreatDoorK01
import Derived.RangeFuncBound
import Derived.RangeFuncCalls
import Derived.RangeFuncLeaves
import Derived.RangeFuncNested
import Derived.Lib.Hide
import Derived.Laws.Rows
import Derived.Laws.Tables
import Derived.OwnWalkIn
import Derived.Test.YtgloapcfmlijlaaGreatDoorK09
import Derived.Test.YtgloapcfmlijlaaGreatDoorK05
import Derived.Laws.Bits64
import Derived.Laws.Bits64b
import Derived.Test.YtgloapcfmlijlaaGreatDoorK08
import Derived.Test.YtgloapcfmlijlaaGreatDoorF1g
import Derived.IntWalk
import Derived.Deep.OwnRows
import Derived.Laws.BytesArg
namespace Go.Proofs.YtgloapcfmlijlaaGreatDoor
open Go Go.RowKit Go.Lib

theorem Tryz.ofU8 : (Tryz.prog.info? 5).map (fun i => (i.zero, i.size, i.bytes)) = some (some (.int .u8 0), 1, 1) := by kernel_rfl

/-- What a conversion of a string to bytes leaves. -/
structure Seal (w w' : World) (e : TypeId) (b : ByteArray) (cap : Nat) (cur : Array Value) : Prop where
  row : w'.heap[w.heap.size]? = some (.cells cur e (cur.size, cur.size + 1))
  size : cur.size = cap
  len : b.size ≤ cap
  max : cap ≤ maxLen
  take : cur.toList.take b.size = strCells b
  low : Below w.heap.size w w'
  new : w'.heap.size = w.heap.size + 1

theorem seal_is (w : World) (e : TypeId) (b : ByteArray) (hb : b.size ≤ maxLen) : Seal w (bytesWorld w e b) e b (grownCap w b.size 0 e) (bytesCells w e b) := by
  have hge := grownCap_ge w b.size 0 e
  have hcm := grownCap_le_maxLen w b.size 0 e hb
  have hsz : (bytesCells w e b).size = grownCap w b.size 0 e := by
    have : b.data.size = b.size := rfl
    simp [bytesCells, this]
    omega
  refine ⟨bytesWorld_at_new w e b, hsz, hge, hcm, ?_, ⟨rfl, rfl, rfl, by rw [bytesWorld_size]; omega, fun k hk => bytesWorld_at_old w e b k hk⟩, bytesWorld_size w e b⟩
  have hl : b.size = (b.data.toList.map fun x : UInt8 => Value.int .u8 x.toNat).length := by
    rw [List.length_map, Array.length_toList]; rfl
  unfold bytesCells strCells
  rw [Array.toList_append, Array.toList_map, hl, List.take_left]


theorem wpList_seal {P : Program} {ops : Array Oper} {rest : List Oper} {o : Oper} {a : Act} {Q : Exit → Act → World → Prop} (w : World) (hgd : o.guard = none) (src dst e : TypeId) (x : Operand)
    (ho : o.op = .convert src dst x) (b : ByteArray) (hx : a.eval x = .string b) (hs : P.underlying src = some .string) (hd : P.underlying dst = some (.slice e)) (he : P.underlying e = some (.int .u8)) (hb : b.size ≤ maxLen)
    (h : ∀ cap cur w', Seal w w' e b cap cur → wpList P ops Q rest (a.put o.dst (.slice (some ⟨w.heap.size, 0, none⟩) b.size cap)) w') : wpList P ops Q (o :: rest) a w := by
  refine wpList_plain hgd fun K hK => ?_
  have hr := Go.Lib.run_convert_string_bytes (P := P) w src dst e b hs hd he
  unfold Oper.wp execOp
  simp only [ho, hx, Sem.run_bind, Sem.run_pure]
  rw [hr]
  exact hK _ _ (h _ _ _ (seal_is w e b hb))

/-- The cells of bytes. -/
def bc (l : List UInt8) : List Value := l.map fun (c : UInt8) => Value.int .u8 (c.toNat : Int)
theorem bc_length (l : List UInt8) : (bc l).length = l.length := by simp [bc]
theorem bc_append (l m : List UInt8) : bc (l ++ m) = bc l ++ bc m := by simp [bc]
theorem bc_one (l : List UInt8) : ∀ u ∈ bc l, u.oneCell' = true := fun u hu => by
  obtain ⟨_, _, rfl⟩ := List.mem_map.1 hu
  rfl
theorem bc_str (l : List UInt8) : strCells (⟨l.toArray⟩ : ByteArray) = bc l := rfl

/-- Bytes of one's own, in a block that is no older than B. -/
def Ow (B : Nat) (l : List UInt8) (v : Value) (w : World) : Prop := w.ownsRow B 5 1 v l.length (bc l)
theorem Ow.nil (B : Nat) (w : World) : Ow B [] (.slice none 0 0) w := World.ownsRow_nil _ _ _ _
theorem Ow.mono {A B : Nat} {l : List UInt8} {v : Value} {w : World} (h : Ow B l v w) (hAB : A ≤ B) : Ow A l v w := by
  refine ⟨h.1, ?_⟩
  rcases h.2 with h0 | ⟨g, cap, cur, hv, hb, h1⟩
  · exact .inl h0
  · exact .inr ⟨g, cap, cur, hv, by omega, h1⟩
theorem Ow.from_ {B : Nat} {l : List UInt8} {v : Value} {w W : World} (h : Ow B l v w) (hb : Below w.heap.size w W) : Ow B l v W := by
  refine ⟨h.1, ?_⟩
  rcases h.2 with h0 | ⟨g, cap, cur, hv, hB, hg, h1⟩
  · exact .inl h0
  · exact .inr ⟨g, cap, cur, hv, hB, (hb.block g (Array.getElem?_eq_some_iff.1 hg).1).trans hg, h1⟩

/-- What an append takes its bytes from. -/
def Sr (l : List UInt8) (v : Value) (w : World) : Prop := (v = .slice none 0 0 ∧ l = []) ∨ ∃ ad c, v = .slice (some ad) l.length c ∧ ∀ j u, (bc l)[j]? = some u → w.cell? (ad.add j) = some u
theorem Ow.sr {B : Nat} {l : List UInt8} {v : Value} {w : World} (h : Ow B l v w) : Sr l v w := by
  have h' := h
  rcases h.2 with ⟨h0, h1⟩ | ⟨g, cap, cur, rfl, hB, hg, h1⟩
  · exact .inl ⟨h0, List.eq_nil_of_length_eq_zero h1⟩
  · exact .inr ⟨⟨g, 0, none⟩, cap, rfl, World.ownsRow.cells h' (g := g) rfl⟩
theorem Sr.from_ {l : List UInt8} {v : Value} {w W : World} (h : Sr l v w) (hb : Below w.heap.size w W) : Sr l v W := by
  rcases h with h | ⟨ad, c, rfl, hc⟩
  · exact .inl h
  · exact .inr ⟨ad, c, rfl, fun j u hj => (hb.cell (World.block_lt_of_cell? _ _ (hc j u hj))).trans (hc j u hj)⟩
/-- The slice itself. -/
theorem Ow.len {B : Nat} {l : List UInt8} {v : Value} {w : World} (h : Ow B l v w) : ∃ a cap, v = .slice a l.length cap := by
  rcases h.2 with ⟨h0, h1⟩ | ⟨g, cap, cur, rfl, hB, hg, h1⟩
  · exact ⟨none, 0, by rw [h0, h1]⟩
  · exact ⟨_, _, rfl⟩
theorem Ow.block {B : Nat} {l : List UInt8} {v : Value} {w : World} (h : Ow B l v w) : ∀ k, v.ownBlock = some k → B ≤ k := fun k e => (World.ownsRow.lt h k e).1

theorem grown_refl (w : World) (v : Option Nat) : w.grownBy w v := ⟨rfl, rfl, rfl, Nat.le_refl _, fun _ _ _ => rfl⟩

section
variable {ops : Array Oper} {rest : List Oper} {o : Oper} {a : Act} {Q : Exit → Act → World → Prop}
end

theorem Seal.sr {w w2 : World} {l : List UInt8} {cap : Nat} {cur : Array Value} (h : Seal w w2 5 ⟨l.toArray⟩ cap cur) : Sr l (.slice (some ⟨w.heap.size, 0, none⟩) l.length cap) w2 := by
  refine .inr ⟨_, _, rfl, fun j u hj => ?_⟩
  have hadd : (⟨w.heap.size, 0, none⟩ : Addr).add j = ⟨w.heap.size, j, none⟩ := by unfold Addr.add; split <;> simp_all
  rw [hadd, cell_of_row w2 _ j cur 5 _ h.row]
  have ht : cur.toList.take l.length = bc l := by
    have := h.take
    rwa [bc_str, show (⟨l.toArray⟩ : ByteArray).size = l.length by simp [ByteArray.size]] at this
  rw [← ht, List.getElem?_take] at hj
  split at hj
  · simpa using hj
  · cases hj
end Go.Proofs.YtgloapcfmlijlaaGreatDoor
namespace Go.Proofs.YtgloapcfmlijlaaGreatDoor
open Go Go.RowKit

/-- A struct, loaded whole, in a walk within a fence. -/
theorem wpListIn_load_row {P : Program} {F : Fence} {m : Nat} {ops : Array Oper} {rest : List Oper} {o : Oper} {a : Act} {w : World} {Q : Exit → Act → World → Prop} (hgd : o.guard = none) (ty : TypeId) (x : Operand) (ho : o.op = .load ty x) (g : Nat) (hx : a.eval x = .pointer (some ⟨g, 0, none⟩)) (t : TypeId) (cs : Array Value) (fr : Nat × Nat) (d : TypeDesc) (hg : w.heap[g]? = some (.cells cs t fr))
    (hu : P.underlying ty = some d) (hd : (match d with | .struct _ | .array _ _ => true | _ => false) = true) (hi : (P.info? ty).map (·.size) = some cs.size) (h : wpListIn F m P ops Q rest (a.put o.dst (.agg cs)) w) : wpListIn F m P ops Q (o :: rest) a w := by
  refine wpListIn_plain hgd fun K hK => ?_
  unfold Oper.wpIn
  rw [Oper.semAt_plain F _ _ (by intro c; rw [ho]; exact fun h => nomatch h)]
  refine ⟨by intro f hf; simp [Oper.about, ho] at hf, ?_⟩
  unfold execOp
  simp only [ho, hx, Instr.loadAt, Instr.sureAddr, Sem.run_bind, Sem.run_pure, Result.andThen_ok, run_loadVar_row w g t ty cs fr d hg hu hd hi]
  exact hK _ _ h
/-- A struct, stored whole, in a walk within a fence. -/
theorem wpListIn_store_row {P : Program} {F : Fence} {m : Nat} {ops : Array Oper} {rest : List Oper} {o : Oper} {a : Act} {w : World} {Q : Exit → Act → World → Prop} (hgd : o.guard = none) (ty : TypeId) (x y : Operand) (ho : o.op = .store ty x y) (g : Nat) (cells : Array Value) (hx : a.eval x = .pointer (some ⟨g, 0, none⟩)) (hy : a.eval y = .agg cells) (t : TypeId) (old : Array Value) (hg : w.heap[g]? = some (.cells old t (0, 0)))
    (hi : (P.info? ty).map (·.size) = some cells.size) (hold : old.size = cells.size) (h1 : cells.all (·.oneCell') = true) (h : wpListIn F m P ops Q rest (a.put o.dst undef) (w.setRow g cells)) : wpListIn F m P ops Q (o :: rest) a w := by
  refine wpListIn_plain hgd fun K hK => ?_
  unfold Oper.wpIn
  rw [Oper.semAt_plain F _ _ (by intro c; rw [ho]; exact fun h => nomatch h)]
  refine ⟨by intro f hf; simp [Oper.about, ho] at hf, ?_⟩
  unfold execOp
  simp only [ho, hx, hy, Instr.storeAt, Instr.sureAddr, Sem.run_bind, Sem.run_pure, Result.andThen_ok, run_storeVar_row w g t ty old cells hg hi hold h1]
  exact hK _ _ h

/-- What a statement does, in a frame of a function that is there. -/
def WpE (P : Program) (c : Code) (Q : Exit → Act → World → Prop) (a : Act) (w : World) : Prop :=
  ∀ (b : Frame) (k : List Item) (cs : List Frame), b.roundOf = none → (∃ g, P.funcs[b.fn]? = some g) →
    ∃ e a' w', Q e a' w' ∧ ArrivesIn (Machine.fenced P Fence.wide) P (lone (b.atR a (.code c :: k)) cs w) b k cs e a' w'

theorem WpE.of {n : Nat} {P : Program} {c : Code} {Q : Exit → Act → World → Prop} {a : Act} {w : World} (h : c.wpIn Fence.wide n P Q a w) : WpE P c Q a w :=
  fun b k cs hro _ => h b k cs hro trivial (room_wide _)
theorem WpE.mono {P : Program} {c : Code} {Q Q' : Exit → Act → World → Prop} {a : Act} {w : World} (h : WpE P c Q a w) (hq : ∀ e a w, Q e a w → Q' e a w) : WpE P c Q' a w :=
  fun b k cs hro hg => let ⟨e, a', w', q, r⟩ := h b k cs hro hg; ⟨e, a', w', hq _ _ _ q, r⟩
theorem wpE_seq {P : Program} {x y : Code} {Q : Exit → Act → World → Prop} {a : Act} {w : World} (h : WpE P x (Exit.then (WpE P y Q) Q) a w) : WpE P (Code.seq x y) Q a w := by
  intro b k cs hro hg
  have h0 : (lone (b.atR a (.code (.seq x y) :: k)) cs w).fenced P Fence.wide := fenced_wide _ _
  obtain ⟨e, a₁, w₁, hq, harr⟩ := h b (.code y :: k) cs hro hg
  cases e with
  | normal =>
    obtain ⟨e₂, a₂, w₂, hq₂, harr₂⟩ := hq b k cs hro hg
    exact ⟨e₂, a₂, w₂, hq₂, .of_steps (.head h0 stepR_seq harr) harr₂⟩
  | exit id => exact ⟨_, a₁, w₁, hq, .of_steps (.one h0 stepR_seq) (.pass (x := .code y) rfl (fun _ _ => .inl (by simp)) harr)⟩
  | goto l => exact ⟨_, a₁, w₁, hq, .of_steps (.one h0 stepR_seq) (.pass (x := .code y) rfl (fun _ _ => .inl (by simp)) harr)⟩
  | ret => exact ⟨_, a₁, w₁, hq, .of_steps (.one h0 stepR_seq) (.pass (x := .code y) rfl (fun _ _ => .inl (by simp)) harr)⟩
  | panic ch => exact ⟨_, a₁, w₁, hq, .of_steps (.one h0 stepR_seq) (.pass (x := .code y) rfl (fun _ _ => .inl (by simp)) harr)⟩
  | outgrown => exact ⟨_, a₁, w₁, hq, .of_steps (.one h0 stepR_seq) (.pass (x := .code y) rfl (fun _ _ => .inl (by simp)) harr)⟩
theorem wpE_block {P : Program} {id : Nat} {c : Code} {Q : Exit → Act → World → Prop} {a : Act} {w : World} (h : WpE P c (Exit.inBlock id Q) a w) : WpE P (Code.block id c) Q a w := by
  intro b k cs hro hg
  have h0 : (lone (b.atR a (.code (.block id c) :: k)) cs w).fenced P Fence.wide := fenced_wide _ _
  obtain ⟨e, a₁, w₁, hq, harr⟩ := h b (.inBlock id :: k) cs hro hg
  cases e with
  | normal => exact ⟨.normal, a₁, w₁, hq, .head h0 stepR_block (StepsIn.trans harr (.one (fenced_wide _ _) stepR_inBlock))⟩
  | exit id' =>
    by_cases hid : id' = id
    · simp only [Exit.inBlock, hid, if_true] at hq
      exact ⟨.normal, a₁, w₁, hq, .head h0 stepR_block (harr.1 k (by simp [exitTo, hid]))⟩
    · simp only [Exit.inBlock, hid, if_false] at hq
      have this : (id == id') = false := by simp; exact fun h => hid h.symm
      have hx : exitTo id' (.inBlock id :: k) = exitTo id' k := by simp [exitTo, this]
      exact ⟨.exit id', a₁, w₁, hq, fun k' hk => .head h0 stepR_block (harr.1 k' (by rw [hx]; exact hk)),
        fun hr' hk => let ⟨k₁, h1, h2⟩ := harr.2 hr' (by rw [hx]; exact hk); ⟨k₁, h1, .head h0 stepR_block h2⟩⟩
  | goto l =>
    have hx : gotoIn l (.inBlock id :: k) = gotoIn l k := by simp [gotoIn]
    exact ⟨_, a₁, w₁, hq, fun k' hk => .head h0 stepR_block (harr.1 k' (by rw [hx]; exact hk)),
      fun hr' hk => let ⟨k₁, h1, h2⟩ := harr.2 hr' (by rw [hx]; exact hk); ⟨k₁, h1, .head h0 stepR_block h2⟩⟩
  | ret => exact ⟨_, a₁, w₁, hq, .of_steps (.one h0 stepR_block) harr⟩
  | panic ch => exact ⟨_, a₁, w₁, hq, .of_steps (.one h0 stepR_block) harr⟩
  | outgrown => exact ⟨_, a₁, w₁, hq, .of_steps (.one h0 stepR_block) harr⟩
/-- A piece that the walk can do, and then more. -/
theorem wpE_then {n : Nat} {P : Program} {x y : Code} {Q : Exit → Act → World → Prop} {a : Act} {w : World} (h : x.wpIn Fence.wide n P (Exit.then (WpE P y Q) Q) a w) : WpE P (Code.seq x y) Q a w := wpE_seq (.of h)

theorem calls_of_wpE {n : Nat} {P : Program} {f : FuncId} {fn : Func} {c : Code} {args : Array Value} {w : World} {R : Ending → World → Prop} (hf : P.funcs[f]? = some fn) (hb : fn.body = some c)
    (h : WpE P c (bodyPostM Fence.wide n P fn R) { tmps := args ++ Array.replicate (fn.ntmps - args.size) undef, defers := [] } w) : Calls P f args w R := by
  refine (callsIn_wide (n := n)).1 ⟨trivial, fun cs hr => ?_⟩
  let b : Frame := { (default : Frame) with fn := f, kind := .normal, roundOf := none }
  have henter : Frame.enter P f args .normal =
      b.atR { tmps := args ++ Array.replicate (fn.ntmps - args.size) undef, defers := [] } [.code c] := by
    simp [Frame.enter, Frame.atR, hf, hb, b]
  obtain ⟨e, a', w', hq, harr⟩ := h b [] cs rfl ⟨fn, hf⟩
  rw [← henter] at harr
  have hF : Fence.wide.fn f := trivial
  cases e with
  | normal =>
    obtain ⟨e', w'', fr', hR, hs, hfn, hl⟩ := leaves_stepsInM a'.defers .returning w' { b.atR a' [] with mode := .returning } cs rfl rfl rfl hf rfl hF hr hq
    exact ⟨e', w'', fr', hR, ComesIn.of_steps (StepsIn.trans harr (.one (fenced_wide _ _) (stepR_end rfl))) hs, hfn, hl⟩
  | ret =>
    obtain ⟨todo, hs₀⟩ := harr.1 rfl
    obtain ⟨e', w'', fr', hR, hs, hfn, hl⟩ := leaves_stepsInM a'.defers .returning w' { b.atR a' todo with mode := .returning } cs rfl rfl rfl hf rfl hF hr hq
    exact ⟨e', w'', fr', hR, ComesIn.of_steps hs₀ hs, hfn, hl⟩
  | panic chain =>
    obtain ⟨todo, hs₀⟩ := harr
    obtain ⟨e', w'', fr', hR, hs, hfn, hl⟩ := leaves_stepsInM a'.defers (.panicking chain) w' { b.atR a' todo with mode := .panicking chain } cs rfl rfl rfl hf rfl hF hr hq
    exact ⟨e', w'', fr', hR, ComesIn.of_steps hs₀ hs, hfn, hl⟩
  | exit id => exact hq.elim
  | goto l => exact hq.elim
  | outgrown => exact ⟨.outgrown, w', b, hq, harr.resolve_left (by simp [b]), rfl, trivial⟩

/-- How a round may end. -/
def roundPostX (P : Program) (l : Nat) (R : Ending → World → Prop) : Exit → Act → World → Prop
  | .normal, _, w => ∃ v w', (Instr.endRound l none).run P w = .ok v w' ∧ R (.returned v) w'
  | .panic ch, a, w => a.defers = [] ∧ R (.panicked ch) w
  | _, _, _ => False

theorem roundIn_of_wpInX {n : Nat} {P : Program} {l : Nat} {f : FuncId} {tmps : Array Value} {assign body : Code} {w : World} {R : Ending → World → Prop} (hg : ∃ g, P.funcs[f]? = some g)
    (h : assign.wpIn (Fence.wide.inRound l) n P (Exit.then (fun a₁ w₁ => ∃ w₂, (Instr.beginRound l).run P w₁ = .ok () w₂ ∧ body.wpIn (Fence.wide.inRound l) n P (roundPostX P l R) a₁ w₂) (fun _ _ _ => False))
      { tmps := tmps, defers := [] } w) :
    RoundIn Fence.wide n P l f tmps assign body w R := by
  refine ⟨trivial, fun c cs hr => ?_⟩
  let b : Frame := { (default : Frame) with fn := f, kind := .normal, roundOf := some l }
  have hb0 : Frame.round l f tmps assign body .normal = b.atR { tmps := tmps, defers := [] } [.code assign, .beginRound, .code body] := by
    simp [Frame.round, Frame.atR, b]
  have hr' : (Fence.wide.inRound l).room ((c :: cs).length + 1 + n) := hr
  have hF' : (Fence.wide.inRound l).fn b.fn := trivial
  obtain ⟨e, a₁, w₁, hq, harr⟩ := h b [.beginRound, .code body] (c :: cs) rfl hF' hr'
  rw [← hb0] at harr
  cases e with
  | normal =>
    obtain ⟨w₂, hbr, hbody⟩ := hq
    have s1 : StepsIn (Machine.fenced P Fence.wide) P (lone (b.atR a₁ [.beginRound, .code body]) (c :: cs) w₁) (lone (b.atR a₁ [.code body]) (c :: cs) w₂) :=
      .one (fenced_wide _ _) (stepR_beginRound rfl hbr)
    obtain ⟨e₂, a₂, w₃, hq₂, harr₂⟩ := hbody b [] (c :: cs) rfl hF' hr'
    cases e₂ with
    | normal =>
      obtain ⟨v, w₄, hend, hR⟩ := hq₂
      exact ⟨.returned v, w₄, hR, (StepsIn.trans harr s1).trans (StepsIn.trans harr₂ (.one (fenced_wide _ _) (stepR_round_end rfl rfl hend)))⟩
    | panic chain =>
      obtain ⟨hd, hR⟩ := hq₂
      obtain ⟨todo, hs⟩ := harr₂
      exact ⟨.panicked chain, w₃, hR, (StepsIn.trans harr s1).trans (StepsIn.trans hs (.one (fenced_wide _ _) (step_leave_panicked ⟨rfl, hd, hg⟩)))⟩
    | ret => exact hq₂.elim
    | exit id => exact hq₂.elim
    | goto t => exact hq₂.elim
    | outgrown => exact hq₂.elim
  | exit id => exact hq.elim
  | goto t => exact hq.elim
  | ret => exact hq.elim
  | panic chain => exact hq.elim
  | outgrown => exact hq.elim

/-- The statement, in a frame of a function that is there. -/
theorem wpE_rangeFunc {n : Nat} {P : Program} {g : Operand} {ps : Array Tmp} {assign body : Code} {Q : Exit → Act → World → Prop} {a : Act} {w : World} (_h1 : 1 ≤ n)
    (h : ∀ fn, (∃ x, P.funcs[fn]? = some x) → ∃ (l : Nat) (mark : List Deferred) (w₁ : World) (d : Deferred) (w₁' : World) (f : FuncId) (args : Array Value) (w₂ : World),
      (Instr.enterLoop fn a.tmps ps assign body none).run P w = .ok (l, mark) w₁ ∧
      (resolve a.eval (rangeCall g l) 0).run P w₁ = .ok d w₁' ∧
      (invoke d.target d.args).run P w₁' = .ok (.enter f args) w₂ ∧
      CallsIn Fence.wide (n - 1) P f args w₂ (rangePost Fence.wide n P l Q { a with defers := mark ++ a.defers })) :
    WpE P (Code.rangeFunc g ps assign body) Q a w := by
  intro b k cs hro hex
  have hr : Fence.wide.room (cs.length + 1 + n) := room_wide _
  have hb : Fence.wide.fn b.fn := trivial
  obtain ⟨l, mark, w₁, d, w₁', f, args, w₂, he, hres, hinv, hF, hcall⟩ := h b.fn hex
  rw [← hro] at he
  have h0 : (lone (b.atR a (.code (.rangeFunc g ps assign body) :: k)) cs w).fenced P Fence.wide := fenced_wide _ _
  have henter := stepR_rangeFunc (P := P) (b := b) (a := a) (k := k) (cs := cs) (w := w) he hres hinv
  obtain ⟨e, w₃, fr, hR, hsteps, hfn, hleave⟩ := hcall (b.atR { a with defers := mark ++ a.defers } (.inRangeFunc l :: k) :: cs) (room_wide _)
  cases e with
  | outgrown =>
    obtain ⟨a₀, w₀, hq⟩ := hR
    exact ⟨.outgrown, a₀, w₀, hq, .inr (Outgrown.of_steps (.one henter) hsteps)⟩
  | returned v =>
    have hl : (lone fr (b.atR { a with defers := mark ++ a.defers } (.inRangeFunc l :: k) :: cs) w₃).fenced P Fence.wide := fenced_wide _ _
    obtain ⟨jump, w₄, hend, hj⟩ := hR
    have sback : StepsIn (Machine.fenced P Fence.wide) P (lone (b.atR a (.code (.rangeFunc g ps assign body) :: k)) cs w) (lone (b.atR { a with defers := mark ++ a.defers } ((jump.map Item.code).toList ++ k)) cs w₄) := by
      refine .head h0 henter (StepsIn.trans hsteps (.head hl ?_ (.one (fenced_wide _ _) (stepR_endRangeFunc hend))))
      rw [← finish_atR_inRangeFunc l v]; exact step_leave_returned hleave
    cases jump with
    | none => exact ⟨.normal, _, w₄, hj, sback⟩
    | some c =>
      obtain ⟨e', a'', w₅, hq, harr⟩ := hj b k cs hro hb hr
      exact ⟨e', a'', w₅, hq, .of_steps sback harr⟩
  | panicked chain =>
    have hl : (lone fr (b.atR { a with defers := mark ++ a.defers } (.inRangeFunc l :: k) :: cs) w₃).fenced P Fence.wide := fenced_wide _ _
    refine ⟨.panic chain, _, w₃, hR, .inRangeFunc l :: k, .head h0 henter (StepsIn.trans hsteps (.one hl ?_))⟩
    rw [← Frame.raise_atR]; exact step_leave_panicked hleave

theorem yieldAt_anyX {m m' : Nat} {P : Program} {l : Nat} {args : Array Value} {W : World} {R : Ending → World → Prop} (h : YieldAt Fence.wide m P l args W R) : YieldAt Fence.wide m' P l args W R := by
  obtain ⟨fn, tmps, assign, body, hy, h1, h2⟩ := h
  exact ⟨fn, tmps, assign, body, hy, h1, fun c cs _ => h2 c cs (room_wide _)⟩
/-- How the body of a round may be left. -/
def lxPost {α : Type} (B : Nat) (T : Nat → Prop) (I : List α → World → Prop) (Ip : List PanicEntry → World → Prop) (xs : List α) (W : World) : Exit → Act → World → Prop
  | .normal, _, W' => KeepsFrom B W W' ∧ (∀ b, b < W.heap.size → T b → W'.heap[b]? = W.heap[b]?) ∧ I xs W'
  | .panic ch, a, W' => a.defers = [] ∧ KeepsFrom B W W' ∧ Ip ch W'
  | _, _, _ => False

theorem range_lx {α : Type} {P : Program} {n : Nat} {g : Operand} {ps : Array Tmp} {assign body : Code} {Q : Exit → Act → World → Prop} {a : Act} {w : World} (h1 : 1 ≤ n)
    {gf : Nat} {lb : Array Value} (hg : a.eval g = .func (.func gf) #[] lb) (eg : ∀ args w, (callFunc gf args).run P w = .ok (.enter gf args) w)
    {encs : α → Array Value} (hps : ∀ x, (encs x).size = ps.size) (I : List α → World → Prop) (hI : OwnFrom w.heap.size I) (hIq : ∀ pre A B, I pre A → A.grownBy B (some (w.heap.size + 2)) → I pre B) (Ip : List PanicEntry → World → Prop)
    (T : Nat → Prop) (hT : ∀ b, T b → b ≠ w.heap.size + 1) (S : List α → Prop)
    (G : List α → α → Prop)
    (hseq : ∀ (l : Nat) (J : List α → World → Prop) (Jp : List PanicEntry → World → Prop) (W : World), W.heap.size = w.heap.size + 2 → (∀ pre A, J pre A → I pre A) →
      (∀ pre A B, J pre A → A.grownBy B (some (w.heap.size + 2)) → J pre B) →
      (∀ m pre x A, J pre A → G pre x → YieldAt Fence.wide m P l (encs x) A fun e W' =>
        (e = .returned (.bool true) ∧ J (pre ++ [x]) W' ∧ A.heap.size ≤ W'.heap.size ∧ ∀ b, b < A.heap.size → T b → W'.heap[b]? = A.heap[b]?) ∨ (∃ ch, e = .panicked ch ∧ Jp ch W')) →
      J [] W → CallsIn Fence.wide (n - 1) P gf (#[.func (.yield l) #[] #[]] ++ lb) W fun e W' => (∃ v xs, e = .returned v ∧ S xs ∧ J xs W') ∨ (∃ ch, e = .panicked ch ∧ Jp ch W'))
    (h0 : I [] w) (Ax : List α → α → Act → World → Prop) (hAx : ∀ pre x a', OwnFrom w.heap.size fun (_ : Unit) W => Ax pre x a' W)
    (hassign : ∀ (l : Nat) (pre : List α) (x : α) (A : World) (K : Act → World → Prop), I pre A → w.heap.size + 2 ≤ A.heap.size → G pre x → (∀ a' B', KeepsFrom w.heap.size A B' → (∀ b, b < A.heap.size → T b → B'.heap[b]? = A.heap[b]?) → Ax pre x a' B' → K a' B') →
      assign.wpIn (Fence.wide.inRound l) n P (Exit.then K (fun _ _ _ => False)) { tmps := (ps.zip (encs x)).foldl (fun t (p, v) => t.setIfInBounds p v) a.tmps, defers := [] } A)
    (hbody : ∀ (l : Nat) (pre : List α) (x : α) (a' : Act) (B : World), Ax pre x a' B →
      body.wpIn (Fence.wide.inRound l) n P (lxPost w.heap.size T I Ip (pre ++ [x]) B) a' B)
    (hdone : ∀ (D : Nat) (xs : List α) (W : World), w.heap.size ≤ D → S xs → I xs W → W.heap[D]? = some (.deferred (some [])) → w.heap.size + 2 ≤ W.heap.size → Q .normal { a with defers := { target := .collected D, args := #[] } :: a.defers } W)
    (hpan : ∀ (D : Nat) (ch : List PanicEntry) (W : World), w.heap.size ≤ D → Ip ch W → W.heap[D]? = some (.deferred (some [])) → Q (.panic ch) { a with defers := { target := .collected D, args := #[] } :: a.defers } W) :
    WpE P (Code.rangeFunc g ps assign body) Q a w := by
  refine wpE_rangeFunc h1 ?_
  intro fn hfn
  obtain ⟨rec, hrec⟩ : ∃ rec : LoopState → Option Code → Loop, rec = fun st pe => { state := st, pending := pe, fn, tmps := a.tmps, params := ps, assign, body, defers := w.heap.size } := ⟨_, rfl⟩
  obtain ⟨W1, hW1⟩ : ∃ W1, (w.alloc (.deferred (some []))).alloc (.loop (rec .ready none)) = W1 := ⟨_, rfl⟩
  have hL1 : W1.heap[w.heap.size + 1]? = some (.loop (rec .ready none)) := by
    rw [← hW1]; have := World.alloc_heap_new (w.alloc (.deferred (some []))) (.loop (rec .ready none)); rwa [World.size_alloc] at this
  have hK1 : W1.heap[w.heap.size]? = some (.deferred (some [])) := by
    rw [← hW1]; exact (Below.heap_alloc _ _ _ (by simp)).trans (World.alloc_heap_new w _)
  have hI1 : I [] W1 := by rw [← hW1]; exact hI.alloc _ (hI.alloc _ h0)
  have hb1 : Below w.heap.size w W1 := by rw [← hW1]; exact ((Below.refl _ w).alloc (Nat.le_refl _) _).alloc (by simp) _
  refine ⟨w.heap.size + 1, [{ target := .collected w.heap.size, args := #[] }], W1, { target := .fn (.func gf) lb, args := #[.func (.yield (w.heap.size + 1)) #[] #[]] }, W1, gf,
    #[.func (.yield (w.heap.size + 1)) #[] #[]] ++ lb, W1, ?_, ?_, ?_, ?_⟩
  · rw [← hW1, hrec]; exact run_enterLoop_outer _ _ _ _ _
  · simp only [resolve, hg]
    simp [go_sem]
  · simp [invoke, go_sem, eg]
  · refine (hseq (w.heap.size + 1)
      (fun pre W => I pre W ∧ W.heap[w.heap.size + 1]? = some (.loop (rec .ready none)) ∧ W.heap[w.heap.size]? = some (.deferred (some [])))
      (fun ch W => Ip ch W ∧ W.heap[w.heap.size]? = some (.deferred (some [])))
      W1 (by rw [← hW1]; simp) (fun _ A h => h.1)
      (fun pre A B hs hg' => ⟨hIq pre A B hs.1 hg', (hg'.block _ (Array.getElem?_eq_some_iff.1 hs.2.1).1 (by simp)).trans hs.2.1, (hg'.block _ (Array.getElem?_eq_some_iff.1 hs.2.2).1 (by simp)).trans hs.2.2⟩)
      ?_ ⟨hI1, hL1, hK1⟩).mono ?_
    · rintro m pre x W ⟨hi, hl, hk⟩ hgx
      have hlt : w.heap.size + 1 < W.heap.size := (Array.getElem?_eq_some_iff.1 hl).1
      have hy := run_yield (P := P) (args := encs x) hl (by rw [hrec]; exact hps x)
      rw [hrec] at hy
      refine yieldAt_anyX (m := n) ⟨fn, _, assign, body, hy, roundIn_of_wpInX hfn (hassign _ pre x W _ hi hlt hgx ?_)⟩
      intro a' W' hk1 hT1 hax
      have hl1 := hk1.same _ _ (by omega) hl rfl
      have hd1 := hk1.same _ _ (Nat.le_refl _) hk rfl
      have hlt1 : w.heap.size + 1 < W'.heap.size := (Array.getElem?_eq_some_iff.1 hl1).1
      refine ⟨_, run_beginRound hl1 (by rw [hrec]), ?_⟩
      have hl2 : (W'.putObj (w.heap.size + 1) (.loop { rec .ready none with state := .busy })).heap[w.heap.size + 1]? = some (.loop { rec .ready none with state := .busy }) := World.putObj_heap_same hlt1
      have hk2 : (W'.putObj (w.heap.size + 1) (.loop { rec .ready none with state := .busy })).heap[w.heap.size]? = some (.deferred (some [])) := (World.putObj_heap_other (by omega)).trans hd1
      refine wpIn_mono (hbody _ pre x a' _ ((hAx pre x a').putObj (s := ()) _ hax (by omega) hl1 rfl)) ?_
      rintro e a3 W3 hp
      cases e with
      | normal =>
        obtain ⟨hk3, hkp3, hi3⟩ := hp
        have hl3 := hk3.same _ _ (by omega) hl2 rfl
        have hend := run_endRound (P := P) none hl3
        have hlt3 := (Array.getElem?_eq_some_iff.1 hl3).1
        have hs1 := hk1.size
        have hs3 := hk3.size
        have hp : ∀ (W : World) (l : Nat) (o : Obj), (W.putObj l o).heap.size = W.heap.size := fun W l o => by simp [World.putObj]
        rw [hp] at hs3
        have hrr : ({ { rec .ready none with state := .busy } with state := if (none : Option Code).isNone then .ready else .done, pending := none } : Loop) = rec .ready none := by rw [hrec]; rfl
        rw [hrr] at hend
        refine ⟨_, _, hend, .inl ⟨rfl, ⟨hI.putObj _ hi3 (by omega) hl3 rfl, World.putObj_heap_same hlt3, (World.putObj_heap_other (by omega)).trans (hk3.same _ _ (Nat.le_refl _) hk2 rfl)⟩, by rw [hp]; omega, fun b hlt hb => ?_⟩⟩
        have := hT b hb
        rw [World.putObj_heap_other (by omega), hkp3 b (by rw [hp]; omega) hb, World.putObj_heap_other (by omega), hT1 b hlt hb]
      | panic ch =>
        obtain ⟨hdf, hk3, hi3⟩ := hp
        exact ⟨hdf, .inr ⟨ch, rfl, hi3, hk3.same _ _ (Nat.le_refl _) hk2 rfl⟩⟩
      | ret => exact hp.elim
      | exit id => exact hp.elim
      | goto t => exact hp.elim
      | outgrown => exact hp.elim
    · rintro e W2 (⟨v, xs, rfl, hS, hi, hl, hk⟩ | ⟨ch, rfl, hi, hk⟩)
      · exact ⟨none, _, by have := run_endLoop (P := P) hl (by rw [hrec]; simp); rw [hrec] at this; exact this, hdone _ xs _ (Nat.le_refl _) hS (hI.putObj _ hi (by omega) hl rfl) ((World.putObj_heap_other (by omega)).trans hk) (by have := (Array.getElem?_eq_some_iff.1 hl).1; simp only [World.putObj, Array.size_setIfInBounds]; omega)⟩
      · exact hpan _ ch _ (Nat.le_refl _) hi hk

end Go.Proofs.YtgloapcfmlijlaaGreatDoor
namespace Go.Proofs.YtgloapcfmlijlaaGreatDoor
open Go Go.RowKit Go.Lib

theorem run_append_blk {P : Program} (w : World) (base : Nat) (t ty e : TypeId) (i : TypeInfo) (z : Value) (size bytes : Nat) (ht : P.underlying t = some (.slice e)) (hi : P.info? e = some i) (hz : i.zero = some z)
    (hsize : i.size = size) (hby : i.bytes = bytes) (hzs : z.cells.size = size) (hsz : 0 < size)
    (v : Value) (n : Nat) (xs : List Value) (hown : w.ownsRow base e size v n xs)
    (a : Addr) (m c : Nat) (news : List Value) (hl : news.length = m * size) (hnews : ∀ j u, news[j]? = some u → w.cell? (a.add j) = some u) (h1 : ∀ u ∈ news, u.oneCell' = true)
    (h63 : n + m ≤ maxLen) (hbytes : (n + m) * bytes ≤ 140737488355328) (hbase : base ≤ w.heap.size) :
    ∃ v' w', (Builtin.append_ #[t, t] ty #[v, .slice (some a) m c]).run P w = .ok v' w' ∧ w'.ownsRow base e size v' (n + m) (xs ++ news) ∧ w.grownBy w' v.ownBlock ∧
      (v'.ownBlock = v.ownBlock ∨ ∀ g, v'.ownBlock = some g → w.heap.size ≤ g) := by
  obtain ⟨v', w', hr, h2, h3, _⟩ := run_append_own (P := P) w base t ty e i z size bytes ht hi hz hsize hby hzs hsz v n xs hown a m c news hl hnews h1 h63 hbytes hbase
  refine ⟨v', w', hr, h2, h3, ?_⟩
  subst hsize
  subst hby
  rcases id hown.2 with ⟨rfl, rfl⟩ | ⟨g, cap, cur, rfl, hbg, hg, hnc, hcm, hcs, htake⟩
  · have hx : xs = [] := List.eq_nil_of_length_eq_zero (by simpa using hown.1)
    subst hx
    obtain ⟨v2, w2, hr2, k2, _, _⟩ := run_append_own (P := P) w w.heap.size t ty e i z i.size i.bytes ht hi hz rfl rfl hzs hsz (.slice none 0 0) 0 [] (World.ownsRow_nil _ _ _ _) a m c news hl hnews h1 h63 hbytes (Nat.le_refl _)
    rw [hr] at hr2
    cases hr2
    exact .inr fun g' hg' => (World.ownsRow.lt k2 g' hg').1
  · by_cases hroom : n + m ≤ cap
    · have hfit : n * i.size + news.length ≤ cur.size := by rw [hl, hcs, ← Nat.add_mul]; exact Nat.mul_le_mul_right _ hroom
      have hr2 := run_append_room (P := P) w t ty e i ht hi g n cap cur hg a m c news hl hnews h1 hroom hfit
      rw [hr] at hr2
      cases hr2
      exact .inl rfl
    · have holds : ∀ j u, xs[j]? = some u → w.cell? ((⟨g, 0, none⟩ : Addr).add j) = some u := hown.cells (g := g) rfl
      have hr2 := run_append_grow (P := P) w t ty e i z ht hi hz ⟨g, 0, none⟩ n cap xs hown.1 holds a m c news hl hnews (by omega) (by simp only [maxLen] at h63; omega) (growslice_fits (by omega) hbytes)
      rw [hr] at hr2
      cases hr2
      refine .inr fun g' hg' => ?_
      cases hg'
      exact Nat.le_refl _

/-- What an append leaves of bytes. -/
structure AppP (w w' : World) (B : Nat) (l : List UInt8) (v v' : Value) : Prop where
  own : Ow B l v' w'
  grown : w.grownBy w' v.ownBlock
  blk : v'.ownBlock = v.ownBlock ∨ ∀ g, v'.ownBlock = some g → w.heap.size ≤ g
theorem run_append_by (w : World) (ty : TypeId) (B : Nat) (l m : List UInt8) (v u : Value) (hown : Ow B l v w) (hsrc : Sr m u w) (hn : l.length + m.length ≤ 140737488355328) (hB : B ≤ w.heap.size) :
    ∃ v' w', (Builtin.append_ #[48, 48] ty #[v, u]).run Tryz.prog w = .ok v' w' ∧ AppP w w' B (l ++ m) v v' := by
  obtain ⟨i0, hi, hz0, hz1, hz2⟩ := info_parts Tryz.ofU8
  rcases hsrc with ⟨rfl, rfl⟩ | ⟨ad, c, rfl, hc⟩
  · exact ⟨v, w, run_append_owned_none (P := Tryz.prog) (w := w) B 48 ty 5 i0 1 Tryz.underlying48 hi v l.length (bc l) hown, by rwa [List.append_nil], grown_refl _ _, .inl rfl⟩
  · obtain ⟨v', w', h1, h2, h3, h4⟩ := run_append_blk (P := Tryz.prog) w B 48 ty 5 i0 (.int .u8 0) 1 1 Tryz.underlying48 hi hz0 hz1 hz2 rfl (by decide) v l.length (bc l) hown ad m.length c (bc m) (by rw [bc_length, Nat.mul_one]) hc (bc_one m) (by unfold maxLen; omega) (by omega) hB
    exact ⟨v', w', h1, by unfold Ow; rw [bc_append, List.length_append]; exact h2, h3, h4⟩
theorem wpListIn_append_by {F : Fence} {n : Nat} (w : World) {ops : Array Oper} {rest : List Oper} {o : Oper} {a : Act} {Q : Exit → Act → World → Prop} (hg : o.guard = none) (s x : Operand) (hop : o.op = .call { callee := .builtin .append, args := #[s, x], argTypes := #[48, 48] })
    (B : Nat) (l m : List UInt8) (v u : Value) (hs : a.eval s = v) (hx : a.eval x = u) (hown : Ow B l v w) (hsrc : Sr m u w) (hn : l.length + m.length ≤ 140737488355328) (hB : B ≤ w.heap.size)
    (h : ∀ v' w', AppP w w' B (l ++ m) v v' → wpListIn F n Tryz.prog ops Q rest (a.put o.dst v') w') : wpListIn F n Tryz.prog ops Q (o :: rest) a w := by
  refine wpListIn_plain hg fun K hK' => ?_
  obtain ⟨v', w', hrun, r1⟩ := run_append_by w o.type B l m v u hown hsrc hn hB
  unfold Oper.wpIn
  refine ⟨?_, ?_⟩
  · simp [Oper.about, hop, resolve, Target.leads, Sem.run_pure]
  · rw [Oper.semAt_plain F _ _ (by rw [hop]; intro c hc'; cases hc')]
    simp [execOp, hop, resolve, invoke, builtin, hs, hx, hrun, Result.andThen]
    exact hK' _ _ (h v' w' r1)
theorem wp_append_by (w : World) {o : Oper} {a : Act} {K : Act → World → Prop} {Q : Exit → Act → World → Prop} (s x : Operand) (ho : o.op = .call { callee := .builtin .append, args := #[s, x], argTypes := #[48, 48] })
    (B : Nat) (l m : List UInt8) (v u : Value) (hs : a.eval s = v) (hx : a.eval x = u) (hown : Ow B l v w) (hsrc : Sr m u w) (hn : l.length + m.length ≤ 140737488355328) (hB : B ≤ w.heap.size)
    (h : ∀ v' w', AppP w w' B (l ++ m) v v' → K (a.put o.dst v') w') : o.wp Tryz.prog a w K Q := by
  obtain ⟨v', w', hr, r1⟩ := run_append_by w o.type B l m v u hown hsrc hn hB
  unfold Oper.wp execOp
  simp only [ho, resolve, invoke, builtin, Sem.run_bind, Sem.run_pure, Result.andThen_ok, List.map_toArray, List.map_cons, List.map_nil, hs, hx, hr]
  exact h v' w' r1

/-- Bytes that may be read, in a block no older than B. -/
def SrB (B : Nat) (l : List UInt8) (v : Value) (w : World) : Prop := (v = .slice none 0 0 ∧ l = []) ∨ ∃ ad c, v = .slice (some ad) l.length c ∧ B ≤ ad.block ∧ ad.block < w.heap.size ∧ ∀ j u, (bc l)[j]? = some u → w.cell? (ad.add j) = some u
theorem SrB.sr {B : Nat} {l : List UInt8} {v : Value} {w : World} (h : SrB B l v w) : Sr l v w := by
  rcases h with h | ⟨ad, c, rfl, _, _, hc⟩
  · exact .inl h
  · exact .inr ⟨ad, c, rfl, hc⟩
theorem SrB.slice {B : Nat} {l : List UInt8} {v : Value} {w : World} (h : SrB B l v w) : ∃ a cap, v = .slice a l.length cap := by
  rcases h with ⟨rfl, rfl⟩ | ⟨ad, c, rfl, _, _, _⟩
  · exact ⟨none, 0, rfl⟩
  · exact ⟨_, _, rfl⟩
theorem SrB.mono {A B : Nat} {l : List UInt8} {v : Value} {w : World} (h : SrB B l v w) (hAB : A ≤ B) : SrB A l v w := by
  rcases h with h | ⟨ad, c, rfl, h1, h2, hc⟩
  · exact .inl h
  · exact .inr ⟨ad, c, rfl, Nat.le_trans hAB h1, h2, hc⟩
/-- A block below is changed. -/
theorem SrB.grown {B : Nat} {l : List UInt8} {v : Value} {w W : World} {row : Option Nat} (h : SrB B l v w) (hg : w.grownBy W row) (hr : ∀ g, row = some g → g < B) : SrB B l v W := by
  rcases h with h | ⟨ad, c, rfl, h1, h2, hc⟩
  · exact .inl h
  · refine .inr ⟨ad, c, rfl, h1, Nat.lt_of_lt_of_le h2 hg.size, fun j u hj => ?_⟩
    have e : (ad.add j).block = ad.block := by unfold Addr.add; split <;> rfl
    exact hg.cell (hc j u hj) (fun e' => by have := hr ad.block (by rw [← e']; rw [e]); omega)
theorem SrB.from_ {B : Nat} {l : List UInt8} {v : Value} {w W : World} (h : SrB B l v w) (hb : Below w.heap.size w W) : SrB B l v W :=
  h.grown (row := none) ⟨hb.os, hb.tape, hb.output, hb.size, fun i hi _ => hb.block i hi⟩ (fun g e => by cases e)
theorem Ow.srB {B : Nat} {l : List UInt8} {v : Value} {w : World} (h : Ow B l v w) : SrB B l v w := by
  have h' := h
  rcases h.2 with ⟨h0, h1⟩ | ⟨g, cap, cur, rfl, hB, hg, h1⟩
  · exact .inl ⟨h0, List.eq_nil_of_length_eq_zero h1⟩
  · exact .inr ⟨⟨g, 0, none⟩, cap, rfl, hB, (Array.getElem?_eq_some_iff.1 hg).1, World.ownsRow.cells h' (g := g) rfl⟩
/-- Bytes of one's own, where another block is changed. -/
theorem Ow.grown {B : Nat} {l : List UInt8} {v : Value} {w W : World} {row : Option Nat} (h : Ow B l v w) (hg : w.grownBy W row) (hr : ∀ g, v.ownBlock = some g → row ≠ some g) : Ow B l v W := by
  refine ⟨h.1, ?_⟩
  rcases h.2 with h0 | ⟨g, cap, cur, hv, hB, hgc, h1⟩
  · exact .inl h0
  · exact .inr ⟨g, cap, cur, hv, hB, (hg.block g (Array.getElem?_eq_some_iff.1 hgc).1 (fun e => hr g (by rw [hv]; rfl) e.symm)).trans hgc, h1⟩
theorem Ow.lt {B : Nat} {l : List UInt8} {v : Value} {w : World} (h : Ow B l v w) : ∀ k, v.ownBlock = some k → B ≤ k ∧ k < w.heap.size := World.ownsRow.lt h
end Go.Proofs.YtgloapcfmlijlaaGreatDoor
namespace Go.Proofs.YtgloapcfmlijlaaGreatDoor
open Go Go.RowKit Go.Lib

/-- A block of bytes. -/
def Bk (w : World) (g : Nat) (l : List UInt8) : Prop := (∀ j, j < l.length → w.cell? ⟨g, j, none⟩ = some (.int .u8 ((l.getD j 0).toNat : Nat))) ∧ (∀ j, j < l.length → w.frozen? ⟨g, j, none⟩ = false)

/-- A byte, when i at either end have been changed for one another. -/
def rvB (l : List UInt8) (i k : Nat) : UInt8 := if k < i ∨ 32 - i ≤ k then l.getD (31 - k) 0 else l.getD k 0
structure RvP (w W : World) (g : Nat) (l : List UInt8) (i : Nat) : Prop where
  c : ∀ k, k < 32 → W.cell? ⟨g, k, none⟩ = some (.int .u8 ((rvB l i k).toNat : Nat))
  f : ∀ k, k < 32 → W.frozen? ⟨g, k, none⟩ = false
  g : w.grownBy W (some g)
  z : W.heap.size = w.heap.size
theorem RvP.step {w W : World} {g : Nat} {l : List UInt8} {i j : Nat} (h : RvP w W g l i) (hij : i + j = 31) (hlt : i < j) :
    RvP w ((W.setCell ⟨g, i, none⟩ (.int .u8 ((rvB l i j).toNat : Nat))).setCell ⟨g, j, none⟩ (.int .u8 ((rvB l i i).toNat : Nat))).drew g l (i + 1) := by
  have ci := h.c i (by omega)
  have cj := h.c j (by omega)
  have hne : i ≠ j := by omega
  have hg2 : w.grownBy ((W.setCell ⟨g, i, none⟩ (.int .u8 ((rvB l i j).toNat : Nat))).setCell ⟨g, j, none⟩ (.int .u8 ((rvB l i i).toNat : Nat))) (some g) := by
    have h1 := h.g
    exact ⟨h1.os, h1.tape, h1.output, by simpa [World.setCell] using h1.size, fun b hb hn => (Below.heap_setCell _ _ _ b (fun e => hn (by rw [e]))).trans ((Below.heap_setCell _ _ _ b (fun e => hn (by rw [e]))).trans (h1.block b hb hn))⟩
  refine ⟨fun k hk => ?_, fun k hk => ?_, ⟨hg2.os, hg2.tape, hg2.output, hg2.size, hg2.block⟩, by first | (simp [World.setCell]; exact h.z) | (simpa [World.setCell] using h.z) | simp [World.setCell, h.z]⟩
  · show ((W.setCell _ _).setCell _ _).cell? ⟨g, k, none⟩ = _
    by_cases hkj : k = j
    · subst hkj
      rw [World.cell?_setCell_same' _ _ _ (by rw [World.cell?_setCell_other _ _ _ _ (by simp; try omega), cj]; rfl)]
      unfold rvB
      rw [if_neg (by omega), if_pos (by omega), show 31 - k = i by omega]
    · rw [World.cell?_setCell_other _ _ _ _ (by simp; try omega)]
      by_cases hki : k = i
      · subst hki
        rw [World.cell?_setCell_same' _ _ _ (by rw [ci]; rfl)]
        unfold rvB
        rw [if_neg (by omega), if_pos (by omega), show 31 - k = j by omega]
      · rw [World.cell?_setCell_other _ _ _ _ (by simp; try omega), h.c k hk]
        unfold rvB
        by_cases hc : k < i ∨ 32 - i ≤ k
        · rw [if_pos hc, if_pos (by omega)]
        · rw [if_neg hc, if_neg (by omega)]
  · show ((W.setCell _ _).setCell _ _).frozen? ⟨g, k, none⟩ = _
    rw [World.frozen?_setCell, World.frozen?_setCell]
    exact h.f k hk
theorem rvB_end (l : List UInt8) (hl : l.length = 32) (k : Nat) (hk : k < 32) : rvB l 16 k = l.reverse.getD k 0 := by
  unfold rvB
  rw [if_pos (by omega), List.getD_eq_getElem?_getD, List.getD_eq_getElem?_getD, List.getElem?_reverse (by omega), hl]

set_option maxRecDepth 100000 in
set_option maxHeartbeats 4000000 in
theorem reverse_any (g cap : Nat) (l : List UInt8) (w : World) (hB : Bk w g l) (hl : l.length = 32) :
    Calls Tryz.prog 144 #[.slice (some ⟨g, 0, none⟩) 32 cap] w fun e w' => e = .returned (.tuple #[]) ∧ Bk w' g l.reverse ∧ w.grownBy w' (some g) ∧ w'.heap.size = w.heap.size := by
  go_enter Tryz.func144, Tryz.ntmps144
  go_wp2_with fail
  go_loopw [2, 3] (fun a b wr => ∃ i j : Nat, i ≤ 16 ∧ i + j = 31 ∧ a = .int .i64 i ∧ b = .int .i64 j ∧ RvP w wr g l i) (fun a _ _ => 16 - (RowKit.intOf a).toNat)
  case atStart => exact ⟨0, 31, by omega, by omega, rfl, rfl, ⟨fun k hk => by rw [hB.1 k (by omega)]; unfold rvB; rw [if_neg (by omega)], fun k hk => hB.2 k (by omega), World.grownBy.refl _ _, rfl⟩⟩
  case round =>
    obtain ⟨i, j, hi, hij, rfl, rfl, hR⟩ := hrel
    by_cases hlt : i < j
    · have ci := hR.c i (by omega)
      have cj := hR.c j (by omega)
      have fi := hR.f i (by omega)
      have fj := hR.f j (by omega)
      have hne : i ≠ j := by omega
      have hi9 : i < 32 := by omega
      have hj9 : j < 32 := by omega
      clear hB
      go_wp2_with fail
      go_region
      have hS := hR.step hij hlt
      obtain ⟨W1, hW1⟩ : ∃ W1, ((wr.setCell ⟨g, i, none⟩ (.int .u8 ((rvB l i j).toNat : Nat))).setCell ⟨g, j, none⟩ (.int .u8 ((rvB l i i).toNat : Nat))).drew = W1 := ⟨_, rfl⟩
      rw [hW1] at hS ⊢
      obtain ⟨j', rfl⟩ : ∃ j', j = j' + 1 := ⟨j - 1, by omega⟩
      clear ci cj fi fj hW1
      go_wp2_with fail
      go_roundw
      case rel => exact ⟨i + 1, j', by omega, by omega, by simp, by simp, hS⟩
      case measure => simp [RowKit.intOf]; omega
    · have h16 : i = 16 := by omega
      go_wp2_with fail
      go_end0
      subst h16
      refine ⟨rfl, ⟨fun k hk => ?_, fun k hk => hR.f k (by simpa [hl] using hk)⟩, hR.g, hR.z⟩
      rw [List.length_reverse, hl] at hk
      rw [hR.c k hk, rvB_end l hl k hk]
end Go.Proofs.YtgloapcfmlijlaaGreatDoor
namespace Go.Proofs.YtgloapcfmlijlaaGreatDoor
open Go Go.RowKit Go.Shelf

theorem nbe_any (N : Nat) (w : World) (h : N < 18446744073709551616) :
    Calls Tryz.prog 166 #[.int .u64 N] w fun e w' => e = .returned (.string ⟨(M.tr (M.f32 N)).toArray⟩) ∧ Below w.heap.size w w' := by
  go_enter Tryz.func166, Tryz.ntmps166
  go_wp2_with fail
  refine (of_any N _).mono ?_
  rintro e w1 ⟨rfl, hb1⟩
  go_wp2_with fail
  refine (bytes_small N _ h).mono ?_
  rintro e w2 ⟨rfl, hb2⟩
  go_wp2_with fail
  go_ret
  exact ⟨rfl, hb1.trans (hb2.mono hb1.size)⟩

end Go.Proofs.YtgloapcfmlijlaaGreatDoor
namespace Go.Proofs.YtgloapcfmlijlaaGreatDoor
open Go Go.RowKit Go.Shelf

theorem le_step (l : List UInt8) (j : Nat) (hlt : j < l.length) (h8 : l.length ≤ 8) :
    bits BinOp.or IntKind.u64 ((M.led (List.take j l) : Nat) : Int) (IntKind.u64.wrap (IntKind.u64.wrap (((⟨l.toArray⟩ : ByteArray)[j]'(by simpa [ByteArray.size] using hlt)).toNat : Int) * 2 ^ (8 * j))) = ((M.led (List.take (j + 1) l) : Nat) : Int) := by
  have e0 : ((⟨l.toArray⟩ : ByteArray)[j]'(by simpa [ByteArray.size] using hlt)) = l[j] := rfl
  rw [e0]
  have hc := (l[j]).toNat_lt
  have ht : List.take (j + 1) l = List.take j l ++ [l[j]] := List.take_succ_eq_append_getElem hlt
  have hl : (List.take j l).length = j := by simp; omega
  have ha := M.led_lt (List.take j l)
  rw [hl] at ha
  have hp : (256 : Nat) ^ j = 2 ^ (8 * j) := by rw [show (256 : Nat) = 2 ^ 8 from rfl, ← Nat.pow_mul]
  have hb : (l[j]).toNat * 2 ^ (8 * j) < 18446744073709551616 := by
    have h1 : M.led (List.take (j + 1) l) < 18446744073709551616 := M.led_lt8 (by simp; omega)
    rw [ht, M.led_snoc, hl, hp] at h1
    omega
  have w1 : IntKind.u64.wrap ((l[j]).toNat : Int) = (((l[j]).toNat : Nat) : Int) := by rw [IntKind.wrap_u64]; omega
  have w2 : (((l[j]).toNat : Nat) : Int) * 2 ^ (8 * j) = (((l[j]).toNat * 2 ^ (8 * j) : Nat) : Int) := by simp
  have w3 : IntKind.u64.wrap ((((l[j]).toNat * 2 ^ (8 * j) : Nat) : Int)) = (((l[j]).toNat * 2 ^ (8 * j) : Nat) : Int) := by rw [IntKind.wrap_u64]; omega
  rw [w1, w2, w3, bits_or_u64_nat _ _ (M.led_lt8 (by simp; omega)) hb, ht, M.led_snoc, hl, hp]
  have := Nat.two_pow_add_eq_or_of_lt (i := 8 * j) (b := M.led (List.take j l)) (hp ▸ ha) (l[j]).toNat
  rw [Nat.or_comm, Nat.mul_comm (l[j]).toNat, ← this, Nat.add_comm]

set_option maxRecDepth 100000 in
set_option maxHeartbeats 1000000 in
theorem unle_ok (l : List UInt8) (w : World) (h1 : 1 ≤ l.length) (h8 : l.length ≤ 8) :
    Calls Tryz.prog 188 #[.string ⟨l.toArray⟩] w fun e w' => e = .returned (.tuple #[.int .u64 (M.led l : Nat), .int .i64 0]) ∧ w = w' := by
  go_enter Tryz.func188, Tryz.ntmps188
  go_wp2_with fail
  go_loop [4, 16] (fun n i => ∃ j : Nat, j ≤ l.length ∧ i = .int .i64 j ∧ n = .int .u64 (M.led (l.take j) : Nat)) (fun _ i => l.length - (intOf i).toNat)
  case atStart => exact ⟨0, by omega, rfl, rfl⟩
  case round =>
    obtain ⟨j, hj, rfl, rfl⟩ := hrel
    by_cases hlt : j < l.length
    · go_wp2_with fail
      exact ⟨⟨j + 1, by omega, by simp, by rw [le_step l j hlt h8]⟩, by simp [intOf]; omega⟩
    · obtain rfl : j = l.length := by omega
      go_wp2_with fail
      go_ret2
      exact ⟨rfl, rfl⟩

end Go.Proofs.YtgloapcfmlijlaaGreatDoor
namespace Go.Proofs.YtgloapcfmlijlaaGreatDoor
open Go Go.RowKit

/-- The loop's record while it is ready. -/
abbrev recOf (fn : FuncId) (tmps : Array Value) (ps : Array Tmp) (assign body : Code) (d : Nat) (st : LoopState) : Loop :=
  { state := st, pending := none, fn, tmps, params := ps, assign, body, defers := d }

theorem keeps_put {W : World} {l : Nat} {o : Obj} (o' : Obj) {k : Nat} {x : Obj} (hk : W.heap[k]? = some x) (hne : k ≠ l) (_h : W.heap[l]? = some o) : (W.putObj l o').heap[k]? = some x :=
  (World.putObj_heap_other hne).trans hk

theorem range_all {α : Type} {P : Program} {n : Nat} {g : Operand} {ps : Array Tmp} {assign body : Code} {Q : Exit → Act → World → Prop} {a : Act} {w : World} (h1 : 1 ≤ n)
    {gf : Nat} {lb : Array Value} (hg : a.eval g = .func (.func gf) #[] lb) (eg : ∀ args w, (callFunc gf args).run P w = .ok (.enter gf args) w)
    {encs : α → Array Value} (hps : ∀ x, (encs x).size = ps.size) (xs : List α) (I : List α → World → Prop) (hI : OwnFrom w.heap.size I)
    (E : World → World → Prop) (Iend : Unit → World → Prop) (hEnd : OwnFrom w.heap.size Iend) (hE : ∀ A B, I xs A → E A B → KeepsOthers A B ∧ Iend () B)
    (hseq : ∀ (l : Nat) (J : List α → World → Prop) (W : World), (∀ pre W, J pre W → I pre W) → (∀ pre W, J pre W → J pre W.drew) →
      (∀ pre x post W1, xs = pre ++ x :: post → J pre W1 → YieldAt Fence.wide (n - 1 - 1) P l (encs x) W1 fun e W' => e = .returned (.bool true) ∧ J (pre ++ [x]) W') →
      J [] W → CallsIn Fence.wide (n - 1) P gf (#[.func (.yield l) #[] #[]] ++ lb) W fun e W' => (∃ v, e = .returned v) ∧ ∃ W1, J xs W1 ∧ E W1 W')
    (h0 : I [] w) (a1 : α → Act)
    (hassign : ∀ (l : Nat) (x : α) (W : World) (K : Act → World → Prop), K (a1 x) W →
      assign.wpIn (Fence.wide.inRound l) (n - 1 - 1) P (Exit.then K (fun _ _ _ => False)) { tmps := (ps.zip (encs x)).foldl (fun t (p, v) => t.setIfInBounds p v) a.tmps, defers := [] } W)
    (hbody : ∀ (l : Nat) (pre : List α) (x : α) (post : List α) (W : World), xs = pre ++ x :: post → I pre W →
      body.wpIn (Fence.wide.inRound l) (n - 1 - 1) P (fun e _ W' => e = .normal ∧ KeepsOthers W W' ∧ I (pre ++ [x]) W') (a1 x) W)
    (hdone : ∀ (D : Nat) (W : World), w.heap.size ≤ D → Iend () W → W.heap[D]? = some (.deferred (some [])) → Q .normal { a with defers := { target := .collected D, args := #[] } :: a.defers } W) :
    (Code.rangeFunc g ps assign body).wpIn Fence.wide n P Q a w := by
  refine wpIn_rangeFunc ?_
  intro fn hfn
  have hro : Fence.wide.round = none := rfl
  rw [hro]
  have hrun := run_enterLoop_outer (P := P) (w := w) fn a.tmps ps assign body
  obtain ⟨W1, hW1⟩ : ∃ W1, (w.alloc (.deferred (some []))).alloc (.loop (recOf fn a.tmps ps assign body w.heap.size .ready)) = W1 := ⟨_, rfl⟩
  replace hrun : (Instr.enterLoop fn a.tmps ps assign body none).run P w = .ok (w.heap.size + 1, [{ target := .collected w.heap.size, args := #[] }]) W1 := hW1 ▸ hrun
  have hL : W1.heap[w.heap.size + 1]? = some (.loop (recOf fn a.tmps ps assign body w.heap.size .ready)) := by
    rw [← hW1]
    have := World.alloc_heap_new (w.alloc (.deferred (some []))) (.loop (recOf fn a.tmps ps assign body w.heap.size .ready))
    rwa [World.size_alloc] at this
  have hD : W1.heap[w.heap.size]? = some (.deferred (some [])) := by
    rw [← hW1]
    exact (Below.heap_alloc _ _ _ (by simp)).trans (World.alloc_heap_new w _)
  have hI1 : I [] W1 := by rw [← hW1]; exact hI.alloc _ (hI.alloc _ h0)
  refine ⟨w.heap.size + 1, _, W1, { target := .fn (.func gf) lb, args := #[.func (.yield (w.heap.size + 1)) #[] #[]] }, W1, gf, #[.func (.yield (w.heap.size + 1)) #[] #[]] ++ lb, W1, hrun, ?_, fun _ _ => trivial, ?_, fun _ => h1, ?_⟩
  · simp only [resolve, hg]
    simp [go_sem]
  · simp [invoke, go_sem, eg]
  · refine (hseq (w.heap.size + 1) (fun pre W => I pre W ∧ W.heap[w.heap.size + 1]? = some (.loop (recOf fn a.tmps ps assign body w.heap.size .ready)) ∧ W.heap[w.heap.size]? = some (.deferred (some []))) W1
      (fun _ _ h => h.1) (fun pre W h => ⟨hI pre W W.drew none h.1 ⟨rfl, rfl, rfl, Nat.le_refl _, fun _ _ _ => rfl⟩ (fun r e => by cases e), h.2⟩) ?_ ⟨hI1, hL, hD⟩).mono ?_
    · rintro pre x post W hx ⟨hi, hl, hd⟩
      have hlt : w.heap.size + 1 < W.heap.size := (Array.getElem?_eq_some_iff.1 hl).1
      refine ⟨fn, _, assign, body, run_yield hl (hps x), roundIn_of_wpIn trivial (hassign _ x W _ ⟨_, run_beginRound hl rfl, ?_⟩)⟩
      refine wpIn_mono (hbody _ pre x post _ hx (hI.putObj _ hi (by omega) hl rfl)) ?_
      rintro e b W2 ⟨rfl, hk, hi2⟩
      have hl2 := hk.same _ _ (World.putObj_heap_same hlt) rfl
      have hd2 := hk.same _ _ (keeps_put _ hd (by omega) hl) rfl
      exact ⟨_, _, run_endRound none hl2, rfl, hI.putObj _ hi2 (by omega) hl2 rfl, World.putObj_heap_same (Array.getElem?_eq_some_iff.1 hl2).1, keeps_put _ hd2 (by omega) hl2⟩
    · rintro e W2 ⟨⟨v, rfl⟩, W3, ⟨hi, hl, hd⟩, he⟩
      obtain ⟨hk, hend⟩ := hE W3 W2 hi he
      have hl2 := hk.same _ _ hl rfl
      have hd2 := hk.same _ _ hd rfl
      exact ⟨none, _, run_endLoop hl2 (by simp), hdone _ _ (Nat.le_refl _) (hEnd.putObj _ hend (by omega) hl2 rfl) (keeps_put _ hd2 (by omega) hl2)⟩
end Go.Proofs.YtgloapcfmlijlaaGreatDoor
namespace Go.Proofs.YtgloapcfmlijlaaGreatDoor
open Go Go.RowKit Go.Shelf
attribute [local go_sem] Oper.semAt_some

theorem digits_in (n : Nat) (N s : Int) (w : World) :
    CallsIn Fence.wide n Tryz.prog 167 #[.int .u64 N, .int .i64 s] w fun e w' =>
      e = .returned (.func (.func 203) #[] #[.pointer (some ⟨w.heap.size, 0, none⟩), .pointer (some ⟨w.heap.size + 1, 0, none⟩)]) ∧ w' = (w.alloc (.cells #[.int .u64 N] 27)).alloc (.cells #[.int .i64 s] 3) := by
  refine callsIn_of_wp Tryz.func167 rfl trivial ?_ rfl
  simp only [Tryz.ntmps167, List.size_toArray, List.length_cons, List.length_nil, Nat.reduceAdd, Nat.reduceSub, Array.replicate_succ, Array.replicate_zero, List.push_toArray, List.append_toArray, List.nil_append, List.cons_append]
  gi_wp2
  go_ret
  exact ⟨rfl, rfl⟩

set_option maxRecDepth 100000 in
set_option maxHeartbeats 8000000 in
theorem digits_reg (n l bn bs j : Nat) (N s q V m m1 d : Int) (W : World) (t3 t5 t6 t7 t8 t9 t10 t11 t12 t13 t14 t15 t16 t17 t18 t19 t20 t21 t22 t23 t24 t25 t26 t27 t28 t29 t30 : Value) (c : Code) (hcode : Tryz.f203.body.bind (regAt 3) = some c)
    (R : World → Prop) (cn : W.cell? ⟨bn, 0, none⟩ = some (.int .u64 N)) (cs : W.cell? ⟨bs, 0, none⟩ = some (.int .i64 s)) (hq : IntKind.i64.wrap (s * j) = q) (hq0 : 0 ≤ q) (hs0 : 0 ≤ s) (hs1 : s ≤ 8) (hV : N / 2 ^ min q.toNat 64 = V) (hm : IntKind.u64.wrap (2 ^ s.toNat) = m) (hm1 : IntKind.u64.wrap (m - 1) = m1) (hd : bits BinOp.and IntKind.u64 V m1 = d) (hd8 : IntKind.u8.wrap d = d)
    (hY : YieldAt Fence.wide n Tryz.prog l #[.int .i64 j, .int .u8 d] W.drew fun e W' => e = .returned (.bool true) ∧ R W') :
    c.wpIn Fence.wide (n + 1) Tryz.prog (nrm fun b U => (∃ t17 t18 t19 t20 t21 t22 t23 t24 t25 t26 t27 t28, b = { tmps := #[.func (.yield l) #[] #[], .pointer (some ⟨bn, 0, none⟩), .pointer (some ⟨bs, 0, none⟩), t3, .int .i64 j, t5, t6, t7, t8, t9, t10, t11, t12, t13, t14, t15, t16, t17, t18, t19, t20, t21, t22, t23, t24, t25, t26, t27, t28, .bool true, .bool false], defers := [] }) ∧ R U)
      { tmps := #[.func (.yield l) #[] #[], .pointer (some ⟨bn, 0, none⟩), .pointer (some ⟨bs, 0, none⟩), t3, .int .i64 j, t5, t6, t7, t8, t9, t10, t11, t12, t13, t14, t15, t16, t17, t18, t19, t20, t21, t22, t23, t24, t25, t26, t27, t28, t29, t30], defers := [] } W := by
  simp only [Tryz.f203, Option.bind_some, regAt, Option.some_or, Option.none_or, if_true, if_false, Nat.reduceEqDiff, Option.some.injEq] at hcode
  subst hcode
  have hro : Fence.wide.round = none := rfl
  have mixed : Tryz.prog.follows .mixedOrders = true := by kernel_rfl
  obtain ⟨fn, tmps, assign, body, hy, hR⟩ := hY
  gi_region_with (refine hR.mono ?_; rintro e W' ⟨rfl, hW'⟩)
  all_goals exact ⟨⟨_, _, _, _, _, _, _, _, _, _, _, _, rfl⟩, hW'⟩
end Go.Proofs.YtgloapcfmlijlaaGreatDoor
namespace Go.Proofs.YtgloapcfmlijlaaGreatDoor
open Go Go.RowKit Go.Shelf
attribute [local go_sem] Oper.semAt_some

/-- Digit i of S bits. -/
def digN (S N i : Nat) : Nat := N / 2 ^ (S * i) % 2 ^ S

theorem mask_is (S : Nat) (hS : S = 7 ∨ S = 8) : IntKind.u64.wrap (2 ^ (S : Int).toNat) = ((2 ^ S : Nat) : Int) ∧ IntKind.u64.wrap (((2 ^ S : Nat) : Int) - 1) = ((2 ^ S - 1 : Nat) : Int) := by
  rcases hS with rfl | rfl <;> decide

theorem shift_is (S N j : Nat) (hN : N < 18446744073709551616) : (N : Int) / 2 ^ min ((S * j : Nat) : Int).toNat 64 = ((N / 2 ^ (S * j) : Nat) : Int) := by
  rw [Int.toNat_natCast]
  rcases Nat.le_total (S * j) 64 with h | h
  · rw [Nat.min_eq_left h]
    simp
  · rw [Nat.min_eq_right h]
    have e1 : N / 2 ^ (S * j) = 0 := Nat.div_eq_of_lt (Nat.lt_of_lt_of_le hN (show 2 ^ 64 ≤ 2 ^ (S * j) from Nat.pow_le_pow_right (by omega) h))
    rw [e1]
    omega

theorem digit_is (S N j : Nat) (hS : S = 7 ∨ S = 8) (hN : N < 18446744073709551616) : bits BinOp.and IntKind.u64 ((N / 2 ^ (S * j) : Nat) : Int) ((2 ^ S - 1 : Nat) : Int) = ((digN S N j : Nat) : Int) := by
  have h1 : N / 2 ^ (S * j) < 18446744073709551616 := Nat.lt_of_le_of_lt (Nat.div_le_self _ _) hN
  rw [bits_and_u64_nat _ _ h1 (by rcases hS with rfl | rfl <;> decide), Nat.and_two_pow_sub_one_eq_mod]
  rfl

theorem digN_lt (S N j : Nat) (hS : S = 7 ∨ S = 8) : digN S N j < 256 := by
  unfold digN
  rcases hS with rfl | rfl <;> omega

theorem step_is (S j : Nat) (hS : S = 7 ∨ S = 8) (hj : j ≤ 10) : IntKind.i64.wrap ((S : Int) * (j : Int)) = ((S * j : Nat) : Int) := by
  have h : (S : Int) * (j : Int) = ((S * j : Nat) : Int) := by simp
  rw [h]
  have h2 : S * j ≤ 80 := by rcases hS with rfl | rfl <;> omega
  generalize S * j = q at h2
  exact IntWalk.i64_in _ (by omega)

set_option maxRecDepth 100000 in
set_option maxHeartbeats 4000000 in
theorem digits_run (n N k S : Nat) (s : Int) (hs : s = S) (hS : S = 7 ∨ S = 8) (hN : N < 18446744073709551616) (hk1 : 1 ≤ k) (hk : k ≤ 10) (hne : ∀ i, 1 ≤ i → i < k → N / 2 ^ (S * i) ≠ 0) (hz : N / 2 ^ (S * k) = 0) (l bn bs : Nat) (J : List Nat → World → Prop)
    (hJ : ∀ pre W, J pre W → W.cell? ⟨bn, 0, none⟩ = some (.int .u64 N) ∧ W.cell? ⟨bs, 0, none⟩ = some (.int .i64 s)) (hd : ∀ pre W, J pre W → J pre W.drew)
    (hY : ∀ i W, i < k → J (List.range i) W → YieldAt Fence.wide n Tryz.prog l #[.int .i64 i, .int .u8 ((digN S N i : Nat) : Int)] W fun e W' => e = .returned (.bool true) ∧ J (List.range (i + 1)) W')
    (W : World) (h0 : J [] W) :
    CallsIn Fence.wide (n + 1) Tryz.prog 203 #[.func (.yield l) #[] #[], .pointer (some ⟨bn, 0, none⟩), .pointer (some ⟨bs, 0, none⟩)] W fun e W' => (∃ v, e = .returned v) ∧ J (List.range k) W' := by
  have HN := Lib.hid hne
  have HZ := Lib.hid hz
  have HJ := Lib.hid hJ
  have HD := Lib.hid hd
  have HS := Lib.hid hS
  have HE := Lib.hid hs
  have HL := Lib.hid hN
  have HY := Lib.hid hY
  clear hne hz hJ hd hS hs hN hY
  have hro : Fence.wide.round = none := rfl
  refine callsIn_of_wp Tryz.func203 rfl trivial ?_ rfl
  simp only [Tryz.ntmps203, List.size_toArray, List.length_cons, List.length_nil, Nat.reduceAdd, Nat.reduceSub, Array.replicate_succ, Array.replicate_zero, List.push_toArray, List.append_toArray, List.nil_append, List.cons_append]
  gi_wp2
  gi_loopw [4] (fun i wr => ∃ j : Nat, j ≤ k ∧ i = .int .i64 j ∧ J (List.range j) wr) (fun i _ => k - (intOf i).toNat)
  case atStart => exact ⟨0, Nat.zero_le _, rfl, h0⟩
  case round =>
    obtain ⟨j, hj, rfl, hJs⟩ := hrel
    obtain ⟨cn, cs⟩ := HJ.out _ _ hJs
    obtain ⟨q, hq⟩ : ∃ q, q = ((S * j : Nat) : Int) := ⟨_, rfl⟩
    obtain ⟨V, hV⟩ : ∃ V, V = ((N / 2 ^ (S * j) : Nat) : Int) := ⟨_, rfl⟩
    have f1 : IntKind.i64.wrap (s * (j : Int)) = q := by rw [HE.out, hq]; exact step_is S j HS.out (by omega)
    have f2 : (N : Int) / 2 ^ min q.toNat 64 = V := by rw [hq, hV]; exact shift_is S N j HL.out
    have f3 : 0 ≤ q := by rw [hq]; omega
    have HQ := Lib.hid hq
    have HV := Lib.hid hV
    clear hq hV
    by_cases hlt : j < k
    · have fin := digits_reg n l bn bs j N s q V ((2 ^ S : Nat) : Int) ((2 ^ S - 1 : Nat) : Int) ((digN S N j : Nat) : Int) wr
      by_cases hj0 : j = 0
      · have hb : (((j : Nat) : Int) == 0) = true := by simp; omega
        gi_wp2
        refine wpIn_mono' (fin _ _ _ _ _ _ _ _ _ _ _ _ _ _ _ _ _ _ _ _ _ _ _ _ _ _ _ _ (by kernel_rfl) _ cn cs f1 f3 (by rcases HS.out with h | h <;> rw [HE.out, h] <;> decide) (by rcases HS.out with h | h <;> rw [HE.out, h] <;> decide) f2 (by rw [HE.out]; exact (mask_is S HS.out).1) (mask_is S HS.out).2 (by rw [HV.out]; exact digit_is S N j HS.out HL.out) (by rw [wrap8_nat, Nat.mod_eq_of_lt (digN_lt S N j HS.out)]) (HY.out j wr.drew hlt (HD.out _ _ hJs))) ?_
        rintro b u ⟨⟨t17, t18, t19, t20, t21, t22, t23, t24, t25, t26, t27, t28, rfl⟩, hJ3⟩
        clear fin
        gi_wp2
        go_roundw
        case rel => exact ⟨j + 1, by omega, by simp <;> omega, hJ3⟩
        case measure => simp [intOf]; omega
      · have hb : (((j : Nat) : Int) == 0) = false := by simp; omega
        have hp : (V != 0) = true := by
          have := HN.out j (by omega) hlt
          rw [HV.out]
          simp only [bne_iff_ne, ne_eq]
          omega
        gi_wp2
        refine wpIn_mono' (fin _ _ _ _ _ _ _ _ _ _ _ _ _ _ _ _ _ _ _ _ _ _ _ _ _ _ _ _ (by kernel_rfl) _ cn cs f1 f3 (by rcases HS.out with h | h <;> rw [HE.out, h] <;> decide) (by rcases HS.out with h | h <;> rw [HE.out, h] <;> decide) f2 (by rw [HE.out]; exact (mask_is S HS.out).1) (mask_is S HS.out).2 (by rw [HV.out]; exact digit_is S N j HS.out HL.out) (by rw [wrap8_nat, Nat.mod_eq_of_lt (digN_lt S N j HS.out)]) (HY.out j wr.drew hlt (HD.out _ _ hJs))) ?_
        rintro b u ⟨⟨t17, t18, t19, t20, t21, t22, t23, t24, t25, t26, t27, t28, rfl⟩, hJ3⟩
        clear fin
        gi_wp2
        go_roundw
        case rel => exact ⟨j + 1, by omega, by simp <;> omega, hJ3⟩
        case measure => simp [intOf]; omega
    · obtain rfl : j = k := by omega
      have hb : (((j : Nat) : Int) == 0) = false := by simp; omega
      have hp : (V != 0) = false := by rw [HV.out, HZ.out]; rfl
      gi_wp2
      go_end0
      exact ⟨⟨_, rfl⟩, hJs⟩
end Go.Proofs.YtgloapcfmlijlaaGreatDoor
namespace Go.Proofs.YtgloapcfmlijlaaGreatDoor
open Go Go.RowKit Go.Shelf

theorem range_cut {m i : Nat} (h : i < m) : ∃ post, List.range m = List.range i ++ i :: post := by
  obtain ⟨k, rfl⟩ : ∃ k, m = i + (k + 1) := ⟨m - i - 1, by omega⟩
  refine ⟨(List.range k).map (fun x => i + (x + 1)), ?_⟩
  rw [List.range_add, List.range_succ_eq_map]
  simp [List.map_map, Function.comp_def]

theorem range_part {m x : Nat} {pre post : List Nat} (h : List.range m = pre ++ x :: post) : pre = List.range pre.length ∧ x = pre.length ∧ pre.length < m := by
  have hl := congrArg List.length h
  simp at hl
  have hx : (List.range m)[pre.length]? = some x := by rw [h]; simp
  rw [List.getElem?_range (by omega)] at hx
  have ht : (List.range m).take pre.length = pre := by rw [h]; simp
  rw [List.take_range, Nat.min_eq_left (by omega)] at ht
  exact ⟨ht.symm, (Option.some.inj hx).symm, by omega⟩

theorem range_digits {S N : Nat} {s : Int} (hs : s = S) (hS : S = 7 ∨ S = 8) (hN : N < 18446744073709551616) {m : Nat} (hm1 : 1 ≤ m) (hm : m ≤ 10) (hne : ∀ i, 1 ≤ i → i < m → N / 2 ^ (S * i) ≠ 0) (hz : N / 2 ^ (S * m) = 0)
    {g : Operand} {ps : Array Tmp} {assign body : Code} {Q : Exit → Act → World → Prop} {a : Act} {w : World} {bn bs : Nat}
    (hg : a.eval g = .func (.func 203) #[] #[.pointer (some ⟨bn, 0, none⟩), .pointer (some ⟨bs, 0, none⟩)]) (hps : ps.size = 2)
    (I : Nat → World → Prop) (hI : OwnFrom w.heap.size I) (hc : ∀ i W, I i W → W.cell? ⟨bn, 0, none⟩ = some (.int .u64 N) ∧ W.cell? ⟨bs, 0, none⟩ = some (.int .i64 s)) (h0 : I 0 w) (f : Nat → Array Value → Array Value)
    (hassign : ∀ (l x : Nat) (W : World) (K : Act → World → Prop), K { tmps := f x a.tmps, defers := [] } W →
      assign.wpIn (Fence.wide.inRound l) 2 Tryz.prog (Exit.then K (fun _ _ _ => False)) { tmps := (ps.zip #[.int .i64 x, .int .u8 ((digN S N x : Nat) : Int)]).foldl (fun t (p, v) => t.setIfInBounds p v) a.tmps, defers := [] } W)
    (hbody : ∀ (l i : Nat) (W : World), i < m → I i W → body.wpIn (Fence.wide.inRound l) 2 Tryz.prog (fun e _ W' => e = .normal ∧ KeepsOthers W W' ∧ I (i + 1) W') { tmps := f i a.tmps, defers := [] } W)
    (hdone : ∀ (D : Nat) (W : World), w.heap.size ≤ D → I m W → W.heap[D]? = some (.deferred (some [])) → Q .normal { a with defers := { target := .collected D, args := #[] } :: a.defers } W) :
    (Code.rangeFunc g ps assign body).wpIn Fence.wide 4 Tryz.prog Q a w := by
  refine range_all (n := 4) (by omega) hg (enters_of Tryz.func203 (by kernel_rfl) rfl) (encs := fun x : Nat => #[.int .i64 x, .int .u8 ((digN S N x : Nat) : Int)]) (fun _ => hps.symm) (List.range m)
    (fun pre W => I pre.length W) (fun pre => hI pre.length) (fun A B => A = B) (fun _ W => I m W) (fun _ => hI m) (fun A B hA e => ⟨e ▸ KeepsOthers.refl _, by rw [← e]; simpa using hA⟩) ?_ h0 (fun x => { tmps := f x a.tmps, defers := [] }) hassign ?_ hdone
  · intro l J W hJI hd hY hJ0
    refine (digits_run 2 N m S s hs hS hN hm1 hm hne hz l bn bs J (fun pre W h => hc _ _ (hJI pre W h)) hd ?_ W hJ0).mono ?_
    · intro i W1 hi hJ1
      obtain ⟨post, hp⟩ := range_cut hi
      have := hY _ i post W1 hp hJ1
      rwa [← List.range_succ] at this
    · rintro e W' ⟨hv, hj⟩
      exact ⟨hv, W', hj, rfl⟩
  · intro l pre x post W hx hi
    obtain ⟨h1, h2, h3⟩ := range_part hx
    subst h2
    rw [List.length_append, List.length_singleton]
    exact hbody l pre.length W h3 hi
end Go.Proofs.YtgloapcfmlijlaaGreatDoor
namespace Go.Proofs.YtgloapcfmlijlaaGreatDoor
open Go Go.RowKit Go.Shelf
attribute [local go_sem] Oper.semAt_some

theorem Tryz.infoByte : (Tryz.prog.info? 5).map (fun i => (i.zero, i.size, i.bytes)) = some (some (.int .u8 0), 1, 1) := by kernel_rfl

theorem made_cell (w : World) (z : Value) (k t j : Nat) (h : j < k) : (w.alloc (.cells (madeCells #[z] k) t)).cell? ⟨w.heap.size, j, none⟩ = some z ∧ (w.alloc (.cells (madeCells #[z] k) t)).frozen? ⟨w.heap.size, j, none⟩ = false := by
  refine ⟨?_, by simp [go_sem]⟩
  have : (madeCells #[z] k)[j]? = some z := by
    unfold madeCells
    simp [h, Nat.mod_one]
  simp [go_sem, this]

/-- What lies in memory when m bytes have been put. -/
structure LX (w : World) (h k N m : Nat) (W : World) : Prop where
  box : W.cell? ⟨h + 1, 0, none⟩ = some (.slice (some ⟨h, 0, none⟩) k k)
  fr : ∀ j, j < k → W.frozen? ⟨h, j, none⟩ = false
  lo : ∀ j, j < m → W.cell? ⟨h, j, none⟩ = some (.int .u8 ((digN 8 N j : Nat) : Int))
  hi : ∀ j, m ≤ j → j < k → W.cell? ⟨h, j, none⟩ = some (.int .u8 0)
  cn : W.cell? ⟨h + 2, 0, none⟩ = some (.int .u64 N)
  cs : W.cell? ⟨h + 3, 0, none⟩ = some (.int .i64 8)
  low : Below w.heap.size w W
  ge : h + 4 ≤ W.heap.size
  le : m ≤ k

theorem lx_own {w : World} {h k N B : Nat} (hk : h + 4 ≤ B) (hw : w.heap.size ≤ h) : OwnFrom B (LX w h k N) := by
  intro m W W' row hf hg hr
  have hr' : ∀ r, row = some r → ∃ o : Obj, W.heap[r]? = some o ∧ o.isCells = false := fun r e => (hr r e).2
  have hm := hf.le
  have som : ∀ j, j < k → ∃ u, W.cell? ⟨h, j, none⟩ = some u := fun j hj => by
    rcases Nat.lt_or_ge j m with h1 | h1
    · exact ⟨_, hf.lo j h1⟩
    · exact ⟨_, hf.hi j h1 hj⟩
  refine ⟨cell_kept hf.box hg hr', fun j hj => ?_, fun j hj => cell_kept (hf.lo j hj) hg hr', fun j h1 h2 => cell_kept (hf.hi j h1 h2) hg hr', cell_kept hf.cn hg hr', cell_kept hf.cs hg hr', hf.low.grown hg hf.low.size (fun k e => by have := (hr k e).1; omega), ?_, hm⟩
  · obtain ⟨u, hu⟩ := som j hj
    exact (frozen_kept hu hg hr').trans (hf.fr j hj)
  · have := ((Below.refl 0 W).grown hg (by omega) (fun _ _ => Nat.zero_le _)).size
    have := hf.ge
    omega

theorem lx_step {w W : World} {h k N m : Nat} (hf : LX w h k N m W) (hm : m < k) (hw : w.heap.size ≤ h) : LX w h k N (m + 1) (W.setCell ⟨h, m, none⟩ (.int .u8 ((digN 8 N m : Nat) : Int))) := by
  obtain ⟨box, fr, lo, hi, cn, cs, low, ge, _⟩ := hf
  have hh : h < W.heap.size := by omega
  have hm0 := hi m (Nat.le_refl _) hm
  refine ⟨by simp [go_sem, box], fun j hj => by simp [go_sem, fr j hj], fun j hj => ?_, fun j h1 h2 => ?_, by simp [go_sem, cn], by simp [go_sem, cs], low.setCell (p := ⟨h, m, none⟩) hw _, by simpa using ge, hm⟩
  · by_cases e : j = m
    · subst e
      simp [go_sem, hm0]
    · simp [go_sem, lo j (by omega)]
  · have e : j ≠ m := by omega
    simp [go_sem, hi j (by omega) h2]

theorem le_bytes (k N : Nat) : ((List.range k).map fun j => ((digN 8 N j : Nat) : Int)).map (fun n => UInt8.ofNat n.toNat) = M.le k N := by
  apply List.ext_getElem
  · simp [M.le_length]
  · intro i h1 h2
    have hi : i < k := by simpa using h1
    have e := M.le_get k N i hi
    rw [List.getD_eq_getElem?_getD, List.getElem?_eq_getElem h2, Option.getD_some] at e
    rw [e]
    simp only [List.getElem_map, List.getElem_range, Int.toNat_natCast, digN, Nat.pow_mul]

set_option maxRecDepth 100000 in
set_option maxHeartbeats 4000000 in
theorem le_in (N k : Nat) (w : World) (hN : N < 18446744073709551616) (hk1 : 1 ≤ k) (hk8 : k ≤ 8) (hl : (M.tr (M.f32 N)).length ≤ k) :
    CallsIn Fence.wide 4 Tryz.prog 85 #[.int .u64 N, .int .i64 k] w fun e w' => e = .returned (.tuple #[.string ⟨(M.le k N).toArray⟩, .int .i64 0]) ∧ Below w.heap.size w w' := by
  have hro : Fence.wide.round = none := rfl
  have hsm : N < 256 ^ k := (M.tr_width (in_small N hN)).1 hl
  have hm8 := M.nd8_width hk1 hsm
  have HM := Lib.hid hsm
  have hbe := fun w => callsIn_wide (n := 3).2 (nbe_any N w hN)
  obtain ⟨lb, hlb⟩ : ∃ lb, M.tr (M.f32 N) = lb := ⟨_, rfl⟩
  rw [hlb] at hl hbe
  clear hlb hsm
  have hmk := fun w => run_make_row' (P := Tryz.prog) 48 5 (.int .u8 0) 1 Tryz.underlying48 Tryz.infoByte rfl .i64 .i64 k (by omega) (by omega) w
  refine callsIn_of_wp_marks Tryz.func85 rfl trivial ?_ hro
  simp only [Tryz.ntmps85, List.size_toArray, List.length_cons, List.length_nil, Nat.reduceAdd, Nat.reduceSub, Array.replicate_succ, Array.replicate_zero, List.push_toArray, List.append_toArray, List.nil_append, List.cons_append]
  gi_wp2_with (first | (refine ⟨trivial, ?_⟩; gi_at_call 166; refine (hbe _).mono ?_; rintro e w1 ⟨rfl, hb1⟩) | (refine ⟨trivial, ?_⟩; gi_at_call 167; refine (digits_in _ _ _ _).mono ?_; rintro e w' ⟨rfl, rfl⟩))
  obtain ⟨h, hh⟩ : ∃ h, w1.heap.size = h := ⟨_, rfl⟩
  obtain ⟨W0, hW0⟩ : ∃ W0, ((((w1.alloc (Obj.cells (madeCells #[Value.int IntKind.u8 0] k) 5)).alloc (Obj.cells #[Value.slice (some { block := w1.heap.size, off := 0 }) k k] 48)).alloc (Obj.cells #[Value.int IntKind.u64 ↑N] 27)).alloc (Obj.cells #[Value.int IntKind.i64 8] 3)) = W0 := ⟨_, rfl⟩
  have hX : LX w w1.heap.size k N 0 W0 := by
    have hs := hb1.size
    rw [← hW0]
    refine ⟨by simp [go_sem], fun j hj => ?_, fun j hj => absurd hj (by omega), fun j _ hj => ?_, by simp [go_sem], by simp [go_sem], ?_, by simp, by omega⟩
    · have := (made_cell w1 (.int .u8 0) k 5 j hj).2
      simp [go_sem]
    · have := (made_cell w1 (.int .u8 0) k 5 j hj).1
      simp [go_sem] at this
      simp [go_sem, this]
    · exact (((hb1.alloc (by omega) _).alloc (by simp; omega) _).alloc (by simp; omega) _).alloc (by simp; omega) _
  have hsz : W0.heap.size = w1.heap.size + 4 := by rw [← hW0]; simp
  have hwh : w.heap.size ≤ w1.heap.size := hb1.size
  rw [hW0]
  rw [hh] at hX hsz hwh ⊢
  clear hW0 hh hmk hbe hb1
  have HS := Lib.hid hsz
  refine range_digits (S := 8) (N := N) (s := 8) rfl (.inr rfl) hN (M.nd_pos 8 7 N) (by have := M.nd_le 8 7 N; omega) (M.nd_low 8 7 N) (M.nd8_high hN) (bn := h + 2) (bs := h + 3) rfl rfl (LX w h k N) (lx_own (by omega) hwh) (fun i W hi => ⟨hi.cn, hi.cs⟩) hX
    (fun x t => (((t.setIfInBounds 26 (.int .i64 x)).setIfInBounds 27 (.int .u8 ((digN 8 N x : Nat) : Int))).setIfInBounds 7 (.int .i64 x)).setIfInBounds 8 (.int .u8 ((digN 8 N x : Nat) : Int))) ?assign ?body ?done
  case assign =>
    intro l x W K hK
    clear hsz hX
    simp only [List.setIfInBounds_toArray, List.set_cons_zero, List.set_cons_succ] at hK
    gi_wp2
    exact hK
  case body =>
    intro l i W hi hXi
    replace hi : i < M.nd8 N := hi
    have hik : i < k := by omega
    have hbox := hXi.box
    have hfr := hXi.fr i hik
    have hci := hXi.hi i (Nat.le_refl _) hik
    have HST := Lib.hid (lx_step hXi hik hwh)
    clear hsz hX
    simp only [List.setIfInBounds_toArray, List.set_cons_zero, List.set_cons_succ]
    gi_wp2
    exact ⟨KeepsOthers.setCell _ _ _, HST.out⟩
  case done =>
    intro D W hD hXm hK
    have hall : ∀ j, j < k → W.cell? ⟨h, j, none⟩ = some (.int .u8 ((digN 8 N j : Nat) : Int)) := by
      intro j hj
      rcases Nat.lt_or_ge j (M.nd 8 7 N) with h1 | h1
      · exact hXm.lo j h1
      · rw [hXm.hi j h1 hj]
        have e : N / 2 ^ (8 * j) = 0 := by
          have h2 : 2 ^ (8 * M.nd 8 7 N) ≤ 2 ^ (8 * j) := Nat.pow_le_pow_right (by omega) (by omega)
          have h3 : N / 2 ^ (8 * M.nd 8 7 N) = 0 := M.nd8_high hN
          have h4 : N < 2 ^ (8 * M.nd 8 7 N) := by
            rcases Nat.lt_or_ge N (2 ^ (8 * M.nd 8 7 N)) with h5 | h5
            · exact h5
            · have := Nat.div_pos h5 (Nat.two_pow_pos _)
              omega
          exact Nat.div_eq_of_lt (by omega)
        rw [digN, e]
        rfl
    have hr := run_convert_bytes_arg W 48 5 Tryz.underlying48 Tryz.underlying5 h 0 k k ((List.range k).map fun j => ((digN 8 N j : Nat) : Int)) (by simp) (fun i hi => by rw [Nat.zero_add, hall i hi]; simp [hi]) 9 Tryz.underlying9
    have hbox := hXm.box
    have hlow := hXm.low
    clear hall hsz hX
    gi_wp2
    refine ⟨by simp, .inl ⟨_, _, rfl, run_takeDeferred hK, ?_⟩⟩
    have e : strOfNums ((List.range k).map fun j => ((digN 8 N j : Nat) : Int)) = ⟨(M.le k N).toArray⟩ := by unfold strOfNums; rw [le_bytes]
    refine ⟨_, results_tmp2 rfl _ _ _, ?_, hlow.trans (belowK_b (w := w) (Nat.le_refl _) W D _ _ (by have := HS.out; omega) hK rfl rfl)⟩
    rw [← e]
    rfl

end Go.Proofs.YtgloapcfmlijlaaGreatDoor
namespace Go.Proofs.YtgloapcfmlijlaaGreatDoor.M
open Go

/-- How much a row may be. -/
def sumP : List (Option Nat × List UInt8) → Nat
  | [] => 0
  | p :: ps => p.2.length + 4 + sumP ps
theorem row_sum : ∀ (ps : List (Option Nat × List UInt8)) (off : Nat), (rowH off ps).length + (rowL ps).length ≤ sumP ps
  | [], _ => Nat.le_refl _
  | (some n, b) :: ps, off => by
    have := row_sum ps off
    rw [rowH, rowL, sumP, List.length_append]
    show _ ≤ b.length + 4 + _
    omega
  | (none, b) :: ps, off => by
    have := row_sum ps (off + b.length)
    rw [rowH, rowL, sumP, List.length_append, List.length_append, le_length]
    show _ ≤ b.length + 4 + _
    omega
theorem flatMap_sum : ∀ (ps : List (Option Nat × List UInt8)), (ps.flatMap (·.2)).length ≤ sumP ps
  | [] => Nat.le_refl _
  | p :: ps => by
    have := flatMap_sum ps
    rw [List.flatMap_cons, List.length_append, sumP]
    omega
mutual
/-- Numbers of 32 bytes at most. -/
def smT : Ty → Prop
  | .mk k n ins => (k = 1 → n ≤ 32) ∧ smTs ins
def smTs : List Ty → Prop
  | [] => True
  | t :: ts => smT t ∧ smTs ts
end
theorem smTs_mem : ∀ {ts : List Ty} {t : Ty}, smTs ts → t ∈ ts → smT t
  | u :: ts, t, h, hm => by
    rcases List.mem_cons.1 hm with rfl | hm
    · exact h.1
    · exact smTs_mem h.2 hm
theorem smTs_of : ∀ {ts : List Ty}, (∀ t ∈ ts, smT t) → smTs ts
  | [], _ => trivial
  | t :: ts, h => ⟨h t (by simp), smTs_of fun u hu => h u (by simp [hu])⟩
theorem chk_small : ∀ (t : Ty) (d : Nat), chkT d t = 0 → smT t
  | .mk k n ins, d, h => by
    obtain ⟨_, h2, _, h4⟩ := chkT_ok.1 h
    refine ⟨fun hk => ?_, smTs_of fun t ht => chk_small t (d + 1) (chkTs_ok.1 h4 t ht)⟩
    subst hk
    unfold formT at h2
    simp at h2
    omega
termination_by t => SizeOf.sizeOf t
decreasing_by have := List.sizeOf_lt_of_mem ht; simp; omega
theorem sm_default : smT default := ⟨fun h => absurd h (by decide), trivial⟩
theorem sm_get {ins : List Ty} (h : smTs ins) (i : Nat) : smT (ins[i]?.getD default) := by
  cases hi : ins[i]? with
  | none => exact sm_default
  | some t => exact smTs_mem h (List.mem_of_getElem? hi)
theorem sm_in {ins : List Ty} (h : smTs ins) (k pick : Int) (i : Nat) : smT (inT k ins pick i) := by
  unfold inT
  split
  · exact sm_get h i
  · split
    · exact sm_get h _
    · exact sm_get h 0
mutual
/-- What is put is not long, beside how much the value holds. -/
theorem put_len (t : Ty) (ht : smT t) : ∀ v : Va, (putV t v).length + 4 ≤ 40 * cntV v
  | .mk num bits items pick => by
    obtain ⟨k, n, ins⟩ := t
    obtain ⟨h1, h2⟩ := ht
    have hs := puts_len k ins h2 pick items 0
    have hf := flatMap_sum (putVs k ins pick 0 items)
    have hr := row_sum (putVs k ins pick 0 items) (hdLen ((putVs k ins pick 0 items).map (·.1)))
    rw [putV, cntV]
    show (if k = 1 then le n.toNat num else if k = 2 then le 1 num else if k = 5 then packB bits else if k = 6 then listB bits else if k = 8 then UInt8.ofNat pick.toNat :: (putVs k ins pick 0 items).flatMap (·.2) else rowB (putVs k ins pick 0 items)).length + 4 ≤ _
    split
    · rename_i hk
      have := h1 hk
      rw [le_length]
      omega
    · split
      · rw [le_length]; omega
      · split
        · have hl : (packB bits).length = (bits.length + 7) / 8 := pack_length bits
          omega
        · split
          · have hl : (listB bits).length = bits.length / 8 + 1 := by unfold listB; rw [pack_length, List.length_append]; simp; omega
            omega
          · split
            · rw [List.length_cons]; omega
            · unfold rowB; rw [List.length_append]; omega
theorem puts_len (k : Int) (ins : List Ty) (h : smTs ins) (pick : Int) : ∀ (vs : List Va) (i : Nat), sumP (putVs k ins pick i vs) ≤ 40 * cntVs vs
  | [], i => by rw [putVs]; exact Nat.le_refl _
  | v :: vs, i => by
    have h1 := put_len (inT k ins pick i) (sm_in h k pick i) v
    have h2 := puts_len k ins h pick vs (i + 1)
    rw [putVs, sumP, cntVs]
    show (putV _ v).length + 4 + _ ≤ _
    omega
end

end Go.Proofs.YtgloapcfmlijlaaGreatDoor.M
namespace Go.Proofs.YtgloapcfmlijlaaGreatDoor.M
open Go

theorem rowL_append : ∀ (a b : List (Option Nat × List UInt8)), rowL (a ++ b) = rowL a ++ rowL b
  | [], b => rfl
  | (some z, x) :: a, b => by rw [List.cons_append, rowL, rowL, rowL_append a b]
  | (none, x) :: a, b => by rw [List.cons_append, rowL, rowL, rowL_append a b, List.append_assoc]
theorem rowH_append : ∀ (a b : List (Option Nat × List UInt8)) (off : Nat), rowH off (a ++ b) = rowH off a ++ rowH (off + (rowL a).length) b
  | [], b, off => by rw [List.nil_append, rowH, rowL, List.length_nil, Nat.add_zero, List.nil_append]
  | (some z, x) :: a, b, off => by rw [List.cons_append, rowH, rowH, rowL, rowH_append a b off, List.append_assoc]
  | (none, x) :: a, b, off => by rw [List.cons_append, rowH, rowH, rowL, rowH_append a b, List.append_assoc, List.length_append, Nat.add_assoc]
theorem rowH_fix {z : Nat} {b : List UInt8} (ps : List (Option Nat × List UInt8)) (off : Nat) : rowH off (ps ++ [(some z, b)]) = rowH off ps ++ b := by rw [rowH_append, rowH, rowH, List.append_nil]
theorem rowH_off {b : List UInt8} (ps : List (Option Nat × List UInt8)) (off : Nat) : rowH off (ps ++ [(none, b)]) = rowH off ps ++ le 4 (off + (rowL ps).length) := by rw [rowH_append, rowH, rowH, List.append_nil]
theorem rowL_fix {z : Nat} {b : List UInt8} (ps : List (Option Nat × List UInt8)) : rowL (ps ++ [(some z, b)]) = rowL ps := by rw [rowL_append, rowL, rowL, List.append_nil]
theorem rowL_off {b : List UInt8} (ps : List (Option Nat × List UInt8)) : rowL (ps ++ [(none, b)]) = rowL ps ++ b := by rw [rowL_append, rowL, rowL, List.append_nil]
theorem putVs_append (k : Int) (ins : List Ty) (p : Int) : ∀ (a b : List Va) (i : Nat), putVs k ins p i (a ++ b) = putVs k ins p i a ++ putVs k ins p (i + a.length) b
  | [], b, i => by rw [List.nil_append, putVs, List.nil_append, List.length_nil, Nat.add_zero]
  | v :: a, b, i => by rw [List.cons_append, putVs, putVs, putVs_append k ins p a b (i + 1), List.cons_append, List.length_cons, Nat.add_assoc, Nat.add_comm 1]
theorem putVs_next (k : Int) (ins : List Ty) (p : Int) {us : List Va} {j : Nat} {v : Va} (h : us[j]? = some v) : putVs k ins p 0 (us.take (j + 1)) = putVs k ins p 0 (us.take j) ++ [(kindOf (inT k ins p j), putV (inT k ins p j) v)] := by
  have hj := (List.getElem?_eq_some_iff.1 h).1
  rw [List.take_add_one, h]
  show putVs k ins p 0 (us.take j ++ [v]) = _
  rw [putVs_append, List.length_take_of_le (by omega), Nat.zero_add, putVs, putVs]
theorem fitVs_at (k : Int) (ins : List Ty) (p : Int) : ∀ (us : List Va) (i j : Nat) (v : Va), fitVs k ins p i us = 0 → us[j]? = some v → fitV (inT k ins p (i + j)) v = 0
  | [], i, j, v, _, h => by simp at h
  | u :: us, i, j, v, hf, h => by
    rw [fitVs] at hf
    by_cases hu : fitV (inT k ins p i) u = 0
    · rw [if_neg (by simp [hu])] at hf
      cases j with
      | zero => cases h; exact hu
      | succ j =>
        have := fitVs_at k ins p us (i + 1) j v hf (by simpa using h)
        rwa [Nat.add_assoc, Nat.add_comm 1] at this
    · rw [if_pos hu] at hf; exact absurd hf hu
theorem putVs_fst (k : Int) (ins : List Ty) (p : Int) : ∀ (us : List Va) (i : Nat), (putVs k ins p i us).map (·.1) = (List.range us.length).map fun j => kindOf (inT k ins p (i + j))
  | [], i => by rw [putVs]; rfl
  | u :: us, i => by
    rw [putVs, List.map_cons, putVs_fst k ins p us (i + 1), List.length_cons, List.range_succ_eq_map, List.map_cons, List.map_map, Nat.add_zero]
    congr 1
    apply List.map_congr_left
    intro j _
    show kindOf (inT k ins p (i + 1 + j)) = kindOf (inT k ins p (i + (j + 1)))
    rw [Nat.add_assoc, Nat.add_comm 1]
theorem row_eq {k n : Int} {ins : List Ty} (h : k = 3 ∨ k = 4 ∨ k = 7) (num : Nat) (bits : List Bool) (items : List Va) (pick : Int) {off : Nat} (ho : hdLen ((List.range items.length).map fun j => kindOf (inT k ins pick j)) = off) :
    putV (.mk k n ins) (.mk num bits items pick) = rowH off (putVs k ins pick 0 items) ++ rowL (putVs k ins pick 0 items) := by
  rw [putV_row h]
  unfold rowB
  rw [putVs_fst]
  simp only [Nat.zero_add]
  rw [ho]
end Go.Proofs.YtgloapcfmlijlaaGreatDoor.M
namespace Go.Proofs.YtgloapcfmlijlaaGreatDoor
open Go Go.RowKit Go.Lib

theorem le_f32V {N : Nat} (h : N < 4294967296) : (M.tr (M.f32 N)).length ≤ 4 := (M.tr_width (k := 4) (by unfold M.In; omega)).2 (by omega)
theorem be_atV (k : Nat) : ∀ (N j : Nat), j < k → (M.be k N)[k - 1 - j]? = some (UInt8.ofNat (N / 256 ^ j % 256)) := by
  induction k with
  | zero => intro N j h; omega
  | succ k ih =>
    intro N j h
    rw [M.be]
    cases j with
    | zero => simp [M.be_length]
    | succ j =>
      rw [List.getElem?_append_left (by rw [M.be_length]; omega), show k + 1 - 1 - (j + 1) = k - 1 - j by omega, ih (N / 256) j (by omega), Nat.div_div_eq_div_mul, Nat.pow_succ, Nat.mul_comm]
theorem f32_take (N n : Nat) (hn : n ≤ 32) : (M.f32 N).reverse.take n = M.le n N := by
  apply M.getD_ext
  · rw [List.length_take, List.length_reverse, M.f32_length, M.le_length]; omega
  · intro j hj
    rw [List.length_take, List.length_reverse, M.f32_length] at hj
    rw [M.le_get _ _ _ (by omega), List.getD_eq_getElem?_getD, List.getElem?_take_of_lt (by omega), List.getElem?_reverse (by rw [M.f32_length]; omega), M.f32_length, show 32 - 1 - j = 32 - 1 - j from rfl]
    show ((M.be 32 N)[32 - 1 - j]?).getD 0 = _
    rw [be_atV 32 N j (by omega)]
    rfl
theorem Seal.bk {w w' : World} {e : TypeId} {l : List UInt8} {cap : Nat} {cur : Array Value} (h : Seal w w' e ⟨l.toArray⟩ cap cur) : Bk w' w.heap.size l := by
  have hsz : (⟨l.toArray⟩ : ByteArray).size = l.length := by simp [ByteArray.size]
  have ht := h.take
  rw [hsz, bc_str] at ht
  have hlen := h.len
  rw [hsz] at hlen
  have hcs := h.size
  refine ⟨fun j hj => ?_, fun j hj => ?_⟩
  · simp only [World.cell?, h.row]
    have h1 : (cur.toList.take l.length)[j]? = (bc l)[j]? := by rw [ht]
    rw [List.getElem?_take_of_lt hj, Array.getElem?_toList] at h1
    have h2 : (bc l)[j]? = some (.int .u8 ((l.getD j 0).toNat : Nat)) := by
      unfold bc
      rw [List.getElem?_map, List.getElem?_eq_getElem hj, List.getD_eq_getElem?_getD, List.getElem?_eq_getElem hj]
      rfl
    rw [h2] at h1
    simpa using h1
  · simp [World.frozen?, h.row]
    omega
theorem Bk.srB {w : World} {g : Nat} {l : List UInt8} (h : Bk w g l) {B n cap : Nat} (hB : B ≤ g) (hn : n ≤ l.length) (h0 : 0 < l.length) : SrB B (l.take n) (.slice (some ⟨g, 0, none⟩) n cap) w := by
  refine .inr ⟨⟨g, 0, none⟩, cap, by rw [List.length_take, Nat.min_eq_left hn], hB, World.block_lt_of_cell? _ _ (h.1 0 h0), fun j u hj => ?_⟩
  have hj2 : j < (bc (l.take n)).length := (List.getElem?_eq_some_iff.1 hj).1
  rw [bc_length, List.length_take] at hj2
  have e : (⟨g, 0, none⟩ : Addr).add j = ⟨g, j, none⟩ := by unfold Addr.add; split <;> simp_all
  rw [e, h.1 j (by omega)]
  unfold bc at hj
  rw [List.getElem?_map, List.getElem?_take_of_lt (by omega), List.getElem?_eq_getElem (by omega)] at hj
  rw [← hj, List.getD_eq_getElem?_getD, List.getElem?_eq_getElem (by omega)]
  rfl

set_option maxRecDepth 100000 in
set_option maxHeartbeats 2000000 in
theorem lowest_any (N n : Nat) (hN : M.In N) (hn : n ≤ 32) (w : World) :
    Calls Tryz.prog 182 #[.int .i64 n, wn N] w fun e w' => (∃ u, e = .returned u ∧ SrB w.heap.size (M.le n N) u w') ∧ Below w.heap.size w w' := by
  have hpw : Below w.heap.size w (w.alloc (.cells #[.int .u64 (M.pt 0 N), .int .u64 (M.pt 1 N), .int .u64 (M.pt 2 N), .int .u64 (M.pt 3 N)] 29)) := by (repeat (first | exact Below.refl _ _ | refine Below.drew ?_ | refine Below.alloc ?_ (by first | omega | (simp; omega) | simp) _ | refine Below.setCell ?_ (by first | omega | (simp; omega) | simp) _))
  go_enter Tryz.func182, Tryz.ntmps182
  go_wp2_with fail
  refine (fixed_any N _ hN).mono ?_
  rintro e w1 ⟨rfl, hb1⟩
  have hbw : Below w.heap.size w w1 := hpw.trans (hb1.mono hpw.size)
  go_wp2_with (refine wpList_seal _ rfl _ _ 5 _ rfl ⟨(M.f32 N).toArray⟩ rfl Tryz.underlying9 Tryz.underlying48 Tryz.underlying5 (by simp [ByteArray.size, M.f32_length]; unfold maxLen; omega) ?_; intro cap cur w2 hSeal)
  have hcap : 32 ≤ cap := by have := hSeal.len; simpa [ByteArray.size, M.f32_length] using this
  have hcm := hSeal.max
  have hsz : (⟨(M.f32 N).toArray⟩ : ByteArray).size = 32 := by simp [ByteArray.size, M.f32_length]
  rw [M.f32_length]
  refine (reverse_any w1.heap.size cap _ w2 hSeal.bk (M.f32_length N)).mono ?_
  rintro e w3 ⟨rfl, hB3, hg3, hz3⟩
  have hbw3 : Below w.heap.size w w3 := (hbw.trans (hSeal.low.mono hbw.size)).grown hg3 (Nat.le_trans hbw.size hSeal.low.size) (fun k e => by cases e; exact hbw.size)
  have hS := hB3.srB (B := w.heap.size) (n := n) (cap := cap) hbw.size (by rw [List.length_reverse, M.f32_length]; exact hn) (by rw [List.length_reverse, M.f32_length]; omega)
  rw [f32_take _ _ hn] at hS
  have HS := Lib.hid hS
  clear hS hB3 hSeal hg3 hb1 hpw
  go_wp2_with fail
  go_ret
  exact ⟨⟨_, rfl, HS.out⟩, hbw3⟩
set_option maxRecDepth 100000 in
set_option maxHeartbeats 2000000 in
theorem offset_any (n : Nat) (hn : n < 4294967296) (w : World) :
    Calls Tryz.prog 215 #[.int .i64 n] w fun e w' => (∃ u, e = .returned u ∧ SrB w.heap.size (M.le 4 n) u w') ∧ Below w.heap.size w w' := by
  have HL : Hid (∀ W, Calls Tryz.prog 85 #[.int .u64 n, .int .i64 4] W fun e w' => e = .returned (.tuple #[.string ⟨(M.le 4 n).toArray⟩, .int .i64 0]) ∧ Below W.heap.size W w') := fun W => callsIn_wide.1 (le_in n 4 W (by omega) (by omega) (by omega) (le_f32V hn))
  have hw : IntKind.u64.wrap (n : Int) = n := by
    simp only [IntKind.wrap, IntKind.bits, IntKind.signed]
    simp
    omega
  have hl : (M.le 4 n).length = 4 := M.le_length 4 n
  go_enter Tryz.func215, Tryz.ntmps215
  go_wp2_with fail
  refine (HL.out _).mono ?_
  rintro e w1 ⟨rfl, hb1⟩
  go_wp2_with (refine wpList_seal _ rfl _ _ 5 _ rfl ⟨(M.le 4 n).toArray⟩ rfl Tryz.underlying9 Tryz.underlying48 Tryz.underlying5 (by simp [ByteArray.size, hl]; unfold maxLen; omega) ?_; intro cap cur w2 hSeal)
  have hS := (hSeal.bk).srB (B := w.heap.size) (n := 4) (cap := cap) hb1.size (by omega) (by omega)
  rw [List.take_of_length_le (by omega)] at hS
  go_ret
  exact ⟨⟨_, rfl, hS⟩, hb1.trans (hSeal.low.mono hb1.size)⟩
end Go.Proofs.YtgloapcfmlijlaaGreatDoor
