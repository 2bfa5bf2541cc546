/- unrlp: a list's items, read one behind the other. -/
import Derived.Test.YtgeeoefcepjniaaJ6
import Derived.Shelf.Abstract
namespace Go.Proofs.Ytgeeoefcepjniaa
open Go Go.RowKit Go.Shelf
attribute [local go_sem] Oper.semAt_some

/-- Whatever lay there lies as it lay, but for some boxes. -/
structure Fr (w3 : World) (E : Nat → Prop) (W : World) : Prop where
  os : W.os = w3.os
  tape : W.tape = w3.tape
  output : W.output = w3.output
  size : w3.heap.size ≤ W.heap.size
  block : ∀ b, b < w3.heap.size → ¬ E b → W.heap[b]? = w3.heap[b]?
theorem Fr.grown {w3 W W' : World} {E : Nat → Prop} (h : Fr w3 E W) {row : Option Nat} (hg : W.grownBy W' row) (hr : ∀ r, row = some r → w3.heap.size ≤ r) : Fr w3 E W' :=
  ⟨hg.os.trans h.os, hg.tape.trans h.tape, hg.output.trans h.output, Nat.le_trans h.size hg.size, fun b hb hne => (hg.block b (Nat.lt_of_lt_of_le hb h.size) (fun e => by have := hr b e.symm; omega)).trans (h.block b hb hne)⟩
theorem Fr.wider {w3 W : World} {E E' : Nat → Prop} (h : Fr w3 E W) (hE : ∀ b, E b → E' b) : Fr w3 E' W := ⟨h.os, h.tape, h.output, h.size, fun b hb hne => h.block b hb (fun e => hne (hE b e))⟩
theorem boxed_kept {W W' : World} {b : Nat} {t : TypeId} {v : Value} (h : Boxed W b t v) {row : Option Nat} (hg : W.grownBy W' row) (hr : ∀ r, row = some r → ∃ o : Obj, W.heap[r]? = some o ∧ o.isCells = false) : Boxed W' b t v :=
  (hg.block b h.lt (fun e => by
    obtain ⟨o, ho, hc⟩ := hr b e.symm
    rw [show W.heap[b]? = _ from h] at ho
    cases ho
    cases hc)).trans h
theorem results_cells {fn : Func} {p q : Tmp} {ty tz : TypeId} (h : fn.results = #[.cell p ty, .cell q tz]) (tmps : Array Value) (P : Program) (w : World) (a b : Addr) (u v : Value) (hp : tmps.getD p undef = .pointer (some a)) (hq : tmps.getD q undef = .pointer (some b))
    (hu : (loadVar ty a).run P w = .ok u w) (hv : (loadVar tz b).run P w = .ok v w) : (results fn tmps).run P w = .ok (.tuple #[u, v]) w := by
  have hp' : tmps[p]?.getD undef = .pointer (some a) := by simpa using hp
  have hq' : tmps[q]?.getD undef = .pointer (some b) := by simpa using hq
  simp [results, h, hp', hq', Sem.run_bind, Result.andThen, asAddr, hu, hv]

end Go.Proofs.Ytgeeoefcepjniaa
