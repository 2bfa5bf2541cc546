/- A range over a function whose body never leaves: the function may, when all have come, write into cells. My own law out of the kit's one for the statement. -/
import Derived.Test.YtmcchfgblecgoaaDoorW3
import Derived.Lib.Hide
namespace Go.Proofs.YtmcchfgblecgoaaDoor
open Go Go.RowKit

/-- The loop's record while it is ready. -/
abbrev recOf (fn : FuncId) (tmps : Array Value) (ps : Array Tmp) (assign body : Code) (d : Nat) (st : LoopState) : Loop :=
  { state := st, pending := none, fn, tmps, params := ps, assign, body, defers := d }

theorem keeps_put {W : World} {l : Nat} {o : Obj} (o' : Obj) {k : Nat} {x : Obj} (hk : W.heap[k]? = some x) (hne : k ≠ l) (_h : W.heap[l]? = some o) : (W.putObj l o').heap[k]? = some x :=
  (World.putObj_heap_other hne).trans hk

theorem range_all {α : Type} {P : Program} {n : Nat} {g : Operand} {ps : Array Tmp} {assign body : Code} {Q : Exit → Act → World → Prop} {a : Act} {w : World} (h1 : 1 ≤ n)
    {gf : Nat} {lb : Array Value} (hg : a.eval g = .func (.func gf) #[] lb) (eg : ∀ args w, (callFunc gf args).run P w = .ok (.enter gf args) w)
    {encs : α → Array Value} (hps : ∀ x, (encs x).size = ps.size) (xs : List α) (I : List α → World → Prop) (hI : OwnFrom w.heap.size I)
    (E : World → World → Prop) (Iend : Unit → World → Prop) (hEnd : OwnFrom w.heap.size Iend) (hE : ∀ A B, I xs A → E A B → KeepsOthers A B ∧ Iend () B)
    (hseq : ∀ (l : Nat) (J : List α → World → Prop) (W : World), (∀ pre W, J pre W → I pre W) → (∀ pre W, J pre W → J pre W.drew) →
      (∀ pre x post W1, xs = pre ++ x :: post → J pre W1 → YieldAt Fence.wide (n - 1 - 1) P l (encs x) W1 fun e W' => e = .returned (.bool true) ∧ J (pre ++ [x]) W') →
      J [] W → CallsIn Fence.wide (n - 1) P gf (#[.func (.yield l) #[] #[]] ++ lb) W fun e W' => (∃ v, e = .returned v) ∧ ∃ W1, J xs W1 ∧ E W1 W')
    (h0 : I [] w) (a1 : α → Act)
    (hassign : ∀ (l : Nat) (x : α) (W : World) (K : Act → World → Prop), K (a1 x) W →
      assign.wpIn (Fence.wide.inRound l) (n - 1 - 1) P (Exit.then K (fun _ _ _ => False)) { tmps := (ps.zip (encs x)).foldl (fun t (p, v) => t.setIfInBounds p v) a.tmps, defers := [] } W)
    (hbody : ∀ (l : Nat) (pre : List α) (x : α) (post : List α) (W : World), xs = pre ++ x :: post → I pre W →
      body.wpIn (Fence.wide.inRound l) (n - 1 - 1) P (fun e _ W' => e = .normal ∧ KeepsOthers W W' ∧ I (pre ++ [x]) W') (a1 x) W)
    (hdone : ∀ (D : Nat) (W : World), w.heap.size ≤ D → Iend () W → W.heap[D]? = some (.deferred (some [])) → Q .normal { a with defers := { target := .collected D, args := #[] } :: a.defers } W) :
    (Code.rangeFunc g ps assign body).wpIn Fence.wide n P Q a w := by
  refine wpIn_rangeFunc ?_
  intro fn hfn
  have hro : Fence.wide.round = none := rfl
  rw [hro]
  have hrun := run_enterLoop_outer (P := P) (w := w) fn a.tmps ps assign body
  obtain ⟨W1, hW1⟩ : ∃ W1, (w.alloc (.deferred (some []))).alloc (.loop (recOf fn a.tmps ps assign body w.heap.size .ready)) = W1 := ⟨_, rfl⟩
  replace hrun : (Instr.enterLoop fn a.tmps ps assign body none).run P w = .ok (w.heap.size + 1, [{ target := .collected w.heap.size, args := #[] }]) W1 := hW1 ▸ hrun
  have hL : W1.heap[w.heap.size + 1]? = some (.loop (recOf fn a.tmps ps assign body w.heap.size .ready)) := by
    rw [← hW1]
    have := World.alloc_heap_new (w.alloc (.deferred (some []))) (.loop (recOf fn a.tmps ps assign body w.heap.size .ready))
    rwa [World.size_alloc] at this
  have hD : W1.heap[w.heap.size]? = some (.deferred (some [])) := by
    rw [← hW1]
    exact (Below.heap_alloc _ _ _ (by simp)).trans (World.alloc_heap_new w _)
  have hI1 : I [] W1 := by rw [← hW1]; exact hI.alloc _ (hI.alloc _ h0)
  refine ⟨w.heap.size + 1, _, W1, { target := .fn (.func gf) lb, args := #[.func (.yield (w.heap.size + 1)) #[] #[]] }, W1, gf, #[.func (.yield (w.heap.size + 1)) #[] #[]] ++ lb, W1, hrun, ?_, fun _ _ => trivial, ?_, fun _ => h1, ?_⟩
  · simp only [resolve, hg]
    simp [go_sem]
  · simp [invoke, go_sem, eg]
  · refine (hseq (w.heap.size + 1) (fun pre W => I pre W ∧ W.heap[w.heap.size + 1]? = some (.loop (recOf fn a.tmps ps assign body w.heap.size .ready)) ∧ W.heap[w.heap.size]? = some (.deferred (some []))) W1
      (fun _ _ h => h.1) (fun pre W h => ⟨hI pre W W.drew none h.1 ⟨rfl, rfl, rfl, Nat.le_refl _, fun _ _ _ => rfl⟩ (fun r e => by cases e), h.2⟩) ?_ ⟨hI1, hL, hD⟩).mono ?_
    · rintro pre x post W hx ⟨hi, hl, hd⟩
      have hlt : w.heap.size + 1 < W.heap.size := (Array.getElem?_eq_some_iff.1 hl).1
      refine ⟨fn, _, assign, body, run_yield hl (hps x), roundIn_of_wpIn trivial (hassign _ x W _ ⟨_, run_beginRound hl rfl, ?_⟩)⟩
      refine wpIn_mono (hbody _ pre x post _ hx (hI.putObj _ hi (by omega) hl rfl)) ?_
      rintro e b W2 ⟨rfl, hk, hi2⟩
      have hl2 := hk.same _ _ (World.putObj_heap_same hlt) rfl
      have hd2 := hk.same _ _ (keeps_put _ hd (by omega) hl) rfl
      exact ⟨_, _, run_endRound none hl2, rfl, hI.putObj _ hi2 (by omega) hl2 rfl, World.putObj_heap_same (Array.getElem?_eq_some_iff.1 hl2).1, keeps_put _ hd2 (by omega) hl2⟩
    · rintro e W2 ⟨⟨v, rfl⟩, W3, ⟨hi, hl, hd⟩, he⟩
      obtain ⟨hk, hend⟩ := hE W3 W2 hi he
      have hl2 := hk.same _ _ hl rfl
      have hd2 := hk.same _ _ hd rfl
      exact ⟨none, _, run_endLoop hl2 (by simp), hdone _ _ (Nat.le_refl _) (hEnd.putObj _ hend (by omega) hl2 rfl) (keeps_put _ hd2 (by omega) hl2)⟩
end Go.Proofs.YtmcchfgblecgoaaDoor
