/- fork.forks, the function that it hands back, and a range over it. -/
import Derived.Test.YtgmdloiekcifeaaFK4
import Derived.RangeFuncNested
import Derived.RangeFuncBound
import Derived.RangeFuncCalls
import Derived.RangeFuncLeaves
import Derived.RangeFuncBox
import Derived.Laws.OwnMore
import Derived.Maps.AppendAt
import Derived.OwnWalkIn
import Derived.TacticsInMore
import Derived.LoopNIn
import Derived.LoopIn
namespace Go.Proofs.Ytgmdloiekcifeaa
open Go Go.RowKit Go.Shelf
attribute [local go_sem] Oper.semAt_some

/-- The loop's record while it is ready. -/
abbrev recOfk (fn : FuncId) (tmps : Array Value) (ps : Array Tmp) (assign body : Code) (d : Nat) (st : LoopState) : Loop :=
  { state := st, pending := none, fn, tmps, params := ps, assign, body, defers := d }

theorem keeps_putk {W : World} {l : Nat} {o : Obj} (o' : Obj) {k : Nat} {x : Obj} (hk : W.heap[k]? = some x) (hne : k ≠ l) (_h : W.heap[l]? = some o) : (W.putObj l o').heap[k]? = some x :=
  (World.putObj_heap_other hne).trans hk

theorem range_allk {α : Type} {P : Program} {n : Nat} {g : Operand} {ps : Array Tmp} {assign body : Code} {Q : Exit → Act → World → Prop} {a : Act} {w : World} (h1 : 1 ≤ n)
    {gf : Nat} {lb : Array Value} (hg : a.eval g = .func (.func gf) #[] lb) (eg : ∀ args w, (callFunc gf args).run P w = .ok (.enter gf args) w)
    {encs : α → Array Value} (hps : ∀ x, (encs x).size = ps.size) (xs : List α) (I : List α → World → Prop) (hI : OwnFrom w.heap.size I)
    (E : World → World → Prop) (Iend : Unit → World → Prop) (hEnd : OwnFrom w.heap.size Iend) (hE : ∀ A B, I xs A → E A B → KeepsOthers A B ∧ Iend () B)
    (hseq : ∀ (l : Nat) (J : List α → World → Prop) (W : World), (∀ pre W, J pre W → I pre W) → (∀ pre W, J pre W → J pre W.drew) →
      (∀ pre x post W1, xs = pre ++ x :: post → J pre W1 → YieldAt Fence.wide (n - 1 - 1) P l (encs x) W1 fun e W' => e = .returned (.bool true) ∧ J (pre ++ [x]) W') →
      J [] W → CallsIn Fence.wide (n - 1) P gf (#[.func (.yield l) #[] #[]] ++ lb) W fun e W' => (∃ v, e = .returned v) ∧ ∃ W1, J xs W1 ∧ E W1 W')
    (h0 : I [] w) (a1 : α → Act)
    (hassign : ∀ (l : Nat) (x : α) (W : World) (K : Act → World → Prop), K (a1 x) W →
      assign.wpIn (Fence.wide.inRound l) (n - 1 - 1) P (Exit.then K (fun _ _ _ => False)) { tmps := (ps.zip (encs x)).foldl (fun t (p, v) => t.setIfInBounds p v) a.tmps, defers := [] } W)
    (hbody : ∀ (l : Nat) (pre : List α) (x : α) (post : List α) (W : World), xs = pre ++ x :: post → I pre W →
      body.wpIn (Fence.wide.inRound l) (n - 1 - 1) P (fun e _ W' => e = .normal ∧ KeepsOthers W W' ∧ I (pre ++ [x]) W') (a1 x) W)
    (hdone : ∀ (D : Nat) (W : World), w.heap.size ≤ D → Iend () W → W.heap[D]? = some (.deferred (some [])) → Q .normal { a with defers := { target := .collected D, args := #[] } :: a.defers } W) :
    (Code.rangeFunc g ps assign body).wpIn Fence.wide n P Q a w := by
  refine wpIn_rangeFunc ?_
  intro fn hfn
  have hro : Fence.wide.round = none := rfl
  rw [hro]
  have hrun := run_enterLoop_outer (P := P) (w := w) fn a.tmps ps assign body
  obtain ⟨W1, hW1⟩ : ∃ W1, (w.alloc (.deferred (some []))).alloc (.loop (recOfk fn a.tmps ps assign body w.heap.size .ready)) = W1 := ⟨_, rfl⟩
  replace hrun : (Instr.enterLoop fn a.tmps ps assign body none).run P w = .ok (w.heap.size + 1, [{ target := .collected w.heap.size, args := #[] }]) W1 := hW1 ▸ hrun
  have hL : W1.heap[w.heap.size + 1]? = some (.loop (recOfk fn a.tmps ps assign body w.heap.size .ready)) := by
    rw [← hW1]
    have := World.alloc_heap_new (w.alloc (.deferred (some []))) (.loop (recOfk fn a.tmps ps assign body w.heap.size .ready))
    rwa [World.size_alloc] at this
  have hD : W1.heap[w.heap.size]? = some (.deferred (some [])) := by
    rw [← hW1]
    exact (Below.heap_alloc _ _ _ (by simp)).trans (World.alloc_heap_new w _)
  have hI1 : I [] W1 := by rw [← hW1]; exact hI.alloc _ (hI.alloc _ h0)
  refine ⟨w.heap.size + 1, _, W1, { target := .fn (.func gf) lb, args := #[.func (.yield (w.heap.size + 1)) #[] #[]] }, W1, gf, #[.func (.yield (w.heap.size + 1)) #[] #[]] ++ lb, W1, hrun, ?_, fun _ _ => trivial, ?_, fun _ => h1, ?_⟩
  · simp only [resolve, hg]
    simp [go_sem]
  · simp [invoke, go_sem, eg]
  · refine (hseq (w.heap.size + 1) (fun pre W => I pre W ∧ W.heap[w.heap.size + 1]? = some (.loop (recOfk fn a.tmps ps assign body w.heap.size .ready)) ∧ W.heap[w.heap.size]? = some (.deferred (some []))) W1
      (fun _ _ h => h.1) (fun pre W h => ⟨hI pre W W.drew none h.1 ⟨rfl, rfl, rfl, Nat.le_refl _, fun _ _ _ => rfl⟩ (fun r e => by cases e), h.2⟩) ?_ ⟨hI1, hL, hD⟩).mono ?_
    · rintro pre x post W hx ⟨hi, hl, hd⟩
      have hlt : w.heap.size + 1 < W.heap.size := (Array.getElem?_eq_some_iff.1 hl).1
      refine ⟨fn, _, assign, body, run_yield hl (hps x), roundIn_of_wpIn trivial (hassign _ x W _ ⟨_, run_beginRound hl rfl, ?_⟩)⟩
      refine wpIn_mono (hbody _ pre x post _ hx (hI.putObj _ hi (by omega) hl rfl)) ?_
      rintro e b W2 ⟨rfl, hk, hi2⟩
      have hl2 := hk.same _ _ (World.putObj_heap_same hlt) rfl
      have hd2 := hk.same _ _ (keeps_putk _ hd (by omega) hl) rfl
      exact ⟨_, _, run_endRound none hl2, rfl, hI.putObj _ hi2 (by omega) hl2 rfl, World.putObj_heap_same (Array.getElem?_eq_some_iff.1 hl2).1, keeps_putk _ hd2 (by omega) hl2⟩
    · rintro e W2 ⟨⟨v, rfl⟩, W3, ⟨hi, hl, hd⟩, he⟩
      obtain ⟨hk, hend⟩ := hE W3 W2 hi he
      have hl2 := hk.same _ _ hl rfl
      have hd2 := hk.same _ _ hd rfl
      exact ⟨none, _, run_endLoop hl2 (by simp), hdone _ _ (Nat.le_refl _) (hEnd.putObj _ hend (by omega) hl2 rfl) (keeps_putk _ hd2 (by omega) hl2)⟩

theorem range_cutk {m i : Nat} (h : i < m) : ∃ post, List.range m = List.range i ++ i :: post := by
  obtain ⟨k, rfl⟩ : ∃ k, m = i + (k + 1) := ⟨m - i - 1, by omega⟩
  refine ⟨(List.range k).map (fun x => i + (x + 1)), ?_⟩
  rw [List.range_add, List.range_succ_eq_map]
  simp [List.map_map, Function.comp_def]
theorem range_partk {m x : Nat} {pre post : List Nat} (h : List.range m = pre ++ x :: post) : pre = List.range pre.length ∧ x = pre.length ∧ pre.length < m := by
  have hl := congrArg List.length h
  simp at hl
  have hx : (List.range m)[pre.length]? = some x := by rw [h]; simp
  rw [List.getElem?_range (by omega)] at hx
  have ht : (List.range m).take pre.length = pre := by rw [h]; simp
  rw [List.take_range, Nat.min_eq_left (by omega)] at ht
  exact ⟨ht.symm, (Option.some.inj hx).symm, by omega⟩

theorem forks_in (n : Nat) (v : Value) (_hv : v.oneCell' = true) (w : World) :
    CallsIn Fence.wide n Try.prog 19 #[sch v] w fun e w' =>
      e = .returned (.func (.func 23) #[] #[.pointer (some ⟨w.heap.size, 0, none⟩)]) ∧ w' = w.alloc (.cells #[v] 24) := by
  refine callsIn_of_wp Try.func19 rfl trivial ?_ rfl
  simp only [Try.ntmps19, List.size_toArray, List.length_cons, List.length_nil, Nat.reduceAdd, Nat.reduceSub, Array.replicate_succ, Array.replicate_zero, List.push_toArray, List.append_toArray, List.nil_append, List.cons_append]
  gi_wp2
  go_ret
  exact ⟨rfl, rfl⟩

set_option maxRecDepth 100000 in
set_option maxHeartbeats 4000000 in
theorem forks_run (n : Nat) (xs : List Int) (b o cap l bs : Nat) (h6 : xs.length ≤ 6) (J : List Nat → World → Prop)
    (hJ : ∀ pre W, J pre W → W.cell? ⟨bs, 0, none⟩ = some (.slice (some ⟨b, o, none⟩) xs.length cap) ∧ ∀ i, i < xs.length → W.cell? ⟨b, o + i, none⟩ = some (.int .u64 (M.gi xs i)))
    (hY : ∀ i W, i < xs.length → J (List.range i) W → YieldAt Fence.wide n Try.prog l #[.int .i64 (i : Nat), .int .u64 (M.gi xs i)] W fun e W' => e = .returned (.bool true) ∧ J (List.range (i + 1)) W')
    (W : World) (h0 : J [] W) :
    CallsIn Fence.wide (n + 1) Try.prog 23 #[.func (.yield l) #[] #[], .pointer (some ⟨bs, 0, none⟩)] W fun e W' => (∃ v, e = .returned v) ∧ J (List.range xs.length) W' := by
  have HJ := Lib.hid hJ
  have HY := Lib.hid hY
  have c0 := (hJ _ _ h0).1
  clear hJ hY
  have hro : Fence.wide.round = none := rfl
  refine callsIn_of_wp Try.func23 rfl trivial ?_ rfl
  simp only [Try.ntmps23, List.size_toArray, List.length_cons, List.length_nil, Nat.reduceAdd, Nat.reduceSub, Array.replicate_succ, Array.replicate_zero, List.push_toArray, List.append_toArray, List.nil_append, List.cons_append]
  gi_wp2
  gi_loopw [8] (fun i wr => ∃ y : Nat, y ≤ xs.length ∧ i = .int .i64 (y : Int) ∧ J (List.range y) wr) (fun i _ => xs.length - (intOf i).toNat)
  case atStart => exact ⟨0, Nat.zero_le _, rfl, h0⟩
  case round =>
    clear c0
    obtain ⟨y, hy, rfl, hJs⟩ := hrel
    by_cases hlt : y < xs.length
    · have hlt' : (y : Int) < (xs.length : Int) := by omega
      have cc := (HJ.out _ _ hJs).2 y hlt
      obtain ⟨fn, tmps, asg, bdy, hyy, hRR⟩ := HY.out y wr hlt hJs
      have HL := Lib.hid hlt
      clear hlt hy
      gi_wp2
      refine hRR.mono ?_
      rintro e W3 ⟨rfl, hJ3⟩
      clear hRR hyy cc hJs
      gi_wp2
      go_roundw
      case rel => exact ⟨y + 1, HL.out, by simp <;> omega, hJ3⟩
      case measure => have := HL.out; simp [intOf]; omega
    · obtain rfl : y = xs.length := by omega
      gi_wp2
      go_end0
      exact ⟨⟨_, rfl⟩, hJs⟩
end Go.Proofs.Ytgmdloiekcifeaa
