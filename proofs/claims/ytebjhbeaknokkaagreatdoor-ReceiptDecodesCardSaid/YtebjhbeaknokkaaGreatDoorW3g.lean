/- Contracts of word.fromTop, of the function that it hands back, and of word.Less. -/
import Derived.Test.YtebjhbeaknokkaaGreatDoorH06
import Derived.RangeFuncNested
import Derived.RangeFuncBound
import Derived.RangeFuncCalls
import Derived.RangeFuncLeaves
import Derived.Shelf.Abstract
import Derived.Shelf.RegionOpen
import Derived.OwnWalkIn
import Derived.TacticsInMore
import Derived.LoopNIn
import Derived.LoopIn
namespace Go.Proofs.YtebjhbeaknokkaaGreatDoor
open Go Go.RowKit Go.Shelf
attribute [local go_sem] Oper.semAt_some

/-- The four values of a word, by place. -/
def at4 (a0 a1 a2 a3 : Int) : Fin 4 → Int
  | 0 => a0
  | 1 => a1
  | 2 => a2
  | 3 => a3

abbrev enc4 (a0 a1 a2 a3 : Int) (i : Fin 4) : Array Value := #[.int .i64 (i.val : Int), .int .u64 (at4 a0 a1 a2 a3 i)]

/-- What a round that goes on keeps: the cells of one block. -/
def KeepsB (b : Nat) (W W' : World) : Prop := ∀ j, W'.cell? ⟨b, j, none⟩ = W.cell? ⟨b, j, none⟩
theorem keepsB_t {b : Nat} {A B C : World} (h : KeepsB b A B) (k : KeepsB b B C) : KeepsB b A C := fun j => (k j).trans (h j)
theorem keepsB_b {b : Nat} {w : World} (hb : b < w.heap.size) (W : World) (l : Nat) (o o' : Obj) (hl : w.heap.size ≤ l) (h : W.heap[l]? = some o) (h1 : o.isCells = false) (h2 : o.isWalk = false) : KeepsB b W (W.putObj l o') :=
  fun j => (belowK_b (n₀ := w.heap.size) (w := w) (Nat.le_refl _) W l o o' hl h h1 h2).cell (p := ⟨b, j, none⟩) hb

set_option maxHeartbeats 1000000 in
theorem top_in (F : Fence) (n : Nat) (hf : F.fn 198) (hro : F.round = none) (a0 a1 a2 a3 : Int) (w : World) :
    CallsIn F n Tryz.prog 198 #[wd a0 a1 a2 a3] w fun e w' =>
      e = .returned (.func (.func 260) #[] #[.pointer (some ⟨w.heap.size, 0, none⟩)]) ∧ w' = w.alloc (.cells #[.int .u64 a0, .int .u64 a1, .int .u64 a2, .int .u64 a3] 88) := by
  refine callsIn_of_wp Tryz.func198 rfl hf ?_ hro
  simp only [Tryz.ntmps198, List.size_toArray, List.length_cons, List.length_nil, Nat.reduceAdd, Nat.reduceSub, Array.replicate_succ, Array.replicate_zero, List.push_toArray, List.append_toArray, List.nil_append, List.cons_append]
  gi_wp2
  go_ret
  exact ⟨rfl, rfl⟩

set_option maxRecDepth 100000 in
set_option maxHeartbeats 2000000 in
theorem top_stops (F : Fence) (n : Nat) (hf : F.fn 260) (hro : F.round = none) (hn : 1 ≤ n) (Bn : Nat) (a0 a1 a2 a3 : Int) (w : World) (hBn : Bn < w.heap.size)
    (c0 : w.cell? ⟨Bn, 0, none⟩ = some (.int .u64 a0)) (c1 : w.cell? ⟨Bn, 1, none⟩ = some (.int .u64 a1)) (c2 : w.cell? ⟨Bn, 2, none⟩ = some (.int .u64 a2)) (c3 : w.cell? ⟨Bn, 3, none⟩ = some (.int .u64 a3)) :
    SeqStopsK F n Tryz.prog 260 #[.pointer (some ⟨Bn, 0, none⟩)] (enc4 a0 a1 a2 a3) (KeepsB Bn) (fun xs => xs = [3, 2, 1, 0]) (fun pre => pre = [3] ∨ pre = [3, 2] ∨ pre = [3, 2, 1] ∨ pre = [3, 2, 1, 0]) 4 w := fun l J Jx W hW _ _ hY h0 => by
  have d3 := (hW.cell (p := ⟨Bn, 3, none⟩) hBn).trans c3
  have d2 := (hW.cell (p := ⟨Bn, 2, none⟩) hBn).trans c2
  have d1 := (hW.cell (p := ⟨Bn, 1, none⟩) hBn).trans c1
  have d0 := (hW.cell (p := ⟨Bn, 0, none⟩) hBn).trans c0
  clear c0 c1 c2 c3
  refine callsIn_of_wp Tryz.func260 rfl hf ?_ hro
  simp only [Tryz.ntmps260, List.size_toArray, List.length_cons, List.length_nil, Nat.reduceAdd, Nat.reduceSub, Array.replicate_succ, Array.replicate_zero, List.push_toArray, List.append_toArray, List.nil_append, List.cons_append]
  gi_wp2
  refine wpIn_loop_rounds 5 ?_
  rw [roundsIn_succ]
  obtain ⟨f1, t1, as1, b1, hy1, hR1⟩ := hY [] 3 W h0 (by simp)
  replace hy1 : (Instr.yield l #[.int .i64 3, .int .u64 a3]).run Tryz.prog W = .ok (.round l f1 t1 as1 b1) W := hy1
  gi_wp2
  refine hR1.mono ?_
  clear hy1 hR1
  rintro e W1 (⟨rfl, hJ1, hk⟩ | ⟨rfl, hx⟩)
  · replace d2 := (hk 2).trans d2
    replace d1 := (hk 1).trans d1
    replace d0 := (hk 0).trans d0
    clear d3 hk
    obtain ⟨f1, t1, as1, b1, hy1, hR1⟩ := hY [3] 2 W1 hJ1 (by simp)
    replace hy1 : (Instr.yield l #[.int .i64 2, .int .u64 a2]).run Tryz.prog W1 = .ok (.round l f1 t1 as1 b1) W1 := hy1
    gi_wp2
    rw [roundsIn_succ]
    gi_wp2
    refine hR1.mono ?_
    clear hy1 hR1
    rintro e W2 (⟨rfl, hJ2, hk⟩ | ⟨rfl, hx⟩)
    · replace d1 := (hk 1).trans d1
      replace d0 := (hk 0).trans d0
      clear d2 hk
      obtain ⟨f1, t1, as1, b1, hy1, hR1⟩ := hY [3, 2] 1 W2 hJ2 (by simp)
      replace hy1 : (Instr.yield l #[.int .i64 1, .int .u64 a1]).run Tryz.prog W2 = .ok (.round l f1 t1 as1 b1) W2 := hy1
      gi_wp2
      rw [roundsIn_succ]
      gi_wp2
      refine hR1.mono ?_
      clear hy1 hR1
      rintro e W3 (⟨rfl, hJ3, hk⟩ | ⟨rfl, hx⟩)
      · replace d0 := (hk 0).trans d0
        clear d1 hk
        obtain ⟨f1, t1, as1, b1, hy1, hR1⟩ := hY [3, 2, 1] 0 W3 hJ3 (by simp)
        replace hy1 : (Instr.yield l #[.int .i64 0, .int .u64 a0]).run Tryz.prog W3 = .ok (.round l f1 t1 as1 b1) W3 := hy1
        gi_wp2
        rw [roundsIn_succ]
        gi_wp2
        refine hR1.mono ?_
        clear hy1 hR1
        rintro e W4 (⟨rfl, hJ4, hk⟩ | ⟨rfl, hx⟩)
        · clear d0 hk
          gi_wp2
          rw [roundsIn_succ]
          gi_wp2
          go_end0
          exact ⟨⟨_, rfl⟩, .inl ⟨_, rfl, hJ4⟩⟩
        · gi_wp2
          refine bodyPost_ret (results_none rfl _ _ _) rfl ?_
          exact ⟨⟨_, rfl⟩, .inr ⟨_, .inr (.inr (.inr rfl)), hx⟩⟩
      · gi_wp2
        refine bodyPost_ret (results_none rfl _ _ _) rfl ?_
        exact ⟨⟨_, rfl⟩, .inr ⟨_, .inr (.inr (.inl rfl)), hx⟩⟩
    · gi_wp2
      refine bodyPost_ret (results_none rfl _ _ _) rfl ?_
      exact ⟨⟨_, rfl⟩, .inr ⟨_, .inr (.inl rfl), hx⟩⟩
  · gi_wp2
    refine bodyPost_ret (results_none rfl _ _ _) rfl ?_
    exact ⟨⟨_, rfl⟩, .inr ⟨_, .inl rfl, hx⟩⟩
end Go.Proofs.YtebjhbeaknokkaaGreatDoor
