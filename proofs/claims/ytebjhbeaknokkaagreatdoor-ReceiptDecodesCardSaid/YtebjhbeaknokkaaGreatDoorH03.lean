/- Package tx: a transaction that is nought but for its kind. Package tx: has a transaction more than its kind names. Package tx: a legacy transaction that is nought, as its bytes have it. Package tx: is it formed, is it too long: a transaction that is nought but for its kind. -/
import Derived.Test.YtebjhbeaknokkaaGreatDoorH02
import Derived.Laws.Tables
import Derived.Laws.CopyRow
namespace Go.Proofs.YtebjhbeaknokkaaGreatDoor
open Go Go.RowKit Go.Lib Go.Shelf
attribute [local go_sem] Oper.semAt_some

theorem Tryz.wireSize : (Tryz.prog.info? 185).map (·.size) = some 37 := by kernel_rfl
theorem Tryz.txSize : (Tryz.prog.info? 92).map (·.size) = some 36 := by kernel_rfl
/-- The result is a wire in a block. -/
theorem wire_new {fn : Func} {s : Tmp} (hres : fn.results = #[.cell s 185]) (W : World) (b : Nat) (tmps : Array Value) (cs : Array Value) (R : Ending → World → Prop) (hp : tmps.getD s undef = .pointer (some ⟨b, 0, none⟩)) (hz : cs.size = 37) (hb : W.heap[b]? = some (.cells cs 185 (0, 0)))
    (h : R (.returned (.agg cs)) W) : bodyPost Tryz.prog fn R .ret { tmps := tmps, defers := [] } W := by
  have := results_cell_row (P := Tryz.prog) hres tmps W b 185 cs (0, 0) _ hp hb Tryz.underlying185 rfl (by rw [Tryz.wireSize, hz])
  exact bodyPost_ret this rfl h
theorem below_setRow_new {w W : World} {g : Nat} {cs : Array Value} (h : Below w.heap.size w W) (hg : w.heap.size ≤ g) : Below w.heap.size w (W.setRow g cs) :=
  ⟨h.os, h.tape, h.output, by rw [setRow_size]; exact h.size, fun i hi => (setRow_other W g i cs (by omega)).trans (h.block i hi)⟩
set_option maxRecDepth 100000 in
set_option maxHeartbeats 4000000 in
theorem written_n (c d : Array Value) (k : Int) (w : World) (hk : ¬ k = 0) (hc : c.size = 36) (hd : d.size = 37) (hd1 : d.all (·.oneCell') = true) (hb : Array.foldl (fun (cs : Array Value) (x : Value × Nat) => cs.setIfInBounds x.snd x.fst) #[.int .i64 0, .int .u64 0, .int .u64 0, .int .u64 0, .int .u64 0, .int .u64 0, .int .u64 0, .int .u64 0, .int .u64 0, .int .u64 0, .int .u64 0, .int .u64 0, .string ⟨#[]⟩, .int .u64 0, .int .u64 0, .int .u64 0, .int .u64 0, .string ⟨#[]⟩, .slice none 0 0, .slice none 0 0, .int .u64 0, .int .u64 0, .int .u64 0, .int .u64 0, .int .u64 0, .int .u64 0, .int .u64 0, .int .u64 0, .int .u64 0, .string ⟨#[]⟩, .string ⟨#[]⟩, .int .u64 0, .int .u64 0, .int .u64 0, .int .u64 0, .bool false, .int .u64 0] c.zipIdx 0 36 = d) (h0 : c[0]? = some (.int .i64 k)) :
    Calls Tryz.prog 166 #[.agg c] w fun e w' => e = .returned (.agg d) ∧ Below w.heap.size w w' := by
  have hk1 : (k == 0) = false := by simpa using hk
  have hk2 : (k != 0) = true := by simp [hk]
  have r1 : (w.alloc (.cells c 92)).heap[w.heap.size]? = some (.cells c 92 (0, 0)) := heap_alloc_new _ _
  have z1 : (w.alloc (.cells c 92)).heap.size = w.heap.size + 1 := by simp
  have z2 : ((w.alloc (.cells c 92)).alloc (.cells #[.int .i64 0, .int .u64 0, .int .u64 0, .int .u64 0, .int .u64 0, .int .u64 0, .int .u64 0, .int .u64 0, .int .u64 0, .int .u64 0, .int .u64 0, .int .u64 0, .string ⟨#[]⟩, .int .u64 0, .int .u64 0, .int .u64 0, .int .u64 0, .string ⟨#[]⟩, .slice none 0 0, .slice none 0 0, .int .u64 0, .int .u64 0, .int .u64 0, .int .u64 0, .int .u64 0, .int .u64 0, .int .u64 0, .int .u64 0, .int .u64 0, .string ⟨#[]⟩, .string ⟨#[]⟩, .int .u64 0, .int .u64 0, .int .u64 0, .int .u64 0, .bool false, .int .u64 0] 185)).heap.size = w.heap.size + 1 + 1 := by simp
  have r2 : ((w.alloc (.cells c 92)).alloc (.cells #[.int .i64 0, .int .u64 0, .int .u64 0, .int .u64 0, .int .u64 0, .int .u64 0, .int .u64 0, .int .u64 0, .int .u64 0, .int .u64 0, .int .u64 0, .int .u64 0, .string ⟨#[]⟩, .int .u64 0, .int .u64 0, .int .u64 0, .int .u64 0, .string ⟨#[]⟩, .slice none 0 0, .slice none 0 0, .int .u64 0, .int .u64 0, .int .u64 0, .int .u64 0, .int .u64 0, .int .u64 0, .int .u64 0, .int .u64 0, .int .u64 0, .string ⟨#[]⟩, .string ⟨#[]⟩, .int .u64 0, .int .u64 0, .int .u64 0, .int .u64 0, .bool false, .int .u64 0] 185)).heap[w.heap.size]? = some (.cells c 92 (0, 0)) := (Below.heap_alloc _ _ _ (by omega)).trans r1
  have q2 : ((w.alloc (.cells c 92)).alloc (.cells #[.int .i64 0, .int .u64 0, .int .u64 0, .int .u64 0, .int .u64 0, .int .u64 0, .int .u64 0, .int .u64 0, .int .u64 0, .int .u64 0, .int .u64 0, .int .u64 0, .string ⟨#[]⟩, .int .u64 0, .int .u64 0, .int .u64 0, .int .u64 0, .string ⟨#[]⟩, .slice none 0 0, .slice none 0 0, .int .u64 0, .int .u64 0, .int .u64 0, .int .u64 0, .int .u64 0, .int .u64 0, .int .u64 0, .int .u64 0, .int .u64 0, .string ⟨#[]⟩, .string ⟨#[]⟩, .int .u64 0, .int .u64 0, .int .u64 0, .int .u64 0, .bool false, .int .u64 0] 185)).heap[w.heap.size + 1]? = some (.cells #[.int .i64 0, .int .u64 0, .int .u64 0, .int .u64 0, .int .u64 0, .int .u64 0, .int .u64 0, .int .u64 0, .int .u64 0, .int .u64 0, .int .u64 0, .int .u64 0, .string ⟨#[]⟩, .int .u64 0, .int .u64 0, .int .u64 0, .int .u64 0, .string ⟨#[]⟩, .slice none 0 0, .slice none 0 0, .int .u64 0, .int .u64 0, .int .u64 0, .int .u64 0, .int .u64 0, .int .u64 0, .int .u64 0, .int .u64 0, .int .u64 0, .string ⟨#[]⟩, .string ⟨#[]⟩, .int .u64 0, .int .u64 0, .int .u64 0, .int .u64 0, .bool false, .int .u64 0] 185 (0, 0)) := by rw [← z1]; exact heap_alloc_new _ _
  have r3 : (((w.alloc (.cells c 92)).alloc (.cells #[.int .i64 0, .int .u64 0, .int .u64 0, .int .u64 0, .int .u64 0, .int .u64 0, .int .u64 0, .int .u64 0, .int .u64 0, .int .u64 0, .int .u64 0, .int .u64 0, .string ⟨#[]⟩, .int .u64 0, .int .u64 0, .int .u64 0, .int .u64 0, .string ⟨#[]⟩, .slice none 0 0, .slice none 0 0, .int .u64 0, .int .u64 0, .int .u64 0, .int .u64 0, .int .u64 0, .int .u64 0, .int .u64 0, .int .u64 0, .int .u64 0, .string ⟨#[]⟩, .string ⟨#[]⟩, .int .u64 0, .int .u64 0, .int .u64 0, .int .u64 0, .bool false, .int .u64 0] 185)).alloc (.cells #[.int .i64 0, .int .u64 0, .int .u64 0, .int .u64 0, .int .u64 0, .int .u64 0, .int .u64 0, .int .u64 0, .int .u64 0, .int .u64 0, .int .u64 0, .int .u64 0, .string ⟨#[]⟩, .int .u64 0, .int .u64 0, .int .u64 0, .int .u64 0, .string ⟨#[]⟩, .slice none 0 0, .slice none 0 0, .int .u64 0, .int .u64 0, .int .u64 0, .int .u64 0, .int .u64 0, .int .u64 0, .int .u64 0, .int .u64 0, .int .u64 0, .string ⟨#[]⟩, .string ⟨#[]⟩, .int .u64 0, .int .u64 0, .int .u64 0, .int .u64 0, .bool false, .int .u64 0] 185)).heap[w.heap.size]? = some (.cells c 92 (0, 0)) := (Below.heap_alloc _ _ _ (by omega)).trans r2
  have q3 : (((w.alloc (.cells c 92)).alloc (.cells #[.int .i64 0, .int .u64 0, .int .u64 0, .int .u64 0, .int .u64 0, .int .u64 0, .int .u64 0, .int .u64 0, .int .u64 0, .int .u64 0, .int .u64 0, .int .u64 0, .string ⟨#[]⟩, .int .u64 0, .int .u64 0, .int .u64 0, .int .u64 0, .string ⟨#[]⟩, .slice none 0 0, .slice none 0 0, .int .u64 0, .int .u64 0, .int .u64 0, .int .u64 0, .int .u64 0, .int .u64 0, .int .u64 0, .int .u64 0, .int .u64 0, .string ⟨#[]⟩, .string ⟨#[]⟩, .int .u64 0, .int .u64 0, .int .u64 0, .int .u64 0, .bool false, .int .u64 0] 185)).alloc (.cells #[.int .i64 0, .int .u64 0, .int .u64 0, .int .u64 0, .int .u64 0, .int .u64 0, .int .u64 0, .int .u64 0, .int .u64 0, .int .u64 0, .int .u64 0, .int .u64 0, .string ⟨#[]⟩, .int .u64 0, .int .u64 0, .int .u64 0, .int .u64 0, .string ⟨#[]⟩, .slice none 0 0, .slice none 0 0, .int .u64 0, .int .u64 0, .int .u64 0, .int .u64 0, .int .u64 0, .int .u64 0, .int .u64 0, .int .u64 0, .int .u64 0, .string ⟨#[]⟩, .string ⟨#[]⟩, .int .u64 0, .int .u64 0, .int .u64 0, .int .u64 0, .bool false, .int .u64 0] 185)).heap[w.heap.size + 1]? = some (.cells #[.int .i64 0, .int .u64 0, .int .u64 0, .int .u64 0, .int .u64 0, .int .u64 0, .int .u64 0, .int .u64 0, .int .u64 0, .int .u64 0, .int .u64 0, .int .u64 0, .string ⟨#[]⟩, .int .u64 0, .int .u64 0, .int .u64 0, .int .u64 0, .string ⟨#[]⟩, .slice none 0 0, .slice none 0 0, .int .u64 0, .int .u64 0, .int .u64 0, .int .u64 0, .int .u64 0, .int .u64 0, .int .u64 0, .int .u64 0, .int .u64 0, .string ⟨#[]⟩, .string ⟨#[]⟩, .int .u64 0, .int .u64 0, .int .u64 0, .int .u64 0, .bool false, .int .u64 0] 185 (0, 0)) := (Below.heap_alloc _ _ _ (by omega)).trans q2
  have p3 : (((w.alloc (.cells c 92)).alloc (.cells #[.int .i64 0, .int .u64 0, .int .u64 0, .int .u64 0, .int .u64 0, .int .u64 0, .int .u64 0, .int .u64 0, .int .u64 0, .int .u64 0, .int .u64 0, .int .u64 0, .string ⟨#[]⟩, .int .u64 0, .int .u64 0, .int .u64 0, .int .u64 0, .string ⟨#[]⟩, .slice none 0 0, .slice none 0 0, .int .u64 0, .int .u64 0, .int .u64 0, .int .u64 0, .int .u64 0, .int .u64 0, .int .u64 0, .int .u64 0, .int .u64 0, .string ⟨#[]⟩, .string ⟨#[]⟩, .int .u64 0, .int .u64 0, .int .u64 0, .int .u64 0, .bool false, .int .u64 0] 185)).alloc (.cells #[.int .i64 0, .int .u64 0, .int .u64 0, .int .u64 0, .int .u64 0, .int .u64 0, .int .u64 0, .int .u64 0, .int .u64 0, .int .u64 0, .int .u64 0, .int .u64 0, .string ⟨#[]⟩, .int .u64 0, .int .u64 0, .int .u64 0, .int .u64 0, .string ⟨#[]⟩, .slice none 0 0, .slice none 0 0, .int .u64 0, .int .u64 0, .int .u64 0, .int .u64 0, .int .u64 0, .int .u64 0, .int .u64 0, .int .u64 0, .int .u64 0, .string ⟨#[]⟩, .string ⟨#[]⟩, .int .u64 0, .int .u64 0, .int .u64 0, .int .u64 0, .bool false, .int .u64 0] 185)).heap[w.heap.size + 1 + 1]? = some (.cells #[.int .i64 0, .int .u64 0, .int .u64 0, .int .u64 0, .int .u64 0, .int .u64 0, .int .u64 0, .int .u64 0, .int .u64 0, .int .u64 0, .int .u64 0, .int .u64 0, .string ⟨#[]⟩, .int .u64 0, .int .u64 0, .int .u64 0, .int .u64 0, .string ⟨#[]⟩, .slice none 0 0, .slice none 0 0, .int .u64 0, .int .u64 0, .int .u64 0, .int .u64 0, .int .u64 0, .int .u64 0, .int .u64 0, .int .u64 0, .int .u64 0, .string ⟨#[]⟩, .string ⟨#[]⟩, .int .u64 0, .int .u64 0, .int .u64 0, .int .u64 0, .bool false, .int .u64 0] 185 (0, 0)) := by rw [← z2]; exact heap_alloc_new _ _
  have r4 : ((((w.alloc (.cells c 92)).alloc (.cells #[.int .i64 0, .int .u64 0, .int .u64 0, .int .u64 0, .int .u64 0, .int .u64 0, .int .u64 0, .int .u64 0, .int .u64 0, .int .u64 0, .int .u64 0, .int .u64 0, .string ⟨#[]⟩, .int .u64 0, .int .u64 0, .int .u64 0, .int .u64 0, .string ⟨#[]⟩, .slice none 0 0, .slice none 0 0, .int .u64 0, .int .u64 0, .int .u64 0, .int .u64 0, .int .u64 0, .int .u64 0, .int .u64 0, .int .u64 0, .int .u64 0, .string ⟨#[]⟩, .string ⟨#[]⟩, .int .u64 0, .int .u64 0, .int .u64 0, .int .u64 0, .bool false, .int .u64 0] 185)).alloc (.cells #[.int .i64 0, .int .u64 0, .int .u64 0, .int .u64 0, .int .u64 0, .int .u64 0, .int .u64 0, .int .u64 0, .int .u64 0, .int .u64 0, .int .u64 0, .int .u64 0, .string ⟨#[]⟩, .int .u64 0, .int .u64 0, .int .u64 0, .int .u64 0, .string ⟨#[]⟩, .slice none 0 0, .slice none 0 0, .int .u64 0, .int .u64 0, .int .u64 0, .int .u64 0, .int .u64 0, .int .u64 0, .int .u64 0, .int .u64 0, .int .u64 0, .string ⟨#[]⟩, .string ⟨#[]⟩, .int .u64 0, .int .u64 0, .int .u64 0, .int .u64 0, .bool false, .int .u64 0] 185)).setRow (w.heap.size + 1 + 1) d).heap[w.heap.size]? = some (.cells c 92 (0, 0)) := (setRow_other _ _ _ _ (by omega)).trans r3
  have q4 : ((((w.alloc (.cells c 92)).alloc (.cells #[.int .i64 0, .int .u64 0, .int .u64 0, .int .u64 0, .int .u64 0, .int .u64 0, .int .u64 0, .int .u64 0, .int .u64 0, .int .u64 0, .int .u64 0, .int .u64 0, .string ⟨#[]⟩, .int .u64 0, .int .u64 0, .int .u64 0, .int .u64 0, .string ⟨#[]⟩, .slice none 0 0, .slice none 0 0, .int .u64 0, .int .u64 0, .int .u64 0, .int .u64 0, .int .u64 0, .int .u64 0, .int .u64 0, .int .u64 0, .int .u64 0, .string ⟨#[]⟩, .string ⟨#[]⟩, .int .u64 0, .int .u64 0, .int .u64 0, .int .u64 0, .bool false, .int .u64 0] 185)).alloc (.cells #[.int .i64 0, .int .u64 0, .int .u64 0, .int .u64 0, .int .u64 0, .int .u64 0, .int .u64 0, .int .u64 0, .int .u64 0, .int .u64 0, .int .u64 0, .int .u64 0, .string ⟨#[]⟩, .int .u64 0, .int .u64 0, .int .u64 0, .int .u64 0, .string ⟨#[]⟩, .slice none 0 0, .slice none 0 0, .int .u64 0, .int .u64 0, .int .u64 0, .int .u64 0, .int .u64 0, .int .u64 0, .int .u64 0, .int .u64 0, .int .u64 0, .string ⟨#[]⟩, .string ⟨#[]⟩, .int .u64 0, .int .u64 0, .int .u64 0, .int .u64 0, .bool false, .int .u64 0] 185)).setRow (w.heap.size + 1 + 1) d).heap[w.heap.size + 1]? = some (.cells #[.int .i64 0, .int .u64 0, .int .u64 0, .int .u64 0, .int .u64 0, .int .u64 0, .int .u64 0, .int .u64 0, .int .u64 0, .int .u64 0, .int .u64 0, .int .u64 0, .string ⟨#[]⟩, .int .u64 0, .int .u64 0, .int .u64 0, .int .u64 0, .string ⟨#[]⟩, .slice none 0 0, .slice none 0 0, .int .u64 0, .int .u64 0, .int .u64 0, .int .u64 0, .int .u64 0, .int .u64 0, .int .u64 0, .int .u64 0, .int .u64 0, .string ⟨#[]⟩, .string ⟨#[]⟩, .int .u64 0, .int .u64 0, .int .u64 0, .int .u64 0, .bool false, .int .u64 0] 185 (0, 0)) := (setRow_other _ _ _ _ (by omega)).trans q3
  have p4 : ((((w.alloc (.cells c 92)).alloc (.cells #[.int .i64 0, .int .u64 0, .int .u64 0, .int .u64 0, .int .u64 0, .int .u64 0, .int .u64 0, .int .u64 0, .int .u64 0, .int .u64 0, .int .u64 0, .int .u64 0, .string ⟨#[]⟩, .int .u64 0, .int .u64 0, .int .u64 0, .int .u64 0, .string ⟨#[]⟩, .slice none 0 0, .slice none 0 0, .int .u64 0, .int .u64 0, .int .u64 0, .int .u64 0, .int .u64 0, .int .u64 0, .int .u64 0, .int .u64 0, .int .u64 0, .string ⟨#[]⟩, .string ⟨#[]⟩, .int .u64 0, .int .u64 0, .int .u64 0, .int .u64 0, .bool false, .int .u64 0] 185)).alloc (.cells #[.int .i64 0, .int .u64 0, .int .u64 0, .int .u64 0, .int .u64 0, .int .u64 0, .int .u64 0, .int .u64 0, .int .u64 0, .int .u64 0, .int .u64 0, .int .u64 0, .string ⟨#[]⟩, .int .u64 0, .int .u64 0, .int .u64 0, .int .u64 0, .string ⟨#[]⟩, .slice none 0 0, .slice none 0 0, .int .u64 0, .int .u64 0, .int .u64 0, .int .u64 0, .int .u64 0, .int .u64 0, .int .u64 0, .int .u64 0, .int .u64 0, .string ⟨#[]⟩, .string ⟨#[]⟩, .int .u64 0, .int .u64 0, .int .u64 0, .int .u64 0, .bool false, .int .u64 0] 185)).setRow (w.heap.size + 1 + 1) d).heap[w.heap.size + 1 + 1]? = some (.cells d 185 (0, 0)) := setRow_heap _ _ _ _ _ _ p3
  have k4 : ((((w.alloc (.cells c 92)).alloc (.cells #[.int .i64 0, .int .u64 0, .int .u64 0, .int .u64 0, .int .u64 0, .int .u64 0, .int .u64 0, .int .u64 0, .int .u64 0, .int .u64 0, .int .u64 0, .int .u64 0, .string ⟨#[]⟩, .int .u64 0, .int .u64 0, .int .u64 0, .int .u64 0, .string ⟨#[]⟩, .slice none 0 0, .slice none 0 0, .int .u64 0, .int .u64 0, .int .u64 0, .int .u64 0, .int .u64 0, .int .u64 0, .int .u64 0, .int .u64 0, .int .u64 0, .string ⟨#[]⟩, .string ⟨#[]⟩, .int .u64 0, .int .u64 0, .int .u64 0, .int .u64 0, .bool false, .int .u64 0] 185)).alloc (.cells #[.int .i64 0, .int .u64 0, .int .u64 0, .int .u64 0, .int .u64 0, .int .u64 0, .int .u64 0, .int .u64 0, .int .u64 0, .int .u64 0, .int .u64 0, .int .u64 0, .string ⟨#[]⟩, .int .u64 0, .int .u64 0, .int .u64 0, .int .u64 0, .string ⟨#[]⟩, .slice none 0 0, .slice none 0 0, .int .u64 0, .int .u64 0, .int .u64 0, .int .u64 0, .int .u64 0, .int .u64 0, .int .u64 0, .int .u64 0, .int .u64 0, .string ⟨#[]⟩, .string ⟨#[]⟩, .int .u64 0, .int .u64 0, .int .u64 0, .int .u64 0, .bool false, .int .u64 0] 185)).setRow (w.heap.size + 1 + 1) d).cell? ⟨w.heap.size, 0, none⟩ = some (.int .i64 k) := by simp only [World.cell?, r4]; exact h0
  go_enter Tryz.func166, Tryz.ntmps166
  go_wp2_with (first | (refine wpList_load_row rfl _ _ rfl _ rfl _ c (0, 0) _ r2 Tryz.underlying92 rfl (by rw [Tryz.txSize, hc]) ?_) | (refine wpList_store_row rfl _ _ _ rfl _ d rfl rfl _ _ p3 (by rw [Tryz.wireSize, hd]) (by rw [hd]; rfl) hd1 ?_) | (refine wpList_load_row rfl _ _ rfl _ rfl _ d (0, 0) _ p4 Tryz.underlying185 rfl (by rw [Tryz.wireSize, hd]) ?_) | (refine wpList_store_row rfl _ _ _ rfl _ d rfl rfl _ _ q4 (by rw [Tryz.wireSize, hd]) (by rw [hd]; rfl) hd1 ?_))
  refine wire_new rfl _ (w.heap.size + 1) _ d _ rfl hd (setRow_heap _ _ _ _ _ _ q4) ⟨rfl, below_setRow_new (below_setRow_new ((((Below.refl _ w).alloc (Nat.le_refl _) _).alloc (by simp) _).alloc (by simp; omega) _) (by omega)) (by omega)⟩
end Go.Proofs.YtebjhbeaknokkaaGreatDoor
namespace Go.Proofs.YtebjhbeaknokkaaGreatDoor
open Go Go.RowKit Go.Lib Go.Shelf
attribute [local go_sem] Oper.semAt_some

theorem wpListIn_load_rowt {F : Fence} {m : Nat} {ops : Array Oper} {rest : List Oper} {o : Oper} {a : Act} {w : World} {Q : Exit → Act → World → Prop} (hgd : o.guard = none) (ty : TypeId) (x : Operand) (ho : o.op = .load ty x) (g : Nat) (hx : a.eval x = .pointer (some ⟨g, 0, none⟩)) (c : Array Value)
    (hl : (loadVar ty ⟨g, 0, none⟩).run Tryz.prog w = .ok (.agg c) w) (h : wpListIn F m Tryz.prog ops Q rest (a.put o.dst (.agg c)) w) : wpListIn F m Tryz.prog ops Q (o :: rest) a w := by
  refine wpListIn_plain hgd fun K hK => ?_
  unfold Oper.wpIn
  rw [Oper.semAt_plain F _ _ (by intro c; rw [ho]; exact fun h => nomatch h)]
  refine ⟨by intro f hf; simp [Oper.about, ho] at hf, ?_⟩
  unfold execOp
  simp only [ho, hx, Instr.loadAt, Instr.sureAddr, Sem.run_bind, Sem.run_pure, Result.andThen_ok, hl]
  exact hK _ _ h
/-- All blocks are kept but one. -/
structure Gb (A W : World) (B : Nat) : Prop where
  os : W.os = A.os
  tape : W.tape = A.tape
  output : W.output = A.output
  size : A.heap.size ≤ W.heap.size
  block : ∀ i, i < A.heap.size → i ≠ B → W.heap[i]? = A.heap[i]?
theorem Gb.refl (A : World) (B : Nat) : Gb A A B := ⟨rfl, rfl, rfl, Nat.le_refl _, fun _ _ _ => rfl⟩
theorem Gb.grow {A W W' : World} {B : Nat} {row : Option Nat} (h : Gb A W B) (hg : W.grownBy W' row) (hr : ∀ j, row = some j → A.heap.size ≤ j) : Gb A W' B :=
  ⟨hg.os.trans h.os, hg.tape.trans h.tape, hg.output.trans h.output, Nat.le_trans h.size hg.size, fun i hi hn => (hg.block i (Nat.lt_of_lt_of_le hi h.size) (fun e => by have := hr i e.symm; omega)).trans (h.block i hi hn)⟩
theorem Gb.below {A W W' : World} {B : Nat} (h : Gb A W B) (hb : Below W.heap.size W W') : Gb A W' B :=
  ⟨hb.os.trans h.os, hb.tape.trans h.tape, hb.output.trans h.output, Nat.le_trans h.size hb.size, fun i hi hn => (hb.block i (Nat.lt_of_lt_of_le hi h.size)).trans (h.block i hi hn)⟩
theorem Gb.set {A W : World} {B : Nat} (h : Gb A W B) (o : Nat) (v : Value) : Gb A (W.setCell ⟨B, o, none⟩ v) B :=
  ⟨h.os, h.tape, h.output, by simpa [World.setCell] using h.size, fun i hi hn => by
    refine Eq.trans ?_ (h.block i hi hn)
    simp [World.setCell, Array.getElem?_modify, Ne.symm hn]⟩
theorem Wire.clear_ {W : World} {B : Nat} (h : Wire W B) : Wire (W.setCell ⟨B, 36, none⟩ (.int .u64 0)) B := by
  obtain ⟨v, e⟩ := h.hb
  refine ⟨0, ?_⟩
  rw [setCell_eq_setRow W B 36 _ _ (0, 0) (.int .u64 0) e]
  exact setRow_heap _ _ _ _ _ _ e
/-- The cells of a transaction that is nought. -/
def ztx : Array Value := #[.int .i64 0, .int .u64 0, .int .u64 0, .int .u64 0, .int .u64 0, .int .u64 0, .int .u64 0, .int .u64 0, .int .u64 0, .int .u64 0, .int .u64 0, .int .u64 0, .string ⟨#[]⟩, .int .u64 0, .int .u64 0, .int .u64 0, .int .u64 0, .string ⟨#[]⟩, .slice none 0 0, .slice none 0 0, .int .u64 0, .int .u64 0, .int .u64 0, .int .u64 0, .int .u64 0, .int .u64 0, .int .u64 0, .int .u64 0, .int .u64 0, .string ⟨#[]⟩, .string ⟨#[]⟩, .int .u64 0, .int .u64 0, .int .u64 0, .int .u64 0, .bool false]
theorem Wire.load_ {W : World} {B : Nat} (h : Wire W B) : (loadVar 92 ⟨B, 0, none⟩).run Tryz.prog W = .ok (.agg ztx) W := by
  have hl : (loadCells ⟨B, 0, none⟩ ztx.toList.length).run Tryz.prog W = .ok ztx.toList.toArray W :=
    run_loadCells_list (P := Tryz.prog) W ⟨B, 0, none⟩ ztx.toList (fun j v hv => by
      have hadd : (⟨B, 0, none⟩ : Addr).add j = ⟨B, j, none⟩ := by unfold Addr.add; split <;> simp_all
      have hj : j < 36 := (List.getElem?_eq_some_iff.1 hv).1
      rw [hadd, h.cell hj, ← hv]
      unfold wz ztx
      simp only [List.getElem?_toArray]
      have hi' : j = 0 ∨ j = 1 ∨ j = 2 ∨ j = 3 ∨ j = 4 ∨ j = 5 ∨ j = 6 ∨ j = 7 ∨ j = 8 ∨ j = 9 ∨ j = 10 ∨ j = 11 ∨ j = 12 ∨ j = 13 ∨ j = 14 ∨ j = 15 ∨ j = 16 ∨ j = 17 ∨ j = 18 ∨ j = 19 ∨ j = 20 ∨ j = 21 ∨ j = 22 ∨ j = 23 ∨ j = 24 ∨ j = 25 ∨ j = 26 ∨ j = 27 ∨ j = 28 ∨ j = 29 ∨ j = 30 ∨ j = 31 ∨ j = 32 ∨ j = 33 ∨ j = 34 ∨ j = 35 := by omega
      rcases hi' with rfl | rfl | rfl | rfl | rfl | rfl | rfl | rfl | rfl | rfl | rfl | rfl | rfl | rfl | rfl | rfl | rfl | rfl | rfl | rfl | rfl | rfl | rfl | rfl | rfl | rfl | rfl | rfl | rfl | rfl | rfl | rfl | rfl | rfl | rfl | rfl <;> rfl)
  have hagg : (isAgg 92).run Tryz.prog W = .ok true W := by
    unfold isAgg
    rw [Sem.run_bind, run_underlying Tryz.underlying92 W]
    rfl
  cases hq : Tryz.prog.info? 92 with
  | none => have := Tryz.txSize; rw [hq] at this; cases this
  | some i =>
    have hs : i.size = 36 := by have := Tryz.txSize; rw [hq] at this; simpa using this
    have hz : ztx.toList.length = 36 := rfl
    rw [hz, Array.toArray_toList] at hl
    simp [loadVar, Sem.run_bind, hagg, sizeOf, typeInfo, hq, hs, hl]
/-- What a round keeps. -/
def IW (A : World) (B : Nat) (_pre : List (Nat × V3)) (W : World) : Prop := Gb A W B ∧ Wire W B
theorem Wire.keep {W W' : World} {B : Nat} (h : Wire W B) (he : W'.heap[B]? = W.heap[B]?) : Wire W' B := by
  obtain ⟨v, e⟩ := h.hb
  exact ⟨v, he.trans e⟩
theorem IW.own {A : World} {B : Nat} (hB : B < A.heap.size) : OwnFrom A.heap.size (IW A B) := fun _ W W' row h hg hr =>
  ⟨h.1.grow hg fun j e => (hr j e).1, h.2.keep (hg.block B (Nat.lt_of_lt_of_le hB h.1.size) fun e => by have := (hr B e.symm).1; omega)⟩
set_option maxRecDepth 100000 in
set_option maxHeartbeats 4000000 in
theorem hasMore_any (c d : Array Value) (v : Int) (r n : Nat) (w : World) (hc : c.size = 36) (hd : d.size = 37) (hd1 : d.all (·.oneCell') = true) (hd0 : ∃ x, d[0]? = some x) (hdz : d.setIfInBounds 0 (.int .i64 0) = wz v)
    (HWr : Hid (∀ W, Calls Tryz.prog 166 #[.agg c] W fun e w' => e = .returned (.agg d) ∧ Below W.heap.size W w'))
    (HSm : Hid (∀ W, Calls Tryz.prog 168 #[.agg ztx, .agg ztx] W fun e w' => (∃ b, e = .returned (.bool b)) ∧ Below W.heap.size W w'))
    (hR : RowOk w.heap.size w r n) (hn : n ≤ 13) :
    Calls Tryz.prog 92 #[rowS r n, .agg c] w fun e w' => (∃ b, e = .returned (.bool b)) ∧ Below w.heap.size w w' := by
  have mixed : Tryz.prog.follows .mixedOrders = true := by kernel_rfl
  refine calls_of_wpE (n := 6) Tryz.func92 rfl ?_
  simp only [Tryz.ntmps92, List.size_toArray, List.length_cons, List.length_nil, Nat.reduceAdd, Nat.reduceSub, Array.replicate_succ, Array.replicate_zero, List.push_toArray, List.append_toArray, List.nil_append, List.cons_append]
  refine wpE_then (n := 6) ?_
  gi_wp2_with fail
  obtain ⟨A, hA⟩ : ∃ A, w.alloc (.cells c 92) = A := ⟨_, rfl⟩
  have hbA : Below w.heap.size w A := by rw [← hA]; exact (Below.refl _ _).alloc (Nat.le_refl _) _
  have rA : A.heap[w.heap.size]? = some (.cells c 92 (0, 0)) := by rw [← hA]; exact heap_alloc_new _ _
  rw [hA]
  clear hA
  refine wpE_then (n := 6) ?_
  have hl1 := run_loadVar_row (P := Tryz.prog) A w.heap.size 92 92 c (0, 0) _ rA Tryz.underlying92 rfl (by rw [Tryz.txSize, hc])
  gi_wp2_with (refine wpListIn_load_rowt rfl _ _ rfl _ rfl c hl1 ?_)
  refine ⟨trivial, (callsIn_wide.2 (HWr.out A)).mono ?_⟩
  rintro e w1 ⟨rfl, hb1⟩
  obtain ⟨B, hB⟩ : ∃ B, w1.heap.size = B := ⟨_, rfl⟩
  have hbw1 : Below w.heap.size w w1 := hbA.trans (hb1.mono hbA.size)
  have hnew : (w1.alloc (.cells #[.int .i64 0, .int .u64 0, .int .u64 0, .int .u64 0, .int .u64 0, .int .u64 0, .int .u64 0, .int .u64 0, .int .u64 0, .int .u64 0, .int .u64 0, .int .u64 0, .string ⟨#[]⟩, .int .u64 0, .int .u64 0, .int .u64 0, .int .u64 0, .string ⟨#[]⟩, .slice none 0 0, .slice none 0 0, .int .u64 0, .int .u64 0, .int .u64 0, .int .u64 0, .int .u64 0, .int .u64 0, .int .u64 0, .int .u64 0, .int .u64 0, .string ⟨#[]⟩, .string ⟨#[]⟩, .int .u64 0, .int .u64 0, .int .u64 0, .int .u64 0, .bool false, .int .u64 0] 185)).heap[B]? = some (.cells #[.int .i64 0, .int .u64 0, .int .u64 0, .int .u64 0, .int .u64 0, .int .u64 0, .int .u64 0, .int .u64 0, .int .u64 0, .int .u64 0, .int .u64 0, .int .u64 0, .string ⟨#[]⟩, .int .u64 0, .int .u64 0, .int .u64 0, .int .u64 0, .string ⟨#[]⟩, .slice none 0 0, .slice none 0 0, .int .u64 0, .int .u64 0, .int .u64 0, .int .u64 0, .int .u64 0, .int .u64 0, .int .u64 0, .int .u64 0, .int .u64 0, .string ⟨#[]⟩, .string ⟨#[]⟩, .int .u64 0, .int .u64 0, .int .u64 0, .int .u64 0, .bool false, .int .u64 0] 185 (0, 0)) := by rw [← hB]; exact heap_alloc_new _ _
  have hst := run_storeCells_from (P := Tryz.prog) B 185 d.toList 0 _ _ hnew (by rw [Nat.zero_add, Array.length_toList, hd]; rfl) (fun v hv => (Array.all_eq_true_iff_forall_mem.1 hd1) v (by simpa using hv))
  rw [List.take_zero, List.nil_append, Array.toArray_toList] at hst
  obtain ⟨W2, hW2⟩ : ∃ W2, (w1.alloc (.cells #[.int .i64 0, .int .u64 0, .int .u64 0, .int .u64 0, .int .u64 0, .int .u64 0, .int .u64 0, .int .u64 0, .int .u64 0, .int .u64 0, .int .u64 0, .int .u64 0, .string ⟨#[]⟩, .int .u64 0, .int .u64 0, .int .u64 0, .int .u64 0, .string ⟨#[]⟩, .slice none 0 0, .slice none 0 0, .int .u64 0, .int .u64 0, .int .u64 0, .int .u64 0, .int .u64 0, .int .u64 0, .int .u64 0, .int .u64 0, .int .u64 0, .string ⟨#[]⟩, .string ⟨#[]⟩, .int .u64 0, .int .u64 0, .int .u64 0, .int .u64 0, .bool false, .int .u64 0] 185)).setRow B d = W2 := ⟨_, rfl⟩
  have r2 : W2.heap[B]? = some (.cells d 185 (0, 0)) := by rw [← hW2]; exact setRow_heap _ _ _ _ _ _ hnew
  have hb2 : Below w.heap.size w W2 := by rw [← hW2]; exact below_setRow_new (hbw1.alloc hbw1.size _) (by rw [← hB]; exact hbw1.size)
  have hBlt : B < W2.heap.size := (Array.getElem?_eq_some_iff.1 r2).1
  rw [hW2] at hst
  clear hW2 hnew
  gi_wp2_with fail
  clear hst
  obtain ⟨x0, hx0⟩ := hd0
  have c2 : W2.cell? ⟨B, 0, none⟩ = some x0 := by simp only [World.cell?, r2]; exact hx0
  have f2 : W2.frozen? ⟨B, 0, none⟩ = false := by simp [World.frozen?, r2]
  refine wpE_then (n := 6) ?_
  gi_wp2_with fail
  obtain ⟨W3, hW3⟩ : ∃ W3, W2.setCell ⟨B, 0, none⟩ (.int .i64 0) = W3 := ⟨_, rfl⟩
  have hwire : Wire W3 B := ⟨v, by rw [← hW3, setCell_eq_setRow W2 B 0 d 185 (0, 0) (.int .i64 0) r2, ← hdz]; exact setRow_heap _ _ _ _ _ _ r2⟩
  have hBw : w.heap.size ≤ B := by rw [← hB]; exact hbw1.size
  have hb3 : Below w.heap.size w W3 := by rw [← hW3]; exact hb2.setCell (p := ⟨B, 0, none⟩) hBw _
  have hBlt3 : B < W3.heap.size := by rw [← hW3]; simpa [World.setCell] using hBlt
  rw [hW3]
  clear hW3 c2 f2 r2 hb2 hBlt hx0 hbw1 hb1 hbA rA hB hl1
  refine wpE_seq ?_
  refine wpE_then (n := 6) ?_
  gi_wp2_with fail
  refine ⟨trivial, (callsIn_wide.2 (fields_any r n W3)).mono ?_⟩
  rintro e w' ⟨rfl, rfl⟩
  gi_wp2_with fail
  obtain ⟨A, hA⟩ : ∃ A, W3.alloc (.cells #[rowS r n] 128) = A := ⟨_, rfl⟩
  obtain ⟨bs, hbs⟩ : ∃ bs, W3.heap.size = bs := ⟨_, rfl⟩
  rw [hA, hbs]
  have hbA : Below W3.heap.size W3 A := by rw [← hA]; exact (Below.refl _ _).alloc (Nat.le_refl _) _
  have hzA : A.heap.size = bs + 1 := by rw [← hA, ← hbs]; simp
  have hwA : Wire A B := hwire.from_ hbA
  have hBs : B < bs := by rw [← hbs]; exact hBlt3
  have hcA : A.heap[bs]? = some (.cells #[rowS r n] 128 (0, 0)) := by rw [← hA, ← hbs]; exact heap_alloc_new _ _
  have hb0A : Below w.heap.size w A := hb3.trans (hbA.mono hb3.size)
  have hRA := hR.from_ hb0A
  obtain ⟨ys, hyl, hyr, hyp⟩ := hRA.out
  have hrB : r < B := Nat.lt_of_lt_of_le hR.lt hBw
  subst hyl
  clear hA hbs hbA hwire hBlt3 hb3 hR hRA
  refine wpE_block ?_
  refine range_lx (n := 6) (gf := 239) (lb := #[.pointer (some ⟨bs, 0, none⟩)]) (by omega) rfl (enters_of Tryz.func239 (by kernel_rfl) rfl)
    (encs := encF) (fun x => rfl) (IW A B) (IW.own (by omega)) (fun pre X Y h hg => ⟨h.1.grow hg fun j e => by cases e; omega, h.2.keep (hg.block B (Nat.lt_of_lt_of_le (by omega) h.1.size) fun e => by cases e; omega)⟩) (fun _ _ => False)
    (fun _ => False) (fun c h => h.elim) (fun xs => xs = fsOf ys) (fun pre x => GoodF ys pre x) ?seq ⟨Gb.refl _ _, hwA⟩
    (fun pre x a' W => GoodF ys pre x ∧ IW A B pre W ∧ ∃ q, A.heap.size ≤ q ∧ W.heap[q]? = some (.cells #[x.2.1, x.2.2.1, x.2.2.2] 180 (0, 0)) ∧ a' = { tmps := #[rowS r ys.length, .agg c, undef, .pointer (some ⟨w.heap.size, 0, none⟩), .bool false, .pointer (some ⟨B, 0, none⟩), undef, .pointer (some ⟨q, 0, none⟩), .agg c, .agg d, .pointer (some ⟨B, 0, none⟩), .pointer (some ⟨B, 0, none⟩), rowS r ys.length, .func (.func 239) #[] #[.pointer (some ⟨bs, 0, none⟩)], .int .i64 (x.1 : Nat), .agg #[x.2.1, x.2.2.1, x.2.2.2], undef, undef, undef, undef, undef, undef, undef, undef], defers := [] })
    (fun pre x a' => fun _ W W' row h hg hr => by
      obtain ⟨h1, h2, q, hq, hc, ha⟩ := h
      refine ⟨h1, IW.own (by omega) pre _ _ _ h2 hg hr, q, hq, (hg.block q (Array.getElem?_eq_some_iff.1 hc).1 fun e => ?_).trans hc, ha⟩
      obtain ⟨_, o, ho, hoc⟩ := hr q e.symm
      rw [hc] at ho
      cases ho
      cases hoc) ?assign ?body ?done ?pan
  case seq =>
    intro l J Jp W hzW hJI hJ hY h0
    refine fields_seq ys _ l bs r J Jp (by omega) (Lib.hid fun x hx => ⟨(hyp x hx).1, (hyp x hx).2.1, isFn_ok (hyp x hx).2.2⟩) (Lib.hid fun pre X h => ?_) (Lib.hid fun pre X h => ?_) (Lib.hid fun pre X Y h hg => hJ pre X Y h ⟨hg.os, hg.tape, hg.output, hg.size, fun i hi _ => hg.block i hi (by simp)⟩) (Lib.hid fun m pre x X h hg => hY m pre x X h hg) _ W h0
    · have hg := (hJI pre X h).1
      have := (hg.block bs (by omega) (by omega)).trans hcA
      simp [World.cell?, this]
    · have hg := (hJI pre X h).1
      exact (hg.block r (by omega) (by omega)).trans hyr
  case assign =>
    rintro l pre ⟨i, p, g, q⟩ X K hI hz hG hK'
    obtain ⟨hf0, hf1, hf2⟩ := hyp _ (List.mem_of_getElem? (fs_get hG.2).2)
    have s0 := fun W a => store_fn hf0 W a
    have s1 := fun W a => store_fn hf1 W a
    have s2 := fun W a => store_fn (isFn_ok hf2) W a
    have hkk := hK' _ (X.alloc (.cells #[p, g, q] 180)) ((KeepsOthers.alloc _ _).from _) (fun _ _ h => h.elim) ⟨hG, IW.own (by omega) pre _ _ _ hI (World.grownBy_alloc _ _ none) (by simp), X.heap.size, hI.1.size, heap_alloc_new _ _, rfl⟩
    dsimp only [encF]
    gi_wp2
    exact hkk
  case body =>
    rintro l pre ⟨i, p, g, q⟩ a' W ⟨hG, hI, e, he, hce, rfl⟩
    obtain ⟨_, _, hf2⟩ := hyp _ (List.mem_of_getElem? (fs_get hG.2).2)
    obtain ⟨F, box, hq, hbx, hE, hC⟩ := hf2.out
    simp only at hq hce
    subst hq
    have hbxc : W.cell? ⟨box, 0, none⟩ = A.cell? ⟨box, 0, none⟩ := World.cell?_of_block (hI.1.block box (by omega) (by omega))
    have HC := Lib.hid (hC W B hbxc hI.2)
    have c2 : W.cell? ⟨e, 2, none⟩ = some (.func (.func F) #[] #[.pointer (some ⟨box, 0, none⟩)]) := by simp [World.cell?, hce]
    have hE1 : ∀ args w, (callFunc F args).run Tryz.prog w = .ok (.enter F args) w := hE
    gi_wp2_with fail
    refine ⟨trivial, CallsIn.inRound l ((callsIn_wide.2 HC.out).mono ?_)⟩
    rintro e5 w5 ⟨⟨vv, rfl⟩, X', hX', hb5⟩
    have hXs : X'.heap.size = W.heap.size := by
      rcases hX' with rfl | rfl
      · rfl
      · simp [World.setCell]
    have hIX : IW A B (pre ++ [(i, p, g, .func (.func F) #[] #[.pointer (some ⟨box, 0, none⟩)])]) X' := by
      rcases hX' with rfl | rfl
      · exact hI
      · exact ⟨hI.1.set _ _, hI.2.clear_⟩
    have hKO : KeepsOthers W X' := by
      rcases hX' with rfl | rfl
      · exact KeepsOthers.refl _
      · exact KeepsOthers.setCell _ _ _
    have hb5' : Below X'.heap.size X' w5 := by rw [hXs]; exact hb5
    have hI5 : IW A B (pre ++ [(i, p, g, .func (.func F) #[] #[.pointer (some ⟨box, 0, none⟩)])]) w5 := ⟨hIX.1.below hb5', hIX.2.from_ hb5'⟩
    have hK5 : KeepsOthers W w5 := hKO.trans ⟨hb5'.size, fun c o h _ => (hb5'.block c (Array.getElem?_eq_some_iff.1 h).1).trans h⟩
    clear HC c2 hE1 hE hC hX' hIX hKO hb5 hb5'
    gi_wp2_with fail
    exact ⟨hK5.from _, fun _ _ h => h.elim, hI5⟩
  case done =>
    rintro D xs W hD rfl hI hKd hzW
    have hbW : Below w.heap.size w W := ⟨hI.1.os.trans hb0A.os, hI.1.tape.trans hb0A.tape, hI.1.output.trans hb0A.output, Nat.le_trans hb0A.size hI.1.size, fun i hi => (hI.1.block i (by omega) (by omega)).trans (hb0A.block i hi)⟩
    have hl := hI.2.load_
    refine wpE_then (n := 6) ?_
    gi_wp2_with (refine wpListIn_load_rowt rfl _ _ rfl _ rfl ztx hl ?_)
    refine ⟨trivial, (callsIn_wide.2 (HSm.out W)).mono ?_⟩
    rintro e6 w6 ⟨⟨b, rfl⟩, hb6⟩
    have hDl := (Array.getElem?_eq_some_iff.1 hKd).1
    have hKd6 := (hb6.block D hDl).trans hKd
    have hbw6 := hbW.trans (hb6.mono hbW.size)
    have hb7 := belowK_b (w := w) (Nat.le_refl _) w6 D _ (.deferred none) (by have := hb0A.size; omega) hKd6 rfl rfl
    have HB7 := Lib.hid (hbw6.trans hb7)
    clear hl hI hbW hb6 hb7 hKd
    gi_wp2_with fail
    refine WpE.of (n := 6) (wpIn_ret ?_)
    refine ⟨by simp, .inl ⟨_, _, rfl, run_takeDeferred hKd6, ?_⟩⟩
    refine ⟨.bool (!b), ?_, ⟨!b, rfl⟩, HB7.out⟩
    simp [results, Tryz.f92, go_sem]
  case pan => rintro D ch W _ h _; exact h.elim
end Go.Proofs.YtebjhbeaknokkaaGreatDoor
namespace Go.Proofs.YtebjhbeaknokkaaGreatDoor
open Go Go.RowKit Go.Lib Go.Shelf
attribute [local go_sem] Oper.semAt_some

set_option maxRecDepth 100000 in
set_option maxHeartbeats 4000000 in
theorem written_0 (c d e : Array Value) (w : World) (hc : c.size = 36) (hd : d.size = 37) (hd1 : d.all (·.oneCell') = true) (hb : Array.foldl (fun (cs : Array Value) (x : Value × Nat) => cs.setIfInBounds x.snd x.fst) #[.int .i64 0, .int .u64 0, .int .u64 0, .int .u64 0, .int .u64 0, .int .u64 0, .int .u64 0, .int .u64 0, .int .u64 0, .int .u64 0, .int .u64 0, .int .u64 0, .string ⟨#[]⟩, .int .u64 0, .int .u64 0, .int .u64 0, .int .u64 0, .string ⟨#[]⟩, .slice none 0 0, .slice none 0 0, .int .u64 0, .int .u64 0, .int .u64 0, .int .u64 0, .int .u64 0, .int .u64 0, .int .u64 0, .int .u64 0, .int .u64 0, .string ⟨#[]⟩, .string ⟨#[]⟩, .int .u64 0, .int .u64 0, .int .u64 0, .int .u64 0, .bool false, .int .u64 0] c.zipIdx 0 36 = d) (h0 : c[0]? = some (.int .i64 0)) (h20 : c[20]? = some (.int .u64 0)) (h1 : c[1]? = some (.int .u64 0))
    (g36 : d[36]? = some (.int .u64 0)) (g1 : d[1]? = some (.int .u64 0)) (g20 : d[20]? = some (.int .u64 0)) (he : (((d.setIfInBounds 36 (.int .u64 27)).setIfInBounds 1 (.int .u64 0)).setIfInBounds 20 (.int .u64 0)) = e) (he1 : e.size = 37) (he2 : e.all (·.oneCell') = true) :
    Calls Tryz.prog 166 #[.agg c] w fun x w' => x = .returned (.agg e) ∧ Below w.heap.size w w' := by
  refine calls_of_wpE (n := 6) Tryz.func166 rfl ?_
  simp only [Tryz.ntmps166, List.size_toArray, List.length_cons, List.length_nil, Nat.reduceAdd, Nat.reduceSub, Array.replicate_succ, Array.replicate_zero, List.push_toArray, List.append_toArray, List.nil_append, List.cons_append]
  refine wpE_then (n := 6) ?_
  gi_wp2_with fail
  obtain ⟨z, hz⟩ : ∃ z : Array Value, #[.int .i64 0, .int .u64 0, .int .u64 0, .int .u64 0, .int .u64 0, .int .u64 0, .int .u64 0, .int .u64 0, .int .u64 0, .int .u64 0, .int .u64 0, .int .u64 0, .string ⟨#[]⟩, .int .u64 0, .int .u64 0, .int .u64 0, .int .u64 0, .string ⟨#[]⟩, .slice none 0 0, .slice none 0 0, .int .u64 0, .int .u64 0, .int .u64 0, .int .u64 0, .int .u64 0, .int .u64 0, .int .u64 0, .int .u64 0, .int .u64 0, .string ⟨#[]⟩, .string ⟨#[]⟩, .int .u64 0, .int .u64 0, .int .u64 0, .int .u64 0, .bool false, .int .u64 0] = z := ⟨_, rfl⟩
  have hz37 : z.size = 37 := by rw [← hz]; rfl
  obtain ⟨A, hA⟩ : ∃ A, (w.alloc (.cells c 92)).alloc (.cells #[.int .i64 0, .int .u64 0, .int .u64 0, .int .u64 0, .int .u64 0, .int .u64 0, .int .u64 0, .int .u64 0, .int .u64 0, .int .u64 0, .int .u64 0, .int .u64 0, .string ⟨#[]⟩, .int .u64 0, .int .u64 0, .int .u64 0, .int .u64 0, .string ⟨#[]⟩, .slice none 0 0, .slice none 0 0, .int .u64 0, .int .u64 0, .int .u64 0, .int .u64 0, .int .u64 0, .int .u64 0, .int .u64 0, .int .u64 0, .int .u64 0, .string ⟨#[]⟩, .string ⟨#[]⟩, .int .u64 0, .int .u64 0, .int .u64 0, .int .u64 0, .bool false, .int .u64 0] 185) = A := ⟨_, rfl⟩
  have hbA : Below w.heap.size w A := by rw [← hA]; exact ((Below.refl _ _).alloc (Nat.le_refl _) _).alloc (by simp) _
  have hzA : A.heap.size = w.heap.size + 1 + 1 := by rw [← hA]; simp
  have rA : A.heap[w.heap.size]? = some (.cells c 92 (0, 0)) := by rw [← hA]; exact (Below.heap_alloc _ _ _ (by simp)).trans (heap_alloc_new _ _)
  have qA : A.heap[w.heap.size + 1]? = some (.cells z 185 (0, 0)) := by
    rw [← hA, hz, show w.heap.size + 1 = (w.alloc (.cells c 92)).heap.size by simp]
    exact heap_alloc_new _ _
  rw [hA]
  clear hA hz
  have hl1 := run_loadVar_row (P := Tryz.prog) A w.heap.size 92 92 c (0, 0) _ rA Tryz.underlying92 rfl (by rw [Tryz.txSize, hc])
  have hnew : (A.alloc (.cells #[.int .i64 0, .int .u64 0, .int .u64 0, .int .u64 0, .int .u64 0, .int .u64 0, .int .u64 0, .int .u64 0, .int .u64 0, .int .u64 0, .int .u64 0, .int .u64 0, .string ⟨#[]⟩, .int .u64 0, .int .u64 0, .int .u64 0, .int .u64 0, .string ⟨#[]⟩, .slice none 0 0, .slice none 0 0, .int .u64 0, .int .u64 0, .int .u64 0, .int .u64 0, .int .u64 0, .int .u64 0, .int .u64 0, .int .u64 0, .int .u64 0, .string ⟨#[]⟩, .string ⟨#[]⟩, .int .u64 0, .int .u64 0, .int .u64 0, .int .u64 0, .bool false, .int .u64 0] 185)).heap[A.heap.size]? = some (.cells #[.int .i64 0, .int .u64 0, .int .u64 0, .int .u64 0, .int .u64 0, .int .u64 0, .int .u64 0, .int .u64 0, .int .u64 0, .int .u64 0, .int .u64 0, .int .u64 0, .string ⟨#[]⟩, .int .u64 0, .int .u64 0, .int .u64 0, .int .u64 0, .string ⟨#[]⟩, .slice none 0 0, .slice none 0 0, .int .u64 0, .int .u64 0, .int .u64 0, .int .u64 0, .int .u64 0, .int .u64 0, .int .u64 0, .int .u64 0, .int .u64 0, .string ⟨#[]⟩, .string ⟨#[]⟩, .int .u64 0, .int .u64 0, .int .u64 0, .int .u64 0, .bool false, .int .u64 0] 185 (0, 0)) := heap_alloc_new _ _
  have hst := run_storeCells_from (P := Tryz.prog) A.heap.size 185 d.toList 0 _ _ hnew (by rw [Nat.zero_add, Array.length_toList, hd]; rfl) (fun v hv => (Array.all_eq_true_iff_forall_mem.1 hd1) v (by simpa using hv))
  rw [List.take_zero, List.nil_append, Array.toArray_toList] at hst
  obtain ⟨W2, hW2⟩ : ∃ W2, (A.alloc (.cells #[.int .i64 0, .int .u64 0, .int .u64 0, .int .u64 0, .int .u64 0, .int .u64 0, .int .u64 0, .int .u64 0, .int .u64 0, .int .u64 0, .int .u64 0, .int .u64 0, .string ⟨#[]⟩, .int .u64 0, .int .u64 0, .int .u64 0, .int .u64 0, .string ⟨#[]⟩, .slice none 0 0, .slice none 0 0, .int .u64 0, .int .u64 0, .int .u64 0, .int .u64 0, .int .u64 0, .int .u64 0, .int .u64 0, .int .u64 0, .int .u64 0, .string ⟨#[]⟩, .string ⟨#[]⟩, .int .u64 0, .int .u64 0, .int .u64 0, .int .u64 0, .bool false, .int .u64 0] 185)).setRow A.heap.size d = W2 := ⟨_, rfl⟩
  have p2 : W2.heap[A.heap.size]? = some (.cells d 185 (0, 0)) := by rw [← hW2]; exact setRow_heap _ _ _ _ _ _ hnew
  have q2 : W2.heap[w.heap.size + 1]? = some (.cells z 185 (0, 0)) := by rw [← hW2]; exact (setRow_other _ _ _ _ (by omega)).trans ((Below.heap_alloc _ _ _ (by omega)).trans qA)
  have r2 : W2.heap[w.heap.size]? = some (.cells c 92 (0, 0)) := by rw [← hW2]; exact (setRow_other _ _ _ _ (by omega)).trans ((Below.heap_alloc _ _ _ (by omega)).trans rA)
  have hb2 : Below w.heap.size w W2 := by rw [← hW2]; exact below_setRow_new (hbA.alloc hbA.size _) (by omega)
  rw [hW2] at hst
  obtain ⟨B, hB⟩ : ∃ B, A.heap.size = B := ⟨_, rfl⟩
  rw [hB] at hst p2 hzA
  clear hW2 hnew
  have HZA := Lib.hid hzA
  clear hzA
  refine wpE_then (n := 6) ?_
  gi_wp2_with (refine wpListIn_load_rowt rfl _ _ rfl _ rfl c hl1 ?_)
  clear hst hl1 hb hB rA qA
  have k2 : W2.cell? ⟨w.heap.size, 0, none⟩ = some (.int .i64 0) := by simp only [World.cell?, r2]; exact h0
  refine wpE_then (n := 6) ?_
  gi_wp2_with fail
  have y2 : W2.cell? ⟨w.heap.size, 20, none⟩ = some (.int .u64 0) := by simp only [World.cell?, r2]; exact h20
  have c2 : W2.cell? ⟨B, 36, none⟩ = some (.int .u64 0) := by simp only [World.cell?, p2]; exact g36
  have f2 : W2.frozen? ⟨B, 36, none⟩ = false := by simp [World.frozen?, p2]
  refine wpE_then (n := 6) ?_
  gi_wp2_with fail
  clear y2 c2 f2 k2
  have hBw : w.heap.size < B := by have := HZA.out; omega
  have hBn : w.heap.size + 1 ≠ B := by have := HZA.out; omega
  have e5 := setCell_eq_setRow W2 B 36 d 185 (0, 0) (.int .u64 27) p2
  obtain ⟨W5, hW5⟩ : ∃ W5, W2.setCell ⟨B, 36, none⟩ (.int .u64 27) = W5 := ⟨_, rfl⟩
  rw [hW5] at e5 ⊢
  have p5 : W5.heap[B]? = some (.cells (d.setIfInBounds 36 (.int .u64 27)) 185 (0, 0)) := by rw [e5]; exact setRow_heap _ _ _ _ _ _ p2
  have q5 : W5.heap[w.heap.size + 1]? = some (.cells z 185 (0, 0)) := by rw [e5]; exact (setRow_other _ _ _ _ hBn).trans q2
  have r5 : W5.heap[w.heap.size]? = some (.cells c 92 (0, 0)) := by rw [e5]; exact (setRow_other _ _ _ _ (by omega)).trans r2
  have hb5 : Below w.heap.size w W5 := by rw [e5]; exact below_setRow_new hb2 (by omega)
  clear e5 hW5 p2 q2 r2 hb2
  have y5 : W5.cell? ⟨w.heap.size, 1, none⟩ = some (.int .u64 0) := by simp only [World.cell?, r5]; exact h1
  refine wpE_then (n := 6) ?_
  gi_wp2_with fail
  clear y5
  have c5 : W5.cell? ⟨B, 1, none⟩ = some (.int .u64 0) := by simp only [World.cell?, p5]; simp [g1]
  have c6 : W5.cell? ⟨B, 20, none⟩ = some (.int .u64 0) := by simp only [World.cell?, p5]; simp [g20]
  have f5 : W5.frozen? ⟨B, 1, none⟩ = false := by simp [World.frozen?, p5]
  have f6 : W5.frozen? ⟨B, 20, none⟩ = false := by simp [World.frozen?, p5]
  refine wpE_then (n := 6) ?_
  gi_wp2_with fail
  clear c5 c6 f5 f6
  have e6 := setCell_eq_setRow W5 B 1 _ 185 (0, 0) (.int .u64 0) p5
  have p6 : (W5.setCell ⟨B, 1, none⟩ (.int .u64 0)).heap[B]? = some (.cells ((d.setIfInBounds 36 (.int .u64 27)).setIfInBounds 1 (.int .u64 0)) 185 (0, 0)) := by rw [e6]; exact setRow_heap _ _ _ _ _ _ p5
  have e7 := setCell_eq_setRow (W5.setCell ⟨B, 1, none⟩ (.int .u64 0)) B 20 _ 185 (0, 0) (.int .u64 0) p6
  obtain ⟨W7, hW7⟩ : ∃ W7, (W5.setCell ⟨B, 1, none⟩ (.int .u64 0)).setCell ⟨B, 20, none⟩ (.int .u64 0) = W7 := ⟨_, rfl⟩
  rw [hW7] at e7 ⊢
  have p7 : W7.heap[B]? = some (.cells e 185 (0, 0)) := by rw [e7, ← he]; exact setRow_heap _ _ _ _ _ _ p6
  have q7 : W7.heap[w.heap.size + 1]? = some (.cells z 185 (0, 0)) := by rw [e7, e6]; exact (setRow_other _ _ _ _ hBn).trans ((setRow_other _ _ _ _ hBn).trans q5)
  have hb7 : Below w.heap.size w W7 := by rw [e7, e6]; exact below_setRow_new (below_setRow_new hb5 (by omega)) (by omega)
  clear e6 e7 p6 hW7 p5 q5 r5 hb5 he hd1 g36 g1 g20 h0 h1 h20
  have hl8 := run_loadVar_row (P := Tryz.prog) W7 B 185 185 e (0, 0) _ p7 Tryz.underlying185 rfl (by rw [Tryz.wireSize, he1])
  have hst8 := run_storeCells_from (P := Tryz.prog) (w.heap.size + 1) 185 e.toList 0 _ _ q7 (by rw [Nat.zero_add, Array.length_toList, he1, hz37]) (fun v hv => (Array.all_eq_true_iff_forall_mem.1 he2) v (by simpa using hv))
  rw [List.take_zero, List.nil_append, Array.toArray_toList] at hst8
  have p8 := setRow_heap W7 (w.heap.size + 1) _ e 185 (0, 0) q7
  have hb8 : Below w.heap.size w (W7.setRow (w.heap.size + 1) e) := below_setRow_new hb7 (by omega)
  refine wpE_then (n := 6) ?_
  gi_wp2_with (refine wpListIn_load_rowt rfl _ _ rfl _ rfl e hl8 ?_)
  clear hst8 hl8
  refine WpE.of (n := 6) (wpIn_ret ?_)
  exact ⟨.agg e, results_cell_row (P := Tryz.prog) rfl _ _ (w.heap.size + 1) 185 e (0, 0) _ rfl p8 Tryz.underlying185 rfl (by rw [Tryz.wireSize, he1]), rfl, hb8⟩
end Go.Proofs.YtebjhbeaknokkaaGreatDoor
namespace Go.Proofs.YtebjhbeaknokkaaGreatDoor
open Go Go.RowKit Go.Lib Go.Shelf
attribute [local go_sem] Oper.semAt_some

theorem isAddr_none (w : World) : Calls Tryz.prog 169 #[.string ⟨#[]⟩] w fun e w' => e = .returned (.bool false) ∧ w = w' := by
  go_enter Tryz.func169, Tryz.ntmps169
  go_wp2_with fail
  go_ret
  exact ⟨rfl, rfl⟩
set_option maxRecDepth 100000 in
theorem indexA_nil (g : FuncId) (w : World) : Calls Tryz.prog 243 #[.slice none 0 0, .func (.func g) #[] #[]] w fun e w' => e = .returned (.int .i64 (-1)) ∧ w = w' := by
  go_enter Tryz.func243, Tryz.ntmps243
  go_wp2_with fail
  refine wp_loop_rounds 1 ?_
  rw [rounds_succ]
  go_wp2_with fail
  go_ret
  exact ⟨rfl, rfl⟩
theorem containsA_nil (g : FuncId) (w : World) : Calls Tryz.prog 170 #[.slice none 0 0, .func (.func g) #[] #[]] w fun e w' => e = .returned (.bool false) ∧ w = w' := by
  go_enter Tryz.func170, Tryz.ntmps170
  go_wp2_with fail
  refine (indexA_nil g w).mono ?_
  rintro e w1 ⟨rfl, rfl⟩
  go_wp2_with fail
  go_ret
  exact ⟨rfl, rfl⟩
set_option maxRecDepth 100000 in
theorem indexU_nil (g : FuncId) (w : World) : Calls Tryz.prog 245 #[.slice none 0 0, .func (.func g) #[] #[]] w fun e w' => e = .returned (.int .i64 (-1)) ∧ w = w' := by
  go_enter Tryz.func245, Tryz.ntmps245
  go_wp2_with fail
  refine wp_loop_rounds 1 ?_
  rw [rounds_succ]
  go_wp2_with fail
  go_ret
  exact ⟨rfl, rfl⟩
theorem containsU_nil (g : FuncId) (w : World) : Calls Tryz.prog 172 #[.slice none 0 0, .func (.func g) #[] #[]] w fun e w' => e = .returned (.bool false) ∧ w = w' := by
  go_enter Tryz.func172, Tryz.ntmps172
  go_wp2_with fail
  refine (indexU_nil g w).mono ?_
  rintro e w1 ⟨rfl, rfl⟩
  go_wp2_with fail
  go_ret
  exact ⟨rfl, rfl⟩
set_option maxRecDepth 100000 in
set_option maxHeartbeats 4000000 in
theorem isTooLong_any (c : Array Value) (k : Int) (w : World) (_hc : c.size = 36) (h0 : c[0]? = some (.int .i64 (k))) (h1 : c[1]? = some (.int .u64 0)) (h12 : c[12]? = some (.string ⟨#[]⟩)) (h17 : c[17]? = some (.string ⟨#[]⟩)) (h18 : c[18]? = some (.slice none 0 0)) (h19 : c[19]? = some (.slice none 0 0)) (h20 : c[20]? = some (.int .u64 0)) (h29 : c[29]? = some (.string ⟨#[]⟩)) (h30 : c[30]? = some (.string ⟨#[]⟩)) :
    Calls Tryz.prog 94 #[.agg c] w fun e w' => (∃ b, e = .returned (.bool b)) ∧ Below w.heap.size w w' := by
  have r1 : (w.alloc (.cells c 92)).heap[w.heap.size]? = some (.cells c 92 (0, 0)) := heap_alloc_new _ _
  have hbW : Below w.heap.size w (w.alloc (.cells c 92)) := (Below.refl _ _).alloc (Nat.le_refl _) _
  obtain ⟨W, hW⟩ : ∃ W, (w.alloc (.cells c 92)) = W := ⟨_, rfl⟩
  rw [hW] at r1 hbW
  have HW := Lib.hid hW
  clear hW
  have k0 : W.cell? ⟨w.heap.size, 0, none⟩ = some (.int .i64 (k)) := by simp only [World.cell?, r1]; exact h0
  have k1 : W.cell? ⟨w.heap.size, 1, none⟩ = some (.int .u64 0) := by simp only [World.cell?, r1]; exact h1
  have k12 : W.cell? ⟨w.heap.size, 12, none⟩ = some (.string ⟨#[]⟩) := by simp only [World.cell?, r1]; exact h12
  have k17 : W.cell? ⟨w.heap.size, 17, none⟩ = some (.string ⟨#[]⟩) := by simp only [World.cell?, r1]; exact h17
  have k18 : W.cell? ⟨w.heap.size, 18, none⟩ = some (.slice none 0 0) := by simp only [World.cell?, r1]; exact h18
  have k19 : W.cell? ⟨w.heap.size, 19, none⟩ = some (.slice none 0 0) := by simp only [World.cell?, r1]; exact h19
  have k20 : W.cell? ⟨w.heap.size, 20, none⟩ = some (.int .u64 0) := by simp only [World.cell?, r1]; exact h20
  have k29 : W.cell? ⟨w.heap.size, 29, none⟩ = some (.string ⟨#[]⟩) := by simp only [World.cell?, r1]; exact h29
  have k30 : W.cell? ⟨w.heap.size, 30, none⟩ = some (.string ⟨#[]⟩) := by simp only [World.cell?, r1]; exact h30
  clear r1 h0 h1 h12 h17 h18 h19 h20 h29 h30
  have HA := Lib.hid isAddr_none
  have HC := Lib.hid containsA_nil
  have HU := Lib.hid containsU_nil
  refine calls_of_wpE (n := 6) Tryz.func94 rfl ?_
  simp only [Tryz.ntmps94, List.size_toArray, List.length_cons, List.length_nil, Nat.reduceAdd, Nat.reduceSub, Array.replicate_succ, Array.replicate_zero, List.push_toArray, List.append_toArray, List.nil_append, List.cons_append]
  refine wpE_then (n := 6) ?_
  gi_wp2_with fail
  rw [HW.out]
  refine wpE_then (n := 6) ?_
  gi_wp2_with (first | (refine ⟨trivial, (callsIn_wide.2 (HA.out _)).mono ?_⟩; rintro e w1 ⟨rfl, rfl⟩) | (refine ⟨trivial, (callsIn_wide.2 (HC.out _ _)).mono ?_⟩; rintro e w1 ⟨rfl, rfl⟩) | (refine ⟨trivial, (callsIn_wide.2 (HU.out _ _)).mono ?_⟩; rintro e w1 ⟨rfl, rfl⟩) | (refine And.intro trivial ?_))
  refine WpE.of (n := 6) (wpIn_ret ?_)
  refine ⟨.bool false, ?_, ⟨false, rfl⟩, hbW⟩
  simp [results, Tryz.f94, go_sem]
set_option maxRecDepth 100000 in
set_option maxHeartbeats 4000000 in
theorem isFormed_0 (c : Array Value) (w : World) (_hc : c.size = 36) (h0 : c[0]? = some (.int .i64 (0))) (h1 : c[1]? = some (.int .u64 0)) (h12 : c[12]? = some (.string ⟨#[]⟩)) (h17 : c[17]? = some (.string ⟨#[]⟩)) (h18 : c[18]? = some (.slice none 0 0)) (h19 : c[19]? = some (.slice none 0 0)) (h20 : c[20]? = some (.int .u64 0)) (h29 : c[29]? = some (.string ⟨#[]⟩)) (h30 : c[30]? = some (.string ⟨#[]⟩)) :
    Calls Tryz.prog 93 #[.agg c] w fun e w' => (∃ b, e = .returned (.bool b)) ∧ Below w.heap.size w w' := by
  have r1 : (w.alloc (.cells c 92)).heap[w.heap.size]? = some (.cells c 92 (0, 0)) := heap_alloc_new _ _
  have hbW : Below w.heap.size w (w.alloc (.cells c 92)) := (Below.refl _ _).alloc (Nat.le_refl _) _
  obtain ⟨W, hW⟩ : ∃ W, (w.alloc (.cells c 92)) = W := ⟨_, rfl⟩
  rw [hW] at r1 hbW
  have HW := Lib.hid hW
  clear hW
  have k0 : W.cell? ⟨w.heap.size, 0, none⟩ = some (.int .i64 (0)) := by simp only [World.cell?, r1]; exact h0
  have k1 : W.cell? ⟨w.heap.size, 1, none⟩ = some (.int .u64 0) := by simp only [World.cell?, r1]; exact h1
  have k12 : W.cell? ⟨w.heap.size, 12, none⟩ = some (.string ⟨#[]⟩) := by simp only [World.cell?, r1]; exact h12
  have k17 : W.cell? ⟨w.heap.size, 17, none⟩ = some (.string ⟨#[]⟩) := by simp only [World.cell?, r1]; exact h17
  have k18 : W.cell? ⟨w.heap.size, 18, none⟩ = some (.slice none 0 0) := by simp only [World.cell?, r1]; exact h18
  have k19 : W.cell? ⟨w.heap.size, 19, none⟩ = some (.slice none 0 0) := by simp only [World.cell?, r1]; exact h19
  have k20 : W.cell? ⟨w.heap.size, 20, none⟩ = some (.int .u64 0) := by simp only [World.cell?, r1]; exact h20
  have k29 : W.cell? ⟨w.heap.size, 29, none⟩ = some (.string ⟨#[]⟩) := by simp only [World.cell?, r1]; exact h29
  have k30 : W.cell? ⟨w.heap.size, 30, none⟩ = some (.string ⟨#[]⟩) := by simp only [World.cell?, r1]; exact h30
  clear r1 h0 h1 h12 h17 h18 h19 h20 h29 h30
  have HA := Lib.hid isAddr_none
  have HC := Lib.hid containsA_nil
  have HU := Lib.hid containsU_nil
  refine calls_of_wpE (n := 6) Tryz.func93 rfl ?_
  simp only [Tryz.ntmps93, List.size_toArray, List.length_cons, List.length_nil, Nat.reduceAdd, Nat.reduceSub, Array.replicate_succ, Array.replicate_zero, List.push_toArray, List.append_toArray, List.nil_append, List.cons_append]
  refine wpE_then (n := 6) ?_
  gi_wp2_with fail
  rw [HW.out]
  refine wpE_then (n := 6) ?_
  gi_wp2_with fail
  refine wpE_then (n := 6) ?_
  gi_wp2_with (first | (refine ⟨trivial, (callsIn_wide.2 (HA.out _)).mono ?_⟩; rintro e w1 ⟨rfl, rfl⟩) | (refine ⟨trivial, (callsIn_wide.2 (HC.out _ _)).mono ?_⟩; rintro e w1 ⟨rfl, rfl⟩) | (refine ⟨trivial, (callsIn_wide.2 (HU.out _ _)).mono ?_⟩; rintro e w1 ⟨rfl, rfl⟩) | (refine And.intro trivial ?_))
  refine wpE_then (n := 6) ?_
  gi_wp2_with (first | (refine ⟨trivial, (callsIn_wide.2 (HA.out _)).mono ?_⟩; rintro e w1 ⟨rfl, rfl⟩) | (refine ⟨trivial, (callsIn_wide.2 (HC.out _ _)).mono ?_⟩; rintro e w1 ⟨rfl, rfl⟩) | (refine ⟨trivial, (callsIn_wide.2 (HU.out _ _)).mono ?_⟩; rintro e w1 ⟨rfl, rfl⟩) | (refine And.intro trivial ?_))
  refine WpE.of (n := 6) (wpIn_ret ?_)
  refine ⟨.bool true, ?_, ⟨true, rfl⟩, hbW⟩
  simp [results, Tryz.f93, go_sem]
set_option maxRecDepth 100000 in
set_option maxHeartbeats 4000000 in
theorem isFormed_1 (c : Array Value) (w : World) (_hc : c.size = 36) (h0 : c[0]? = some (.int .i64 (1))) (h1 : c[1]? = some (.int .u64 0)) (h12 : c[12]? = some (.string ⟨#[]⟩)) (h17 : c[17]? = some (.string ⟨#[]⟩)) (h18 : c[18]? = some (.slice none 0 0)) (h19 : c[19]? = some (.slice none 0 0)) (h20 : c[20]? = some (.int .u64 0)) (h29 : c[29]? = some (.string ⟨#[]⟩)) (h30 : c[30]? = some (.string ⟨#[]⟩)) :
    Calls Tryz.prog 93 #[.agg c] w fun e w' => (∃ b, e = .returned (.bool b)) ∧ Below w.heap.size w w' := by
  have r1 : (w.alloc (.cells c 92)).heap[w.heap.size]? = some (.cells c 92 (0, 0)) := heap_alloc_new _ _
  have hbW : Below w.heap.size w (w.alloc (.cells c 92)) := (Below.refl _ _).alloc (Nat.le_refl _) _
  obtain ⟨W, hW⟩ : ∃ W, (w.alloc (.cells c 92)) = W := ⟨_, rfl⟩
  rw [hW] at r1 hbW
  have HW := Lib.hid hW
  clear hW
  have k0 : W.cell? ⟨w.heap.size, 0, none⟩ = some (.int .i64 (1)) := by simp only [World.cell?, r1]; exact h0
  have k1 : W.cell? ⟨w.heap.size, 1, none⟩ = some (.int .u64 0) := by simp only [World.cell?, r1]; exact h1
  have k12 : W.cell? ⟨w.heap.size, 12, none⟩ = some (.string ⟨#[]⟩) := by simp only [World.cell?, r1]; exact h12
  have k17 : W.cell? ⟨w.heap.size, 17, none⟩ = some (.string ⟨#[]⟩) := by simp only [World.cell?, r1]; exact h17
  have k18 : W.cell? ⟨w.heap.size, 18, none⟩ = some (.slice none 0 0) := by simp only [World.cell?, r1]; exact h18
  have k19 : W.cell? ⟨w.heap.size, 19, none⟩ = some (.slice none 0 0) := by simp only [World.cell?, r1]; exact h19
  have k20 : W.cell? ⟨w.heap.size, 20, none⟩ = some (.int .u64 0) := by simp only [World.cell?, r1]; exact h20
  have k29 : W.cell? ⟨w.heap.size, 29, none⟩ = some (.string ⟨#[]⟩) := by simp only [World.cell?, r1]; exact h29
  have k30 : W.cell? ⟨w.heap.size, 30, none⟩ = some (.string ⟨#[]⟩) := by simp only [World.cell?, r1]; exact h30
  clear r1 h0 h1 h12 h17 h18 h19 h20 h29 h30
  have HA := Lib.hid isAddr_none
  have HC := Lib.hid containsA_nil
  have HU := Lib.hid containsU_nil
  refine calls_of_wpE (n := 6) Tryz.func93 rfl ?_
  simp only [Tryz.ntmps93, List.size_toArray, List.length_cons, List.length_nil, Nat.reduceAdd, Nat.reduceSub, Array.replicate_succ, Array.replicate_zero, List.push_toArray, List.append_toArray, List.nil_append, List.cons_append]
  refine wpE_then (n := 6) ?_
  gi_wp2_with fail
  rw [HW.out]
  refine wpE_then (n := 6) ?_
  gi_wp2_with fail
  refine wpE_then (n := 6) ?_
  gi_wp2_with (first | (refine ⟨trivial, (callsIn_wide.2 (HA.out _)).mono ?_⟩; rintro e w1 ⟨rfl, rfl⟩) | (refine ⟨trivial, (callsIn_wide.2 (HC.out _ _)).mono ?_⟩; rintro e w1 ⟨rfl, rfl⟩) | (refine ⟨trivial, (callsIn_wide.2 (HU.out _ _)).mono ?_⟩; rintro e w1 ⟨rfl, rfl⟩) | (refine And.intro trivial ?_))
  refine wpE_then (n := 6) ?_
  gi_wp2_with (first | (refine ⟨trivial, (callsIn_wide.2 (HA.out _)).mono ?_⟩; rintro e w1 ⟨rfl, rfl⟩) | (refine ⟨trivial, (callsIn_wide.2 (HC.out _ _)).mono ?_⟩; rintro e w1 ⟨rfl, rfl⟩) | (refine ⟨trivial, (callsIn_wide.2 (HU.out _ _)).mono ?_⟩; rintro e w1 ⟨rfl, rfl⟩) | (refine And.intro trivial ?_))
  refine WpE.of (n := 6) (wpIn_ret ?_)
  refine ⟨.bool true, ?_, ⟨true, rfl⟩, hbW⟩
  simp [results, Tryz.f93, go_sem]
set_option maxRecDepth 100000 in
set_option maxHeartbeats 4000000 in
theorem isFormed_2 (c : Array Value) (w : World) (_hc : c.size = 36) (h0 : c[0]? = some (.int .i64 (2))) (h1 : c[1]? = some (.int .u64 0)) (h12 : c[12]? = some (.string ⟨#[]⟩)) (h17 : c[17]? = some (.string ⟨#[]⟩)) (h18 : c[18]? = some (.slice none 0 0)) (h19 : c[19]? = some (.slice none 0 0)) (h20 : c[20]? = some (.int .u64 0)) (h29 : c[29]? = some (.string ⟨#[]⟩)) (h30 : c[30]? = some (.string ⟨#[]⟩)) :
    Calls Tryz.prog 93 #[.agg c] w fun e w' => (∃ b, e = .returned (.bool b)) ∧ Below w.heap.size w w' := by
  have r1 : (w.alloc (.cells c 92)).heap[w.heap.size]? = some (.cells c 92 (0, 0)) := heap_alloc_new _ _
  have hbW : Below w.heap.size w (w.alloc (.cells c 92)) := (Below.refl _ _).alloc (Nat.le_refl _) _
  obtain ⟨W, hW⟩ : ∃ W, (w.alloc (.cells c 92)) = W := ⟨_, rfl⟩
  rw [hW] at r1 hbW
  have HW := Lib.hid hW
  clear hW
  have k0 : W.cell? ⟨w.heap.size, 0, none⟩ = some (.int .i64 (2)) := by simp only [World.cell?, r1]; exact h0
  have k1 : W.cell? ⟨w.heap.size, 1, none⟩ = some (.int .u64 0) := by simp only [World.cell?, r1]; exact h1
  have k12 : W.cell? ⟨w.heap.size, 12, none⟩ = some (.string ⟨#[]⟩) := by simp only [World.cell?, r1]; exact h12
  have k17 : W.cell? ⟨w.heap.size, 17, none⟩ = some (.string ⟨#[]⟩) := by simp only [World.cell?, r1]; exact h17
  have k18 : W.cell? ⟨w.heap.size, 18, none⟩ = some (.slice none 0 0) := by simp only [World.cell?, r1]; exact h18
  have k19 : W.cell? ⟨w.heap.size, 19, none⟩ = some (.slice none 0 0) := by simp only [World.cell?, r1]; exact h19
  have k20 : W.cell? ⟨w.heap.size, 20, none⟩ = some (.int .u64 0) := by simp only [World.cell?, r1]; exact h20
  have k29 : W.cell? ⟨w.heap.size, 29, none⟩ = some (.string ⟨#[]⟩) := by simp only [World.cell?, r1]; exact h29
  have k30 : W.cell? ⟨w.heap.size, 30, none⟩ = some (.string ⟨#[]⟩) := by simp only [World.cell?, r1]; exact h30
  clear r1 h0 h1 h12 h17 h18 h19 h20 h29 h30
  have HA := Lib.hid isAddr_none
  have HC := Lib.hid containsA_nil
  have HU := Lib.hid containsU_nil
  refine calls_of_wpE (n := 6) Tryz.func93 rfl ?_
  simp only [Tryz.ntmps93, List.size_toArray, List.length_cons, List.length_nil, Nat.reduceAdd, Nat.reduceSub, Array.replicate_succ, Array.replicate_zero, List.push_toArray, List.append_toArray, List.nil_append, List.cons_append]
  refine wpE_then (n := 6) ?_
  gi_wp2_with fail
  rw [HW.out]
  refine wpE_then (n := 6) ?_
  gi_wp2_with fail
  refine wpE_then (n := 6) ?_
  gi_wp2_with (first | (refine ⟨trivial, (callsIn_wide.2 (HA.out _)).mono ?_⟩; rintro e w1 ⟨rfl, rfl⟩) | (refine ⟨trivial, (callsIn_wide.2 (HC.out _ _)).mono ?_⟩; rintro e w1 ⟨rfl, rfl⟩) | (refine ⟨trivial, (callsIn_wide.2 (HU.out _ _)).mono ?_⟩; rintro e w1 ⟨rfl, rfl⟩) | (refine And.intro trivial ?_))
  refine wpE_then (n := 6) ?_
  gi_wp2_with (first | (refine ⟨trivial, (callsIn_wide.2 (HA.out _)).mono ?_⟩; rintro e w1 ⟨rfl, rfl⟩) | (refine ⟨trivial, (callsIn_wide.2 (HC.out _ _)).mono ?_⟩; rintro e w1 ⟨rfl, rfl⟩) | (refine ⟨trivial, (callsIn_wide.2 (HU.out _ _)).mono ?_⟩; rintro e w1 ⟨rfl, rfl⟩) | (refine And.intro trivial ?_))
  refine WpE.of (n := 6) (wpIn_ret ?_)
  refine ⟨.bool true, ?_, ⟨true, rfl⟩, hbW⟩
  simp [results, Tryz.f93, go_sem]
set_option maxRecDepth 100000 in
set_option maxHeartbeats 4000000 in
theorem isFormed_4 (c : Array Value) (w : World) (_hc : c.size = 36) (h0 : c[0]? = some (.int .i64 (4))) (h1 : c[1]? = some (.int .u64 0)) (h12 : c[12]? = some (.string ⟨#[]⟩)) (h17 : c[17]? = some (.string ⟨#[]⟩)) (h18 : c[18]? = some (.slice none 0 0)) (h19 : c[19]? = some (.slice none 0 0)) (h20 : c[20]? = some (.int .u64 0)) (h29 : c[29]? = some (.string ⟨#[]⟩)) (h30 : c[30]? = some (.string ⟨#[]⟩)) :
    Calls Tryz.prog 93 #[.agg c] w fun e w' => (∃ b, e = .returned (.bool b)) ∧ Below w.heap.size w w' := by
  have r1 : (w.alloc (.cells c 92)).heap[w.heap.size]? = some (.cells c 92 (0, 0)) := heap_alloc_new _ _
  have hbW : Below w.heap.size w (w.alloc (.cells c 92)) := (Below.refl _ _).alloc (Nat.le_refl _) _
  obtain ⟨W, hW⟩ : ∃ W, (w.alloc (.cells c 92)) = W := ⟨_, rfl⟩
  rw [hW] at r1 hbW
  have HW := Lib.hid hW
  clear hW
  have k0 : W.cell? ⟨w.heap.size, 0, none⟩ = some (.int .i64 (4)) := by simp only [World.cell?, r1]; exact h0
  have k1 : W.cell? ⟨w.heap.size, 1, none⟩ = some (.int .u64 0) := by simp only [World.cell?, r1]; exact h1
  have k12 : W.cell? ⟨w.heap.size, 12, none⟩ = some (.string ⟨#[]⟩) := by simp only [World.cell?, r1]; exact h12
  have k17 : W.cell? ⟨w.heap.size, 17, none⟩ = some (.string ⟨#[]⟩) := by simp only [World.cell?, r1]; exact h17
  have k18 : W.cell? ⟨w.heap.size, 18, none⟩ = some (.slice none 0 0) := by simp only [World.cell?, r1]; exact h18
  have k19 : W.cell? ⟨w.heap.size, 19, none⟩ = some (.slice none 0 0) := by simp only [World.cell?, r1]; exact h19
  have k20 : W.cell? ⟨w.heap.size, 20, none⟩ = some (.int .u64 0) := by simp only [World.cell?, r1]; exact h20
  have k29 : W.cell? ⟨w.heap.size, 29, none⟩ = some (.string ⟨#[]⟩) := by simp only [World.cell?, r1]; exact h29
  have k30 : W.cell? ⟨w.heap.size, 30, none⟩ = some (.string ⟨#[]⟩) := by simp only [World.cell?, r1]; exact h30
  clear r1 h0 h1 h12 h17 h18 h19 h20 h29 h30
  have HA := Lib.hid isAddr_none
  have HC := Lib.hid containsA_nil
  have HU := Lib.hid containsU_nil
  refine calls_of_wpE (n := 6) Tryz.func93 rfl ?_
  simp only [Tryz.ntmps93, List.size_toArray, List.length_cons, List.length_nil, Nat.reduceAdd, Nat.reduceSub, Array.replicate_succ, Array.replicate_zero, List.push_toArray, List.append_toArray, List.nil_append, List.cons_append]
  refine wpE_then (n := 6) ?_
  gi_wp2_with fail
  rw [HW.out]
  refine wpE_then (n := 6) ?_
  gi_wp2_with fail
  refine wpE_then (n := 6) ?_
  gi_wp2_with (first | (refine ⟨trivial, (callsIn_wide.2 (HA.out _)).mono ?_⟩; rintro e w1 ⟨rfl, rfl⟩) | (refine ⟨trivial, (callsIn_wide.2 (HC.out _ _)).mono ?_⟩; rintro e w1 ⟨rfl, rfl⟩) | (refine ⟨trivial, (callsIn_wide.2 (HU.out _ _)).mono ?_⟩; rintro e w1 ⟨rfl, rfl⟩) | (refine And.intro trivial ?_))
  refine wpE_then (n := 6) ?_
  gi_wp2_with (first | (refine ⟨trivial, (callsIn_wide.2 (HA.out _)).mono ?_⟩; rintro e w1 ⟨rfl, rfl⟩) | (refine ⟨trivial, (callsIn_wide.2 (HC.out _ _)).mono ?_⟩; rintro e w1 ⟨rfl, rfl⟩) | (refine ⟨trivial, (callsIn_wide.2 (HU.out _ _)).mono ?_⟩; rintro e w1 ⟨rfl, rfl⟩) | (refine And.intro trivial ?_))
  refine WpE.of (n := 6) (wpIn_ret ?_)
  refine ⟨.bool false, ?_, ⟨false, rfl⟩, hbW⟩
  simp [results, Tryz.f93, go_sem]
set_option maxRecDepth 100000 in
set_option maxHeartbeats 4000000 in
theorem isFormed_126 (c : Array Value) (w : World) (_hc : c.size = 36) (h0 : c[0]? = some (.int .i64 (126))) (h1 : c[1]? = some (.int .u64 0)) (h12 : c[12]? = some (.string ⟨#[]⟩)) (h17 : c[17]? = some (.string ⟨#[]⟩)) (h18 : c[18]? = some (.slice none 0 0)) (h19 : c[19]? = some (.slice none 0 0)) (h20 : c[20]? = some (.int .u64 0)) (h29 : c[29]? = some (.string ⟨#[]⟩)) (h30 : c[30]? = some (.string ⟨#[]⟩)) :
    Calls Tryz.prog 93 #[.agg c] w fun e w' => (∃ b, e = .returned (.bool b)) ∧ Below w.heap.size w w' := by
  have r1 : (w.alloc (.cells c 92)).heap[w.heap.size]? = some (.cells c 92 (0, 0)) := heap_alloc_new _ _
  have hbW : Below w.heap.size w (w.alloc (.cells c 92)) := (Below.refl _ _).alloc (Nat.le_refl _) _
  obtain ⟨W, hW⟩ : ∃ W, (w.alloc (.cells c 92)) = W := ⟨_, rfl⟩
  rw [hW] at r1 hbW
  have HW := Lib.hid hW
  clear hW
  have k0 : W.cell? ⟨w.heap.size, 0, none⟩ = some (.int .i64 (126)) := by simp only [World.cell?, r1]; exact h0
  have k1 : W.cell? ⟨w.heap.size, 1, none⟩ = some (.int .u64 0) := by simp only [World.cell?, r1]; exact h1
  have k12 : W.cell? ⟨w.heap.size, 12, none⟩ = some (.string ⟨#[]⟩) := by simp only [World.cell?, r1]; exact h12
  have k17 : W.cell? ⟨w.heap.size, 17, none⟩ = some (.string ⟨#[]⟩) := by simp only [World.cell?, r1]; exact h17
  have k18 : W.cell? ⟨w.heap.size, 18, none⟩ = some (.slice none 0 0) := by simp only [World.cell?, r1]; exact h18
  have k19 : W.cell? ⟨w.heap.size, 19, none⟩ = some (.slice none 0 0) := by simp only [World.cell?, r1]; exact h19
  have k20 : W.cell? ⟨w.heap.size, 20, none⟩ = some (.int .u64 0) := by simp only [World.cell?, r1]; exact h20
  have k29 : W.cell? ⟨w.heap.size, 29, none⟩ = some (.string ⟨#[]⟩) := by simp only [World.cell?, r1]; exact h29
  have k30 : W.cell? ⟨w.heap.size, 30, none⟩ = some (.string ⟨#[]⟩) := by simp only [World.cell?, r1]; exact h30
  clear r1 h0 h1 h12 h17 h18 h19 h20 h29 h30
  have HA := Lib.hid isAddr_none
  have HC := Lib.hid containsA_nil
  have HU := Lib.hid containsU_nil
  refine calls_of_wpE (n := 6) Tryz.func93 rfl ?_
  simp only [Tryz.ntmps93, List.size_toArray, List.length_cons, List.length_nil, Nat.reduceAdd, Nat.reduceSub, Array.replicate_succ, Array.replicate_zero, List.push_toArray, List.append_toArray, List.nil_append, List.cons_append]
  refine wpE_then (n := 6) ?_
  gi_wp2_with fail
  rw [HW.out]
  refine wpE_then (n := 6) ?_
  gi_wp2_with fail
  refine wpE_then (n := 6) ?_
  gi_wp2_with (first | (refine ⟨trivial, (callsIn_wide.2 (HA.out _)).mono ?_⟩; rintro e w1 ⟨rfl, rfl⟩) | (refine ⟨trivial, (callsIn_wide.2 (HC.out _ _)).mono ?_⟩; rintro e w1 ⟨rfl, rfl⟩) | (refine ⟨trivial, (callsIn_wide.2 (HU.out _ _)).mono ?_⟩; rintro e w1 ⟨rfl, rfl⟩) | (refine And.intro trivial ?_))
  refine wpE_then (n := 6) ?_
  gi_wp2_with (first | (refine ⟨trivial, (callsIn_wide.2 (HA.out _)).mono ?_⟩; rintro e w1 ⟨rfl, rfl⟩) | (refine ⟨trivial, (callsIn_wide.2 (HC.out _ _)).mono ?_⟩; rintro e w1 ⟨rfl, rfl⟩) | (refine ⟨trivial, (callsIn_wide.2 (HU.out _ _)).mono ?_⟩; rintro e w1 ⟨rfl, rfl⟩) | (refine And.intro trivial ?_))
  refine WpE.of (n := 6) (wpIn_ret ?_)
  refine ⟨.bool false, ?_, ⟨false, rfl⟩, hbW⟩
  simp [results, Tryz.f93, go_sem]
end Go.Proofs.YtebjhbeaknokkaaGreatDoor
