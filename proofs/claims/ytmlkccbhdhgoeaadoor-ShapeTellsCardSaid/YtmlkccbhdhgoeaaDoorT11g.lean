/- The reference's In: the type of an item. -/
import Derived.Test.YtmlkccbhdhgoeaaDoorT1g
import Derived.Laws.Rows
namespace Go.Proofs.YtmlkccbhdhgoeaaDoor
open Go Go.RowKit

theorem Tryd.typeSize : (Tryd.prog.info? 24).map (·.size) = some 3 := by kernel_rfl
/-- The result is a type in the newest block. -/
theorem ty_new {fn : Func} {s : Tmp} (hres : fn.results = #[.cell s 24]) (w W : World) (tmps : Array Value) (k m : Int) (v : Value) (R : Ending → World → Prop) (hp : tmps.getD s undef = .pointer (some ⟨W.heap.size, 0, none⟩)) (hb : Below w.heap.size w W)
    (h : ∀ Z, Below w.heap.size w Z → R (.returned (tv k m v)) Z) :
    bodyPost Tryd.prog fn R .ret { tmps := tmps, defers := [] } (W.alloc (.cells #[.int .i64 k, .int .i64 m, v] 24)) := by
  have := results_cell_row (P := Tryd.prog) hres tmps (W.alloc (.cells #[.int .i64 k, .int .i64 m, v] 24)) W.heap.size 24 #[.int .i64 k, .int .i64 m, v] (0, 0) _ hp (heap_alloc_new W _) Tryd.underlying24 rfl Tryd.typeSize
  exact bodyPost_ret this rfl (h _ (hb.alloc hb.size _))

set_option maxRecDepth 100000 in
set_option maxHeartbeats 4000000 in
theorem tin_any (k n : Int) (t c b o : Nat) (N : Nat) (ub uv : Value) (p : Int) (i j : Nat) (k' m' : Int) (au : Option Addr) (ul cu : Nat) (w : World) (hj : j < t) (hb : b < w.heap.size) (_ht : t ≤ 4000)
    (hi : (k = 7 ∧ i = j) ∨ (k ≠ 7 ∧ k = 8 ∧ p = j) ∨ (k ≠ 7 ∧ k ≠ 8 ∧ j = 0))
    (e0 : w.cell? ⟨b, o + j * 3, none⟩ = some (.int .i64 k')) (e1 : w.cell? ⟨b, o + j * 3 + 1, none⟩ = some (.int .i64 m')) (e2 : w.cell? ⟨b, o + j * 3 + 2, none⟩ = some (.slice au ul cu)) :
    Calls Tryd.prog 68 #[tv k n (.slice (some ⟨b, o, none⟩) t c), vv N ub uv p, .int .i64 i] w fun e w' => e = .returned (tv k' m' (.slice au ul cu)) ∧ Below w.heap.size w w' := by
  have hb0 : ∀ o o', Below w.heap.size w ((w.alloc o).alloc o') := fun o o' => ((Below.refl _ w).alloc (Nat.le_refl _) o).alloc (by simp) o'
  have hb3 : ∀ o1 o2 o3, Below w.heap.size w (((w.alloc o1).alloc o2).alloc o3) := fun o1 o2 o3 => (hb0 o1 o2).alloc (by simp; omega) o3
  have g0 := fun o1 o2 o3 => ((hb3 o1 o2 o3).cell (p := ⟨b, o + j * 3, none⟩) hb).trans e0
  have g1 := fun o1 o2 o3 => ((hb3 o1 o2 o3).cell (p := ⟨b, o + j * 3 + 1, none⟩) hb).trans e1
  have g2 := fun o1 o2 o3 => ((hb3 o1 o2 o3).cell (p := ⟨b, o + j * 3 + 2, none⟩) hb).trans e2
  clear e0 e1 e2 hb3
  rcases hi with ⟨h7, rfl⟩ | ⟨h7, h8, rfl⟩ | ⟨h7, h8, rfl⟩
  · subst h7
    go_enter Tryd.func68, Tryd.ntmps68
    go_wp2_with fail
    refine ty_new rfl w _ _ k' m' (.slice au ul cu) _ ?_ (hb0 _ _) (fun Z hZ => ⟨rfl, hZ⟩)
    simp
  · subst h8
    go_enter Tryd.func68, Tryd.ntmps68
    go_wp2_with fail
    refine ty_new rfl w _ _ k' m' (.slice au ul cu) _ ?_ (hb0 _ _) (fun Z hZ => ⟨rfl, hZ⟩)
    simp
  · have b7 : (k == 7) = false := by simpa using h7
    have b8 : (k == 8) = false := by simpa using h8
    simp only [Nat.zero_mul, Nat.add_zero] at g0 g1 g2
    go_enter Tryd.func68, Tryd.ntmps68
    go_wp2_with fail
    refine ty_new rfl w _ _ k' m' (.slice au ul cu) _ ?_ (hb0 _ _) (fun Z hZ => ⟨rfl, hZ⟩)
    simp
end Go.Proofs.YtmlkccbhdhgoeaaDoor
