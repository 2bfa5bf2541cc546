/- Four cells of a block: what a word in memory is. -/
import Derived.Test.YtmlkccbhdhgoeaaDoorW0g
import Derived.Deep.DeepCutAuto
import Derived.Laws.IdiomStrings
namespace Go.Proofs.YtmlkccbhdhgoeaaDoor
open Go Go.RowKit

/-- Four cells of a block that lies in a world. -/
structure W4 (W : World) (b : Nat) (a0 a1 a2 a3 : Int) : Prop where
  c0 : W.cell? ⟨b, 0, none⟩ = some (.int .u64 a0)
  c1 : W.cell? ⟨b, 1, none⟩ = some (.int .u64 a1)
  c2 : W.cell? ⟨b, 2, none⟩ = some (.int .u64 a2)
  c3 : W.cell? ⟨b, 3, none⟩ = some (.int .u64 a3)
  lt : b < W.heap.size

theorem W4.below {W W' : World} {b : Nat} {a0 a1 a2 a3 : Int} (h : W4 W b a0 a1 a2 a3) (hb : Below W.heap.size W W') : W4 W' b a0 a1 a2 a3 :=
  ⟨(hb.cell (p := ⟨b, 0, none⟩) h.lt).trans h.c0, (hb.cell (p := ⟨b, 1, none⟩) h.lt).trans h.c1, (hb.cell (p := ⟨b, 2, none⟩) h.lt).trans h.c2, (hb.cell (p := ⟨b, 3, none⟩) h.lt).trans h.c3, Nat.lt_of_lt_of_le h.lt hb.size⟩

theorem W4.new (W : World) (a0 a1 a2 a3 : Int) (t : Nat) : W4 (W.alloc (.cells #[.int .u64 a0, .int .u64 a1, .int .u64 a2, .int .u64 a3] t)) W.heap.size a0 a1 a2 a3 :=
  ⟨by simp [go_sem], by simp [go_sem], by simp [go_sem], by simp [go_sem], by simp⟩

theorem W4.put {W : World} {b : Nat} {x0 x1 x2 x3 a0 a1 a2 a3 : Int} (h : W4 W b x0 x1 x2 x3) : W4 ((((W.setCell ⟨b, 0, none⟩ (.int .u64 a0)).setCell ⟨b, 1, none⟩ (.int .u64 a1)).setCell ⟨b, 2, none⟩ (.int .u64 a2)).setCell ⟨b, 3, none⟩ (.int .u64 a3)) b a0 a1 a2 a3 := by
  obtain ⟨c0, c1, c2, c3, lt⟩ := h
  have d0 : (W.setCell ⟨b, 0, none⟩ (.int .u64 a0)).cell? ⟨b, 0, none⟩ = some (.int .u64 a0) := by simp [go_sem, c0]
  have d1 : (W.setCell ⟨b, 0, none⟩ (.int .u64 a0)).cell? ⟨b, 1, none⟩ = some (.int .u64 x1) := by simp [go_sem, c1]
  have d2 : (W.setCell ⟨b, 0, none⟩ (.int .u64 a0)).cell? ⟨b, 2, none⟩ = some (.int .u64 x2) := by simp [go_sem, c2]
  have d3 : (W.setCell ⟨b, 0, none⟩ (.int .u64 a0)).cell? ⟨b, 3, none⟩ = some (.int .u64 x3) := by simp [go_sem, c3]
  have l1 : b < (W.setCell ⟨b, 0, none⟩ (.int .u64 a0)).heap.size := by simpa using lt
  generalize W.setCell ⟨b, 0, none⟩ (.int .u64 a0) = W1 at *
  have e0 : (W1.setCell ⟨b, 1, none⟩ (.int .u64 a1)).cell? ⟨b, 0, none⟩ = some (.int .u64 a0) := by simp [go_sem, d0]
  have e1 : (W1.setCell ⟨b, 1, none⟩ (.int .u64 a1)).cell? ⟨b, 1, none⟩ = some (.int .u64 a1) := by simp [go_sem, d1]
  have e2 : (W1.setCell ⟨b, 1, none⟩ (.int .u64 a1)).cell? ⟨b, 2, none⟩ = some (.int .u64 x2) := by simp [go_sem, d2]
  have e3 : (W1.setCell ⟨b, 1, none⟩ (.int .u64 a1)).cell? ⟨b, 3, none⟩ = some (.int .u64 x3) := by simp [go_sem, d3]
  have l2 : b < (W1.setCell ⟨b, 1, none⟩ (.int .u64 a1)).heap.size := by simpa using l1
  generalize W1.setCell ⟨b, 1, none⟩ (.int .u64 a1) = W2 at *
  have f0 : (W2.setCell ⟨b, 2, none⟩ (.int .u64 a2)).cell? ⟨b, 0, none⟩ = some (.int .u64 a0) := by simp [go_sem, e0]
  have f1 : (W2.setCell ⟨b, 2, none⟩ (.int .u64 a2)).cell? ⟨b, 1, none⟩ = some (.int .u64 a1) := by simp [go_sem, e1]
  have f2 : (W2.setCell ⟨b, 2, none⟩ (.int .u64 a2)).cell? ⟨b, 2, none⟩ = some (.int .u64 a2) := by simp [go_sem, e2]
  have f3 : (W2.setCell ⟨b, 2, none⟩ (.int .u64 a2)).cell? ⟨b, 3, none⟩ = some (.int .u64 x3) := by simp [go_sem, e3]
  have l3 : b < (W2.setCell ⟨b, 2, none⟩ (.int .u64 a2)).heap.size := by simpa using l2
  generalize W2.setCell ⟨b, 2, none⟩ (.int .u64 a2) = W3 at *
  exact ⟨by simp [go_sem, f0], by simp [go_sem, f1], by simp [go_sem, f2], by simp [go_sem, f3], by simpa using l3⟩

end Go.Proofs.YtmlkccbhdhgoeaaDoor
