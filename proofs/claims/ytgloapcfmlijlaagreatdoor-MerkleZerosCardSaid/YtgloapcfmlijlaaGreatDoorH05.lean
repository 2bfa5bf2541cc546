/- Four cells of a block: what a word in memory is. The reference's bytes of a word: Fixed, Bytes, Small. The reference's of. The reference's of: numbers; of all kinds. -/
import Derived.Test.YtgloapcfmlijlaaGreatDoorH03
import Derived.Deep.DeepCutAuto
import Derived.Laws.IdiomStrings
import Derived.Test.YtgloapcfmlijlaaGreatDoorH04
import Derived.Laws.BytesArg
import Derived.Maps.AppendAt
import Derived.Deep.RegionHeld3
namespace Go.Proofs.YtgloapcfmlijlaaGreatDoor
open Go Go.RowKit

/-- Four cells of a block that lies in a world. -/
structure W4 (W : World) (b : Nat) (a0 a1 a2 a3 : Int) : Prop where
  c0 : W.cell? ⟨b, 0, none⟩ = some (.int .u64 a0)
  c1 : W.cell? ⟨b, 1, none⟩ = some (.int .u64 a1)
  c2 : W.cell? ⟨b, 2, none⟩ = some (.int .u64 a2)
  c3 : W.cell? ⟨b, 3, none⟩ = some (.int .u64 a3)
  lt : b < W.heap.size

theorem W4.below {W W' : World} {b : Nat} {a0 a1 a2 a3 : Int} (h : W4 W b a0 a1 a2 a3) (hb : Below W.heap.size W W') : W4 W' b a0 a1 a2 a3 :=
  ⟨(hb.cell (p := ⟨b, 0, none⟩) h.lt).trans h.c0, (hb.cell (p := ⟨b, 1, none⟩) h.lt).trans h.c1, (hb.cell (p := ⟨b, 2, none⟩) h.lt).trans h.c2, (hb.cell (p := ⟨b, 3, none⟩) h.lt).trans h.c3, Nat.lt_of_lt_of_le h.lt hb.size⟩

theorem W4.new (W : World) (a0 a1 a2 a3 : Int) (t : Nat) : W4 (W.alloc (.cells #[.int .u64 a0, .int .u64 a1, .int .u64 a2, .int .u64 a3] t)) W.heap.size a0 a1 a2 a3 :=
  ⟨by simp [go_sem], by simp [go_sem], by simp [go_sem], by simp [go_sem], by simp⟩

theorem W4.put {W : World} {b : Nat} {x0 x1 x2 x3 a0 a1 a2 a3 : Int} (h : W4 W b x0 x1 x2 x3) : W4 ((((W.setCell ⟨b, 0, none⟩ (.int .u64 a0)).setCell ⟨b, 1, none⟩ (.int .u64 a1)).setCell ⟨b, 2, none⟩ (.int .u64 a2)).setCell ⟨b, 3, none⟩ (.int .u64 a3)) b a0 a1 a2 a3 := by
  obtain ⟨c0, c1, c2, c3, lt⟩ := h
  have d0 : (W.setCell ⟨b, 0, none⟩ (.int .u64 a0)).cell? ⟨b, 0, none⟩ = some (.int .u64 a0) := by simp [go_sem, c0]
  have d1 : (W.setCell ⟨b, 0, none⟩ (.int .u64 a0)).cell? ⟨b, 1, none⟩ = some (.int .u64 x1) := by simp [go_sem, c1]
  have d2 : (W.setCell ⟨b, 0, none⟩ (.int .u64 a0)).cell? ⟨b, 2, none⟩ = some (.int .u64 x2) := by simp [go_sem, c2]
  have d3 : (W.setCell ⟨b, 0, none⟩ (.int .u64 a0)).cell? ⟨b, 3, none⟩ = some (.int .u64 x3) := by simp [go_sem, c3]
  have l1 : b < (W.setCell ⟨b, 0, none⟩ (.int .u64 a0)).heap.size := by simpa using lt
  generalize W.setCell ⟨b, 0, none⟩ (.int .u64 a0) = W1 at *
  have e0 : (W1.setCell ⟨b, 1, none⟩ (.int .u64 a1)).cell? ⟨b, 0, none⟩ = some (.int .u64 a0) := by simp [go_sem, d0]
  have e1 : (W1.setCell ⟨b, 1, none⟩ (.int .u64 a1)).cell? ⟨b, 1, none⟩ = some (.int .u64 a1) := by simp [go_sem, d1]
  have e2 : (W1.setCell ⟨b, 1, none⟩ (.int .u64 a1)).cell? ⟨b, 2, none⟩ = some (.int .u64 x2) := by simp [go_sem, d2]
  have e3 : (W1.setCell ⟨b, 1, none⟩ (.int .u64 a1)).cell? ⟨b, 3, none⟩ = some (.int .u64 x3) := by simp [go_sem, d3]
  have l2 : b < (W1.setCell ⟨b, 1, none⟩ (.int .u64 a1)).heap.size := by simpa using l1
  generalize W1.setCell ⟨b, 1, none⟩ (.int .u64 a1) = W2 at *
  have f0 : (W2.setCell ⟨b, 2, none⟩ (.int .u64 a2)).cell? ⟨b, 0, none⟩ = some (.int .u64 a0) := by simp [go_sem, e0]
  have f1 : (W2.setCell ⟨b, 2, none⟩ (.int .u64 a2)).cell? ⟨b, 1, none⟩ = some (.int .u64 a1) := by simp [go_sem, e1]
  have f2 : (W2.setCell ⟨b, 2, none⟩ (.int .u64 a2)).cell? ⟨b, 2, none⟩ = some (.int .u64 a2) := by simp [go_sem, e2]
  have f3 : (W2.setCell ⟨b, 2, none⟩ (.int .u64 a2)).cell? ⟨b, 3, none⟩ = some (.int .u64 x3) := by simp [go_sem, e3]
  have l3 : b < (W2.setCell ⟨b, 2, none⟩ (.int .u64 a2)).heap.size := by simpa using l2
  generalize W2.setCell ⟨b, 2, none⟩ (.int .u64 a2) = W3 at *
  exact ⟨by simp [go_sem, f0], by simp [go_sem, f1], by simp [go_sem, f2], by simp [go_sem, f3], by simpa using l3⟩

end Go.Proofs.YtgloapcfmlijlaaGreatDoor
namespace Go.Proofs.YtgloapcfmlijlaaGreatDoor
open Go Go.RowKit

/-- A row that is owned and not empty: where it lies, and its cells. -/
theorem row_cells {w : World} {B e n : Nat} {v : Value} {q : IntKind} {xs : List Int} (h : w.ownsRow B e 1 v n (xs.map (Value.int q))) (hn : 0 < n) :
    ∃ g cap, v = .slice (some ⟨g, 0, none⟩) n cap ∧ ∀ i, i < xs.length → w.cell? ⟨g, i, none⟩ = some (.int q (xs.getD i 0)) := by
  rcases h.2 with ⟨_, h0⟩ | ⟨g, cap, cur, rfl, _⟩
  · omega
  · refine ⟨g, cap, rfl, fun i hi => ?_⟩
    have := h.cells (g := g) rfl i (.int q (xs.getD i 0)) (by simp [List.getElem?_eq_getElem hi, List.getD])
    by_cases h0 : i = 0
    · subst h0
      simpa [Addr.add] using this
    · simpa [Addr.add, h0] using this

theorem Tryz.infoU8 : (Tryz.prog.info? 5).map (fun i => (i.zero, i.size, i.bytes)) = some (some (.int .u8 0), 1, 1) := by kernel_rfl

end Go.Proofs.YtgloapcfmlijlaaGreatDoor
namespace Go.Proofs.YtgloapcfmlijlaaGreatDoor
open Go Go.RowKit

end Go.Proofs.YtgloapcfmlijlaaGreatDoor
namespace Go.Proofs.YtgloapcfmlijlaaGreatDoor
open Go Go.RowKit

end Go.Proofs.YtgloapcfmlijlaaGreatDoor
