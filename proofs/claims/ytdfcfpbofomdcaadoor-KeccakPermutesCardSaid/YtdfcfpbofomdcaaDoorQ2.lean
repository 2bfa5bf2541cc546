/- Rows of bytes as blocks of memory; a string of them. -/
import Derived.Test.YtdfcfpbofomdcaaDoorQ1
import Derived.Deep.OwnRows
import Derived.Laws.BytesArg
import Derived.Laws.IdiomStrings
import Derived.Deep.Cut
namespace Go.Proofs.YtdfcfpbofomdcaaDoor
open Go Go.RowKit

theorem Tryd.infoByte : (Tryd.prog.info? 5).map (fun i => (i.zero, i.size, i.bytes)) = some (some (.int .u8 0), 1, 1) := by kernel_rfl

/-- Bytes as cells. -/
def bv (l : List UInt8) : Array Value := (l.map fun (c : UInt8) => Value.int .u8 (c.toNat : Int)).toArray
theorem bv_get {l : List UInt8} {i : Nat} (h : i < l.length) : (bv l)[i]? = some (.int .u8 (((l.getD i 0).toNat : Nat) : Int)) := by
  simp [bv, h]
theorem bv_set (l : List UInt8) (i : Nat) (c : UInt8) : (bv l).setIfInBounds i (.int .u8 (c.toNat : Int)) = bv (l.set i c) := by
  simp [bv, List.map_set]
/-- A block that is just these bytes. -/
def Br (W : World) (b : Nat) (l : List UInt8) : Prop := W.heap[b]? = some (.cells (bv l) 5 (0, 0))
section
variable {W W' : World} {b : Nat} {l : List UInt8}
theorem Br.lt (h : Br W b l) : b < W.heap.size := (Array.getElem?_eq_some_iff.1 h).1
theorem Br.cell (h : Br W b l) {i : Nat} (hi : i < l.length) : W.cell? ⟨b, i, none⟩ = some (.int .u8 (((l.getD i 0).toNat : Nat) : Int)) := (cell_of_row W b i _ _ (0, 0) h).trans (bv_get hi)
theorem Br.frozen (h : Br W b l) (i : Nat) : W.frozen? ⟨b, i, none⟩ = false := frozen_of_row W b i _ _ h
theorem Br.at_ (W : World) (l : List UInt8) {k : Nat} (h : W.heap.size = k) : Br (W.alloc (.cells (bv l) 5)) k l := h ▸ heap_alloc_new W _
theorem Br.alloc (h : Br W b l) (o : Obj) : Br (W.alloc o) b l := (Below.heap_alloc W o b h.lt).trans h
theorem Br.drew (h : Br W b l) : Br W.drew b l := h
theorem Br.set_ (h : Br W b l) (i : Nat) (c : UInt8) : Br (W.setCell ⟨b, i, none⟩ (.int .u8 (c.toNat : Int))) b (l.set i c) := by
  have := heap_setCell_same W b i _ 5 (.int .u8 (c.toNat : Int)) h
  rw [bv_set] at this
  exact this
theorem Br.far (h : Br W b l) {p : Addr} (hp : b ≠ p.block) (u : Value) : Br (W.setCell p u) b l := (Below.heap_setCell W p u b hp).trans h
theorem Br.below {B : Nat} (h : Br W b l) (hb : Below B W W') (hl : b < B) : Br W' b l := (hb.block b hl).trans h
theorem Br.keep (h : Br W b l) (hb : Below W.heap.size W W') : Br W' b l := h.below hb h.lt
theorem Br.rowFar (h : Br W b l) {g : Nat} (hp : b ≠ g) (c : Array Value) : Br (W.setRow g c) b l := (setRow_other W g b c hp).trans h
theorem Br.conv (h : Br W b l) {n : Nat} (hn : n = l.length) (cap : Nat) : (convert 38 9 (.slice (some ⟨b, 0, none⟩) n cap)).run Tryd.prog W = .ok (.string ⟨l.toArray⟩) W := by
  subst hn
  refine run_convert_bytes_back W 38 9 5 ⟨b, 0, none⟩ cap l Tryd.underlying38 Tryd.underlying5 Tryd.underlying9 ?_
  intro j hj
  have := h.cell hj
  rw [List.getD_eq_getElem?_getD, List.getElem?_eq_getElem hj, Option.getD_some] at this
  by_cases h0 : j = 0
  · subst h0
    simpa [Addr.add] using this
  · simpa [Addr.add, h0] using this
end
/-- Zeros, m of them. -/
def zb (m : Nat) : List UInt8 := List.replicate m 0
theorem zb_length (m : Nat) : (zb m).length = m := by simp [zb]
theorem made_zb (m : Nat) : madeCells #[.int .u8 0] m = bv (zb m) := by
  apply Array.ext_getElem?
  intro i
  rcases Nat.lt_or_ge i m with h | h
  · rw [bv_get (by rw [zb_length]; exact h)]
    simp [madeCells, h, Nat.mod_one, zb]
  · simp [madeCells, bv, zb, h]
theorem make_zb (m : Nat) (hm : m ≤ 1000) (w : World) : (Instr.makeSlice 38 (.int .i64 (m : Int)) (.int .i64 (m : Int))).run Tryd.prog w = .ok (.slice (some ⟨w.heap.size, 0, none⟩) m m) (w.alloc (.cells (bv (zb m)) 5)) := by
  rw [← made_zb]
  exact run_make_row' (P := Tryd.prog) 38 5 (.int .u8 0) 1 Tryd.underlying38 Tryd.infoByte rfl .i64 .i64 m (by omega) (by omega) w
end Go.Proofs.YtdfcfpbofomdcaaDoor
