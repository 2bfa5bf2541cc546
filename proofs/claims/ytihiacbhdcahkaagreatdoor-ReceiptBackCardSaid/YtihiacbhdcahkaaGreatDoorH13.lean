/- The reference's items of layer 6: a number, a word, bytes, yes or no, a list. word.Parse, of any bytes. strings.Clone: the same bytes. The landed package field: what is read of an item's bytes. The landed package field: a word read of an item's bytes. -/
import Derived.Test.YtihiacbhdcahkaaGreatDoorH10
import Derived.Test.YtihiacbhdcahkaaGreatDoorH12
import Derived.Test.YtihiacbhdcahkaaGreatDoorH02
import Derived.Laws.Rows
import Derived.Test.YtihiacbhdcahkaaGreatDoorH09
import Derived.Lib.BufferWrite
import Derived.Lib.UnsafeStr
import Derived.Lib.Hide
import Derived.Laws.MakeOwn
namespace Go.Proofs.YtihiacbhdcahkaaGreatDoor
open Go Go.RowKit

/-- The result's cells, for the walk. -/
structure Cells3 (w : World) (g : Nat) : Prop where
  i0 : ∃ v, w.cell? ⟨g, 0, none⟩ = some v
  i1 : ∃ v, w.cell? ⟨g, 1, none⟩ = some v
  i2 : ∃ v, w.cell? ⟨g, 2, none⟩ = some v
  f0 : w.frozen? ⟨g, 0, none⟩ = false
  f1 : w.frozen? ⟨g, 1, none⟩ = false
  f2 : w.frozen? ⟨g, 2, none⟩ = false
theorem cells_three {w : World} {g : Nat} {o0 o1 o2 : Value} {t : TypeId} (h : w.heap[g]? = some (.cells #[o0, o1, o2] t (0, 0))) : Cells3 w g := by
  constructor <;> simp [World.cell?, World.frozen?, h]
theorem set_three {w : World} {g : Nat} {o0 o1 o2 : Value} {t : TypeId} (h : w.heap[g]? = some (.cells #[o0, o1, o2] t (0, 0))) (a b c : Value) :
    ((w.setCell ⟨g, 0, none⟩ a).setCell ⟨g, 1, none⟩ b).setCell ⟨g, 2, none⟩ c = w.setRow g #[a, b, c] := by
  have e1 := setCell_eq_setRow w g 0 #[o0, o1, o2] t (0, 0) a h
  have h1 := setRow_heap w g #[o0, o1, o2] (#[o0, o1, o2].setIfInBounds 0 a) t (0, 0) h
  have e2 := setCell_eq_setRow (w.setRow g (#[o0, o1, o2].setIfInBounds 0 a)) g 1 _ t (0, 0) b h1
  have h2 := setRow_heap _ g _ ((#[o0, o1, o2].setIfInBounds 0 a).setIfInBounds 1 b) t (0, 0) h1
  have e3 := setCell_eq_setRow _ g 2 _ t (0, 0) c h2
  rw [e1, e2, e3, setRow_setRow, setRow_setRow]
  rfl
theorem Tryz.itemSize : (Tryz.prog.info? 45).map (·.size) = some 3 := by kernel_rfl

/-- The function's end: the item is stored into the result's cells, and handed back. -/
theorem rf_post {fn : Func} (hres : fn.results = #[.cell 2 45]) (w w1 : World) (tmps : Array Value) (l : Bool) (d : List UInt8) (v : Value) (g : Nat) (hg : w.heap.size ≤ g) (hB : Below w.heap.size w w1) (o0 o1 o2 : Value)
    (hrow : w1.heap[g]? = some (.cells #[o0, o1, o2] 45 (0, 0))) (R : Ending → World → Prop) (hp : tmps.getD 2 undef = .pointer (some ⟨g, 0, none⟩))
    (h : ∀ Z, Below w.heap.size w Z → Z.heap.size = w1.heap.size → (∀ b, b ≠ g → Z.heap[b]? = w1.heap[b]?) → R (.returned (iv l d v)) Z) :
    bodyPost Tryz.prog fn R .ret { tmps := tmps, defers := [] } (((w1.setCell ⟨g, 0, none⟩ (.bool l)).setCell ⟨g, 1, none⟩ (.string ⟨d.toArray⟩)).setCell ⟨g, 2, none⟩ v) := by
  rw [set_three hrow]
  have hz : (w1.setRow g #[.bool l, .string ⟨d.toArray⟩, v]).heap.size = w1.heap.size := by simp
  have ho : ∀ b, b ≠ g → (w1.setRow g #[.bool l, .string ⟨d.toArray⟩, v]).heap[b]? = w1.heap[b]? := fun b hb => setRow_other _ _ _ _ (fun e => hb (by simpa using e))
  have hb2 : Below w.heap.size w1 (w1.setRow g #[.bool l, .string ⟨d.toArray⟩, v]) := ⟨rfl, rfl, rfl, by omega, fun b hb => ho b (by omega)⟩
  have := results_cell_row (P := Tryz.prog) hres tmps (w1.setRow g #[.bool l, .string ⟨d.toArray⟩, v]) g 45 #[.bool l, .string ⟨d.toArray⟩, v] (0, 0) _ hp (setRow_heap _ _ _ _ _ (0, 0) hrow) Tryz.underlying45 rfl Tryz.itemSize
  exact bodyPost_ret this rfl (h _ (hB.trans hb2) hz ho)

end Go.Proofs.YtihiacbhdcahkaaGreatDoor
namespace Go.Proofs.YtihiacbhdcahkaaGreatDoor
open Go Go.RowKit

end Go.Proofs.YtihiacbhdcahkaaGreatDoor
namespace Go.Proofs.YtihiacbhdcahkaaGreatDoor
open Go Go.RowKit

theorem Tryz.ofByte : (Tryz.prog.info? 5).map (fun i => (i.zero, i.size, i.bytes)) = some (some (.int .u8 0), 1, 1) := by kernel_rfl

set_option maxRecDepth 100000 in
set_option maxHeartbeats 4000000 in
theorem lite_any (d : List UInt8) (w : World) (hd : d.length ≤ 281474976710656) : Calls Tryz.prog 121 #[.string ⟨d.toArray⟩] w fun e w' => e = .returned (.string ⟨d.toArray⟩) ∧ Below w.heap.size w w' := by
  have hz : (⟨d.toArray⟩ : ByteArray).size = d.length := rfl
  by_cases h0 : d.length = 0
  · obtain rfl := List.eq_nil_of_length_eq_zero h0
    go_enter Tryz.func121, Tryz.ntmps121
    go_wp2_with fail
    go_ret
    exact ⟨rfl, Below.refl _ _⟩
  · obtain ⟨i0, hi, hz0, hz1, hz2⟩ := info_parts Tryz.ofByte
    have hinfo : (Tryz.prog.info? 5).map (·.size) = some 1 := by rw [hi]; simp [hz1]
    have hco : Tryz.prog.cellsOf 5 = 1 := by simp [Program.cellsOf, hi, hz1]
    obtain ⟨m, hm⟩ : ∃ m, m = madeCells (Value.int .u8 0).cells (((d.length : Nat) : Int).toNat * i0.size) := ⟨_, rfl⟩
    have hms : m.size = d.length := by rw [hm, size_madeCells, hz1]; simp
    have hmk : ∀ W : World, (Instr.makeSlice 76 (.int .i64 (d.length : Int)) (.int .i64 (d.length : Int))).run Tryz.prog W = .ok (.slice (some ⟨W.heap.size, 0, none⟩) d.length d.length) (W.alloc (.cells m 5)) := fun W => by
      have h := run_make (P := Tryz.prog) W 76 5 i0 (.int .u8 0) Tryz.underlying76 hi hz0 .i64 .i64 (d.length : Int) (d.length : Int) (by omega) (by omega) (by rw [hz2]; omega) (by omega)
      rw [← hm] at h
      simpa using h
    clear hm
    have hcp := Lib.run_copy_row_string (P := Tryz.prog) (w.alloc (.cells m 5)) 76 9 3 5 w.heap.size 0 d.length d.length ⟨d.toArray⟩ m 5 Tryz.underlying76 hinfo (heap_alloc_new w _) (by rw [hz]; omega) (by rw [hz]; omega)
    obtain ⟨Y, hY⟩ : ∃ Y, Y = (m.toList.take 0 ++ Lib.byteCells (⟨d.toArray⟩ : ByteArray).data.toList ++ m.toList.drop (0 + (⟨d.toArray⟩ : ByteArray).size)).toArray := ⟨_, rfl⟩
    rw [← hY, hz] at hcp
    have hYl : Y.toList = Lib.byteCells d := by
      rw [hY, List.toList_toArray, List.take_zero, List.nil_append, List.drop_of_length_le (by rw [Array.length_toList, hz]; omega), List.append_nil]
    have hYs : Y.size = d.length := by rw [← Array.length_toList, hYl, Lib.byteCells_length]
    have hgY : ((w.alloc (.cells m 5)).setRow w.heap.size Y).heap[w.heap.size]? = some (.cells Y 5 (0, 0)) := setRow_heap _ _ m _ 5 (0, 0) (heap_alloc_new w _)
    have hne : d ≠ [] := fun e => h0 (by rw [e]; rfl)
    have hus := Lib.run_unsafeString_row (P := Tryz.prog) ((w.alloc (.cells m 5)).setRow w.heap.size Y) 119 3 9 5 Tryz.underlying119 hco w.heap.size Y.size (by unfold World.shape?; rw [hgY]) d hne (by omega) (by omega)
      (fun j x hx => Lib.cells_of_row hgY Y.size j _ (by rw [List.take_of_length_le (by rw [Array.length_toList]; exact Nat.le_refl _), hYl]; simp [Lib.byteCells, hx]))
    clear hY
    have hb1 : Below w.heap.size w (w.alloc (.cells m 5)) := (Below.refl _ w).alloc (Nat.le_refl _) _
    have hb2 : Below w.heap.size (w.alloc (.cells m 5)) ((w.alloc (.cells m 5)).setRow w.heap.size Y) := ⟨rfl, rfl, rfl, by simp, fun k hk => setRow_other _ _ _ _ (by omega)⟩
    go_enter Tryz.func121, Tryz.ntmps121
    go_wp2_with fail
    go_ret
    exact ⟨rfl, Lib.below_freeze (hb1.trans hb2) (p := ⟨w.heap.size, 0, none⟩) (Nat.le_refl _) _⟩

set_option maxRecDepth 100000 in
theorem clone_any (d : List UInt8) (w : World) (hd : d.length ≤ 281474976710656) : Calls Tryz.prog 78 #[.string ⟨d.toArray⟩] w fun e w' => e = .returned (.string ⟨d.toArray⟩) ∧ Below w.heap.size w w' := by
  go_enter Tryz.func78, Tryz.ntmps78
  go_wp2_with (refine (lite_any d _ hd).mono ?_; rintro e W' ⟨rfl, hb⟩)
  go_ret
  exact ⟨rfl, hb⟩
end Go.Proofs.YtihiacbhdcahkaaGreatDoor
namespace Go.Proofs.YtihiacbhdcahkaaGreatDoor
open Go Go.RowKit

set_option maxRecDepth 100000 in
set_option maxHeartbeats 4000000 in
theorem ofnum_any (l : Bool) (d : List UInt8) (xs : List M.It) (a : Option Addr) (cap : Nat) (hf : l = false → xs = []) (w : World) :
    Calls Tryz.prog 107 #[iv l d (.slice a xs.length cap), .func (.func 108) #[] #[]] w fun e w' => e = .returned (.tuple #[.int .u64 ((M.getNumber (.mk l d xs)).1 : Nat), .int .i64 ((M.getNumber (.mk l d xs)).2 : Nat)]) ∧ Below w.heap.size w w' := by
  have HU := Lib.hid (fun W => unbe_any d W)
  have E1 : ∀ args w, (callFunc 108 args).run Tryz.prog w = .ok (.enter 108 args) w := enters_of Tryz.func108 (by kernel_rfl) rfl
  have hb0 : Below w.heap.size w (w.alloc (.cells #[.bool l, .string ⟨d.toArray⟩, .slice a xs.length cap] 45)) := by (repeat (first | exact Below.refl _ _ | refine Below.drew ?_ | refine Below.alloc ?_ (by first | omega | (simp; omega) | simp) _ | refine Below.setCell ?_ (by first | omega | (simp; omega) | simp) _))
  cases l with
  | true =>
    go_enter Tryz.func107, Tryz.ntmps107
    go_wp2_with fail
    go_ret2
    exact ⟨rfl, hb0⟩
  | false =>
    obtain rfl := hf rfl
    go_enter Tryz.func107, Tryz.ntmps107
    go_wp2_with fail
    refine (HU.out _).mono ?_
    rintro e w1 ⟨rfl, hb1⟩
    go_wp2_with fail
    go_ret2
    exact ⟨rfl, hb0.trans (hb1.mono (by simp))⟩

/-- Bytes read of an item, by whatever function: it may have captured something. -/
theorem ofstr_any (g : FuncId) (caps : Array Value) (E1 : ∀ args w, (callFunc g args).run Tryz.prog w = .ok (.enter g args) w) (l : Bool) (d : List UInt8) (xs : List M.It) (a : Option Addr) (cap : Nat) (hf : l = false → xs = []) (r : List UInt8 × Nat) (w : World)
    (hr : l = true → r = ([], 2)) (H : l = false → ∀ W, Below w.heap.size w W → Calls Tryz.prog g (#[.string ⟨d.toArray⟩] ++ caps) W fun e w' => e = .returned (.tuple #[.string ⟨r.1.toArray⟩, .int .i64 (r.2 : Nat)]) ∧ Below W.heap.size W w') :
    Calls Tryz.prog 256 #[iv l d (.slice a xs.length cap), .func (.func g) #[] caps] w fun e w' => e = .returned (.tuple #[.string ⟨r.1.toArray⟩, .int .i64 (r.2 : Nat)]) ∧ Below w.heap.size w w' := by
  have hb0 : Below w.heap.size w (w.alloc (.cells #[.bool l, .string ⟨d.toArray⟩, .slice a xs.length cap] 45)) := by (repeat (first | exact Below.refl _ _ | refine Below.drew ?_ | refine Below.alloc ?_ (by first | omega | (simp; omega) | simp) _ | refine Below.setCell ?_ (by first | omega | (simp; omega) | simp) _))
  cases l with
  | true =>
    obtain rfl := hr rfl
    clear H
    go_enter Tryz.func256, Tryz.ntmps256
    go_wp2_with fail
    go_ret2
    exact ⟨rfl, hb0⟩
  | false =>
    obtain rfl := hf rfl
    have HU := Lib.hid (H rfl)
    clear H
    go_enter Tryz.func256, Tryz.ntmps256
    go_wp2_with fail
    refine (HU.out _ hb0).mono ?_
    rintro e w1 ⟨rfl, hb1⟩
    go_wp2_with fail
    go_ret2
    exact ⟨rfl, hb0.trans (hb1.mono (by simp))⟩

theorem ofbool_any (g : FuncId) (E1 : ∀ args w, (callFunc g args).run Tryz.prog w = .ok (.enter g args) w) (l : Bool) (d : List UInt8) (xs : List M.It) (a : Option Addr) (cap : Nat) (hf : l = false → xs = []) (r : Bool × Nat) (w : World)
    (hr : l = true → r = (false, 2)) (H : l = false → ∀ W, Calls Tryz.prog g #[.string ⟨d.toArray⟩] W fun e w' => e = .returned (.tuple #[.bool r.1, .int .i64 (r.2 : Nat)]) ∧ Below W.heap.size W w') :
    Calls Tryz.prog 105 #[iv l d (.slice a xs.length cap), .func (.func g) #[] #[]] w fun e w' => e = .returned (.tuple #[.bool r.1, .int .i64 (r.2 : Nat)]) ∧ Below w.heap.size w w' := by
  have hb0 : Below w.heap.size w (w.alloc (.cells #[.bool l, .string ⟨d.toArray⟩, .slice a xs.length cap] 45)) := by (repeat (first | exact Below.refl _ _ | refine Below.drew ?_ | refine Below.alloc ?_ (by first | omega | (simp; omega) | simp) _ | refine Below.setCell ?_ (by first | omega | (simp; omega) | simp) _))
  cases l with
  | true =>
    obtain rfl := hr rfl
    clear H
    go_enter Tryz.func105, Tryz.ntmps105
    go_wp2_with fail
    go_ret2
    exact ⟨rfl, hb0⟩
  | false =>
    obtain rfl := hf rfl
    have HU := Lib.hid (H rfl)
    clear H
    go_enter Tryz.func105, Tryz.ntmps105
    go_wp2_with fail
    refine (HU.out _).mono ?_
    rintro e w1 ⟨rfl, hb1⟩
    go_wp2_with fail
    go_ret2
    exact ⟨rfl, hb0.trans (hb1.mono (by simp))⟩
end Go.Proofs.YtihiacbhdcahkaaGreatDoor
namespace Go.Proofs.YtihiacbhdcahkaaGreatDoor
open Go Go.RowKit

end Go.Proofs.YtihiacbhdcahkaaGreatDoor
