/- strings.Clone: the same bytes. -/
import Derived.Test.YtgeeoefcepjniaaC0
import Derived.Lib.BufferWrite
import Derived.Lib.UnsafeStr
import Derived.Lib.Hide
import Derived.Laws.MakeOwn
namespace Go.Proofs.Ytgeeoefcepjniaa
open Go Go.RowKit

theorem Try.ofByte : (Try.prog.info? 5).map (fun i => (i.zero, i.size, i.bytes)) = some (some (.int .u8 0), 1, 1) := by kernel_rfl

set_option maxRecDepth 100000 in
set_option maxHeartbeats 4000000 in
theorem lite_any (d : List UInt8) (w : World) (hd : d.length ≤ 281474976710656) : Calls Try.prog 32 #[.string ⟨d.toArray⟩] w fun e w' => e = .returned (.string ⟨d.toArray⟩) ∧ Below w.heap.size w w' := by
  have hz : (⟨d.toArray⟩ : ByteArray).size = d.length := rfl
  by_cases h0 : d.length = 0
  · obtain rfl := List.eq_nil_of_length_eq_zero h0
    go_enter Try.func32, Try.ntmps32
    go_wp2_with fail
    go_ret
    exact ⟨rfl, Below.refl _ _⟩
  · obtain ⟨i0, hi, hz0, hz1, hz2⟩ := info_parts Try.ofByte
    have hinfo : (Try.prog.info? 5).map (·.size) = some 1 := by rw [hi]; simp [hz1]
    have hco : Try.prog.cellsOf 5 = 1 := by simp [Program.cellsOf, hi, hz1]
    obtain ⟨m, hm⟩ : ∃ m, m = madeCells (Value.int .u8 0).cells (((d.length : Nat) : Int).toNat * i0.size) := ⟨_, rfl⟩
    have hms : m.size = d.length := by rw [hm, size_madeCells, hz1]; simp
    have hmk : ∀ W : World, (Instr.makeSlice 45 (.int .i64 (d.length : Int)) (.int .i64 (d.length : Int))).run Try.prog W = .ok (.slice (some ⟨W.heap.size, 0, none⟩) d.length d.length) (W.alloc (.cells m 5)) := fun W => by
      have h := run_make (P := Try.prog) W 45 5 i0 (.int .u8 0) Try.underlying45 hi hz0 .i64 .i64 (d.length : Int) (d.length : Int) (by omega) (by omega) (by rw [hz2]; omega) (by omega)
      rw [← hm] at h
      simpa using h
    clear hm
    have hcp := Lib.run_copy_row_string (P := Try.prog) (w.alloc (.cells m 5)) 45 9 3 5 w.heap.size 0 d.length d.length ⟨d.toArray⟩ m 5 Try.underlying45 hinfo (heap_alloc_new w _) (by rw [hz]; omega) (by rw [hz]; omega)
    obtain ⟨Y, hY⟩ : ∃ Y, Y = (m.toList.take 0 ++ Lib.byteCells (⟨d.toArray⟩ : ByteArray).data.toList ++ m.toList.drop (0 + (⟨d.toArray⟩ : ByteArray).size)).toArray := ⟨_, rfl⟩
    rw [← hY, hz] at hcp
    have hYl : Y.toList = Lib.byteCells d := by
      rw [hY, List.toList_toArray, List.take_zero, List.nil_append, List.drop_of_length_le (by rw [Array.length_toList, hz]; omega), List.append_nil]
    have hYs : Y.size = d.length := by rw [← Array.length_toList, hYl, Lib.byteCells_length]
    have hgY : ((w.alloc (.cells m 5)).setRow w.heap.size Y).heap[w.heap.size]? = some (.cells Y 5 (0, 0)) := setRow_heap _ _ m _ 5 (0, 0) (heap_alloc_new w _)
    have hne : d ≠ [] := fun e => h0 (by rw [e]; rfl)
    have hus := Lib.run_unsafeString_row (P := Try.prog) ((w.alloc (.cells m 5)).setRow w.heap.size Y) 60 3 9 5 Try.underlying60 hco w.heap.size Y.size (by unfold World.shape?; rw [hgY]) d hne (by omega) (by omega)
      (fun j x hx => Lib.cells_of_row hgY Y.size j _ (by rw [List.take_of_length_le (by rw [Array.length_toList]; exact Nat.le_refl _), hYl]; simp [Lib.byteCells, hx]))
    clear hY
    have hb1 : Below w.heap.size w (w.alloc (.cells m 5)) := (Below.refl _ w).alloc (Nat.le_refl _) _
    have hb2 : Below w.heap.size (w.alloc (.cells m 5)) ((w.alloc (.cells m 5)).setRow w.heap.size Y) := ⟨rfl, rfl, rfl, by simp, fun k hk => setRow_other _ _ _ _ (by omega)⟩
    go_enter Try.func32, Try.ntmps32
    go_wp2_with fail
    go_ret
    exact ⟨rfl, Lib.below_freeze (hb1.trans hb2) (p := ⟨w.heap.size, 0, none⟩) (Nat.le_refl _) _⟩

set_option maxRecDepth 100000 in
theorem clone_any (d : List UInt8) (w : World) (hd : d.length ≤ 281474976710656) : Calls Try.prog 30 #[.string ⟨d.toArray⟩] w fun e w' => e = .returned (.string ⟨d.toArray⟩) ∧ Below w.heap.size w w' := by
  go_enter Try.func30, Try.ntmps30
  go_wp2_with (refine (lite_any d _ hd).mono ?_; rintro e W' ⟨rfl, hb⟩)
  go_ret
  exact ⟨rfl, hb⟩
end Go.Proofs.Ytgeeoefcepjniaa
