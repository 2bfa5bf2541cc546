/- The reference's Parse. -/
import Derived.Test.YtcnngpmganhjoaaDoorR4
namespace Go.Proofs.YtcnngpmganhjoaaDoor
open Go Go.RowKit

set_option maxHeartbeats 2000000 in
theorem rparse_ok (c : UInt8) (r : List UInt8) (w : World) (h : r.length + 1 ≤ 32) (hc : ¬ c = 0) :
    Calls Tryd.prog 22 #[.string ⟨(c :: r).toArray⟩] w fun e w' => e = .returned (.tuple #[wn (M.dg (c :: r)), .int .i64 0]) ∧ Below w.heap.size w w' := by
  obtain ⟨n, hn⟩ : ∃ n, n = 31 - r.length := ⟨_, rfl⟩
  have hn32 : n ≤ 32 := by omega
  have hmk : ∀ w : World, (Instr.makeSlice 39 (.int .i64 (32 - ((r.length : Int) + 1))) (.int .i64 (32 - ((r.length : Int) + 1)))).run Tryd.prog w = .ok (.slice (some ⟨w.heap.size, 0, none⟩) n n) (w.alloc (.cells (Array.replicate n (.int .u8 0)) 5)) := fun w => by
    have := make_any n hn32 w
    rw [List.toArray_replicate] at this
    rw [show (n : Int) = 32 - ((r.length : Int) + 1) by omega] at this
    exact this
  have hcv : (convert 39 9 (.slice (some ⟨w.heap.size + 1, 0, none⟩) n n)).run Tryd.prog ((w.alloc (.cells #[.int .u64 0, .int .u64 0, .int .u64 0, .int .u64 0] 24)).alloc (.cells (Array.replicate n (.int .u8 0)) 5)) = .ok (.string ⟨(List.replicate n (0 : UInt8)).toArray⟩) ((w.alloc (.cells #[.int .u64 0, .int .u64 0, .int .u64 0, .int .u64 0] 24)).alloc (.cells (Array.replicate n (.int .u8 0)) 5)) := by
    have := zeros_any n (w.alloc (.cells #[.int .u64 0, .int .u64 0, .int .u64 0, .int .u64 0] 24))
    rw [World.size_alloc, List.toArray_replicate] at this
    exact this
  have HN := Lib.hid hn
  clear hn
  have hcb := head_zero c r hc
  have hz1 : (List.replicate n (0 : UInt8)).length ≤ 32 := by simpa using hn32
  have HZ := Lib.hid (rfl : List.replicate n (0 : UInt8) = List.replicate n (0 : UInt8))
  generalize hzs : List.replicate n (0 : UInt8) = zs at *
  have HS := Lib.hid hzs
  clear hzs HZ
  have hno : ¬ 9223372036854775807 < zs.length + (r.length + 1) := by omega
  go_enter Tryd.func22, Tryd.ntmps22
  go_wp2_with fail
  clear hmk hcv
  rw [cat_eq]
  refine (runfixed_any (zs ++ (c :: r)) _ (by rw [← HS.out]; have := HN.out; simp; omega)).mono ?_
  rintro e w3 ⟨rfl, hb3⟩
  rw [show M.dg (zs ++ (c :: r)) = M.dg (c :: r) from by rw [← HS.out]; exact M.dg_zeros _ _]
  have hb4 := Below.trans ((Below.refl (w.alloc (Obj.cells #[.int .u64 0, .int .u64 0, .int .u64 0, .int .u64 0] 24)).heap.size (w.alloc (Obj.cells #[.int .u64 0, .int .u64 0, .int .u64 0, .int .u64 0] 24))).alloc (Nat.le_refl _) (Obj.cells (Array.replicate n (Value.int .u8 0)) 5)) (hb3.mono (by simp))
  clear hb3
  obtain ⟨hce, hfr⟩ := bcell hb4
  go_wp2_with fail
  refine bodyPost_ret (v := .tuple #[wn (M.dg (c :: r)), .int .i64 0]) (by simp [results, Tryd.results22, go_sem, hce]) rfl ⟨rfl, ?_⟩
  refine Below.setCell (Below.setCell (Below.setCell (Below.setCell (Below.trans ?_ (hb4.mono (by first | omega | (simp; omega) | simp))) (by first | omega | (simp; omega) | simp) _) (by first | omega | (simp; omega) | simp) _) (by first | omega | (simp; omega) | simp) _) (by first | omega | (simp; omega) | simp) _
  (repeat (first | exact Below.refl _ _ | refine Below.drew ?_ | refine Below.alloc ?_ (by first | omega | (simp; omega) | simp) _ | refine Below.setCell ?_ (by first | omega | (simp; omega) | simp) _))

set_option maxHeartbeats 2000000 in
theorem rparse_none (w : World) :
    Calls Tryd.prog 22 #[.string ⟨#[]⟩] w fun e w' => e = .returned (.tuple #[wn (M.dg ([])), .int .i64 0]) ∧ Below w.heap.size w w' := by
  obtain ⟨n, hn⟩ : ∃ n, n = 32 := ⟨_, rfl⟩
  have hn32 : n ≤ 32 := by omega
  have hmk : ∀ w : World, (Instr.makeSlice 39 (.int .i64 (32)) (.int .i64 (32))).run Tryd.prog w = .ok (.slice (some ⟨w.heap.size, 0, none⟩) n n) (w.alloc (.cells (Array.replicate n (.int .u8 0)) 5)) := fun w => by
    have := make_any n hn32 w
    rw [List.toArray_replicate] at this
    rw [show (n : Int) = 32 by omega] at this
    exact this
  have hcv : (convert 39 9 (.slice (some ⟨w.heap.size + 1, 0, none⟩) n n)).run Tryd.prog ((w.alloc (.cells #[.int .u64 0, .int .u64 0, .int .u64 0, .int .u64 0] 24)).alloc (.cells (Array.replicate n (.int .u8 0)) 5)) = .ok (.string ⟨(List.replicate n (0 : UInt8)).toArray⟩) ((w.alloc (.cells #[.int .u64 0, .int .u64 0, .int .u64 0, .int .u64 0] 24)).alloc (.cells (Array.replicate n (.int .u8 0)) 5)) := by
    have := zeros_any n (w.alloc (.cells #[.int .u64 0, .int .u64 0, .int .u64 0, .int .u64 0] 24))
    rw [World.size_alloc, List.toArray_replicate] at this
    exact this
  have HN := Lib.hid hn
  clear hn
  have hz1 : (List.replicate n (0 : UInt8)).length ≤ 32 := by simpa using hn32
  have HZ := Lib.hid (rfl : List.replicate n (0 : UInt8) = List.replicate n (0 : UInt8))
  generalize hzs : List.replicate n (0 : UInt8) = zs at *
  have HS := Lib.hid hzs
  clear hzs HZ
  have hno : ¬ 9223372036854775807 < zs.length + 0 := by omega
  go_enter Tryd.func22, Tryd.ntmps22
  go_wp2_with fail
  clear hmk hcv
  rw [show ((⟨zs.toArray⟩ : ByteArray) ++ (⟨#[]⟩ : ByteArray)) = ⟨(zs ++ []).toArray⟩ from cat_eq zs []]
  refine (runfixed_any (zs ++ ([])) _ (by rw [← HS.out]; have := HN.out; simp; omega)).mono ?_
  rintro e w3 ⟨rfl, hb3⟩
  rw [show M.dg (zs ++ ([])) = M.dg ([]) from by rw [← HS.out]; exact M.dg_zeros _ _]
  have hb4 := Below.trans ((Below.refl (w.alloc (Obj.cells #[.int .u64 0, .int .u64 0, .int .u64 0, .int .u64 0] 24)).heap.size (w.alloc (Obj.cells #[.int .u64 0, .int .u64 0, .int .u64 0, .int .u64 0] 24))).alloc (Nat.le_refl _) (Obj.cells (Array.replicate n (Value.int .u8 0)) 5)) (hb3.mono (by simp))
  clear hb3
  obtain ⟨hce, hfr⟩ := bcell hb4
  go_wp2_with fail
  refine bodyPost_ret (v := .tuple #[wn (M.dg ([])), .int .i64 0]) (by simp [results, Tryd.results22, go_sem, hce]) rfl ⟨rfl, ?_⟩
  refine Below.setCell (Below.setCell (Below.setCell (Below.setCell (Below.trans ?_ (hb4.mono (by first | omega | (simp; omega) | simp))) (by first | omega | (simp; omega) | simp) _) (by first | omega | (simp; omega) | simp) _) (by first | omega | (simp; omega) | simp) _) (by first | omega | (simp; omega) | simp) _
  (repeat (first | exact Below.refl _ _ | refine Below.drew ?_ | refine Below.alloc ?_ (by first | omega | (simp; omega) | simp) _ | refine Below.setCell ?_ (by first | omega | (simp; omega) | simp) _))
end Go.Proofs.YtcnngpmganhjoaaDoor
