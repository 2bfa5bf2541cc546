/- The reference's move: lanes to other places. -/
import Derived.Test.YtdfcfpbofomdcaaDoorQ1
namespace Go.Proofs.YtdfcfpbofomdcaaDoor
open Go Go.RowKit

def mvI (i : Nat) : Nat := i / 5 + 5 * ((2 * (i % 5) + 3 * (i / 5)) % 5)
def mvP (a : List Nat) (k : Nat) : List Nat := (List.range k).foldl (fun b i => b.set (mvI i) (M.gl a i)) z25
theorem mvP_succ (a : List Nat) (k : Nat) : mvP a (k + 1) = (mvP a k).set (mvI k) (M.gl a k) := by simp [mvP, List.range_succ]
theorem mvP_length (a : List Nat) (k : Nat) : (mvP a k).length = 25 := by
  induction k with
  | zero => rfl
  | succ k ih => rw [mvP_succ, List.length_set, ih]
theorem mvP_all (a : List Nat) : mvP a 25 = M.moveL a := by kernel_rfl

set_option maxRecDepth 100000 in
set_option maxHeartbeats 2000000 in
theorem rmove (a : List Nat) (w : World) (ha : a.length = 25) :
    Calls Tryd.prog 15 #[st a] w fun e w' => e = .returned (st (M.moveL a)) ∧ Below w.heap.size w w' := by
  have HA := Lib.hid ha
  clear ha
  go_enter Tryd.func15, Tryd.ntmps15
  go_wp2_with fail
  go_loopw [4] (fun i wr => ∃ k : Nat, k ≤ 25 ∧ i = .int .i64 (k : Int) ∧ Rw wr w.heap.size 23 a ∧ Rw wr (w.heap.size + 1 + 1) 23 (mvP a k) ∧ Rw wr (w.heap.size + 1) 23 z25 ∧ Below w.heap.size w wr)
    (fun i _ => 25 - (intOf i).toNat)
  case atStart =>
    rw [lv_zero]
    refine ⟨0, by omega, rfl, ((Rw.new _ _ _).alloc _).alloc _, Rw.at_ _ _ _ (by simp), (Rw.at_ _ _ _ (by simp)).alloc _, ?_⟩
    (repeat (first | exact Below.refl _ _ | refine Below.drew ?_ | refine Below.alloc ?_ (by first | omega | (simp; omega) | simp) _ | refine Below.setCell ?_ (by first | omega | (simp; omega) | simp) _))
  case round =>
    obtain ⟨k, hk, rfl, hA, hB, hR, hW⟩ := hrel
    by_cases hlt : k < 25
    · have ca := hA.cell (i := k) (by rw [HA.out]; exact hlt)
      obtain ⟨cb, hcb⟩ : ∃ v, wr.cell? ⟨w.heap.size + 1 + 1, mvI k, none⟩ = some v := ⟨_, hB.cell (by rw [mvP_length]; unfold mvI; omega)⟩
      have fb := hB.frozen (mvI k)
      have hI : ((k : Int) / 5 + 5 * ((2 * ((k : Int) % 5) + 3 * ((k : Int) / 5)) % 5)) = ((mvI k : Nat) : Int) := by unfold mvI; omega
      have hI2 : mvI k < 25 := by unfold mvI; omega
      go_wp2_with fail
      go_roundw
      case rel => exact ⟨k + 1, by omega, by go_num, hA.far (by simp; omega) _, by rw [mvP_succ]; exact hB.set_ _ _, hR.far (by simp) _, hW.setCell (by simp; omega) _⟩
      case measure => simp [intOf]; omega
    · obtain rfl : k = 25 := by omega
      rw [mvP_all] at hB
      go_wp2_with (first | (refine wpList_load_st rfl _ _ rfl _ rfl _ _ 25 22 hB Tryd.array25 Tryd.size25 (M.of_length _) ?_) | (refine wpList_store_st rfl _ _ _ rfl _ _ rfl rfl _ _ 25 hR Tryd.size25 (M.of_length _) z25_length ?_))
      exact bodyPost_ret (v := st (M.moveL a)) (res_row rfl _ _ _ _ _ rfl (hR.row _) (M.of_length _)) rfl ⟨rfl, below_setRow hW (by omega) _⟩
end Go.Proofs.YtdfcfpbofomdcaaDoor
