/- keccak.Permute. -/
import Derived.Test.YtdfcfpbofomdcaaDoorQ12
import Derived.Test.YtdfcfpbofomdcaaDoorQ13
namespace Go.Proofs.YtdfcfpbofomdcaaDoor
open Go Go.RowKit

set_option maxRecDepth 100000 in
set_option maxHeartbeats 8000000 in
theorem kperm (a : List Nat) (w : World) (ha : M.Lanes a) (hT : Tab w) :
    Calls Tryd.prog 10 #[st a] w fun e w' => e = .returned (st (M.permL a)) ∧ Below w.heap.size w w' := by
  have HA := Lib.hid ha
  have HT := Lib.hid hT
  clear ha hT
  have mixed : Tryd.prog.follows .mixedOrders = true := by kernel_rfl
  go_enter Tryd.func10, Tryd.ntmps10
  go_wp2_with fail
  go_loopw [4] (fun i wr => ∃ k : Nat, k ≤ 24 ∧ i = .int .i64 (k : Int) ∧ Rw wr w.heap.size 23 (permP a k) ∧ Rw wr (w.heap.size + 1) 23 z25 ∧ Below w.heap.size w wr)
    (fun i _ => 24 - (intOf i).toNat)
  case atStart =>
    rw [lv_zero]
    refine ⟨0, by omega, rfl, (Rw.new _ _ _).alloc _, Rw.at_ _ _ _ (by simp), ?_⟩
    (repeat (first | exact Below.refl _ _ | refine Below.drew ?_ | refine Below.alloc ?_ (by first | omega | (simp; omega) | simp) _ | refine Below.setCell ?_ (by first | omega | (simp; omega) | simp) _))
  case round =>
    obtain ⟨i, hk, rfl, hA, hR, hW⟩ := hrel
    have HL := permP_lanes HA.out i hk
    by_cases hlt : i < 24
    · have L := Lib.hid HL
      have Ls := Lib.hid HL.1
      have HN := Lib.hid (permP_succ a hlt)
      have HI := Lib.hid hlt
      have hlt' : (i : Int) < 24 := by omega
      generalize permP a i = s at *
      clear HL
      go_wp2_with (first | (refine wpList_load_st rfl _ _ rfl _ rfl _ _ 25 22 hA Tryd.array25 Tryd.size25 Ls.out ?_))
      refine (callsIn_wide.1 (cols_in s _ L.out)).mono ?_
      rintro e w1 ⟨rfl, hb1⟩
      go_wp2_with fail
      have hT1 := HT.out.from (hW.trans (hb1.mono hW.size))
      refine (callsIn_wide.1 (move_in _ _ (M.mix_lanes L.out) hT1)).mono ?_
      rintro e w2 ⟨rfl, hb2⟩
      clear hT1
      go_wp2_with fail
      refine (callsIn_wide.1 (rows_in _ _ (M.move_lanes (M.turn_lanes _)))).mono ?_
      rintro e w3 ⟨rfl, hb3⟩
      replace hA := ((hA.keep hb1).keep hb2).keep hb3
      replace hR := ((hR.keep hb1).keep hb2).keep hb3
      replace hW := ((hW.trans (hb1.mono hW.size)).trans (hb2.mono (Nat.le_trans hW.size hb1.size))).trans (hb3.mono (Nat.le_trans (Nat.le_trans hW.size hb1.size) hb2.size))
      clear hb1 hb2 hb3
      have LC := Lib.hid (M.chi_lanes (M.move_lanes (M.turn_lanes (M.mixL s))))
      have HB : Hid (M.rndL (M.gl M.rcs i) s = M.iotaL (M.gl M.rcs i) (M.chiL (M.moveL (M.turnL (M.mixL s))))) := rfl
      have HS := Lib.hid (iota_set (M.chi_lanes (M.move_lanes (M.turn_lanes (M.mixL s)))).1 (M.gl M.rcs i))
      generalize M.chiL (M.moveL (M.turnL (M.mixL s))) = c at *
      go_wp2_with (refine wpList_store_st rfl _ _ _ rfl _ _ rfl rfl _ _ 25 hA Tryd.size25 LC.out.1 Ls.out ?_)
      have hT2 := HT.out.from hW
      replace hA := hA.row c
      replace hR := hR.rowFar (show w.heap.size + 1 ≠ w.heap.size by omega) (lv c)
      replace hW := below_setRow hW (Nat.le_refl w.heap.size) (lv c)
      have hT3 := HT.out.from hW
      have cn := hT3.rc i HI.out
      clear hT2 hT3
      generalize w3.setRow w.heap.size (lv c) = w4 at *
      have ca := hA.cell (i := 0) (by rw [LC.out.1]; omega)
      have fa := hA.frozen 0
      have x0 := bits_xor_u64_nat _ _ (LC.out.2 0) (rc_lt i)
      go_wp2_with fail
      simp only [Act.put]
      go_still_tail 7, mixed
      change wpList _ _ _ _ _ w4.drew
      go_wp2_with fail
      go_roundw
      case rel =>
        refine ⟨i + 1, by omega, by go_num, ?_, ?_, ?_⟩
        · rw [HN.out, HB.out, ← HS.out]; exact (hA.set_ _ _).drew
        · exact (hR.far (by simp) _).drew
        · exact (hW.setCell (by simp) _).drew
      case measure => simp [intOf]; omega
    · obtain rfl : i = 24 := by omega
      rw [permP_all] at hA
      have L25 := (M.perm_lanes HA.out).1
      go_wp2_with (first | (refine wpList_load_st rfl _ _ rfl _ rfl _ _ 25 22 hA Tryd.array25 Tryd.size25 L25 ?_) | (refine wpList_store_st rfl _ _ _ rfl _ _ rfl rfl _ _ 25 hR Tryd.size25 L25 z25_length ?_))
      exact bodyPost_ret (v := st (M.permL a)) (res_row rfl _ _ _ _ _ rfl (hR.row _) L25) rfl ⟨rfl, below_setRow hW (by omega) _⟩
end Go.Proofs.YtdfcfpbofomdcaaDoor
