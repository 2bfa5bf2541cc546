/- The reference's turn. -/
import Derived.Test.YtdfcfpbofomdcaaDoorQ5
namespace Go.Proofs.YtdfcfpbofomdcaaDoor
open Go Go.RowKit

/-- Where the t-th turn is. -/
def txy : Nat → Nat × Nat
  | 0 => (1, 0)
  | t + 1 => ((txy t).2, (2 * (txy t).1 + 3 * (txy t).2) % 5)
theorem txy_lt : ∀ t, (txy t).1 < 5 ∧ (txy t).2 < 5
  | 0 => by decide
  | t + 1 => ⟨(txy_lt t).2, Nat.mod_lt _ (by omega)⟩
def tp (t : Nat) : Nat := (txy t).1 + 5 * (txy t).2
theorem tp_lt (t : Nat) : tp t < 25 := by have := txy_lt t; unfold tp; omega
def trP (a : List Nat) (t : Nat) : List Nat := (List.range t).foldl (fun b t => b.set (tp t) (M.rotN (M.gl b (tp t)) ((t + 1) * (t + 2) / 2))) a
theorem trP_succ (a : List Nat) (t : Nat) : trP a (t + 1) = (trP a t).set (tp t) (M.rotN (M.gl (trP a t) (tp t)) ((t + 1) * (t + 2) / 2)) := by simp [trP, List.range_succ]
theorem trP_lanes {a : List Nat} (ha : M.Lanes a) (t : Nat) : M.Lanes (trP a t) := by
  induction t with
  | zero => exact ha
  | succ t ih =>
    rw [trP_succ]
    refine ⟨by rw [List.length_set]; exact ih.1, fun i => ?_⟩
    rw [gl_set _ (by rw [ih.1]; exact tp_lt t)]
    by_cases h : i = tp t
    · rw [if_pos h]; exact M.rot_lt _ _
    · rw [if_neg h]; exact ih.2 i
theorem trP_list (a0 a1 a2 a3 a4 a5 a6 a7 a8 a9 a10 a11 a12 a13 a14 a15 a16 a17 a18 a19 a20 a21 a22 a23 a24 : Nat) : trP [a0, a1, a2, a3, a4, a5, a6, a7, a8, a9, a10, a11, a12, a13, a14, a15, a16, a17, a18, a19, a20, a21, a22, a23, a24] 24 = [a0, M.rotN a1 1, M.rotN a2 62, M.rotN a3 28, M.rotN a4 27, M.rotN a5 36, M.rotN a6 44, M.rotN a7 6, M.rotN a8 55, M.rotN a9 20, M.rotN a10 3, M.rotN a11 10, M.rotN a12 43, M.rotN a13 25, M.rotN a14 39, M.rotN a15 41, M.rotN a16 45, M.rotN a17 15, M.rotN a18 21, M.rotN a19 8, M.rotN a20 18, M.rotN a21 2, M.rotN a22 61, M.rotN a23 56, M.rotN a24 14] := by kernel_rfl
theorem turn_list (a0 a1 a2 a3 a4 a5 a6 a7 a8 a9 a10 a11 a12 a13 a14 a15 a16 a17 a18 a19 a20 a21 a22 a23 a24 : Nat) : M.turnL [a0, a1, a2, a3, a4, a5, a6, a7, a8, a9, a10, a11, a12, a13, a14, a15, a16, a17, a18, a19, a20, a21, a22, a23, a24] = [M.rotN a0 0, M.rotN a1 1, M.rotN a2 62, M.rotN a3 28, M.rotN a4 27, M.rotN a5 36, M.rotN a6 44, M.rotN a7 6, M.rotN a8 55, M.rotN a9 20, M.rotN a10 3, M.rotN a11 10, M.rotN a12 43, M.rotN a13 25, M.rotN a14 39, M.rotN a15 41, M.rotN a16 45, M.rotN a17 15, M.rotN a18 21, M.rotN a19 8, M.rotN a20 18, M.rotN a21 2, M.rotN a22 61, M.rotN a23 56, M.rotN a24 14] := by kernel_rfl
theorem trP_all {a : List Nat} (ha : M.Lanes a) : trP a 24 = M.turnL a := by
  match a, ha with
  | [a0, a1, a2, a3, a4, a5, a6, a7, a8, a9, a10, a11, a12, a13, a14, a15, a16, a17, a18, a19, a20, a21, a22, a23, a24], ha =>
    have r0 : M.rotN a0 0 = a0 := rot_zero (ha.2 0) rfl
    rw [trP_list, turn_list, r0]

set_option maxRecDepth 100000 in
set_option maxHeartbeats 4000000 in
theorem rturn (a : List Nat) (w : World) (ha : M.Lanes a) :
    Calls Tryd.prog 16 #[st a] w fun e w' => e = .returned (st (M.turnL a)) ∧ Below w.heap.size w w' := by
  have HA := Lib.hid ha
  clear ha
  go_enter Tryd.func16, Tryd.ntmps16
  go_wp2_with fail
  go_loopw [3, 4, 5] (fun x y i wr => ∃ t : Nat, t ≤ 24 ∧ i = .int .i64 (t : Int) ∧ x = .int .i64 ((txy t).1 : Int) ∧ y = .int .i64 ((txy t).2 : Int) ∧ Rw wr w.heap.size 23 (trP a t) ∧ Rw wr (w.heap.size + 1) 23 z25 ∧ Below w.heap.size w wr)
    (fun _ _ i _ => 24 - (intOf i).toNat)
  case atStart =>
    rw [lv_zero]
    refine ⟨0, by omega, rfl, rfl, rfl, (Rw.new _ _ _).alloc _, Rw.at_ _ _ _ (by simp), ?_⟩
    (repeat (first | exact Below.refl _ _ | refine Below.drew ?_ | refine Below.alloc ?_ (by first | omega | (simp; omega) | simp) _ | refine Below.setCell ?_ (by first | omega | (simp; omega) | simp) _))
  case round =>
    obtain ⟨t, hk, rfl, rfl, rfl, hA, hR, hW⟩ := hrel
    by_cases hlt : t < 24
    · obtain ⟨hX, hY⟩ := txy_lt t
      have HL := trP_lanes HA.out t
      have hp := tp_lt t
      have hS := trP_succ a t
      have ca := hA.cell (i := tp t) (by rw [HL.1]; exact hp)
      have fa := hA.frozen (tp t)
      have h2 : (txy (t + 1)).1 = (txy t).2 := rfl
      have h3 : (txy (t + 1)).2 = (2 * (txy t).1 + 3 * (txy t).2) % 5 := rfl
      have eP : ((txy t).1 : Int) + 5 * ((txy t).2 : Int) = ((tp t : Nat) : Int) := by unfold tp; omega
      generalize (txy t).1 = X at *
      generalize (txy t).2 = Y at *
      generalize tp t = p at *
      obtain ⟨Z, hZ⟩ : ∃ Z, Z = (2 * X + 3 * Y) % 5 := ⟨_, rfl⟩
      have eZ : (2 * (X : Int) + 3 * (Y : Int)) % 5 = (Z : Int) := by omega
      rw [← hZ] at h3
      have L := Lib.hid (HL.2 p)
      have H2 := Lib.hid h2
      have H3 := Lib.hid h3
      have HS := Lib.hid hS
      clear h2 h3 hS HL hZ
      obtain ⟨N, hN⟩ : ∃ N, N = (t + 1) * (t + 2) := ⟨_, rfl⟩
      have hN2 : N ≤ 625 := by rw [hN]; exact Nat.mul_le_mul (show t + 1 ≤ 25 by omega) (show t + 2 ≤ 25 by omega)
      have em : ((t : Int) + 1) * ((t : Int) + 2) = (N : Int) := by rw [hN]; simp
      have HM := Lib.hid hN
      clear hN
      have hc : ∀ W, Calls Tryd.prog 25 #[.int .u64 ((M.gl (trP a t) p : Nat) : Int), .int .i64 ((N : Int) / 2)] W fun e w' => e = .returned (.int .u64 ((M.rotN (M.gl (trP a t) p) (N / 2) : Nat) : Int)) ∧ W = w' := fun W => by
        have := rrot (M.gl (trP a t) p) (N / 2) W L.out (by omega)
        rwa [show ((N / 2 : Nat) : Int) = (N : Int) / 2 by simp] at this
      go_wp2_with ((with_reducible refine (hc _).mono ?_); rintro e w' ⟨rfl, rfl⟩)
      go_roundw
      case rel =>
        refine ⟨t + 1, by omega, by go_num, ?_, ?_, ?_, ?_, ?_⟩
        · rw [H2.out]
        · rw [H3.out, eZ]
        · rw [HS.out, ← HM.out]; exact hA.set_ _ _
        · exact hR.far (by simp) _
        · exact hW.setCell (by simp) _
      case measure => simp [intOf]; omega
    · obtain rfl : t = 24 := by omega
      rw [trP_all HA.out] at hA
      go_wp2_with (first | (refine wpList_load_st rfl _ _ rfl _ rfl _ _ 25 22 hA Tryd.array25 Tryd.size25 (M.of_length _) ?_) | (refine wpList_store_st rfl _ _ _ rfl _ _ rfl rfl _ _ 25 hR Tryd.size25 (M.of_length _) z25_length ?_))
      exact bodyPost_ret (v := st (M.turnL a)) (res_row rfl _ _ _ _ _ rfl (hR.row _) (M.of_length _)) rfl ⟨rfl, below_setRow hW (by omega) _⟩
end Go.Proofs.YtdfcfpbofomdcaaDoor
