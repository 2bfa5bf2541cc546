/- keccak.firstBytes. -/
import Derived.Test.YtdfcfpbofomdcaaDoorQ2
namespace Go.Proofs.YtdfcfpbofomdcaaDoor
open Go Go.RowKit

/-- Byte i of a state. -/
def obF (a : List Nat) (i : Nat) : UInt8 := UInt8.ofNat (M.gl a (i / 8) / 256 ^ (i % 8) % 256)
def outP (a : List Nat) (k : Nat) : List UInt8 := (List.range 32).map fun i => if i < k then obF a i else 0
theorem outP_length (a : List Nat) (k : Nat) : (outP a k).length = 32 := by simp [outP]
theorem outP_zero (a : List Nat) : outP a 0 = zb 32 := by kernel_rfl
theorem outP_succ (a : List Nat) (k : Nat) : (outP a k).set k (obF a k) = outP a (k + 1) := by
  apply List.ext_getElem
  · simp [outP]
  · intro i h1 h2
    rw [List.getElem_set]
    simp only [outP, List.getElem_map, List.getElem_range]
    by_cases h : k = i
    · subst h; rw [if_pos rfl, if_pos (by omega)]
    · rw [if_neg h]
      by_cases h3 : i < k
      · rw [if_pos h3, if_pos (by omega)]
      · rw [if_neg h3, if_neg (by omega)]
theorem outP_all (a : List Nat) : outP a 32 = M.outL a := by
  unfold outP M.outL
  apply List.map_congr_left
  intro i hi
  rw [if_pos (by simpa using hi)]
  rfl
theorem obF_nat (a : List Nat) (i : Nat) : (obF a i).toNat = M.gl a (i / 8) / 256 ^ (i % 8) % 256 := by
  unfold obF
  rw [UInt8.toNat_ofNat']
  omega
theorem ob_is (a : List Nat) (k s : Nat) (hs : s = 8 * (k % 8)) : ((M.gl a (k / 8) : Nat) : Int) / 2 ^ s % 256 = (((obF a k).toNat : Nat) : Int) := by
  rw [obF_nat, hs, show (256 : Nat) = 2 ^ 8 from rfl, ← Nat.pow_mul]
  have e : ((M.gl a (k / 8) : Nat) : Int) / 2 ^ (8 * (k % 8)) = ((M.gl a (k / 8) / 2 ^ (8 * (k % 8)) : Nat) : Int) := by simp
  rw [e]
  generalize M.gl a (k / 8) / 2 ^ (8 * (k % 8)) = x
  simp

set_option maxRecDepth 100000 in
set_option maxHeartbeats 2000000 in
theorem kfirst (a : List Nat) (w : World) (ha : M.Lanes a) :
    Calls Tryd.prog 24 #[st a] w fun e w' => e = .returned (.string ⟨(M.outL a).toArray⟩) ∧ Below w.heap.size w w' := by
  have HA := Lib.hid ha
  have HL := Lib.hid ha.1
  clear ha
  have hmk : ∀ w, (Instr.makeSlice 38 (.int .i64 32) (.int .i64 32)).run Tryd.prog w = .ok (.slice (some ⟨w.heap.size, 0, none⟩) 32 32) (w.alloc (.cells (bv (zb 32)) 5)) := make_zb 32 (by omega)
  go_enter Tryd.func24, Tryd.ntmps24
  go_wp2_with fail
  clear hmk
  go_loopw [8] (fun i wr => ∃ k : Nat, k ≤ 32 ∧ i = .int .i64 (k : Int) ∧ Rw wr w.heap.size 23 a ∧ Br wr (w.heap.size + 1) (outP a k) ∧ Below w.heap.size w wr)
    (fun i _ => 32 - (intOf i).toNat)
  case atStart =>
    refine ⟨0, by omega, rfl, (Rw.new _ _ _).alloc _, ?_, ?_⟩
    · rw [outP_zero]; exact Br.at_ _ _ (by simp)
    · (repeat (first | exact Below.refl _ _ | refine Below.drew ?_ | refine Below.alloc ?_ (by first | omega | (simp; omega) | simp) _ | refine Below.setCell ?_ (by first | omega | (simp; omega) | simp) _))
  case round =>
    obtain ⟨k, hk, rfl, hA, hB, hW⟩ := hrel
    by_cases hlt : k < 32
    · obtain ⟨c, hc⟩ : ∃ c, c = k / 8 := ⟨_, rfl⟩
      obtain ⟨d, hd⟩ : ∃ d, d = k % 8 := ⟨_, rfl⟩
      obtain ⟨s, hs⟩ : ∃ s, s = 8 * d := ⟨_, rfl⟩
      have t1 : (k : Int) / 8 = (c : Int) := by omega
      have t2 : (k : Int) % 8 = (d : Int) := by omega
      have t3 : 8 * (d : Int) = (s : Int) := by omega
      have hc5 : (c : Int) < 5 := by omega
      have hs5 : (s : Int) < 64 := by omega
      have hk5 : (k : Int) < 32 := by omega
      have ca := hA.cell (i := c) (by rw [HL.out]; omega)
      have cb := hB.cell (i := k) (by rw [outP_length]; exact hlt)
      have fb := hB.frozen k
      have HO := Lib.hid (ob_is a k s (by omega))
      rw [← hc] at HO
      clear hc hd hs
      go_wp2_with fail
      go_roundw
      case rel =>
        rw [HO.out]
        exact ⟨k + 1, by omega, by go_num, hA.far (by simp) _, by rw [← outP_succ]; exact hB.set_ _ _, hW.setCell (by simp) _⟩
      case measure => simp [intOf]; omega
    · obtain rfl : k = 32 := by omega
      rw [outP_all] at hB
      have hcv := hB.conv (n := 32) rfl 32
      clear hA
      go_wp2_with fail
      go_ret
      exact ⟨rfl, hW⟩
end Go.Proofs.YtdfcfpbofomdcaaDoor
