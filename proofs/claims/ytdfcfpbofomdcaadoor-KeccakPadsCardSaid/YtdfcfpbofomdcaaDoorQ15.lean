/- keccak.Pad. -/
import Derived.Test.YtdfcfpbofomdcaaDoorQ2
namespace Go.Proofs.YtdfcfpbofomdcaaDoor
open Go Go.RowKit

theorem kpad_no (n : Int) (w : World) (h : n < 0 ∨ 1099511627776 < n) :
    Calls Tryd.prog 12 #[.int .i64 n] w fun e w' => e = .returned (.tuple #[.string ⟨#[]⟩, .int .i64 1]) ∧ Below w.heap.size w w' := by
  by_cases h1 : n < 0
  · clear h
    go_enter Tryd.func12, Tryd.ntmps12
    go_wp2_with fail
    go_ret2
    exact ⟨rfl, Below.refl _ _⟩
  · have h2 : 1099511627776 < n := by omega
    clear h
    go_enter Tryd.func12, Tryd.ntmps12
    go_wp2_with fail
    go_ret2
    exact ⟨rfl, Below.refl _ _⟩

theorem pad_one {n : Nat} (h : 136 - n % 136 = 1) : M.padL n = ((zb 1).set 0 1).set 0 129 := by
  unfold M.padL
  rw [if_pos (by omega)]
  rfl
theorem pad_more {n m : Nat} (hm : m = 136 - n % 136) (h : 1 < m) : M.padL n = ((zb m).set 0 1).set (m - 1) 128 := by
  unfold M.padL
  rw [if_neg (by omega)]
  have e : 134 - n % 136 = m - 2 := by omega
  rw [e]
  obtain ⟨q, rfl⟩ : ∃ q, m = q + 2 := ⟨m - 2, by omega⟩
  apply List.ext_getElem
  · simp [zb]
  · intro i h1 h2
    simp only [zb, List.length_set, List.length_replicate] at h2
    rw [List.getElem_set]
    by_cases hi : q + 2 - 1 = i
    · subst hi
      rw [if_pos rfl]
      simp
    · rw [if_neg hi]
      by_cases h0 : i = 0
      · subst h0
        simp [zb]
      · obtain ⟨j, rfl⟩ : ∃ j, i = j + 1 := ⟨i - 1, by omega⟩
        simp only [List.getElem_cons_succ, zb]
        rw [List.getElem_append_left (by simp; omega)]
        simp

set_option maxRecDepth 100000 in
set_option maxHeartbeats 2000000 in
theorem kpad (n : Nat) (w : World) (h : n ≤ 1099511627776) :
    Calls Tryd.prog 12 #[.int .i64 (n : Int)] w fun e w' => e = .returned (.tuple #[.string ⟨(M.padL n).toArray⟩, .int .i64 0]) ∧ Below w.heap.size w w' := by
  obtain ⟨m, hm⟩ : ∃ m, m = 136 - n % 136 := ⟨_, rfl⟩
  have h1 : 1 ≤ m := by omega
  have h2 : m ≤ 136 := by omega
  have e1 : (136 : Int) - (n : Int) % 136 = (m : Int) := by omega
  have hmk := make_zb m (by omega)
  have HM := Lib.hid hm
  clear hm
  go_enter Tryd.func12, Tryd.ntmps12
  go_upto_region 4 with fail
  clear hmk
  have hB : Br (w.alloc (.cells (bv (zb m)) 5)) w.heap.size (zb m) := Br.at_ _ _ rfl
  have hW : Below w.heap.size w (w.alloc (.cells (bv (zb m)) 5)) := (Below.refl _ _).alloc (Nat.le_refl _) _
  generalize w.alloc (.cells (bv (zb m)) 5) = w1 at *
  have c0 := hB.cell (i := 0) (by rw [zb_length]; omega)
  have f0 := hB.frozen 0
  replace hB : Br (w1.setCell ⟨w.heap.size, 0, none⟩ (.int .u8 1)) w.heap.size ((zb m).set 0 1) := hB.set_ 0 1
  replace hW := hW.setCell (p := ⟨w.heap.size, 0, none⟩) (Nat.le_refl _) (.int .u8 1)
  go_upto_region 5 with fail
  generalize w1.setCell ⟨w.heap.size, 0, none⟩ (.int .u8 1) = w2 at *
  obtain ⟨q, hq⟩ : ∃ q, q = m - 1 := ⟨_, rfl⟩
  have e2 : (m : Int) - 1 = (q : Int) := by omega
  have hqm : (q : Int) < m := by omega
  have c5 := hB.cell (i := q) (by rw [List.length_set, zb_length]; omega)
  have f5 := hB.frozen q
  have HQ := Lib.hid hq
  clear hq
  by_cases hone : m = 1
  · have h0 : ((zb m).set 0 1).getD q 0 = 1 := by
      have := HQ.out
      subst hone
      rw [this]
      rfl
    rw [h0] at c5
    rw [show (((1 : UInt8).toNat : Nat) : Int) = 1 from rfl] at c5
    have HO := Lib.hid hone
    replace hB : Br (w2.setCell ⟨w.heap.size, q, none⟩ (.int .u8 129)) w.heap.size (((zb m).set 0 1).set q 129) := hB.set_ q 129
    replace hW := hW.setCell (p := ⟨w.heap.size, q, none⟩) (Nat.le_refl _) (.int .u8 129)
    have hcv := hB.conv (n := m) (by rw [List.length_set, List.length_set, zb_length]) m
    have e : ((zb m).set 0 1).set q 129 = M.padL n := by
      rw [pad_one (by rw [← HM.out]; exact hone), HQ.out, hone]
    rw [e] at hcv
    clear hone h0 hB
    go_wp2_with fail
    go_ret2
    exact ⟨rfl, hW⟩
  · have h0 : ((zb m).set 0 1).getD q 0 = 0 := by
      rw [List.getD_eq_getElem?_getD, List.getElem?_set]
      have : ¬ 0 = q := by have := HQ.out; omega
      rw [if_neg this]
      unfold zb
      rw [List.getElem?_replicate]
      split <;> rfl
    rw [h0] at c5
    rw [show (((0 : UInt8).toNat : Nat) : Int) = 0 from rfl] at c5
    replace hB : Br (w2.setCell ⟨w.heap.size, q, none⟩ (.int .u8 128)) w.heap.size (((zb m).set 0 1).set q 128) := hB.set_ q 128
    replace hW := hW.setCell (p := ⟨w.heap.size, q, none⟩) (Nat.le_refl _) (.int .u8 128)
    have hcv := hB.conv (n := m) (by rw [List.length_set, List.length_set, zb_length]) m
    have e : ((zb m).set 0 1).set q 128 = M.padL n := by
      rw [pad_more HM.out (by omega), HQ.out]
    rw [e] at hcv
    clear hone h0 hB
    go_wp2_with fail
    go_ret2
    exact ⟨rfl, hW⟩
end Go.Proofs.YtdfcfpbofomdcaaDoor
