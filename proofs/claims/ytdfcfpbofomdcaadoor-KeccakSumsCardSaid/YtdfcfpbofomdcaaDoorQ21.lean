/- The reference's Pad. -/
import Derived.Test.YtdfcfpbofomdcaaDoorQ15
import Derived.Test.YtdfcfpbofomdcaaDoorQ17
import Derived.Maps.AppendAt
namespace Go.Proofs.YtdfcfpbofomdcaaDoor
open Go Go.RowKit

theorem Tryd.infoU8 : (Tryd.prog.info? 5).map (fun i => (i.zero, i.size, i.bytes)) = some (some (.int .u8 0), 1, 1) := by kernel_rfl
/-- The cells of bytes. -/
def bc (l : List UInt8) : List Value := l.map fun (c : UInt8) => Value.int .u8 (c.toNat : Int)
theorem bc_get {l : List UInt8} {j : Nat} (h : j < l.length) : (bc l)[j]? = some (.int .u8 (((l.getD j 0).toNat : Nat) : Int)) := by
  simp [bc, h]
/-- A row that is owned and not empty: where it lies, and its bytes. -/
theorem own_bytes {w : World} {B n : Nat} {v : Value} {l : List UInt8} (h : w.ownsRow B 5 1 v n (bc l)) (hn : 0 < n) :
    ∃ g cap, v = .slice (some ⟨g, 0, none⟩) n cap ∧ B ≤ g ∧ g < w.heap.size ∧ Bs w g 0 l ∧ ∀ i, w.frozen? ⟨g, i, none⟩ = false := by
  rcases h.2 with ⟨_, h0⟩ | ⟨g, cap, cur, rfl, hb, hg, _⟩
  · omega
  · refine ⟨g, cap, rfl, hb, (Array.getElem?_eq_some_iff.1 hg).1, fun j hj => ?_, fun i => frozen_of_row w g i cur _ hg⟩
    have := h.cells (g := g) rfl j _ (bc_get hj)
    rw [Nat.zero_add]
    by_cases h0 : j = 0
    · subst h0
      simpa [Addr.add] using this
    · simpa [Addr.add, h0] using this
theorem Bs.set_ {W : World} {g : Nat} {l : List UInt8} (h : Bs W g 0 l) (i : Nat) (hi : i < l.length) (c : UInt8) : Bs (W.setCell ⟨g, i, none⟩ (.int .u8 (c.toNat : Int))) g 0 (l.set i c) := fun j hj => by
  rw [List.length_set] at hj
  have h0 := h j hj
  have hi0 := h i hi
  rw [Nat.zero_add] at h0 hi0 ⊢
  by_cases hij : i = j
  · subst hij
    rw [World.cell?_setCell_same' _ _ _ (by rw [hi0]; rfl)]
    simp [List.getD_eq_getElem?_getD, hj]
  · rw [World.cell?_setCell_other _ _ _ _ (by simp), h0]
    simp [List.getD_eq_getElem?_getD, hij]
theorem Bs.conv {W : World} {g : Nat} {l : List UInt8} (h : Bs W g 0 l) {n : Nat} (hn : n = l.length) (cap : Nat) : (convert 38 9 (.slice (some ⟨g, 0, none⟩) n cap)).run Tryd.prog W = .ok (.string ⟨l.toArray⟩) W := by
  subst hn
  refine run_convert_bytes_back W 38 9 5 ⟨g, 0, none⟩ cap l Tryd.underlying38 Tryd.underlying5 Tryd.underlying9 ?_
  intro j hj
  have := h j hj
  rw [Nat.zero_add, List.getD_eq_getElem?_getD, List.getElem?_eq_getElem hj, Option.getD_some] at this
  by_cases h0 : j = 0
  · subst h0
    simpa [Addr.add] using this
  · simpa [Addr.add, h0] using this
/-- A slice's length. -/
def lenV : Value → Nat | .slice _ n _ => n | _ => 0

def pdP (k : Nat) : List UInt8 := (zb k).set 0 1
theorem pdP_length (k : Nat) : (pdP k).length = k := by simp [pdP, zb]
theorem pdP_succ {k : Nat} (h : 1 ≤ k) : pdP (k + 1) = pdP k ++ [0] := by
  unfold pdP zb
  rw [List.replicate_succ', List.set_append_left _ _ (by simp; omega)]

theorem rpad_no (n : Int) (w : World) (h : n < 0 ∨ 1099511627776 < n) :
    Calls Tryd.prog 13 #[.int .i64 n] w fun e w' => e = .returned (.tuple #[.string ⟨#[]⟩, .int .i64 1]) ∧ Below w.heap.size w w' := by
  by_cases h1 : n < 0
  · clear h
    go_enter Tryd.func13, Tryd.ntmps13
    go_wp2_with fail
    go_ret2
    exact ⟨rfl, Below.refl _ _⟩
  · have h2 : 1099511627776 < n := by omega
    clear h
    go_enter Tryd.func13, Tryd.ntmps13
    go_wp2_with fail
    go_ret2
    exact ⟨rfl, Below.refl _ _⟩

set_option maxRecDepth 100000 in
set_option maxHeartbeats 4000000 in
theorem rpad (n : Nat) (w : World) (h : n ≤ 1099511627776) :
    Calls Tryd.prog 13 #[.int .i64 (n : Int)] w fun e w' => e = .returned (.tuple #[.string ⟨(M.padL n).toArray⟩, .int .i64 0]) ∧ Below w.heap.size w w' := by
  obtain ⟨i0, hi, hz0, hz1, hz2⟩ := info_parts Tryd.infoU8
  have HI := Lib.hid hi
  clear hi
  obtain ⟨m, hm⟩ : ∃ m, m = 136 - n % 136 := ⟨_, rfl⟩
  have HM := Lib.hid hm
  have hm1 : 1 ≤ m := by omega
  have hm2 : m ≤ 136 := by omega
  clear hm
  go_enter Tryd.func13, Tryd.ntmps13
  go_wp2_with fail
  go_loopw [4] (fun v wr => ∃ k : Nat, 1 ≤ k ∧ k ≤ m ∧ wr.ownsRow w.heap.size 5 1 v k (bc (pdP k)) ∧ Below w.heap.size w wr) (fun v _ => m - lenV v)
  case atStart =>
    refine ⟨1, Nat.le_refl _, hm1, ⟨rfl, .inr ⟨w.heap.size, 1, #[.int .u8 1], rfl, Nat.le_refl _, heap_alloc_new w _, Nat.le_refl _, by decide, rfl, rfl⟩⟩, ?_⟩
    (repeat (first | exact Below.refl _ _ | refine Below.drew ?_ | refine Below.alloc ?_ (by first | omega | (simp; omega) | simp) _ | refine Below.setCell ?_ (by first | omega | (simp; omega) | simp) _))
  case round =>
    obtain ⟨k, hk1, hk, hown, hW⟩ := hrel
    obtain ⟨g, cap, rfl, hgB, hgl, hBs, hfr⟩ := own_bytes hown (by omega)
    by_cases hlt : k < m
    · have ht : ((((n : Int) + (k : Int)) % 136) != 0) = true := by
        have := HM.out
        simp only [bne_iff_ne, ne_eq]
        omega
      have hsW := hW.size
      have hBsH := Lib.hid hBs
      have hfrH := Lib.hid hfr
      clear hBs hfr
      go_wp2_with (at_builtin; refine wpList_append_own _ rfl _ _ 38 rfl w.heap.size 5 i0 (.int .u8 0) 1 1 Tryd.underlying38 HI.out hz0 hz1 hz2 rfl (by decide) _ _ _ rfl (hown.alloc _) ⟨wr.heap.size, 0, none⟩ 1 1 [.int .u8 0] rfl rfl (cell_one_new _ _ _) (by simp [Value.oneCell']) (by unfold maxLen; omega) (by omega) (by simp; omega) ?_; intro v' w2 hown' hgrow _)
      have hown2 : w2.ownsRow w.heap.size 5 1 v' (k + 1) (bc (pdP (k + 1))) := by
        rw [pdP_succ hk1]
        simpa [bc] using hown'
      have hb2 : Below w.heap.size w w2 := (hW.alloc hsW _).grown hgrow (by simp; omega) (fun q e => by cases e; exact hgB)
      clear hown'
      obtain ⟨g2, cap2, rfl, hgB2, hgl2, hBs2, hfr2⟩ := own_bytes hown2 (by omega)
      clear hBs2 hfr2
      go_roundw
      case rel => exact ⟨k + 1, by omega, by omega, hown2, hb2⟩
      case measure => simp [lenV]; omega
    · obtain rfl : k = m := by omega
      have ht : ((((n : Int) + (k : Int)) % 136) != 0) = false := by
        have := HM.out
        simp only [bne_eq_false_iff_eq]
        omega
      obtain ⟨q, hq⟩ : ∃ q, q = k - 1 := ⟨_, rfl⟩
      have e2 : (k : Int) - 1 = (q : Int) := by omega
      have hqk : (q : Int) < k := by omega
      have hql : q < (pdP k).length := by rw [pdP_length]; omega
      have c5 := hBs q hql
      rw [Nat.zero_add] at c5
      have f5 := hfr q
      have HQ := Lib.hid hq
      have HFR := Lib.hid hfr
      clear hq hfr hown
      by_cases hone : k = 1
      · have h0 : (pdP k).getD q 0 = 1 := by
          have := HQ.out
          subst hone
          rw [this]
          rfl
        rw [h0] at c5
        rw [show (((1 : UInt8).toNat : Nat) : Int) = 1 from rfl] at c5
        have hB2 : Bs (wr.setCell ⟨g, q, none⟩ (.int .u8 129)) g 0 ((pdP k).set q 129) := hBs.set_ q hql 129
        replace hW := hW.setCell (p := ⟨g, q, none⟩) hgB (.int .u8 129)
        have hcv := hB2.conv (n := k) (by rw [List.length_set, pdP_length]) cap
        have e : (pdP k).set q 129 = M.padL n := by
          unfold pdP
          rw [pad_one (by rw [← HM.out]; exact hone), HQ.out, hone]
        rw [e] at hcv
        clear hone h0 hB2 hBs e
        go_wp2_with fail
        go_ret2
        exact ⟨rfl, hW⟩
      · have h0 : (pdP k).getD q 0 = 0 := by
          unfold pdP
          rw [List.getD_eq_getElem?_getD, List.getElem?_set]
          have : ¬ 0 = q := by have := HQ.out; omega
          rw [if_neg this]
          unfold zb
          rw [List.getElem?_replicate]
          split <;> rfl
        rw [h0] at c5
        rw [show (((0 : UInt8).toNat : Nat) : Int) = 0 from rfl] at c5
        have hB2 : Bs (wr.setCell ⟨g, q, none⟩ (.int .u8 128)) g 0 ((pdP k).set q 128) := hBs.set_ q hql 128
        replace hW := hW.setCell (p := ⟨g, q, none⟩) hgB (.int .u8 128)
        have hcv := hB2.conv (n := k) (by rw [List.length_set, pdP_length]) cap
        have e : (pdP k).set q 128 = M.padL n := by
          unfold pdP
          rw [pad_more HM.out (by omega), HQ.out]
        rw [e] at hcv
        clear hone h0 hB2 hBs e
        go_wp2_with fail
        go_ret2
        exact ⟨rfl, hW⟩
end Go.Proofs.YtdfcfpbofomdcaaDoor
