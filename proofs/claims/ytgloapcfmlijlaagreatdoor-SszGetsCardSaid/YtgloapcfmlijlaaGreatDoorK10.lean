/- The landed package shape: Check, Fixed, Size, Fits. The landed package shape: Same. The landed package shape does what the laws ask of it. How an item lies in memory. Bytes as strings: converted, put together, cut, looked into. -/
import Derived.Test.YtgloapcfmlijlaaGreatDoorK08
import Derived.Test.YtgloapcfmlijlaaGreatDoorK09
import Derived.Deep.RegionWith
import Derived.Test.YtgloapcfmlijlaaGreatDoorK06
import Derived.Test.YtgloapcfmlijlaaGreatDoorK02
import Derived.Shelf.Abstract
import Derived.Test.YtgloapcfmlijlaaGreatDoorK01
import Derived.Lib.Hide
import Derived.Laws.BytesArg
namespace Go.Proofs.YtgloapcfmlijlaaGreatDoor
open Go Go.RowKit Go.Shelf

/-- The table, made in a world behind a draw, beside the box of a type. -/
structure TabP (w : World) (k n : Int) (v : Value) (w1 : World) (cs : List Nat) : Prop where
  ks : Kinds w1 w1.heap.size (w.heap.size + 1) cs
  below : Below w.heap.size w w1
  d0 : w1.cell? ⟨w.heap.size, 0, none⟩ = some (.int .i64 k)
  d1 : w1.cell? ⟨w.heap.size, 1, none⟩ = some (.int .i64 n)
  d2 : w1.cell? ⟨w.heap.size, 2, none⟩ = some v
theorem tab_any (w W : World) (k n : Int) (v : Value) (hb : Below w.heap.size w W) (hB : BoxT W w.heap.size k n v) (hz : W.heap.size = w.heap.size + 1) :
    Calls Tryz.prog 53 #[] W fun e w1 => e = .returned (.map (some (w.heap.size + 1))) ∧ ∃ cs, TabP w k n v w1 cs := by
  refine (table_any W).mono ?_
  rintro e w1 ⟨rfl, ⟨cs, hK⟩, hb1⟩
  have hB1 := hB.from_ hb1 (by omega)
  rw [hz] at hK
  exact ⟨by rw [hz], cs, hK, hb.trans (hb1.mono (by omega)), hB1.c0, hB1.c1, hB1.c2⟩

set_option maxRecDepth 100000 in
set_option maxHeartbeats 1000000 in
theorem shape_check : SCheckOk := by
  intro k n xs a cap w hL hc
  obtain ⟨w0, hw0⟩ : ∃ w0, w.alloc (.cells #[.int .i64 k, .int .i64 n, .slice a xs.length cap] 24) = w0 := ⟨_, rfl⟩
  have hB0 : BoxT w0 w.heap.size k n (.slice a xs.length cap) := by rw [← hw0]; exact BoxT.new _ _ _ _ _
  have hb0 : Below w.heap.size w w0 := by rw [← hw0]; exact (Below.refl _ _).alloc (Nat.le_refl _) _
  have hz0 : w0.heap.size = w.heap.size + 1 := by rw [← hw0]; simp
  have HT : Hid (Calls Tryz.prog 53 #[] w0.drew fun e w1 => e = .returned (.map (some (w.heap.size + 1))) ∧ ∃ cs, TabP w k n (.slice a xs.length cap) w1 cs) := tab_any w w0.drew k n _ (Below.drew hb0) ⟨hB0.c0, hB0.c1, hB0.c2⟩ hz0
  have HC : Hid (∀ (W : World) (cs : List Nat), TabP w k n (.slice a xs.length cap) W cs → Calls Tryz.prog 54 #[.map (some (w.heap.size + 1)), tv k n (.slice a xs.length cap)] W fun e w' => e = .returned (.int .i64 (M.chkT 0 (.mk k n xs) : Nat)) ∧ Below w.heap.size w w') := fun W cs h =>
    (kcheck_any k n xs a cap _ cs W ((hL.from_ h.below).mono h.below.size) hc h.ks).mono fun _ _ q => ⟨q.1, h.below.trans (q.2.mono h.below.size)⟩
  have HW := Lib.hid hw0
  have c0 := hB0.c0
  have c1 := hB0.c1
  have c2 := hB0.c2
  clear hw0 hL hc hB0
  go_enter Tryz.func29, Tryz.ntmps29
  go_wp2_with fail
  rw [HW.out]
  go_region_with (first | (refine HT.out.mono ?_; rintro e w1 ⟨rfl, cs, hP⟩; have d0 := hP.d0; have d1 := hP.d1; have d2 := hP.d2) | (refine (HC.out _ cs hP).mono ?_; rintro e w2 ⟨rfl, hb2⟩))
  all_goals
    simp only [List.getElem_toArray, List.getElem_cons_zero, List.getElem_cons_succ, Act.put, List.setIfInBounds_toArray, List.set_cons_zero, List.set_cons_succ]
    go_wp2_with fail
    go_ret
    exact ⟨rfl, hb2⟩
set_option maxRecDepth 100000 in
set_option maxHeartbeats 1000000 in
theorem shape_fixed : SFixedOk := by
  intro k n xs a cap w hL hc
  obtain ⟨w0, hw0⟩ : ∃ w0, w.alloc (.cells #[.int .i64 k, .int .i64 n, .slice a xs.length cap] 24) = w0 := ⟨_, rfl⟩
  have hB0 : BoxT w0 w.heap.size k n (.slice a xs.length cap) := by rw [← hw0]; exact BoxT.new _ _ _ _ _
  have hb0 : Below w.heap.size w w0 := by rw [← hw0]; exact (Below.refl _ _).alloc (Nat.le_refl _) _
  have hz0 : w0.heap.size = w.heap.size + 1 := by rw [← hw0]; simp
  have HT : Hid (Calls Tryz.prog 53 #[] w0.drew fun e w1 => e = .returned (.map (some (w.heap.size + 1))) ∧ ∃ cs, TabP w k n (.slice a xs.length cap) w1 cs) := tab_any w w0.drew k n _ (Below.drew hb0) ⟨hB0.c0, hB0.c1, hB0.c2⟩ hz0
  have HC : Hid (∀ (W : World) (cs : List Nat), TabP w k n (.slice a xs.length cap) W cs → Calls Tryz.prog 152 #[.map (some (w.heap.size + 1)), tv k n (.slice a xs.length cap)] W fun e w' => e = .returned (.bool (M.fixedT (.mk k n xs))) ∧ Below w.heap.size w w') := fun W cs h =>
    (kfixed_any k n xs a cap _ cs W ((hL.from_ h.below).mono h.below.size) hc h.ks).mono fun _ _ q => ⟨q.1, h.below.trans (q.2.mono h.below.size)⟩
  have HW := Lib.hid hw0
  have c0 := hB0.c0
  have c1 := hB0.c1
  have c2 := hB0.c2
  clear hw0 hL hc hB0
  go_enter Tryz.func71, Tryz.ntmps71
  go_wp2_with fail
  rw [HW.out]
  go_region_with (first | (refine HT.out.mono ?_; rintro e w1 ⟨rfl, cs, hP⟩; have d0 := hP.d0; have d1 := hP.d1; have d2 := hP.d2) | (refine (HC.out _ cs hP).mono ?_; rintro e w2 ⟨rfl, hb2⟩))
  all_goals
    simp only [List.getElem_toArray, List.getElem_cons_zero, List.getElem_cons_succ, Act.put, List.setIfInBounds_toArray, List.set_cons_zero, List.set_cons_succ]
    go_wp2_with fail
    go_ret
    exact ⟨rfl, hb2⟩
set_option maxRecDepth 100000 in
set_option maxHeartbeats 1000000 in
theorem shape_size : SSizeOk := by
  intro k n xs a cap w hL hc
  obtain ⟨w0, hw0⟩ : ∃ w0, w.alloc (.cells #[.int .i64 k, .int .i64 n, .slice a xs.length cap] 24) = w0 := ⟨_, rfl⟩
  have hB0 : BoxT w0 w.heap.size k n (.slice a xs.length cap) := by rw [← hw0]; exact BoxT.new _ _ _ _ _
  have hb0 : Below w.heap.size w w0 := by rw [← hw0]; exact (Below.refl _ _).alloc (Nat.le_refl _) _
  have hz0 : w0.heap.size = w.heap.size + 1 := by rw [← hw0]; simp
  have HT : Hid (Calls Tryz.prog 53 #[] w0 fun e w1 => e = .returned (.map (some (w.heap.size + 1))) ∧ ∃ cs, TabP w k n (.slice a xs.length cap) w1 cs) := tab_any w w0 k n _ hb0 hB0 hz0
  have HC : Hid (∀ (W : World) (cs : List Nat), TabP w k n (.slice a xs.length cap) W cs → Calls Tryz.prog 152 #[.map (some (w.heap.size + 1)), tv k n (.slice a xs.length cap)] W fun e w' => e = .returned (.bool (M.fixedT (.mk k n xs))) ∧ TabP w k n (.slice a xs.length cap) w' cs) := fun W cs h =>
    (kfixed_any k n xs a cap _ cs W ((hL.from_ h.below).mono h.below.size) hc h.ks).mono fun _ w' q => ⟨q.1, ⟨(h.ks.from_ q.2).mono q.2.size, h.below.trans (q.2.mono h.below.size), (q.2.cell (p := ⟨w.heap.size, 0, none⟩) (by have := h.ks.lt; simp; omega)).trans h.d0, (q.2.cell (p := ⟨w.heap.size, 1, none⟩) (by have := h.ks.lt; simp; omega)).trans h.d1, (q.2.cell (p := ⟨w.heap.size, 2, none⟩) (by have := h.ks.lt; simp; omega)).trans h.d2⟩⟩
  have HS : Hid (∀ (W : World) (cs : List Nat), M.fixedT (.mk k n xs) = true → TabP w k n (.slice a xs.length cap) W cs → Calls Tryz.prog 153 #[.map (some (w.heap.size + 1)), tv k n (.slice a xs.length cap)] W fun e w' => e = .returned (.int .i64 (M.szT (.mk k n xs) : Nat)) ∧ Below w.heap.size w w') := fun W cs hf h => by
    unfold M.fixedT at hf
    by_cases h0 : M.chkT 0 (.mk k n xs) = 0
    · rw [if_pos h0] at hf
      exact (ksize_any k n xs a cap _ cs W ((hL.from_ h.below).mono h.below.size) hc h.ks h0 hf).mono fun _ _ q => ⟨q.1, h.below.trans (q.2.mono h.below.size)⟩
    · rw [if_neg h0] at hf; cases hf
  have HW := Lib.hid hw0
  have HR : Hid (M.sizeT (.mk k n xs) = if M.fixedT (.mk k n xs) = true then M.szT (.mk k n xs) else 0) := by show _ = _; rw [M.sizeT]
  obtain ⟨R, hR⟩ : ∃ R, R = M.sizeT (.mk k n xs) := ⟨_, rfl⟩
  rw [← hR] at HR
  rw [← hR]
  generalize M.fixedT (.mk k n xs) = q at *
  clear hw0 hL hc hB0 hR
  go_enter Tryz.func72, Tryz.ntmps72
  go_wp2_with fail
  rw [HW.out]
  refine HT.out.mono ?_
  rintro e w1 ⟨rfl, cs, hP⟩
  have d0 := hP.d0
  have d1 := hP.d1
  have d2 := hP.d2
  go_wp2_with fail
  refine (HC.out _ cs hP).mono ?_
  rintro e w2 ⟨rfl, hP2⟩
  have e0 := hP2.d0
  have e1 := hP2.d1
  have e2 := hP2.d2
  clear d0 d1 d2
  cases q with
  | false =>
    go_wp2_with fail
    go_ret
    exact ⟨by rw [HR.out]; rfl, hP2.below⟩
  | true =>
    go_wp2_with fail
    refine (HS.out _ cs trivial hP2).mono ?_
    rintro e w3 ⟨rfl, hb3⟩
    go_wp2_with fail
    go_ret
    exact ⟨by rw [HR.out]; rfl, hb3⟩

set_option maxRecDepth 100000 in
set_option maxHeartbeats 1000000 in
theorem shape_fits : SFitsOk := by
  intro k n xs a cap N bs us p ab cb au cu w hL hV hc hcv
  obtain ⟨w0, hw0⟩ : ∃ w0, (w.alloc (.cells #[.int .i64 k, .int .i64 n, .slice a xs.length cap] 24)).alloc (.cells #[.int .u64 (M.pt 0 N), .int .u64 (M.pt 1 N), .int .u64 (M.pt 2 N), .int .u64 (M.pt 3 N), .slice ab bs.length cb, .slice au us.length cu, .int .i64 p] 33) = w0 := ⟨_, rfl⟩
  have hB0 : BoxT w0 w.heap.size k n (.slice a xs.length cap) := by rw [← hw0]; exact ⟨by simp [go_sem], by simp [go_sem], by simp [go_sem]⟩
  have hV0 : Cells7 w0 (w.heap.size + 1) 0 N (.slice ab bs.length cb) (.slice au us.length cu) p := by
    rw [← hw0]
    exact ⟨by simp [go_sem], by simp [go_sem], by simp [go_sem], by simp [go_sem], by simp [go_sem], by simp [go_sem], by simp [go_sem]⟩
  have hb0 : Below w.heap.size w w0 := by rw [← hw0]; exact two_boxes _ _ _
  have hz0 : w0.heap.size = w.heap.size + 2 := by rw [← hw0]; simp
  have HW := Lib.hid hw0
  have HR : Hid (M.fitsV (.mk k n xs) (.mk N bs us p) = if M.chkT 0 (.mk k n xs) = 0 then M.fitV (.mk k n xs) (.mk N bs us p) else M.chkT 0 (.mk k n xs)) := by show _ = _; rw [M.fitsV]
  obtain ⟨R, hR⟩ : ∃ R, R = M.fitsV (.mk k n xs) (.mk N bs us p) := ⟨_, rfl⟩
  rw [← hR] at HR
  rw [← hR]
  clear hw0 hR
  go_enter Tryz.func24, Tryz.ntmps24
  go_wp2_with fail
  rw [HW.out]
  refine (table_any w0).mono ?_
  rintro e w1 ⟨rfl, ⟨cs, hK⟩, hb1⟩
  rw [hz0]
  rw [hz0] at hK
  have hbw1 := hb0.trans (hb1.mono hb0.size)
  have hB1 := hB0.from_ hb1 (by omega)
  have hV1 := hV0.from_ hb1 (by omega)
  have d0 := hB1.c0
  have d1 := hB1.c1
  have d2 := hB1.c2
  have HC := Lib.hid (kcheck_any k n xs a cap _ cs w1 ((hL.from_ hbw1).mono hbw1.size) hc hK)
  go_wp2_with fail
  refine HC.out.mono ?_
  rintro e w2 ⟨rfl, hb2⟩
  have hbw2 := hbw1.trans (hb2.mono hbw1.size)
  have hK2 := (hK.from_ hb2).mono hb2.size
  have hz1 := hb1.size
  have hB2 := hB1.from_ hb2 (by omega)
  have hV2 := hV1.from_ hb2 (by omega)
  clear d0 d1 d2 HC
  by_cases h0 : M.chkT 0 (.mk k n xs) = 0
  · have hR := HR.out
    rw [if_pos h0] at hR
    have HF := Lib.hid (kfault_n (w.heap.size + 2) cs _ k n xs a cap N bs us p ab cb au cu w2 (Nat.le_refl _) ((hL.from_ hbw2).mono hbw2.size) ((hV.from_ hbw2).mono hbw2.size) ⟨0, h0⟩ hK2 (by rw [M.cntV] at hcv; omega))
    have HRS := Lib.hid hR
    rw [h0]
    have d0 := hB2.c0
    have d1 := hB2.c1
    have d2 := hB2.c2
    have v0 := hV2.c0
    have v1 := hV2.c1
    have v2 := hV2.c2
    have v3 := hV2.c3
    have v4 := hV2.c4
    have v5 := hV2.c5
    have v6 := hV2.c6
    simp only [Nat.zero_add] at v1 v2 v3 v4 v5 v6
    clear HR hR h0
    go_wp2_with fail
    refine HF.out.mono ?_
    rintro e w3 ⟨rfl, hb3⟩
    go_wp2_with fail
    go_ret
    exact ⟨by rw [HRS.out]; rfl, hbw2.trans (hb3.mono hbw2.size)⟩
  · have hR := HR.out
    rw [if_neg h0] at hR
    generalize M.chkT 0 (.mk k n xs) = q at *
    have hq : (((q : Nat) : Int) != 0) = true := by simp; omega
    have HRS := Lib.hid hR
    clear HR hR h0
    go_wp2_with fail
    go_ret
    exact ⟨by rw [HRS.out]; rfl, hbw2⟩
end Go.Proofs.YtgloapcfmlijlaaGreatDoor
namespace Go.Proofs.YtgloapcfmlijlaaGreatDoor
open Go Go.RowKit Go.Shelf

theorem below_drewN {n q : Nat} {w W : World} (h : Below n w W) : Below n w (W.drewN q) := ⟨h.os, h.tape, h.output, h.size, h.block⟩

set_option maxRecDepth 100000 in
set_option maxHeartbeats 4000000 in
theorem equal_bits (bs bs2 : List Bool) (ab : Option Addr) (cb : Nat) (ab2 : Option Addr) (cb2 : Nat) (w : World) (hB : LayB w w.heap.size bs (.slice ab bs.length cb)) (hB2 : LayB w w.heap.size bs2 (.slice ab2 bs2.length cb2)) (hl : bs.length ≤ 50000) (_hl2 : bs2.length ≤ 50000) :
    Calls Tryz.prog 58 #[.slice ab bs.length cb, .slice ab2 bs2.length cb2] w fun e w' => e = .returned (.bool (bs == bs2)) ∧ Below w.heap.size w w' := by
  obtain ⟨R, hR⟩ : ∃ R, R = (bs == bs2) := ⟨_, rfl⟩
  rw [← hR]
  by_cases hlen : bs.length = bs2.length
  · have hne : ((bs.length : Int) != (bs2.length : Int)) = false := by simp; omega
    have HLen := Lib.hid hlen
    have HRR := Lib.hid hR
    clear hlen hR
    go_enter Tryz.func58, Tryz.ntmps58
    go_wp2_with fail
    clear hne
    go_loopw [13] (fun i wr => ∃ j : Nat, j ≤ bs.length ∧ i = .int .i64 j ∧ bs.take j = bs2.take j ∧ Below w.heap.size w wr) (fun i _ => bs.length - (intOf i).toNat)
    case atStart => exact ⟨0, by omega, rfl, by simp, Below.refl _ _⟩
    case round =>
      obtain ⟨j, hj, rfl, hq, hW⟩ := hrel
      by_cases hlt : j < bs.length
      · obtain ⟨b, o, x, rfl, hbn, hx, e0⟩ := hB.at_ hlt
        have hlt2 : j < bs2.length := by have := HLen.out; omega
        obtain ⟨b', o', y, rfl, hbn', hy, e0'⟩ := hB2.at_ hlt2
        have g0 := (hW.cell (p := ⟨b, o + j, none⟩) hbn).trans e0
        have g1 := (hW.cell (p := ⟨b', o' + j, none⟩) hbn').trans e0'
        have hj9 : j < 50000 := by omega
        have HQ := Lib.hid hq
        clear hq hB hB2 e0 e0' hl
        by_cases hxy : x = y
        · subst hxy
          have HT : Hid (bs.take (j + 1) = bs2.take (j + 1)) := by show _ = _; rw [List.take_add_one, List.take_add_one, HQ.out, hx, hy]
          clear hx hy
          cases x
          all_goals
            go_wp2_with fail
            go_quiet (fail)
            go_wp2_with fail
            go_roundw
            case rel => exact ⟨j + 1, by omega, by simp, HT.out, below_drewN hW⟩
            case measure => simp [intOf]; omega
        · have HR : Hid (R = false) := by
            show _ = _
            rw [HRR.out]
            exact M.bits_first hx hy hxy
          clear hx hy
          cases x <;> cases y
          all_goals first | exact absurd rfl hxy | skip
          all_goals
            go_wp2_with fail
            go_quiet (fail)
            go_wp2_with fail
            go_ret
            exact ⟨by rw [HR.out]; rfl, below_drewN hW⟩
      · obtain rfl : j = bs.length := by omega
        have HR : Hid (R = true) := by
          show _ = _
          rw [HRR.out]
          have h2 := HLen.out
          rw [List.take_length, h2, List.take_length] at hq
          rw [hq]
          simp
        clear hq
        go_wp2_with fail
        go_ret
        exact ⟨by rw [HR.out]; rfl, hW⟩
  · have hne : ((bs.length : Int) != (bs2.length : Int)) = true := by simp; omega
    have HR : Hid (R = false) := by
      show _ = _
      rw [hR, beq_eq_false_iff_ne]
      intro e
      exact hlen (by rw [e])
    clear hlen hR
    go_enter Tryz.func58, Tryz.ntmps58
    go_wp2_with fail
    go_ret
    exact ⟨by rw [HR.out]; rfl, Below.refl _ _⟩

def SameK (z : Nat) : Prop := ∀ (N : Nat) (bs : List Bool) (us : List M.Va) (p : Int) (ab : Option Addr) (cb : Nat) (au : Option Addr) (cu : Nat) (N2 : Nat) (bs2 : List Bool) (us2 : List M.Va) (p2 : Int) (ab2 : Option Addr) (cb2 : Nat) (au2 : Option Addr) (cu2 : Nat) (w : World),
  SizeOf.sizeOf us ≤ z → Vl w w.heap.size N bs us ab cb au cu → Vl w w.heap.size N2 bs2 us2 ab2 cb2 au2 cu2 → (M.cntVs us ≤ 6000 ∧ bs.length ≤ 50000) → (M.cntVs us2 ≤ 6000 ∧ bs2.length ≤ 50000) →
  Calls Tryz.prog 26 #[vv N (.slice ab bs.length cb) (.slice au us.length cu) p, vv N2 (.slice ab2 bs2.length cb2) (.slice au2 us2.length cu2) p2] w fun e w' => e = .returned (.bool (M.sameV (.mk N bs us p) (.mk N2 bs2 us2 p2))) ∧ Below w.heap.size w w'

set_option maxRecDepth 100000 in
set_option maxHeartbeats 8000000 in
theorem vequal_n (z : Nat) (ih : SameK z) (us us2 : List M.Va) (au : Option Addr) (cu : Nat) (au2 : Option Addr) (cu2 : Nat) (w : World) (hs : SizeOf.sizeOf us ≤ z + 1) (hV : LayV w w.heap.size us (.slice au us.length cu)) (hV2 : LayV w w.heap.size us2 (.slice au2 us2.length cu2)) (hc : M.cntVs us ≤ 6000) (hc2 : M.cntVs us2 ≤ 6000) :
    Calls Tryz.prog 59 #[.slice au us.length cu, .slice au2 us2.length cu2, .func (.func 26) #[] #[]] w fun e w' => e = .returned (.bool (us.length == us2.length && M.sameVs us us2)) ∧ Below w.heap.size w w' := by
  have g1 := M.length_cntV us
  have g2 := M.length_cntV us2
  have E1 : ∀ args w, (callFunc 26 args).run Tryz.prog w = .ok (.enter 26 args) w := enters_of Tryz.func26 (by kernel_rfl) rfl
  obtain ⟨R, hR⟩ : ∃ R, R = (us.length == us2.length && M.sameVs us us2) := ⟨_, rfl⟩
  rw [← hR]
  have IH := Lib.hid ih
  clear ih
  by_cases hlen : us.length = us2.length
  · have hne : ((us.length : Int) != (us2.length : Int)) = false := by simp; omega
    have HLen := Lib.hid hlen
    have HRR : Hid (R = M.sameVs us us2) := by show _ = _; rw [hR, hlen]; simp
    clear hlen hR
    go_enter Tryz.func59, Tryz.ntmps59
    go_wp2_with fail
    clear hne
    go_loopw [17] (fun i wr => ∃ j : Nat, j ≤ us.length ∧ i = .int .i64 j ∧ M.sameVs (us.take j) (us2.take j) = true ∧ Below w.heap.size w wr) (fun i _ => us.length - (intOf i).toNat)
    case atStart => exact ⟨0, by omega, rfl, rfl, Below.refl _ _⟩
    case round =>
      obtain ⟨j, hj, rfl, hq, hW⟩ := hrel
      by_cases hlt : j < us.length
      · have hlt2 : j < us2.length := by have := HLen.out; omega
        obtain ⟨b, o, N, bs, vs, p, ab, cb, av, cv, rfl, hbn, hxk, h7, hVl⟩ := hV.at_ hlt
        obtain ⟨b', o', N2, bs2, vs2, p2, ab2, cb2, av2, cv2, rfl, hbn', hyk, h7', hVl'⟩ := hV2.at_ hlt2
        have h7r := h7.from_ hW hbn
        have h7r' := h7'.from_ hW hbn'
        have e0 := h7r.c0
        have e1 := h7r.c1
        have e2 := h7r.c2
        have e3 := h7r.c3
        have e4 := h7r.c4
        have e5 := h7r.c5
        have e6 := h7r.c6
        have d0 := h7r'.c0
        have d1 := h7r'.c1
        have d2 := h7r'.c2
        have d3 := h7r'.c3
        have d4 := h7r'.c4
        have d5 := h7r'.c5
        have d6 := h7r'.c6
        have hj9 : j < 50000 := by omega
        have hsx := size_va hxk
        rw [M.Va.mk.sizeOf_spec] at hsx
        have k1 := M.cntV_part (List.mem_of_getElem? hxk)
        rw [M.cntV] at k1
        have k2 := M.cntV_part (List.mem_of_getElem? hyk)
        rw [M.cntV] at k2
        have hsz := hW.size
        have IH1 : Hid (∀ W, Below wr.heap.size wr W → Calls Tryz.prog 26 #[vv N (.slice ab bs.length cb) (.slice av vs.length cv) p, vv N2 (.slice ab2 bs2.length cb2) (.slice av2 vs2.length cv2) p2] W fun e w' => e = .returned (.bool (M.sameV (.mk N bs vs p) (.mk N2 bs2 vs2 p2))) ∧ Below W.heap.size W w') := fun W hb => by
          have hbw := hW.trans (hb.mono hsz)
          exact IH.out N bs vs p ab cb av cv N2 bs2 vs2 p2 ab2 cb2 av2 cv2 W (by omega) ((hVl.from_ hbw).mono hbw.size) ((hVl'.from_ hbw).mono hbw.size) ⟨by omega, by omega⟩ ⟨by omega, by omega⟩
        have HN : Hid (M.sameVs (us.take (j + 1)) (us2.take (j + 1)) = M.sameV (.mk N bs vs p) (.mk N2 bs2 vs2 p2)) := by show _ = _; rw [M.sameVs_next hxk hyk, hq, Bool.true_and]
        have HF : Hid (M.sameV (.mk N bs vs p) (.mk N2 bs2 vs2 p2) = false → M.sameVs us us2 = false) := M.sameVs_first hxk hyk
        have hbn1 : Below wr.heap.size wr ((wr.alloc (.cells #[.int .u64 (M.pt 0 N), .int .u64 (M.pt 1 N), .int .u64 (M.pt 2 N), .int .u64 (M.pt 3 N), .slice ab bs.length cb, .slice av vs.length cv, .int .i64 p] 33)).alloc (.cells #[.int .u64 (M.pt 0 N2), .int .u64 (M.pt 1 N2), .int .u64 (M.pt 2 N2), .int .u64 (M.pt 3 N2), .slice ab2 bs2.length cb2, .slice av2 vs2.length cv2, .int .i64 p2] 33)) := by (repeat (first | exact Below.refl _ _ | refine Below.drew ?_ | refine Below.alloc ?_ (by first | omega | (simp; omega) | simp) _ | refine Below.setCell ?_ (by first | omega | (simp; omega) | simp) _))
        generalize M.sameV (.mk N bs vs p) (.mk N2 bs2 vs2 p2) = q at *
        have HB1 := Lib.hid hbn1
        have hbw : b < wr.heap.size := by omega
        have hbw' : b' < wr.heap.size := by omega
        clear hq hV hV2 h7 h7' h7r h7r' hVl hVl' hxk hyk hsx k1 k2 hbn1 IH hc hc2 g1 g2
        go_wp2_with fail
        refine (IH1.out _ HB1.out).mono ?_
        rintro e w1 ⟨rfl, hb1⟩
        have hw1 : Below wr.heap.size wr w1 := HB1.out.trans (hb1.mono (by simp; omega))
        cases q with
        | true =>
          go_wp2_with fail
          go_roundw
          case rel => exact ⟨j + 1, by omega, by simp, HN.out, hW.trans (hw1.mono hsz)⟩
          case measure => simp [intOf]; omega
        | false =>
          go_wp2_with fail
          go_ret
          exact ⟨by rw [HRR.out, HF.out trivial]; rfl, hW.trans (hw1.mono hsz)⟩
      · obtain rfl : j = us.length := by omega
        have h2 := HLen.out
        rw [List.take_length, h2, List.take_length] at hq
        have HT := Lib.hid hq
        have hk2 : us.length ≤ 50000 := by omega
        clear hq hc hc2 h2
        go_wp2_with fail
        go_ret
        exact ⟨by rw [HRR.out, HT.out]; rfl, hW⟩
  · have hne : ((us.length : Int) != (us2.length : Int)) = true := by simp; omega
    have HR : Hid (R = false) := by show _ = _; rw [hR, beq_eq_false_iff_ne.2 hlen, Bool.false_and]
    clear hlen hR
    go_enter Tryz.func59, Tryz.ntmps59
    go_wp2_with fail
    go_ret
    exact ⟨by rw [HR.out]; rfl, Below.refl _ _⟩

set_option maxRecDepth 100000 in
set_option maxHeartbeats 8000000 in
theorem ksame_n (z : Nat) : SameK z := by
  induction z with
  | zero => intro N bs us p ab cb au cu N2 bs2 us2 p2 ab2 cb2 au2 cu2 w h; cases us <;> simp at h
  | succ z ih =>
    intro N bs us p ab cb au cu N2 bs2 us2 p2 ab2 cb2 au2 cu2 w hs hV hV2 hc hc2
    have hbb : ∀ o o', Below w.heap.size w ((w.alloc o).alloc o') := fun o o' => ((Below.refl _ w).alloc (Nat.le_refl _) o).alloc (by simp) o'
    have he := fun W => eqN hV.hN hV2.hN W
    obtain ⟨R, hR⟩ : ∃ R, R = M.sameV (.mk N bs us p) (.mk N2 bs2 us2 p2) := ⟨_, rfl⟩
    rw [← hR]
    rw [M.sameV_eq] at hR
    have HQ : Hid (∀ W, Below w.heap.size w W → Calls Tryz.prog 58 #[.slice ab bs.length cb, .slice ab2 bs2.length cb2] W fun e w' => e = .returned (.bool (bs == bs2)) ∧ Below W.heap.size W w') := fun W h => equal_bits bs bs2 ab cb ab2 cb2 W ((hV.b.from_ h).mono h.size) ((hV2.b.from_ h).mono h.size) hc.2 hc2.2
    have HV : Hid (∀ W, Below w.heap.size w W → Calls Tryz.prog 59 #[.slice au us.length cu, .slice au2 us2.length cu2, .func (.func 26) #[] #[]] W fun e w' => e = .returned (.bool (us.length == us2.length && M.sameVs us us2)) ∧ Below W.heap.size W w') := fun W h => vequal_n z ih us us2 au cu au2 cu2 W hs ((hV.v.from_ h).mono h.size) ((hV2.v.from_ h).mono h.size) hc.1 hc2.1
    generalize (us.length == us2.length && M.sameVs us us2) = q2 at *
    generalize (bs == bs2) = q1 at *
    obtain ⟨w0, hw0⟩ : ∃ w0, (w.alloc (.cells #[.int .u64 (M.pt 0 N), .int .u64 (M.pt 1 N), .int .u64 (M.pt 2 N), .int .u64 (M.pt 3 N), .slice ab bs.length cb, .slice au us.length cu, .int .i64 p] 33)).alloc (.cells #[.int .u64 (M.pt 0 N2), .int .u64 (M.pt 1 N2), .int .u64 (M.pt 2 N2), .int .u64 (M.pt 3 N2), .slice ab2 bs2.length cb2, .slice au2 us2.length cu2, .int .i64 p2] 33) = w0 := ⟨_, rfl⟩
    have hb0 : Below w.heap.size w w0 := by rw [← hw0]; exact hbb _ _
    have hz0 : w0.heap.size = w.heap.size + 2 := by rw [← hw0]; simp
    have hA : Cells7 w0 w.heap.size 0 N (.slice ab bs.length cb) (.slice au us.length cu) p := by
      rw [← hw0]
      exact (Cells7.new w N (.slice ab bs.length cb) (.slice au us.length cu) p 33).from_ ((Below.refl _ _).alloc (Nat.le_refl _) _) (by simp)
    have hB : Cells7 w0 (w.heap.size + 1) 0 N2 (.slice ab2 bs2.length cb2) (.slice au2 us2.length cu2) p2 := by
      rw [← hw0]
      exact ⟨by simp [go_sem], by simp [go_sem], by simp [go_sem], by simp [go_sem], by simp [go_sem], by simp [go_sem], by simp [go_sem]⟩
    have HW := Lib.hid hw0
    have a0 := hA.c0
    have a1 := hA.c1
    have a2 := hA.c2
    have a3 := hA.c3
    have a4 := hA.c4
    have a5 := hA.c5
    have a6 := hA.c6
    have b0 := hB.c0
    have b1 := hB.c1
    have b2 := hB.c2
    have b3 := hB.c3
    have b4 := hB.c4
    have b5 := hB.c5
    have b6 := hB.c6
    simp only [Nat.zero_add] at a1 a2 a3 a4 a5 a6 b1 b2 b3 b4 b5 b6
    clear hw0 ih hs hV hV2 hc hc2
    by_cases hN : N = N2
    · have hd : decide (N = N2) = true := decide_eq_true hN
      rw [hd] at he
      have hR1 : R = (p == p2 && q1 && q2) := by rw [hR, hN]; simp
      have HR1 := Lib.hid hR1
      clear hR hR1 hd hN
      by_cases hp : p = p2
      · subst hp
        have HR2 : Hid (R = (q1 && q2)) := by show _ = _; rw [HR1.out]; simp
        clear HR1
        cases q1 with
        | false =>
          go_enter Tryz.func26, Tryz.ntmps26
          go_wp2_with fail
          rw [HW.out]
          refine (HQ.out _ hb0).mono ?_
          rintro e w1 ⟨rfl, hb1⟩
          go_wp2_with fail
          go_ret
          exact ⟨by rw [HR2.out]; rfl, hb0.trans (hb1.mono hb0.size)⟩
        | true =>
          go_enter Tryz.func26, Tryz.ntmps26
          go_wp2_with fail
          rw [HW.out]
          refine (HQ.out _ hb0).mono ?_
          rintro e w1 ⟨rfl, hb1⟩
          have hbw1 := hb0.trans (hb1.mono hb0.size)
          have c5 := (hA.from_ hb1 (by omega)).c5
          have d5 := (hB.from_ hb1 (by omega)).c5
          simp only [Nat.zero_add] at c5 d5
          go_wp2_with fail
          refine (HV.out _ hbw1).mono ?_
          rintro e w2 ⟨rfl, hb2⟩
          go_wp2_with fail
          go_ret
          exact ⟨by rw [HR2.out]; rfl, hbw1.trans (hb2.mono hbw1.size)⟩
      · have HR2 : Hid (R = false) := by show _ = _; rw [HR1.out, beq_eq_false_iff_ne.2 hp]; simp
        have hp' : (p == p2) = false := by simpa using hp
        clear HR1 hp
        go_enter Tryz.func26, Tryz.ntmps26
        go_wp2_with fail
        go_ret
        exact ⟨by rw [HR2.out]; rfl, hbb _ _⟩
    · have hd : decide (N = N2) = false := decide_eq_false hN
      rw [hd] at he
      have HR2 : Hid (R = false) := by show _ = _; rw [hR, beq_eq_false_iff_ne.2 hN]; simp
      clear hR hN hd
      go_enter Tryz.func26, Tryz.ntmps26
      go_wp2_with fail
      go_ret
      exact ⟨by rw [HR2.out]; rfl, hbb _ _⟩

theorem shape_same : SSameOk := fun N bs us p ab cb au cu N2 bs2 us2 p2 ab2 cb2 au2 cu2 w hV hV2 hc hc2 => by
  rw [M.cntV] at hc hc2
  exact ksame_n _ N bs us p ab cb au cu N2 bs2 us2 p2 ab2 cb2 au2 cu2 w (Nat.le_refl _) hV hV2 ⟨by omega, by omega⟩ ⟨by omega, by omega⟩
end Go.Proofs.YtgloapcfmlijlaaGreatDoor
namespace Go.Proofs.YtgloapcfmlijlaaGreatDoor
open Go Go.RowKit

end Go.Proofs.YtgloapcfmlijlaaGreatDoor
namespace Go.Proofs.YtgloapcfmlijlaaGreatDoor
open Go Go.RowKit

/-- What a slice of items leads to, in the first n blocks. -/
inductive Lay (w : World) (n : Nat) : List M.It → Value → Prop
  | nil_ {a : Option Addr} {cap : Nat} (hm : cap ≤ maxLen) : Lay w n [] (.slice a 0 cap)
  | row {xs : List M.It} {b o cap : Nat} (V : Nat → Value) (hb : b < n) (hc : xs.length ≤ cap) (hm : cap ≤ maxLen)
      (c0 : ∀ i l d ys, xs[i]? = some (.mk l d ys) → w.cell? ⟨b, o + i * 3, none⟩ = some (.bool l))
      (c1 : ∀ i l d ys, xs[i]? = some (.mk l d ys) → w.cell? ⟨b, o + i * 3 + 1, none⟩ = some (.string ⟨d.toArray⟩))
      (c2 : ∀ i l d ys, xs[i]? = some (.mk l d ys) → w.cell? ⟨b, o + i * 3 + 2, none⟩ = some (V i))
      (r : ∀ i l d ys, xs[i]? = some (.mk l d ys) → Lay w n ys (V i)) : Lay w n xs (.slice (some ⟨b, o, none⟩) xs.length cap)

theorem Lay.from_ {w W : World} {n : Nat} {xs : List M.It} {v : Value} (h : Lay w n xs v) (hb : Below n w W) : Lay W n xs v := by
  induction h with
  | nil_ hm => exact .nil_ hm
  | row V hlt hc hm c0 c1 c2 _ ih =>
    exact .row V hlt hc hm (fun i l d ys e => (hb.cell (p := ⟨_, _, _⟩) hlt).trans (c0 i l d ys e)) (fun i l d ys e => (hb.cell (p := ⟨_, _, _⟩) hlt).trans (c1 i l d ys e)) (fun i l d ys e => (hb.cell (p := ⟨_, _, _⟩) hlt).trans (c2 i l d ys e)) ih
theorem Lay.mono {w : World} {n m : Nat} {xs : List M.It} {v : Value} (h : Lay w n xs v) (hnm : n ≤ m) : Lay w m xs v := by
  induction h with
  | nil_ hm => exact .nil_ hm
  | row V hlt hc hm c0 c1 c2 _ ih => exact .row V (by omega) hc hm c0 c1 c2 ih

/-- The slice itself. -/
theorem Lay.slice {w : World} {n : Nat} {xs : List M.It} {v : Value} (h : Lay w n xs v) : ∃ a cap, v = .slice a xs.length cap ∧ xs.length ≤ cap ∧ cap ≤ maxLen := by
  cases h with
  | nil_ hm => exact ⟨_, _, rfl, Nat.zero_le _, hm⟩
  | row V hlt hc hm c0 c1 c2 r => exact ⟨_, _, rfl, hc, hm⟩
/-- One item of a slice. -/
theorem Lay.at_ {w : World} {n k : Nat} {xs : List M.It} {v : Value} (h : Lay w n xs v) (hk : k < xs.length) : ∃ b o cap l d ys u, v = .slice (some ⟨b, o, none⟩) xs.length cap ∧ b < n ∧ xs[k]? = some (.mk l d ys) ∧
    w.cell? ⟨b, o + k * 3, none⟩ = some (.bool l) ∧ w.cell? ⟨b, o + k * 3 + 1, none⟩ = some (.string ⟨d.toArray⟩) ∧ w.cell? ⟨b, o + k * 3 + 2, none⟩ = some u ∧ Lay w n ys u := by
  cases h with
  | nil_ hm => simp at hk
  | @row _ b o cap V hlt hc hm c0 c1 c2 r =>
    obtain ⟨l, d, ys, e⟩ : ∃ l d ys, xs[k]? = some (.mk l d ys) := by
      rw [List.getElem?_eq_getElem hk]
      obtain ⟨l, d, ys⟩ := xs[k]
      exact ⟨l, d, ys, rfl⟩
    exact ⟨b, o, cap, l, d, ys, V k, rfl, hlt, e, c0 k l d ys e, c1 k l d ys e, c2 k l d ys e, r k l d ys e⟩

/-- The box of an item. -/
structure Box (W : World) (S : Nat) (l : Bool) (d : List UInt8) (v : Value) : Prop where
  c0 : W.cell? ⟨S, 0, none⟩ = some (.bool l)
  c1 : W.cell? ⟨S, 1, none⟩ = some (.string ⟨d.toArray⟩)
  c2 : W.cell? ⟨S, 2, none⟩ = some v
theorem Box.new (w : World) (l : Bool) (d : List UInt8) (v : Value) (t : TypeId) : Box (w.alloc (.cells #[.bool l, .string ⟨d.toArray⟩, v] t)) w.heap.size l d v := ⟨by simp [go_sem], by simp [go_sem], by simp [go_sem]⟩
theorem Box.from_ {w W : World} {S n : Nat} {l : Bool} {d : List UInt8} {v : Value} (h : Box w S l d v) (hb : Below n w W) (hS : S < n) : Box W S l d v :=
  ⟨(hb.cell (p := ⟨S, 0, none⟩) hS).trans h.c0, (hb.cell (p := ⟨S, 1, none⟩) hS).trans h.c1, (hb.cell (p := ⟨S, 2, none⟩) hS).trans h.c2⟩

end Go.Proofs.YtgloapcfmlijlaaGreatDoor
namespace Go.Proofs.YtgloapcfmlijlaaGreatDoor
open Go Go.RowKit

theorem cutS (t : List UInt8) (j k : Nat) : (⟨t.toArray⟩ : ByteArray).extract j k = ⟨((t.take k).drop j).toArray⟩ := by
  apply ByteArray.ext
  simp [ByteArray.data_extract, List.drop_take]

/-- A string from one place to another one. -/
theorem slice_str (l : List UInt8) (a b : Nat) (hab : a ≤ b) (hbl : b ≤ l.length) (w : World) :
    (Instr.slice 9 (.string ⟨l.toArray⟩) (some (.int .i64 a)) (some (.int .i64 b)) none).run Tryz.prog w = .ok (.string ((⟨l.toArray⟩ : ByteArray).extract a b)) w := by
  have h1 : ((a : Nat) : Int) ≤ b := by omega
  have hs : (⟨l.toArray⟩ : ByteArray).size = l.length := rfl
  have h2 : ((b : Nat) : Int) ≤ ((⟨l.toArray⟩ : ByteArray).size : Nat) := by rw [hs]; omega
  simp [Instr.slice, run_underlying Tryz.underlying9, Instr.sliceBounds, run_sliceBound, h1, h2]

end Go.Proofs.YtgloapcfmlijlaaGreatDoor
