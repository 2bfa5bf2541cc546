/- The landed package shape: Check, Fixed, Size, Fits. The landed package shape: Same. The landed package shape does what the laws ask of it. -/
import Derived.Test.YtaajkbclojmbeaaGreatDoorI08
import Derived.Test.YtaajkbclojmbeaaGreatDoorI10
import Derived.Deep.RegionWith
import Derived.Test.YtaajkbclojmbeaaGreatDoorI07
import Derived.Test.YtaajkbclojmbeaaGreatDoorI04
import Derived.Shelf.Abstract
namespace Go.Proofs.YtaajkbclojmbeaaGreatDoor
open Go Go.RowKit Go.Shelf

/-- The table, made in a world behind a draw, beside the box of a type. -/
structure TabP (w : World) (k n : Int) (v : Value) (w1 : World) (cs : List Nat) : Prop where
  ks : Kinds w1 w1.heap.size (w.heap.size + 1) cs
  below : Below w.heap.size w w1
  d0 : w1.cell? ⟨w.heap.size, 0, none⟩ = some (.int .i64 k)
  d1 : w1.cell? ⟨w.heap.size, 1, none⟩ = some (.int .i64 n)
  d2 : w1.cell? ⟨w.heap.size, 2, none⟩ = some v
theorem tab_any (w W : World) (k n : Int) (v : Value) (hb : Below w.heap.size w W) (hB : BoxT W w.heap.size k n v) (hz : W.heap.size = w.heap.size + 1) :
    Calls Tryz.prog 42 #[] W fun e w1 => e = .returned (.map (some (w.heap.size + 1))) ∧ ∃ cs, TabP w k n v w1 cs := by
  refine (table_any W).mono ?_
  rintro e w1 ⟨rfl, ⟨cs, hK⟩, hb1⟩
  have hB1 := hB.from_ hb1 (by omega)
  rw [hz] at hK
  exact ⟨by rw [hz], cs, hK, hb.trans (hb1.mono (by omega)), hB1.c0, hB1.c1, hB1.c2⟩

set_option maxRecDepth 100000 in
set_option maxHeartbeats 1000000 in
theorem shape_fixed : SFixedOk := by
  intro k n xs a cap w hL hc
  obtain ⟨w0, hw0⟩ : ∃ w0, w.alloc (.cells #[.int .i64 k, .int .i64 n, .slice a xs.length cap] 32) = w0 := ⟨_, rfl⟩
  have hB0 : BoxT w0 w.heap.size k n (.slice a xs.length cap) := by rw [← hw0]; exact BoxT.new _ _ _ _ _
  have hb0 : Below w.heap.size w w0 := by rw [← hw0]; exact (Below.refl _ _).alloc (Nat.le_refl _) _
  have hz0 : w0.heap.size = w.heap.size + 1 := by rw [← hw0]; simp
  have HT : Hid (Calls Tryz.prog 42 #[] w0.drew fun e w1 => e = .returned (.map (some (w.heap.size + 1))) ∧ ∃ cs, TabP w k n (.slice a xs.length cap) w1 cs) := tab_any w w0.drew k n _ (Below.drew hb0) ⟨hB0.c0, hB0.c1, hB0.c2⟩ hz0
  have HC : Hid (∀ (W : World) (cs : List Nat), TabP w k n (.slice a xs.length cap) W cs → Calls Tryz.prog 112 #[.map (some (w.heap.size + 1)), tv k n (.slice a xs.length cap)] W fun e w' => e = .returned (.bool (M.fixedT (.mk k n xs))) ∧ Below w.heap.size w w') := fun W cs h =>
    (kfixed_any k n xs a cap _ cs W ((hL.from_ h.below).mono h.below.size) hc h.ks).mono fun _ _ q => ⟨q.1, h.below.trans (q.2.mono h.below.size)⟩
  have HW := Lib.hid hw0
  have c0 := hB0.c0
  have c1 := hB0.c1
  have c2 := hB0.c2
  clear hw0 hL hc hB0
  go_enter Tryz.func192, Tryz.ntmps192
  go_wp2_with fail
  rw [HW.out]
  go_region_with (first | (refine HT.out.mono ?_; rintro e w1 ⟨rfl, cs, hP⟩; have d0 := hP.d0; have d1 := hP.d1; have d2 := hP.d2) | (refine (HC.out _ cs hP).mono ?_; rintro e w2 ⟨rfl, hb2⟩))
  all_goals
    simp only [List.getElem_toArray, List.getElem_cons_zero, List.getElem_cons_succ, Act.put, List.setIfInBounds_toArray, List.set_cons_zero, List.set_cons_succ]
    go_wp2_with fail
    go_ret
    exact ⟨rfl, hb2⟩
set_option maxRecDepth 100000 in
set_option maxHeartbeats 1000000 in
theorem shape_size : SSizeOk := by
  intro k n xs a cap w hL hc
  obtain ⟨w0, hw0⟩ : ∃ w0, w.alloc (.cells #[.int .i64 k, .int .i64 n, .slice a xs.length cap] 32) = w0 := ⟨_, rfl⟩
  have hB0 : BoxT w0 w.heap.size k n (.slice a xs.length cap) := by rw [← hw0]; exact BoxT.new _ _ _ _ _
  have hb0 : Below w.heap.size w w0 := by rw [← hw0]; exact (Below.refl _ _).alloc (Nat.le_refl _) _
  have hz0 : w0.heap.size = w.heap.size + 1 := by rw [← hw0]; simp
  have HT : Hid (Calls Tryz.prog 42 #[] w0 fun e w1 => e = .returned (.map (some (w.heap.size + 1))) ∧ ∃ cs, TabP w k n (.slice a xs.length cap) w1 cs) := tab_any w w0 k n _ hb0 hB0 hz0
  have HC : Hid (∀ (W : World) (cs : List Nat), TabP w k n (.slice a xs.length cap) W cs → Calls Tryz.prog 112 #[.map (some (w.heap.size + 1)), tv k n (.slice a xs.length cap)] W fun e w' => e = .returned (.bool (M.fixedT (.mk k n xs))) ∧ TabP w k n (.slice a xs.length cap) w' cs) := fun W cs h =>
    (kfixed_any k n xs a cap _ cs W ((hL.from_ h.below).mono h.below.size) hc h.ks).mono fun _ w' q => ⟨q.1, ⟨(h.ks.from_ q.2).mono q.2.size, h.below.trans (q.2.mono h.below.size), (q.2.cell (p := ⟨w.heap.size, 0, none⟩) (by have := h.ks.lt; simp; omega)).trans h.d0, (q.2.cell (p := ⟨w.heap.size, 1, none⟩) (by have := h.ks.lt; simp; omega)).trans h.d1, (q.2.cell (p := ⟨w.heap.size, 2, none⟩) (by have := h.ks.lt; simp; omega)).trans h.d2⟩⟩
  have HS : Hid (∀ (W : World) (cs : List Nat), M.fixedT (.mk k n xs) = true → TabP w k n (.slice a xs.length cap) W cs → Calls Tryz.prog 113 #[.map (some (w.heap.size + 1)), tv k n (.slice a xs.length cap)] W fun e w' => e = .returned (.int .i64 (M.szT (.mk k n xs) : Nat)) ∧ Below w.heap.size w w') := fun W cs hf h => by
    unfold M.fixedT at hf
    by_cases h0 : M.chkT 0 (.mk k n xs) = 0
    · rw [if_pos h0] at hf
      exact (ksize_any k n xs a cap _ cs W ((hL.from_ h.below).mono h.below.size) hc h.ks h0 hf).mono fun _ _ q => ⟨q.1, h.below.trans (q.2.mono h.below.size)⟩
    · rw [if_neg h0] at hf; cases hf
  have HW := Lib.hid hw0
  have HR : Hid (M.sizeT (.mk k n xs) = if M.fixedT (.mk k n xs) = true then M.szT (.mk k n xs) else 0) := by show _ = _; rw [M.sizeT]
  obtain ⟨R, hR⟩ : ∃ R, R = M.sizeT (.mk k n xs) := ⟨_, rfl⟩
  rw [← hR] at HR
  rw [← hR]
  generalize M.fixedT (.mk k n xs) = q at *
  clear hw0 hL hc hB0 hR
  go_enter Tryz.func48, Tryz.ntmps48
  go_wp2_with fail
  rw [HW.out]
  refine HT.out.mono ?_
  rintro e w1 ⟨rfl, cs, hP⟩
  have d0 := hP.d0
  have d1 := hP.d1
  have d2 := hP.d2
  go_wp2_with fail
  refine (HC.out _ cs hP).mono ?_
  rintro e w2 ⟨rfl, hP2⟩
  have e0 := hP2.d0
  have e1 := hP2.d1
  have e2 := hP2.d2
  clear d0 d1 d2
  cases q with
  | false =>
    go_wp2_with fail
    go_ret
    exact ⟨by rw [HR.out]; rfl, hP2.below⟩
  | true =>
    go_wp2_with fail
    refine (HS.out _ cs trivial hP2).mono ?_
    rintro e w3 ⟨rfl, hb3⟩
    go_wp2_with fail
    go_ret
    exact ⟨by rw [HR.out]; rfl, hb3⟩

set_option maxRecDepth 100000 in
set_option maxHeartbeats 1000000 in
theorem shape_fits : SFitsOk := by
  intro k n xs a cap N bs us p ab cb au cu w hL hV hc hcv
  obtain ⟨w0, hw0⟩ : ∃ w0, (w.alloc (.cells #[.int .i64 k, .int .i64 n, .slice a xs.length cap] 32)).alloc (.cells #[.int .u64 (M.pt 0 N), .int .u64 (M.pt 1 N), .int .u64 (M.pt 2 N), .int .u64 (M.pt 3 N), .slice ab bs.length cb, .slice au us.length cu, .int .i64 p] 38) = w0 := ⟨_, rfl⟩
  have hB0 : BoxT w0 w.heap.size k n (.slice a xs.length cap) := by rw [← hw0]; exact ⟨by simp [go_sem], by simp [go_sem], by simp [go_sem]⟩
  have hV0 : Cells7 w0 (w.heap.size + 1) 0 N (.slice ab bs.length cb) (.slice au us.length cu) p := by
    rw [← hw0]
    exact ⟨by simp [go_sem], by simp [go_sem], by simp [go_sem], by simp [go_sem], by simp [go_sem], by simp [go_sem], by simp [go_sem]⟩
  have hb0 : Below w.heap.size w w0 := by rw [← hw0]; exact two_boxes _ _ _
  have hz0 : w0.heap.size = w.heap.size + 2 := by rw [← hw0]; simp
  have HW := Lib.hid hw0
  have HR : Hid (M.fitsV (.mk k n xs) (.mk N bs us p) = if M.chkT 0 (.mk k n xs) = 0 then M.fitV (.mk k n xs) (.mk N bs us p) else M.chkT 0 (.mk k n xs)) := by show _ = _; rw [M.fitsV]
  obtain ⟨R, hR⟩ : ∃ R, R = M.fitsV (.mk k n xs) (.mk N bs us p) := ⟨_, rfl⟩
  rw [← hR] at HR
  rw [← hR]
  clear hw0 hR
  go_enter Tryz.func23, Tryz.ntmps23
  go_wp2_with fail
  rw [HW.out]
  refine (table_any w0).mono ?_
  rintro e w1 ⟨rfl, ⟨cs, hK⟩, hb1⟩
  rw [hz0]
  rw [hz0] at hK
  have hbw1 := hb0.trans (hb1.mono hb0.size)
  have hB1 := hB0.from_ hb1 (by omega)
  have hV1 := hV0.from_ hb1 (by omega)
  have d0 := hB1.c0
  have d1 := hB1.c1
  have d2 := hB1.c2
  have HC := Lib.hid (kcheck_any k n xs a cap _ cs w1 ((hL.from_ hbw1).mono hbw1.size) hc hK)
  go_wp2_with fail
  refine HC.out.mono ?_
  rintro e w2 ⟨rfl, hb2⟩
  have hbw2 := hbw1.trans (hb2.mono hbw1.size)
  have hK2 := (hK.from_ hb2).mono hb2.size
  have hz1 := hb1.size
  have hB2 := hB1.from_ hb2 (by omega)
  have hV2 := hV1.from_ hb2 (by omega)
  clear d0 d1 d2 HC
  by_cases h0 : M.chkT 0 (.mk k n xs) = 0
  · have hR := HR.out
    rw [if_pos h0] at hR
    have HF := Lib.hid (kfault_n (w.heap.size + 2) cs _ k n xs a cap N bs us p ab cb au cu w2 (Nat.le_refl _) ((hL.from_ hbw2).mono hbw2.size) ((hV.from_ hbw2).mono hbw2.size) ⟨0, h0⟩ hK2 (by rw [M.cntV] at hcv; omega))
    have HRS := Lib.hid hR
    rw [h0]
    have d0 := hB2.c0
    have d1 := hB2.c1
    have d2 := hB2.c2
    have v0 := hV2.c0
    have v1 := hV2.c1
    have v2 := hV2.c2
    have v3 := hV2.c3
    have v4 := hV2.c4
    have v5 := hV2.c5
    have v6 := hV2.c6
    simp only [Nat.zero_add] at v1 v2 v3 v4 v5 v6
    clear HR hR h0
    go_wp2_with fail
    refine HF.out.mono ?_
    rintro e w3 ⟨rfl, hb3⟩
    go_wp2_with fail
    go_ret
    exact ⟨by rw [HRS.out]; rfl, hbw2.trans (hb3.mono hbw2.size)⟩
  · have hR := HR.out
    rw [if_neg h0] at hR
    generalize M.chkT 0 (.mk k n xs) = q at *
    have hq : (((q : Nat) : Int) != 0) = true := by simp; omega
    have HRS := Lib.hid hR
    clear HR hR h0
    go_wp2_with fail
    go_ret
    exact ⟨by rw [HRS.out]; rfl, hbw2⟩
end Go.Proofs.YtaajkbclojmbeaaGreatDoor
namespace Go.Proofs.YtaajkbclojmbeaaGreatDoor
open Go Go.RowKit Go.Shelf

end Go.Proofs.YtaajkbclojmbeaaGreatDoor
namespace Go.Proofs.YtaajkbclojmbeaaGreatDoor
open Go Go.RowKit

end Go.Proofs.YtaajkbclojmbeaaGreatDoor
