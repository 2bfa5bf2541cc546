/- Package tx: how the table is made. A range over a function whose body may end in a panic: the laws of the walk for that, out of the kit's own steps. Package tx: the fields of a kind, one by one. -/
import Derived.Test.YtebjhbeaknokkaaGreatDoorH01
import Derived.RangeFuncBound
import Derived.RangeFuncCalls
import Derived.RangeFuncLeaves
import Derived.RangeFuncNested
import Derived.Lib.Hide
import Derived.Laws.Rows
import Derived.Laws.Tables
import Derived.OwnWalkIn
namespace Go.Proofs.YtebjhbeaknokkaaGreatDoor
open Go Go.RowKit Go.Lib Go.Shelf

theorem gettext_any (n : Int) (w : World) : Calls Tryz.prog 160 #[.int .i64 n] w fun e w' => (∃ gc, e = .returned (.func (.func 233) #[] gc)) ∧ Below w.heap.size w w' := by
  go_enter Tryz.func160, Tryz.ntmps160
  go_wp2_with fail
  go_ret
  exact ⟨⟨_, rfl⟩, by (repeat (first | exact Below.refl _ _ | refine Below.drew ?_ | refine Below.alloc ?_ (by first | omega | (simp; omega) | simp) _ | refine Below.setCell ?_ (by first | omega | (simp; omega) | simp) _))⟩
set_option maxRecDepth 100000 in
set_option maxHeartbeats 8000000 in
theorem kinds_any (w : World) : Calls Tryz.prog 91 #[] w fun e w' => (∃ m, e = .returned (.map (some m)) ∧ TKinds w' w'.heap.size m) ∧ Below w.heap.size w w' := by
  go_enter Tryz.func91, Tryz.ntmps91
  go_wp2_with fail
  refine (pk_1 _ _ _ _).mono ?_
  rintro e w1 ⟨⟨p1, g1, l1, fp, fg, rfl, hP⟩, hb⟩
  have s0 := fun W p => store_fn fp W p
  have s1 := fun W p => store_fn fg W p
  have s2 := fun W p => store_fn (isFn_ok hP) W p
  go_wp2_with fail
  obtain ⟨W1, hW⟩ : ∃ W, w1.alloc (.cells #[p1, g1, l1] 180) = W := ⟨_, rfl⟩
  obtain ⟨b1, hbb⟩ : ∃ b, w1.heap.size = b := ⟨_, rfl⟩
  have V1 : Hid (VarAt W1.heap.size W1 b1 (p1, g1, l1)) := by
    show VarAt _ _ _ _
    rw [← hW, ← hbb]
    exact ⟨by simp, by simp [go_sem], by simp [go_sem], by simp [go_sem], (hP.from_ ((Below.refl _ _).alloc (Nat.le_refl _) _)).mono (by simp), fp, fg⟩
  have B1 : Hid (Below w.heap.size w W1) := by
    show Below _ _ _
    rw [← hW]
    exact hb.alloc hb.size _
  rw [hW, hbb]
  clear hP hb fp fg s0 s1 s2 hW hbb
  refine (pk_2 _ _ _ _).mono ?_
  rintro e w2 ⟨⟨p2, g2, l2, fp, fg, rfl, hP⟩, hb⟩
  have s0 := fun W p => store_fn fp W p
  have s1 := fun W p => store_fn fg W p
  have s2 := fun W p => store_fn (isFn_ok hP) W p
  go_wp2_with fail
  obtain ⟨W2, hW⟩ : ∃ W, w2.alloc (.cells #[p2, g2, l2] 180) = W := ⟨_, rfl⟩
  obtain ⟨b2, hbb⟩ : ∃ b, w2.heap.size = b := ⟨_, rfl⟩
  have V2 : Hid (VarAt W2.heap.size W2 b2 (p2, g2, l2)) := by
    show VarAt _ _ _ _
    rw [← hW, ← hbb]
    exact ⟨by simp, by simp [go_sem], by simp [go_sem], by simp [go_sem], (hP.from_ ((Below.refl _ _).alloc (Nat.le_refl _) _)).mono (by simp), fp, fg⟩
  have B2 : Hid (Below W1.heap.size W1 W2) := by
    show Below _ _ _
    rw [← hW]
    exact hb.alloc hb.size _
  rw [hW, hbb]
  clear hP hb fp fg s0 s1 s2 hW hbb
  refine (pk_3 _ _ _ _).mono ?_
  rintro e w3 ⟨⟨p3, g3, l3, fp, fg, rfl, hP⟩, hb⟩
  have s0 := fun W p => store_fn fp W p
  have s1 := fun W p => store_fn fg W p
  have s2 := fun W p => store_fn (isFn_ok hP) W p
  go_wp2_with fail
  obtain ⟨W3, hW⟩ : ∃ W, w3.alloc (.cells #[p3, g3, l3] 180) = W := ⟨_, rfl⟩
  obtain ⟨b3, hbb⟩ : ∃ b, w3.heap.size = b := ⟨_, rfl⟩
  have V3 : Hid (VarAt W3.heap.size W3 b3 (p3, g3, l3)) := by
    show VarAt _ _ _ _
    rw [← hW, ← hbb]
    exact ⟨by simp, by simp [go_sem], by simp [go_sem], by simp [go_sem], (hP.from_ ((Below.refl _ _).alloc (Nat.le_refl _) _)).mono (by simp), fp, fg⟩
  have B3 : Hid (Below W2.heap.size W2 W3) := by
    show Below _ _ _
    rw [← hW]
    exact hb.alloc hb.size _
  rw [hW, hbb]
  clear hP hb fp fg s0 s1 s2 hW hbb
  refine (pk_4 _ _ _ _).mono ?_
  rintro e w4 ⟨⟨p4, g4, l4, fp, fg, rfl, hP⟩, hb⟩
  have s0 := fun W p => store_fn fp W p
  have s1 := fun W p => store_fn fg W p
  have s2 := fun W p => store_fn (isFn_ok hP) W p
  go_wp2_with fail
  obtain ⟨W4, hW⟩ : ∃ W, w4.alloc (.cells #[p4, g4, l4] 180) = W := ⟨_, rfl⟩
  obtain ⟨b4, hbb⟩ : ∃ b, w4.heap.size = b := ⟨_, rfl⟩
  have V4 : Hid (VarAt W4.heap.size W4 b4 (p4, g4, l4)) := by
    show VarAt _ _ _ _
    rw [← hW, ← hbb]
    exact ⟨by simp, by simp [go_sem], by simp [go_sem], by simp [go_sem], (hP.from_ ((Below.refl _ _).alloc (Nat.le_refl _) _)).mono (by simp), fp, fg⟩
  have B4 : Hid (Below W3.heap.size W3 W4) := by
    show Below _ _ _
    rw [← hW]
    exact hb.alloc hb.size _
  rw [hW, hbb]
  clear hP hb fp fg s0 s1 s2 hW hbb
  refine (pk_5 _ _ _ _).mono ?_
  rintro e w5 ⟨⟨p5, g5, l5, fp, fg, rfl, hP⟩, hb⟩
  have s0 := fun W p => store_fn fp W p
  have s1 := fun W p => store_fn fg W p
  have s2 := fun W p => store_fn (isFn_ok hP) W p
  go_wp2_with fail
  obtain ⟨W5, hW⟩ : ∃ W, w5.alloc (.cells #[p5, g5, l5] 180) = W := ⟨_, rfl⟩
  obtain ⟨b5, hbb⟩ : ∃ b, w5.heap.size = b := ⟨_, rfl⟩
  have V5 : Hid (VarAt W5.heap.size W5 b5 (p5, g5, l5)) := by
    show VarAt _ _ _ _
    rw [← hW, ← hbb]
    exact ⟨by simp, by simp [go_sem], by simp [go_sem], by simp [go_sem], (hP.from_ ((Below.refl _ _).alloc (Nat.le_refl _) _)).mono (by simp), fp, fg⟩
  have B5 : Hid (Below W4.heap.size W4 W5) := by
    show Below _ _ _
    rw [← hW]
    exact hb.alloc hb.size _
  rw [hW, hbb]
  clear hP hb fp fg s0 s1 s2 hW hbb
  refine (pk_6 _ _ _ _).mono ?_
  rintro e w6 ⟨⟨p6, g6, l6, fp, fg, rfl, hP⟩, hb⟩
  have s0 := fun W p => store_fn fp W p
  have s1 := fun W p => store_fn fg W p
  have s2 := fun W p => store_fn (isFn_ok hP) W p
  go_wp2_with fail
  obtain ⟨W6, hW⟩ : ∃ W, w6.alloc (.cells #[p6, g6, l6] 180) = W := ⟨_, rfl⟩
  obtain ⟨b6, hbb⟩ : ∃ b, w6.heap.size = b := ⟨_, rfl⟩
  have V6 : Hid (VarAt W6.heap.size W6 b6 (p6, g6, l6)) := by
    show VarAt _ _ _ _
    rw [← hW, ← hbb]
    exact ⟨by simp, by simp [go_sem], by simp [go_sem], by simp [go_sem], (hP.from_ ((Below.refl _ _).alloc (Nat.le_refl _) _)).mono (by simp), fp, fg⟩
  have B6 : Hid (Below W5.heap.size W5 W6) := by
    show Below _ _ _
    rw [← hW]
    exact hb.alloc hb.size _
  rw [hW, hbb]
  clear hP hb fp fg s0 s1 s2 hW hbb
  refine (pk_7 _ _ _ _).mono ?_
  rintro e w7 ⟨⟨p7, g7, l7, fp, fg, rfl, hP⟩, hb⟩
  have s0 := fun W p => store_fn fp W p
  have s1 := fun W p => store_fn fg W p
  have s2 := fun W p => store_fn (isFn_ok hP) W p
  go_wp2_with fail
  obtain ⟨W7, hW⟩ : ∃ W, w7.alloc (.cells #[p7, g7, l7] 180) = W := ⟨_, rfl⟩
  obtain ⟨b7, hbb⟩ : ∃ b, w7.heap.size = b := ⟨_, rfl⟩
  have V7 : Hid (VarAt W7.heap.size W7 b7 (p7, g7, l7)) := by
    show VarAt _ _ _ _
    rw [← hW, ← hbb]
    exact ⟨by simp, by simp [go_sem], by simp [go_sem], by simp [go_sem], (hP.from_ ((Below.refl _ _).alloc (Nat.le_refl _) _)).mono (by simp), fp, fg⟩
  have B7 : Hid (Below W6.heap.size W6 W7) := by
    show Below _ _ _
    rw [← hW]
    exact hb.alloc hb.size _
  rw [hW, hbb]
  clear hP hb fp fg s0 s1 s2 hW hbb
  refine (pk_8 _ _ _ _).mono ?_
  rintro e w8 ⟨⟨p8, g8, l8, fp, fg, rfl, hP⟩, hb⟩
  have s0 := fun W p => store_fn fp W p
  have s1 := fun W p => store_fn fg W p
  have s2 := fun W p => store_fn (isFn_ok hP) W p
  go_wp2_with fail
  obtain ⟨W8, hW⟩ : ∃ W, w8.alloc (.cells #[p8, g8, l8] 180) = W := ⟨_, rfl⟩
  obtain ⟨b8, hbb⟩ : ∃ b, w8.heap.size = b := ⟨_, rfl⟩
  have V8 : Hid (VarAt W8.heap.size W8 b8 (p8, g8, l8)) := by
    show VarAt _ _ _ _
    rw [← hW, ← hbb]
    exact ⟨by simp, by simp [go_sem], by simp [go_sem], by simp [go_sem], (hP.from_ ((Below.refl _ _).alloc (Nat.le_refl _) _)).mono (by simp), fp, fg⟩
  have B8 : Hid (Below W7.heap.size W7 W8) := by
    show Below _ _ _
    rw [← hW]
    exact hb.alloc hb.size _
  rw [hW, hbb]
  clear hP hb fp fg s0 s1 s2 hW hbb
  refine (pk_9 _ _ _ _).mono ?_
  rintro e w9 ⟨⟨p9, g9, l9, fp, fg, rfl, hP⟩, hb⟩
  have s0 := fun W p => store_fn fp W p
  have s1 := fun W p => store_fn fg W p
  have s2 := fun W p => store_fn (isFn_ok hP) W p
  go_wp2_with fail
  obtain ⟨W9, hW⟩ : ∃ W, w9.alloc (.cells #[p9, g9, l9] 180) = W := ⟨_, rfl⟩
  obtain ⟨b9, hbb⟩ : ∃ b, w9.heap.size = b := ⟨_, rfl⟩
  have V9 : Hid (VarAt W9.heap.size W9 b9 (p9, g9, l9)) := by
    show VarAt _ _ _ _
    rw [← hW, ← hbb]
    exact ⟨by simp, by simp [go_sem], by simp [go_sem], by simp [go_sem], (hP.from_ ((Below.refl _ _).alloc (Nat.le_refl _) _)).mono (by simp), fp, fg⟩
  have B9 : Hid (Below W8.heap.size W8 W9) := by
    show Below _ _ _
    rw [← hW]
    exact hb.alloc hb.size _
  rw [hW, hbb]
  clear hP hb fp fg s0 s1 s2 hW hbb
  refine (pk_10 _ _ _ _).mono ?_
  rintro e w10 ⟨⟨p10, g10, l10, fp, fg, rfl, hP⟩, hb⟩
  have s0 := fun W p => store_fn fp W p
  have s1 := fun W p => store_fn fg W p
  have s2 := fun W p => store_fn (isFn_ok hP) W p
  go_wp2_with fail
  obtain ⟨W10, hW⟩ : ∃ W, w10.alloc (.cells #[p10, g10, l10] 180) = W := ⟨_, rfl⟩
  obtain ⟨b10, hbb⟩ : ∃ b, w10.heap.size = b := ⟨_, rfl⟩
  have V10 : Hid (VarAt W10.heap.size W10 b10 (p10, g10, l10)) := by
    show VarAt _ _ _ _
    rw [← hW, ← hbb]
    exact ⟨by simp, by simp [go_sem], by simp [go_sem], by simp [go_sem], (hP.from_ ((Below.refl _ _).alloc (Nat.le_refl _) _)).mono (by simp), fp, fg⟩
  have B10 : Hid (Below W9.heap.size W9 W10) := by
    show Below _ _ _
    rw [← hW]
    exact hb.alloc hb.size _
  rw [hW, hbb]
  clear hP hb fp fg s0 s1 s2 hW hbb
  refine (pk_11 _ _ _ _).mono ?_
  rintro e w11 ⟨⟨p11, g11, l11, fp, fg, rfl, hP⟩, hb⟩
  have s0 := fun W p => store_fn fp W p
  have s1 := fun W p => store_fn fg W p
  have s2 := fun W p => store_fn (isFn_ok hP) W p
  go_wp2_with fail
  obtain ⟨W11, hW⟩ : ∃ W, w11.alloc (.cells #[p11, g11, l11] 180) = W := ⟨_, rfl⟩
  obtain ⟨b11, hbb⟩ : ∃ b, w11.heap.size = b := ⟨_, rfl⟩
  have V11 : Hid (VarAt W11.heap.size W11 b11 (p11, g11, l11)) := by
    show VarAt _ _ _ _
    rw [← hW, ← hbb]
    exact ⟨by simp, by simp [go_sem], by simp [go_sem], by simp [go_sem], (hP.from_ ((Below.refl _ _).alloc (Nat.le_refl _) _)).mono (by simp), fp, fg⟩
  have B11 : Hid (Below W10.heap.size W10 W11) := by
    show Below _ _ _
    rw [← hW]
    exact hb.alloc hb.size _
  rw [hW, hbb]
  clear hP hb fp fg s0 s1 s2 hW hbb
  refine (pk_12 _ _ _ _).mono ?_
  rintro e w12 ⟨⟨p12, g12, l12, fp, fg, rfl, hP⟩, hb⟩
  have s0 := fun W p => store_fn fp W p
  have s1 := fun W p => store_fn fg W p
  have s2 := fun W p => store_fn (isFn_ok hP) W p
  go_wp2_with fail
  obtain ⟨W12, hW⟩ : ∃ W, w12.alloc (.cells #[p12, g12, l12] 180) = W := ⟨_, rfl⟩
  obtain ⟨b12, hbb⟩ : ∃ b, w12.heap.size = b := ⟨_, rfl⟩
  have V12 : Hid (VarAt W12.heap.size W12 b12 (p12, g12, l12)) := by
    show VarAt _ _ _ _
    rw [← hW, ← hbb]
    exact ⟨by simp, by simp [go_sem], by simp [go_sem], by simp [go_sem], (hP.from_ ((Below.refl _ _).alloc (Nat.le_refl _) _)).mono (by simp), fp, fg⟩
  have B12 : Hid (Below W11.heap.size W11 W12) := by
    show Below _ _ _
    rw [← hW]
    exact hb.alloc hb.size _
  rw [hW, hbb]
  clear hP hb fp fg s0 s1 s2 hW hbb
  refine (pk_13 _ _ _ _).mono ?_
  rintro e w13 ⟨⟨p13, g13, l13, fp, fg, rfl, hP⟩, hb⟩
  have s0 := fun W p => store_fn fp W p
  have s1 := fun W p => store_fn fg W p
  have s2 := fun W p => store_fn (isFn_ok hP) W p
  go_wp2_with fail
  obtain ⟨W13, hW⟩ : ∃ W, w13.alloc (.cells #[p13, g13, l13] 180) = W := ⟨_, rfl⟩
  obtain ⟨b13, hbb⟩ : ∃ b, w13.heap.size = b := ⟨_, rfl⟩
  have V13 : Hid (VarAt W13.heap.size W13 b13 (p13, g13, l13)) := by
    show VarAt _ _ _ _
    rw [← hW, ← hbb]
    exact ⟨by simp, by simp [go_sem], by simp [go_sem], by simp [go_sem], (hP.from_ ((Below.refl _ _).alloc (Nat.le_refl _) _)).mono (by simp), fp, fg⟩
  have B13 : Hid (Below W12.heap.size W12 W13) := by
    show Below _ _ _
    rw [← hW]
    exact hb.alloc hb.size _
  rw [hW, hbb]
  clear hP hb fp fg s0 s1 s2 hW hbb
  refine (pk_14 _ _ _ _).mono ?_
  rintro e w14 ⟨⟨p14, g14, l14, fp, fg, rfl, hP⟩, hb⟩
  have s0 := fun W p => store_fn fp W p
  have s1 := fun W p => store_fn fg W p
  have s2 := fun W p => store_fn (isFn_ok hP) W p
  go_wp2_with fail
  obtain ⟨W14, hW⟩ : ∃ W, w14.alloc (.cells #[p14, g14, l14] 180) = W := ⟨_, rfl⟩
  obtain ⟨b14, hbb⟩ : ∃ b, w14.heap.size = b := ⟨_, rfl⟩
  have V14 : Hid (VarAt W14.heap.size W14 b14 (p14, g14, l14)) := by
    show VarAt _ _ _ _
    rw [← hW, ← hbb]
    exact ⟨by simp, by simp [go_sem], by simp [go_sem], by simp [go_sem], (hP.from_ ((Below.refl _ _).alloc (Nat.le_refl _) _)).mono (by simp), fp, fg⟩
  have B14 : Hid (Below W13.heap.size W13 W14) := by
    show Below _ _ _
    rw [← hW]
    exact hb.alloc hb.size _
  rw [hW, hbb]
  clear hP hb fp fg s0 s1 s2 hW hbb
  refine (gettext_any _ _).mono ?_
  rintro e u15 ⟨⟨g15_, rfl⟩, hu15⟩
  go_wp2_with fail
  refine (pk_15 _ _ _ _).mono ?_
  rintro e w15 ⟨⟨p15, g15, l15, fp, fg, rfl, hP⟩, hb⟩
  have s0 := fun W p => store_fn fp W p
  have s1 := fun W p => store_fn fg W p
  have s2 := fun W p => store_fn (isFn_ok hP) W p
  go_wp2_with fail
  obtain ⟨W15, hW⟩ : ∃ W, w15.alloc (.cells #[p15, g15, l15] 180) = W := ⟨_, rfl⟩
  obtain ⟨b15, hbb⟩ : ∃ b, w15.heap.size = b := ⟨_, rfl⟩
  have V15 : Hid (VarAt W15.heap.size W15 b15 (p15, g15, l15)) := by
    show VarAt _ _ _ _
    rw [← hW, ← hbb]
    exact ⟨by simp, by simp [go_sem], by simp [go_sem], by simp [go_sem], (hP.from_ ((Below.refl _ _).alloc (Nat.le_refl _) _)).mono (by simp), fp, fg⟩
  have B15 : Hid (Below W14.heap.size W14 W15) := by
    show Below _ _ _
    rw [← hW]
    exact (hu15.trans (hb.mono hu15.size)).alloc (Nat.le_trans hu15.size hb.size) _
  rw [hW, hbb]
  clear hP hb fp fg s0 s1 s2 hW hbb hu15
  refine (gettext_any _ _).mono ?_
  rintro e u16 ⟨⟨g16_, rfl⟩, hu16⟩
  go_wp2_with fail
  refine (pk_16 _ _ _ _).mono ?_
  rintro e w16 ⟨⟨p16, g16, l16, fp, fg, rfl, hP⟩, hb⟩
  have s0 := fun W p => store_fn fp W p
  have s1 := fun W p => store_fn fg W p
  have s2 := fun W p => store_fn (isFn_ok hP) W p
  go_wp2_with fail
  obtain ⟨W16, hW⟩ : ∃ W, w16.alloc (.cells #[p16, g16, l16] 180) = W := ⟨_, rfl⟩
  obtain ⟨b16, hbb⟩ : ∃ b, w16.heap.size = b := ⟨_, rfl⟩
  have V16 : Hid (VarAt W16.heap.size W16 b16 (p16, g16, l16)) := by
    show VarAt _ _ _ _
    rw [← hW, ← hbb]
    exact ⟨by simp, by simp [go_sem], by simp [go_sem], by simp [go_sem], (hP.from_ ((Below.refl _ _).alloc (Nat.le_refl _) _)).mono (by simp), fp, fg⟩
  have B16 : Hid (Below W15.heap.size W15 W16) := by
    show Below _ _ _
    rw [← hW]
    exact (hu16.trans (hb.mono hu16.size)).alloc (Nat.le_trans hu16.size hb.size) _
  rw [hW, hbb]
  clear hP hb fp fg s0 s1 s2 hW hbb hu16
  refine (pk_17 _ _ _ _).mono ?_
  rintro e w17 ⟨⟨p17, g17, l17, fp, fg, rfl, hP⟩, hb⟩
  have s0 := fun W p => store_fn fp W p
  have s1 := fun W p => store_fn fg W p
  have s2 := fun W p => store_fn (isFn_ok hP) W p
  go_wp2_with fail
  obtain ⟨W17, hW⟩ : ∃ W, w17.alloc (.cells #[p17, g17, l17] 180) = W := ⟨_, rfl⟩
  obtain ⟨b17, hbb⟩ : ∃ b, w17.heap.size = b := ⟨_, rfl⟩
  have V17 : Hid (VarAt W17.heap.size W17 b17 (p17, g17, l17)) := by
    show VarAt _ _ _ _
    rw [← hW, ← hbb]
    exact ⟨by simp, by simp [go_sem], by simp [go_sem], by simp [go_sem], (hP.from_ ((Below.refl _ _).alloc (Nat.le_refl _) _)).mono (by simp), fp, fg⟩
  have B17 : Hid (Below W16.heap.size W16 W17) := by
    show Below _ _ _
    rw [← hW]
    exact hb.alloc hb.size _
  rw [hW, hbb]
  clear hP hb fp fg s0 s1 s2 hW hbb
  refine (pk_18 _ _ _ _).mono ?_
  rintro e w18 ⟨⟨p18, g18, l18, fp, fg, rfl, hP⟩, hb⟩
  have s0 := fun W p => store_fn fp W p
  have s1 := fun W p => store_fn fg W p
  have s2 := fun W p => store_fn (isFn_ok hP) W p
  go_wp2_with fail
  obtain ⟨W18, hW⟩ : ∃ W, w18.alloc (.cells #[p18, g18, l18] 180) = W := ⟨_, rfl⟩
  obtain ⟨b18, hbb⟩ : ∃ b, w18.heap.size = b := ⟨_, rfl⟩
  have V18 : Hid (VarAt W18.heap.size W18 b18 (p18, g18, l18)) := by
    show VarAt _ _ _ _
    rw [← hW, ← hbb]
    exact ⟨by simp, by simp [go_sem], by simp [go_sem], by simp [go_sem], (hP.from_ ((Below.refl _ _).alloc (Nat.le_refl _) _)).mono (by simp), fp, fg⟩
  have B18 : Hid (Below W17.heap.size W17 W18) := by
    show Below _ _ _
    rw [← hW]
    exact hb.alloc hb.size _
  rw [hW, hbb]
  clear hP hb fp fg s0 s1 s2 hW hbb
  have E18 : Below W18.heap.size W18 W18 := Below.refl _ _
  have E17 : Below W17.heap.size W17 W18 := B18.out.trans (E18.mono B18.out.size)
  have E16 : Below W16.heap.size W16 W18 := B17.out.trans (E17.mono B17.out.size)
  have E15 : Below W15.heap.size W15 W18 := B16.out.trans (E16.mono B16.out.size)
  have E14 : Below W14.heap.size W14 W18 := B15.out.trans (E15.mono B15.out.size)
  have E13 : Below W13.heap.size W13 W18 := B14.out.trans (E14.mono B14.out.size)
  have E12 : Below W12.heap.size W12 W18 := B13.out.trans (E13.mono B13.out.size)
  have E11 : Below W11.heap.size W11 W18 := B12.out.trans (E12.mono B12.out.size)
  have E10 : Below W10.heap.size W10 W18 := B11.out.trans (E11.mono B11.out.size)
  have E9 : Below W9.heap.size W9 W18 := B10.out.trans (E10.mono B10.out.size)
  have E8 : Below W8.heap.size W8 W18 := B9.out.trans (E9.mono B9.out.size)
  have E7 : Below W7.heap.size W7 W18 := B8.out.trans (E8.mono B8.out.size)
  have E6 : Below W6.heap.size W6 W18 := B7.out.trans (E7.mono B7.out.size)
  have E5 : Below W5.heap.size W5 W18 := B6.out.trans (E6.mono B6.out.size)
  have E4 : Below W4.heap.size W4 W18 := B5.out.trans (E5.mono B5.out.size)
  have E3 : Below W3.heap.size W3 W18 := B4.out.trans (E4.mono B4.out.size)
  have E2 : Below W2.heap.size W2 W18 := B3.out.trans (E3.mono B3.out.size)
  have E1 : Below W1.heap.size W1 W18 := B2.out.trans (E2.mono B2.out.size)
  have E0 : Below w.heap.size w W18 := B1.out.trans (E1.mono B1.out.size)
  have X1 := V1.out.up E1
  have X2 := V2.out.up E2
  have X3 := V3.out.up E3
  have X4 := V4.out.up E4
  have X5 := V5.out.up E5
  have X6 := V6.out.up E6
  have X7 := V7.out.up E7
  have X8 := V8.out.up E8
  have X9 := V9.out.up E9
  have X10 := V10.out.up E10
  have X11 := V11.out.up E11
  have X12 := V12.out.up E12
  have X13 := V13.out.up E13
  have X14 := V14.out.up E14
  have X15 := V15.out.up E15
  have X16 := V16.out.up E16
  have X17 := V17.out.up E17
  have X18 := V18.out.up E18
  clear E1 E2 E3 E4 E5 E6 E7 E8 E9 E10 E11 E12 E13 E14 E15 E16 E17 E18 B1 V1 B2 V2 B3 V3 B4 V4 B5 V5 B6 V6 B7 V7 B8 V8 B9 V9 B10 V10 B11 V11 B12 V12 B13 V13 B14 V14 B15 V15 B16 V16 B17 V17 B18 V18
  obtain ⟨Y0, hY0⟩ : ∃ Y, W18.alloc (.map #[] 0) = Y := ⟨_, rfl⟩
  obtain ⟨m, hm⟩ : ∃ m, W18.heap.size = m := ⟨_, rfl⟩
  have hmk := @run_makeMap Tryz.prog 130 W18
  rw [hY0, hm] at hmk
  rw [hmk]
  clear hmk
  have hmY0 : m < Y0.heap.size := by rw [← hY0, ← hm]; simp
  have O0 : Y0.ownsMap Tryz.prog 3 Rvt m 0 (.map []) := by rw [← hY0, ← hm]; exact World.ownsMap_made _ _ _ _
  have hbY0 : Below W18.heap.size W18 Y0 := by rw [← hY0]; exact (Below.refl _ _).alloc (Nat.le_refl _) _
  rw [← hm] at hmY0
  replace X1 : VarAt m Y0 b1 (p1, g1, l1) := by have := X1.from_ hbY0; rw [hm] at this; exact this
  replace X2 : VarAt m Y0 b2 (p2, g2, l2) := by have := X2.from_ hbY0; rw [hm] at this; exact this
  replace X3 : VarAt m Y0 b3 (p3, g3, l3) := by have := X3.from_ hbY0; rw [hm] at this; exact this
  replace X4 : VarAt m Y0 b4 (p4, g4, l4) := by have := X4.from_ hbY0; rw [hm] at this; exact this
  replace X5 : VarAt m Y0 b5 (p5, g5, l5) := by have := X5.from_ hbY0; rw [hm] at this; exact this
  replace X6 : VarAt m Y0 b6 (p6, g6, l6) := by have := X6.from_ hbY0; rw [hm] at this; exact this
  replace X7 : VarAt m Y0 b7 (p7, g7, l7) := by have := X7.from_ hbY0; rw [hm] at this; exact this
  replace X8 : VarAt m Y0 b8 (p8, g8, l8) := by have := X8.from_ hbY0; rw [hm] at this; exact this
  replace X9 : VarAt m Y0 b9 (p9, g9, l9) := by have := X9.from_ hbY0; rw [hm] at this; exact this
  replace X10 : VarAt m Y0 b10 (p10, g10, l10) := by have := X10.from_ hbY0; rw [hm] at this; exact this
  replace X11 : VarAt m Y0 b11 (p11, g11, l11) := by have := X11.from_ hbY0; rw [hm] at this; exact this
  replace X12 : VarAt m Y0 b12 (p12, g12, l12) := by have := X12.from_ hbY0; rw [hm] at this; exact this
  replace X13 : VarAt m Y0 b13 (p13, g13, l13) := by have := X13.from_ hbY0; rw [hm] at this; exact this
  replace X14 : VarAt m Y0 b14 (p14, g14, l14) := by have := X14.from_ hbY0; rw [hm] at this; exact this
  replace X15 : VarAt m Y0 b15 (p15, g15, l15) := by have := X15.from_ hbY0; rw [hm] at this; exact this
  replace X16 : VarAt m Y0 b16 (p16, g16, l16) := by have := X16.from_ hbY0; rw [hm] at this; exact this
  replace X17 : VarAt m Y0 b17 (p17, g17, l17) := by have := X17.from_ hbY0; rw [hm] at this; exact this
  replace X18 : VarAt m Y0 b18 (p18, g18, l18) := by have := X18.from_ hbY0; rw [hm] at this; exact this
  rw [hm] at hmY0
  have HB0 := Lib.hid (E0.trans (hbY0.mono E0.size))
  have hmw : w.heap.size ≤ m := by rw [← hm]; exact E0.size
  clear hY0 hbY0 E0 hm
  have c2_0 := X2.c0
  have c2_1 := X2.c1
  have c2_2 := X2.c2
  have c4_0 := X4.c0
  have c4_1 := X4.c1
  have c4_2 := X4.c2
  have c5_0 := X5.c0
  have c5_1 := X5.c1
  have c5_2 := X5.c2
  have c6_0 := X6.c0
  have c6_1 := X6.c1
  have c6_2 := X6.c2
  have c7_0 := X7.c0
  have c7_1 := X7.c1
  have c7_2 := X7.c2
  have c8_0 := X8.c0
  have c8_1 := X8.c1
  have c8_2 := X8.c2
  have c11_0 := X11.c0
  have c11_1 := X11.c1
  have c11_2 := X11.c2
  have c13_0 := X13.c0
  have c13_1 := X13.c1
  have c13_2 := X13.c2
  have c14_0 := X14.c0
  have c14_1 := X14.c1
  have c14_2 := X14.c2
  have hbZ : Below Y0.heap.size Y0 (Y0.alloc (.cells #[p2, g2, l2, p4, g4, l4, p5, g5, l5, p6, g6, l6, p7, g7, l7, p8, g8, l8, p11, g11, l11, p13, g13, l13, p14, g14, l14] 180)) := (Below.refl _ _).alloc (Nat.le_refl _) _
  have hzl : (Y0.alloc (.cells #[p2, g2, l2, p4, g4, l4, p5, g5, l5, p6, g6, l6, p7, g7, l7, p8, g8, l8, p11, g11, l11, p13, g13, l13, p14, g14, l14] 180)).heap.size = Y0.heap.size + 1 := by simp
  have OL : (Y0.alloc (.cells #[p2, g2, l2, p4, g4, l4, p5, g5, l5, p6, g6, l6, p7, g7, l7, p8, g8, l8, p11, g11, l11, p13, g13, l13, p14, g14, l14] 180)).ownsMap Tryz.prog 3 Rvt m 0 (.map [] : DataW Value) := own_att O0 (hbZ.block m hmY0)
  go_wp2_with fail
  obtain ⟨Y1, hrun, O1', hg⟩ := OL.update intKeyedt Tryz.underlying130 (by decide) (keyIt 0 (by decide)) (show Rvt (.slice (some ⟨Y0.heap.size, 0, none⟩) 9 9) = some (_, _) from rfl)
  rw [hrun]
  clear hrun
  clear c2_0 c2_1 c2_2 c4_0 c4_1 c4_2 c5_0 c5_1 c5_2 c6_0 c6_1 c6_2 c7_0 c7_1 c7_2 c8_0 c8_1 c8_2 c11_0 c11_1 c11_2 c13_0 c13_1 c13_2 c14_0 c14_1 c14_2 OL
  obtain ⟨r0, hr⟩ : ∃ r, Y0.heap.size = r := ⟨_, rfl⟩
  have O1 : Y1.ownsMap Tryz.prog 3 Rvt m 1 (put1 (.map [] : DataW Value) 0 r0 9) := by rw [← hr]; exact O1'
  have hgs := hg.size
  have hmY1 : m < Y1.heap.size := by omega
  have hl0 : r0 < Y1.heap.size := by omega
  have hn0 : m < r0 := by omega
  have hrow0 : Y1.heap[r0]? = some (.cells #[p2, g2, l2, p4, g4, l4, p5, g5, l5, p6, g6, l6, p7, g7, l7, p8, g8, l8, p11, g11, l11, p13, g13, l13, p14, g14, l14] 180 (0, 0)) := (hg.block r0 (by omega) (fun e => by cases e; omega)).trans (by rw [← hr]; exact heap_alloc_new _ _)
  have hbm : Below m Y0 Y1 := (hbZ.mono (by omega)).grown hg (by omega) (fun g e => by cases e; exact Nat.le_refl _)
  have HB1 := Lib.hid ((HB0.out.trans (hbZ.mono HB0.out.size)).grown hg (by have := HB0.out.size; omega) (fun g e => by cases e; exact hmw))
  replace X1 := X1.from_ hbm
  replace X2 := X2.from_ hbm
  replace X3 := X3.from_ hbm
  replace X4 := X4.from_ hbm
  replace X5 := X5.from_ hbm
  replace X6 := X6.from_ hbm
  replace X7 := X7.from_ hbm
  replace X8 := X8.from_ hbm
  replace X9 := X9.from_ hbm
  replace X10 := X10.from_ hbm
  replace X11 := X11.from_ hbm
  replace X12 := X12.from_ hbm
  replace X13 := X13.from_ hbm
  replace X14 := X14.from_ hbm
  replace X15 := X15.from_ hbm
  replace X16 := X16.from_ hbm
  replace X17 := X17.from_ hbm
  replace X18 := X18.from_ hbm
  clear O1' O0 hbZ hzl hg hgs hbm hr HB0
  have c1_0 := X1.c0
  have c1_1 := X1.c1
  have c1_2 := X1.c2
  have c2_0 := X2.c0
  have c2_1 := X2.c1
  have c2_2 := X2.c2
  have c4_0 := X4.c0
  have c4_1 := X4.c1
  have c4_2 := X4.c2
  have c5_0 := X5.c0
  have c5_1 := X5.c1
  have c5_2 := X5.c2
  have c6_0 := X6.c0
  have c6_1 := X6.c1
  have c6_2 := X6.c2
  have c7_0 := X7.c0
  have c7_1 := X7.c1
  have c7_2 := X7.c2
  have c8_0 := X8.c0
  have c8_1 := X8.c1
  have c8_2 := X8.c2
  have c9_0 := X9.c0
  have c9_1 := X9.c1
  have c9_2 := X9.c2
  have c12_0 := X12.c0
  have c12_1 := X12.c1
  have c12_2 := X12.c2
  have c13_0 := X13.c0
  have c13_1 := X13.c1
  have c13_2 := X13.c2
  have c14_0 := X14.c0
  have c14_1 := X14.c1
  have c14_2 := X14.c2
  have hbZ : Below Y1.heap.size Y1 (Y1.alloc (.cells #[p1, g1, l1, p2, g2, l2, p4, g4, l4, p5, g5, l5, p6, g6, l6, p7, g7, l7, p8, g8, l8, p9, g9, l9, p12, g12, l12, p13, g13, l13, p14, g14, l14] 180)) := (Below.refl _ _).alloc (Nat.le_refl _) _
  have hzl : (Y1.alloc (.cells #[p1, g1, l1, p2, g2, l2, p4, g4, l4, p5, g5, l5, p6, g6, l6, p7, g7, l7, p8, g8, l8, p9, g9, l9, p12, g12, l12, p13, g13, l13, p14, g14, l14] 180)).heap.size = Y1.heap.size + 1 := by simp
  have OL : (Y1.alloc (.cells #[p1, g1, l1, p2, g2, l2, p4, g4, l4, p5, g5, l5, p6, g6, l6, p7, g7, l7, p8, g8, l8, p9, g9, l9, p12, g12, l12, p13, g13, l13, p14, g14, l14] 180)).ownsMap Tryz.prog 3 Rvt m 1 (put1 (.map [] : DataW Value) 0 r0 9) := own_att O1 (hbZ.block m hmY1)
  go_wp2_with fail
  obtain ⟨Y2, hrun, O2', hg⟩ := OL.update intKeyedt Tryz.underlying130 (by decide) (keyIt 1 (by decide)) (show Rvt (.slice (some ⟨Y1.heap.size, 0, none⟩) 11 11) = some (_, _) from rfl)
  rw [hrun]
  clear hrun
  clear c1_0 c1_1 c1_2 c2_0 c2_1 c2_2 c4_0 c4_1 c4_2 c5_0 c5_1 c5_2 c6_0 c6_1 c6_2 c7_0 c7_1 c7_2 c8_0 c8_1 c8_2 c9_0 c9_1 c9_2 c12_0 c12_1 c12_2 c13_0 c13_1 c13_2 c14_0 c14_1 c14_2 OL
  obtain ⟨r1, hr⟩ : ∃ r, Y1.heap.size = r := ⟨_, rfl⟩
  have O2 : Y2.ownsMap Tryz.prog 3 Rvt m 2 (put1 (put1 (.map [] : DataW Value) 0 r0 9) 1 r1 11) := by rw [← hr]; exact O2'
  have hgs := hg.size
  have hmY2 : m < Y2.heap.size := by omega
  have hl1 : r1 < Y2.heap.size := by omega
  have hn1 : m < r1 := by omega
  have hrow1 : Y2.heap[r1]? = some (.cells #[p1, g1, l1, p2, g2, l2, p4, g4, l4, p5, g5, l5, p6, g6, l6, p7, g7, l7, p8, g8, l8, p9, g9, l9, p12, g12, l12, p13, g13, l13, p14, g14, l14] 180 (0, 0)) := (hg.block r1 (by omega) (fun e => by cases e; omega)).trans (by rw [← hr]; exact heap_alloc_new _ _)
  replace hrow0 := (hg.block r0 (by omega) (fun e => by cases e; omega)).trans ((hbZ.block r0 hl0).trans hrow0)
  replace hl0 : r0 < Y2.heap.size := by omega
  have hbm : Below m Y1 Y2 := (hbZ.mono (by omega)).grown hg (by omega) (fun g e => by cases e; exact Nat.le_refl _)
  have HB2 := Lib.hid ((HB1.out.trans (hbZ.mono HB1.out.size)).grown hg (by have := HB1.out.size; omega) (fun g e => by cases e; exact hmw))
  replace X1 := X1.from_ hbm
  replace X2 := X2.from_ hbm
  replace X3 := X3.from_ hbm
  replace X4 := X4.from_ hbm
  replace X5 := X5.from_ hbm
  replace X6 := X6.from_ hbm
  replace X7 := X7.from_ hbm
  replace X8 := X8.from_ hbm
  replace X9 := X9.from_ hbm
  replace X10 := X10.from_ hbm
  replace X11 := X11.from_ hbm
  replace X12 := X12.from_ hbm
  replace X13 := X13.from_ hbm
  replace X14 := X14.from_ hbm
  replace X15 := X15.from_ hbm
  replace X16 := X16.from_ hbm
  replace X17 := X17.from_ hbm
  replace X18 := X18.from_ hbm
  clear O2' O1 hbZ hzl hg hgs hbm hr HB1
  have c1_0 := X1.c0
  have c1_1 := X1.c1
  have c1_2 := X1.c2
  have c2_0 := X2.c0
  have c2_1 := X2.c1
  have c2_2 := X2.c2
  have c3_0 := X3.c0
  have c3_1 := X3.c1
  have c3_2 := X3.c2
  have c4_0 := X4.c0
  have c4_1 := X4.c1
  have c4_2 := X4.c2
  have c5_0 := X5.c0
  have c5_1 := X5.c1
  have c5_2 := X5.c2
  have c6_0 := X6.c0
  have c6_1 := X6.c1
  have c6_2 := X6.c2
  have c7_0 := X7.c0
  have c7_1 := X7.c1
  have c7_2 := X7.c2
  have c8_0 := X8.c0
  have c8_1 := X8.c1
  have c8_2 := X8.c2
  have c9_0 := X9.c0
  have c9_1 := X9.c1
  have c9_2 := X9.c2
  have c12_0 := X12.c0
  have c12_1 := X12.c1
  have c12_2 := X12.c2
  have c13_0 := X13.c0
  have c13_1 := X13.c1
  have c13_2 := X13.c2
  have c14_0 := X14.c0
  have c14_1 := X14.c1
  have c14_2 := X14.c2
  have hbZ : Below Y2.heap.size Y2 (Y2.alloc (.cells #[p1, g1, l1, p2, g2, l2, p3, g3, l3, p4, g4, l4, p5, g5, l5, p6, g6, l6, p7, g7, l7, p8, g8, l8, p9, g9, l9, p12, g12, l12, p13, g13, l13, p14, g14, l14] 180)) := (Below.refl _ _).alloc (Nat.le_refl _) _
  have hzl : (Y2.alloc (.cells #[p1, g1, l1, p2, g2, l2, p3, g3, l3, p4, g4, l4, p5, g5, l5, p6, g6, l6, p7, g7, l7, p8, g8, l8, p9, g9, l9, p12, g12, l12, p13, g13, l13, p14, g14, l14] 180)).heap.size = Y2.heap.size + 1 := by simp
  have OL : (Y2.alloc (.cells #[p1, g1, l1, p2, g2, l2, p3, g3, l3, p4, g4, l4, p5, g5, l5, p6, g6, l6, p7, g7, l7, p8, g8, l8, p9, g9, l9, p12, g12, l12, p13, g13, l13, p14, g14, l14] 180)).ownsMap Tryz.prog 3 Rvt m 2 (put1 (put1 (.map [] : DataW Value) 0 r0 9) 1 r1 11) := own_att O2 (hbZ.block m hmY2)
  go_wp2_with fail
  obtain ⟨Y3, hrun, O3', hg⟩ := OL.update intKeyedt Tryz.underlying130 (by decide) (keyIt 2 (by decide)) (show Rvt (.slice (some ⟨Y2.heap.size, 0, none⟩) 12 12) = some (_, _) from rfl)
  rw [hrun]
  clear hrun
  clear c1_0 c1_1 c1_2 c2_0 c2_1 c2_2 c3_0 c3_1 c3_2 c4_0 c4_1 c4_2 c5_0 c5_1 c5_2 c6_0 c6_1 c6_2 c7_0 c7_1 c7_2 c8_0 c8_1 c8_2 c9_0 c9_1 c9_2 c12_0 c12_1 c12_2 c13_0 c13_1 c13_2 c14_0 c14_1 c14_2 OL
  obtain ⟨r2, hr⟩ : ∃ r, Y2.heap.size = r := ⟨_, rfl⟩
  have O3 : Y3.ownsMap Tryz.prog 3 Rvt m 3 (put1 (put1 (put1 (.map [] : DataW Value) 0 r0 9) 1 r1 11) 2 r2 12) := by rw [← hr]; exact O3'
  have hgs := hg.size
  have hmY3 : m < Y3.heap.size := by omega
  have hl2 : r2 < Y3.heap.size := by omega
  have hn2 : m < r2 := by omega
  have hrow2 : Y3.heap[r2]? = some (.cells #[p1, g1, l1, p2, g2, l2, p3, g3, l3, p4, g4, l4, p5, g5, l5, p6, g6, l6, p7, g7, l7, p8, g8, l8, p9, g9, l9, p12, g12, l12, p13, g13, l13, p14, g14, l14] 180 (0, 0)) := (hg.block r2 (by omega) (fun e => by cases e; omega)).trans (by rw [← hr]; exact heap_alloc_new _ _)
  replace hrow0 := (hg.block r0 (by omega) (fun e => by cases e; omega)).trans ((hbZ.block r0 hl0).trans hrow0)
  replace hl0 : r0 < Y3.heap.size := by omega
  replace hrow1 := (hg.block r1 (by omega) (fun e => by cases e; omega)).trans ((hbZ.block r1 hl1).trans hrow1)
  replace hl1 : r1 < Y3.heap.size := by omega
  have hbm : Below m Y2 Y3 := (hbZ.mono (by omega)).grown hg (by omega) (fun g e => by cases e; exact Nat.le_refl _)
  have HB3 := Lib.hid ((HB2.out.trans (hbZ.mono HB2.out.size)).grown hg (by have := HB2.out.size; omega) (fun g e => by cases e; exact hmw))
  replace X1 := X1.from_ hbm
  replace X2 := X2.from_ hbm
  replace X3 := X3.from_ hbm
  replace X4 := X4.from_ hbm
  replace X5 := X5.from_ hbm
  replace X6 := X6.from_ hbm
  replace X7 := X7.from_ hbm
  replace X8 := X8.from_ hbm
  replace X9 := X9.from_ hbm
  replace X10 := X10.from_ hbm
  replace X11 := X11.from_ hbm
  replace X12 := X12.from_ hbm
  replace X13 := X13.from_ hbm
  replace X14 := X14.from_ hbm
  replace X15 := X15.from_ hbm
  replace X16 := X16.from_ hbm
  replace X17 := X17.from_ hbm
  replace X18 := X18.from_ hbm
  clear O3' O2 hbZ hzl hg hgs hbm hr HB2
  have c1_0 := X1.c0
  have c1_1 := X1.c1
  have c1_2 := X1.c2
  have c2_0 := X2.c0
  have c2_1 := X2.c1
  have c2_2 := X2.c2
  have c3_0 := X3.c0
  have c3_1 := X3.c1
  have c3_2 := X3.c2
  have c4_0 := X4.c0
  have c4_1 := X4.c1
  have c4_2 := X4.c2
  have c5_0 := X5.c0
  have c5_1 := X5.c1
  have c5_2 := X5.c2
  have c6_0 := X6.c0
  have c6_1 := X6.c1
  have c6_2 := X6.c2
  have c7_0 := X7.c0
  have c7_1 := X7.c1
  have c7_2 := X7.c2
  have c8_0 := X8.c0
  have c8_1 := X8.c1
  have c8_2 := X8.c2
  have c9_0 := X9.c0
  have c9_1 := X9.c1
  have c9_2 := X9.c2
  have c10_0 := X10.c0
  have c10_1 := X10.c1
  have c10_2 := X10.c2
  have c12_0 := X12.c0
  have c12_1 := X12.c1
  have c12_2 := X12.c2
  have c13_0 := X13.c0
  have c13_1 := X13.c1
  have c13_2 := X13.c2
  have c14_0 := X14.c0
  have c14_1 := X14.c1
  have c14_2 := X14.c2
  have hbZ : Below Y3.heap.size Y3 (Y3.alloc (.cells #[p1, g1, l1, p2, g2, l2, p3, g3, l3, p4, g4, l4, p5, g5, l5, p6, g6, l6, p7, g7, l7, p8, g8, l8, p9, g9, l9, p10, g10, l10, p12, g12, l12, p13, g13, l13, p14, g14, l14] 180)) := (Below.refl _ _).alloc (Nat.le_refl _) _
  have hzl : (Y3.alloc (.cells #[p1, g1, l1, p2, g2, l2, p3, g3, l3, p4, g4, l4, p5, g5, l5, p6, g6, l6, p7, g7, l7, p8, g8, l8, p9, g9, l9, p10, g10, l10, p12, g12, l12, p13, g13, l13, p14, g14, l14] 180)).heap.size = Y3.heap.size + 1 := by simp
  have OL : (Y3.alloc (.cells #[p1, g1, l1, p2, g2, l2, p3, g3, l3, p4, g4, l4, p5, g5, l5, p6, g6, l6, p7, g7, l7, p8, g8, l8, p9, g9, l9, p10, g10, l10, p12, g12, l12, p13, g13, l13, p14, g14, l14] 180)).ownsMap Tryz.prog 3 Rvt m 3 (put1 (put1 (put1 (.map [] : DataW Value) 0 r0 9) 1 r1 11) 2 r2 12) := own_att O3 (hbZ.block m hmY3)
  go_wp2_with fail
  obtain ⟨Y4, hrun, O4', hg⟩ := OL.update intKeyedt Tryz.underlying130 (by decide) (keyIt 4 (by decide)) (show Rvt (.slice (some ⟨Y3.heap.size, 0, none⟩) 13 13) = some (_, _) from rfl)
  rw [hrun]
  clear hrun
  clear c1_0 c1_1 c1_2 c2_0 c2_1 c2_2 c3_0 c3_1 c3_2 c4_0 c4_1 c4_2 c5_0 c5_1 c5_2 c6_0 c6_1 c6_2 c7_0 c7_1 c7_2 c8_0 c8_1 c8_2 c9_0 c9_1 c9_2 c10_0 c10_1 c10_2 c12_0 c12_1 c12_2 c13_0 c13_1 c13_2 c14_0 c14_1 c14_2 OL
  obtain ⟨r3, hr⟩ : ∃ r, Y3.heap.size = r := ⟨_, rfl⟩
  have O4 : Y4.ownsMap Tryz.prog 3 Rvt m 4 (put1 (put1 (put1 (put1 (.map [] : DataW Value) 0 r0 9) 1 r1 11) 2 r2 12) 4 r3 13) := by rw [← hr]; exact O4'
  have hgs := hg.size
  have hmY4 : m < Y4.heap.size := by omega
  have hl3 : r3 < Y4.heap.size := by omega
  have hn3 : m < r3 := by omega
  have hrow3 : Y4.heap[r3]? = some (.cells #[p1, g1, l1, p2, g2, l2, p3, g3, l3, p4, g4, l4, p5, g5, l5, p6, g6, l6, p7, g7, l7, p8, g8, l8, p9, g9, l9, p10, g10, l10, p12, g12, l12, p13, g13, l13, p14, g14, l14] 180 (0, 0)) := (hg.block r3 (by omega) (fun e => by cases e; omega)).trans (by rw [← hr]; exact heap_alloc_new _ _)
  replace hrow0 := (hg.block r0 (by omega) (fun e => by cases e; omega)).trans ((hbZ.block r0 hl0).trans hrow0)
  replace hl0 : r0 < Y4.heap.size := by omega
  replace hrow1 := (hg.block r1 (by omega) (fun e => by cases e; omega)).trans ((hbZ.block r1 hl1).trans hrow1)
  replace hl1 : r1 < Y4.heap.size := by omega
  replace hrow2 := (hg.block r2 (by omega) (fun e => by cases e; omega)).trans ((hbZ.block r2 hl2).trans hrow2)
  replace hl2 : r2 < Y4.heap.size := by omega
  have hbm : Below m Y3 Y4 := (hbZ.mono (by omega)).grown hg (by omega) (fun g e => by cases e; exact Nat.le_refl _)
  have HB4 := Lib.hid ((HB3.out.trans (hbZ.mono HB3.out.size)).grown hg (by have := HB3.out.size; omega) (fun g e => by cases e; exact hmw))
  replace X1 := X1.from_ hbm
  replace X2 := X2.from_ hbm
  replace X3 := X3.from_ hbm
  replace X4 := X4.from_ hbm
  replace X5 := X5.from_ hbm
  replace X6 := X6.from_ hbm
  replace X7 := X7.from_ hbm
  replace X8 := X8.from_ hbm
  replace X9 := X9.from_ hbm
  replace X10 := X10.from_ hbm
  replace X11 := X11.from_ hbm
  replace X12 := X12.from_ hbm
  replace X13 := X13.from_ hbm
  replace X14 := X14.from_ hbm
  replace X15 := X15.from_ hbm
  replace X16 := X16.from_ hbm
  replace X17 := X17.from_ hbm
  replace X18 := X18.from_ hbm
  clear O4' O3 hbZ hzl hg hgs hbm hr HB3
  have c15_0 := X15.c0
  have c15_1 := X15.c1
  have c15_2 := X15.c2
  have c16_0 := X16.c0
  have c16_1 := X16.c1
  have c16_2 := X16.c2
  have c6_0 := X6.c0
  have c6_1 := X6.c1
  have c6_2 := X6.c2
  have c17_0 := X17.c0
  have c17_1 := X17.c1
  have c17_2 := X17.c2
  have c7_0 := X7.c0
  have c7_1 := X7.c1
  have c7_2 := X7.c2
  have c5_0 := X5.c0
  have c5_1 := X5.c1
  have c5_2 := X5.c2
  have c18_0 := X18.c0
  have c18_1 := X18.c1
  have c18_2 := X18.c2
  have c8_0 := X8.c0
  have c8_1 := X8.c1
  have c8_2 := X8.c2
  have hbZ : Below Y4.heap.size Y4 (Y4.alloc (.cells #[p15, g15, l15, p16, g16, l16, p6, g6, l6, p17, g17, l17, p7, g7, l7, p5, g5, l5, p18, g18, l18, p8, g8, l8] 180)) := (Below.refl _ _).alloc (Nat.le_refl _) _
  have hzl : (Y4.alloc (.cells #[p15, g15, l15, p16, g16, l16, p6, g6, l6, p17, g17, l17, p7, g7, l7, p5, g5, l5, p18, g18, l18, p8, g8, l8] 180)).heap.size = Y4.heap.size + 1 := by simp
  have OL : (Y4.alloc (.cells #[p15, g15, l15, p16, g16, l16, p6, g6, l6, p17, g17, l17, p7, g7, l7, p5, g5, l5, p18, g18, l18, p8, g8, l8] 180)).ownsMap Tryz.prog 3 Rvt m 4 (put1 (put1 (put1 (put1 (.map [] : DataW Value) 0 r0 9) 1 r1 11) 2 r2 12) 4 r3 13) := own_att O4 (hbZ.block m hmY4)
  go_wp2_with fail
  obtain ⟨Y5, hrun, O5', hg⟩ := OL.update intKeyedt Tryz.underlying130 (by decide) (keyIt 126 (by decide)) (show Rvt (.slice (some ⟨Y4.heap.size, 0, none⟩) 8 8) = some (_, _) from rfl)
  rw [hrun]
  clear hrun
  clear c15_0 c15_1 c15_2 c16_0 c16_1 c16_2 c6_0 c6_1 c6_2 c17_0 c17_1 c17_2 c7_0 c7_1 c7_2 c5_0 c5_1 c5_2 c18_0 c18_1 c18_2 c8_0 c8_1 c8_2 OL
  obtain ⟨r4, hr⟩ : ∃ r, Y4.heap.size = r := ⟨_, rfl⟩
  have O5 : Y5.ownsMap Tryz.prog 3 Rvt m 5 (put1 (put1 (put1 (put1 (put1 (.map [] : DataW Value) 0 r0 9) 1 r1 11) 2 r2 12) 4 r3 13) 126 r4 8) := by rw [← hr]; exact O5'
  have hgs := hg.size
  have hmY5 : m < Y5.heap.size := by omega
  have hl4 : r4 < Y5.heap.size := by omega
  have hn4 : m < r4 := by omega
  have hrow4 : Y5.heap[r4]? = some (.cells #[p15, g15, l15, p16, g16, l16, p6, g6, l6, p17, g17, l17, p7, g7, l7, p5, g5, l5, p18, g18, l18, p8, g8, l8] 180 (0, 0)) := (hg.block r4 (by omega) (fun e => by cases e; omega)).trans (by rw [← hr]; exact heap_alloc_new _ _)
  replace hrow0 := (hg.block r0 (by omega) (fun e => by cases e; omega)).trans ((hbZ.block r0 hl0).trans hrow0)
  replace hl0 : r0 < Y5.heap.size := by omega
  replace hrow1 := (hg.block r1 (by omega) (fun e => by cases e; omega)).trans ((hbZ.block r1 hl1).trans hrow1)
  replace hl1 : r1 < Y5.heap.size := by omega
  replace hrow2 := (hg.block r2 (by omega) (fun e => by cases e; omega)).trans ((hbZ.block r2 hl2).trans hrow2)
  replace hl2 : r2 < Y5.heap.size := by omega
  replace hrow3 := (hg.block r3 (by omega) (fun e => by cases e; omega)).trans ((hbZ.block r3 hl3).trans hrow3)
  replace hl3 : r3 < Y5.heap.size := by omega
  have hbm : Below m Y4 Y5 := (hbZ.mono (by omega)).grown hg (by omega) (fun g e => by cases e; exact Nat.le_refl _)
  have HB5 := Lib.hid ((HB4.out.trans (hbZ.mono HB4.out.size)).grown hg (by have := HB4.out.size; omega) (fun g e => by cases e; exact hmw))
  replace X1 := X1.from_ hbm
  replace X2 := X2.from_ hbm
  replace X3 := X3.from_ hbm
  replace X4 := X4.from_ hbm
  replace X5 := X5.from_ hbm
  replace X6 := X6.from_ hbm
  replace X7 := X7.from_ hbm
  replace X8 := X8.from_ hbm
  replace X9 := X9.from_ hbm
  replace X10 := X10.from_ hbm
  replace X11 := X11.from_ hbm
  replace X12 := X12.from_ hbm
  replace X13 := X13.from_ hbm
  replace X14 := X14.from_ hbm
  replace X15 := X15.from_ hbm
  replace X16 := X16.from_ hbm
  replace X17 := X17.from_ hbm
  replace X18 := X18.from_ hbm
  clear O5' O4 hbZ hzl hg hgs hbm hr HB4
  go_wp2_with fail
  go_ret
  refine ⟨⟨m, rfl, hmY5, r0, r1, r2, r3, r4, O5, ⟨⟨[(p2, g2, l2), (p4, g4, l4), (p5, g5, l5), (p6, g6, l6), (p7, g7, l7), (p8, g8, l8), (p11, g11, l11), (p13, g13, l13), (p14, g14, l14)], rfl, hrow0, ?_⟩, hl0⟩, ⟨⟨[(p1, g1, l1), (p2, g2, l2), (p4, g4, l4), (p5, g5, l5), (p6, g6, l6), (p7, g7, l7), (p8, g8, l8), (p9, g9, l9), (p12, g12, l12), (p13, g13, l13), (p14, g14, l14)], rfl, hrow1, ?_⟩, hl1⟩, ⟨⟨[(p1, g1, l1), (p2, g2, l2), (p3, g3, l3), (p4, g4, l4), (p5, g5, l5), (p6, g6, l6), (p7, g7, l7), (p8, g8, l8), (p9, g9, l9), (p12, g12, l12), (p13, g13, l13), (p14, g14, l14)], rfl, hrow2, ?_⟩, hl2⟩, ⟨⟨[(p1, g1, l1), (p2, g2, l2), (p3, g3, l3), (p4, g4, l4), (p5, g5, l5), (p6, g6, l6), (p7, g7, l7), (p8, g8, l8), (p9, g9, l9), (p10, g10, l10), (p12, g12, l12), (p13, g13, l13), (p14, g14, l14)], rfl, hrow3, ?_⟩, hl3⟩, ⟨⟨[(p15, g15, l15), (p16, g16, l16), (p6, g6, l6), (p17, g17, l17), (p7, g7, l7), (p5, g5, l5), (p18, g18, l18), (p8, g8, l8)], rfl, hrow4, ?_⟩, hl4⟩⟩, HB5.out⟩
  · intro x hx
    simp only [List.mem_cons, List.not_mem_nil, or_false] at hx
    rcases hx with rfl | rfl | rfl | rfl | rfl | rfl | rfl | rfl | rfl
    · exact ⟨X2.f0, X2.f1, X2.ok.mono (Nat.le_of_lt hmY5)⟩
    · exact ⟨X4.f0, X4.f1, X4.ok.mono (Nat.le_of_lt hmY5)⟩
    · exact ⟨X5.f0, X5.f1, X5.ok.mono (Nat.le_of_lt hmY5)⟩
    · exact ⟨X6.f0, X6.f1, X6.ok.mono (Nat.le_of_lt hmY5)⟩
    · exact ⟨X7.f0, X7.f1, X7.ok.mono (Nat.le_of_lt hmY5)⟩
    · exact ⟨X8.f0, X8.f1, X8.ok.mono (Nat.le_of_lt hmY5)⟩
    · exact ⟨X11.f0, X11.f1, X11.ok.mono (Nat.le_of_lt hmY5)⟩
    · exact ⟨X13.f0, X13.f1, X13.ok.mono (Nat.le_of_lt hmY5)⟩
    · exact ⟨X14.f0, X14.f1, X14.ok.mono (Nat.le_of_lt hmY5)⟩
  · intro x hx
    simp only [List.mem_cons, List.not_mem_nil, or_false] at hx
    rcases hx with rfl | rfl | rfl | rfl | rfl | rfl | rfl | rfl | rfl | rfl | rfl
    · exact ⟨X1.f0, X1.f1, X1.ok.mono (Nat.le_of_lt hmY5)⟩
    · exact ⟨X2.f0, X2.f1, X2.ok.mono (Nat.le_of_lt hmY5)⟩
    · exact ⟨X4.f0, X4.f1, X4.ok.mono (Nat.le_of_lt hmY5)⟩
    · exact ⟨X5.f0, X5.f1, X5.ok.mono (Nat.le_of_lt hmY5)⟩
    · exact ⟨X6.f0, X6.f1, X6.ok.mono (Nat.le_of_lt hmY5)⟩
    · exact ⟨X7.f0, X7.f1, X7.ok.mono (Nat.le_of_lt hmY5)⟩
    · exact ⟨X8.f0, X8.f1, X8.ok.mono (Nat.le_of_lt hmY5)⟩
    · exact ⟨X9.f0, X9.f1, X9.ok.mono (Nat.le_of_lt hmY5)⟩
    · exact ⟨X12.f0, X12.f1, X12.ok.mono (Nat.le_of_lt hmY5)⟩
    · exact ⟨X13.f0, X13.f1, X13.ok.mono (Nat.le_of_lt hmY5)⟩
    · exact ⟨X14.f0, X14.f1, X14.ok.mono (Nat.le_of_lt hmY5)⟩
  · intro x hx
    simp only [List.mem_cons, List.not_mem_nil, or_false] at hx
    rcases hx with rfl | rfl | rfl | rfl | rfl | rfl | rfl | rfl | rfl | rfl | rfl | rfl
    · exact ⟨X1.f0, X1.f1, X1.ok.mono (Nat.le_of_lt hmY5)⟩
    · exact ⟨X2.f0, X2.f1, X2.ok.mono (Nat.le_of_lt hmY5)⟩
    · exact ⟨X3.f0, X3.f1, X3.ok.mono (Nat.le_of_lt hmY5)⟩
    · exact ⟨X4.f0, X4.f1, X4.ok.mono (Nat.le_of_lt hmY5)⟩
    · exact ⟨X5.f0, X5.f1, X5.ok.mono (Nat.le_of_lt hmY5)⟩
    · exact ⟨X6.f0, X6.f1, X6.ok.mono (Nat.le_of_lt hmY5)⟩
    · exact ⟨X7.f0, X7.f1, X7.ok.mono (Nat.le_of_lt hmY5)⟩
    · exact ⟨X8.f0, X8.f1, X8.ok.mono (Nat.le_of_lt hmY5)⟩
    · exact ⟨X9.f0, X9.f1, X9.ok.mono (Nat.le_of_lt hmY5)⟩
    · exact ⟨X12.f0, X12.f1, X12.ok.mono (Nat.le_of_lt hmY5)⟩
    · exact ⟨X13.f0, X13.f1, X13.ok.mono (Nat.le_of_lt hmY5)⟩
    · exact ⟨X14.f0, X14.f1, X14.ok.mono (Nat.le_of_lt hmY5)⟩
  · intro x hx
    simp only [List.mem_cons, List.not_mem_nil, or_false] at hx
    rcases hx with rfl | rfl | rfl | rfl | rfl | rfl | rfl | rfl | rfl | rfl | rfl | rfl | rfl
    · exact ⟨X1.f0, X1.f1, X1.ok.mono (Nat.le_of_lt hmY5)⟩
    · exact ⟨X2.f0, X2.f1, X2.ok.mono (Nat.le_of_lt hmY5)⟩
    · exact ⟨X3.f0, X3.f1, X3.ok.mono (Nat.le_of_lt hmY5)⟩
    · exact ⟨X4.f0, X4.f1, X4.ok.mono (Nat.le_of_lt hmY5)⟩
    · exact ⟨X5.f0, X5.f1, X5.ok.mono (Nat.le_of_lt hmY5)⟩
    · exact ⟨X6.f0, X6.f1, X6.ok.mono (Nat.le_of_lt hmY5)⟩
    · exact ⟨X7.f0, X7.f1, X7.ok.mono (Nat.le_of_lt hmY5)⟩
    · exact ⟨X8.f0, X8.f1, X8.ok.mono (Nat.le_of_lt hmY5)⟩
    · exact ⟨X9.f0, X9.f1, X9.ok.mono (Nat.le_of_lt hmY5)⟩
    · exact ⟨X10.f0, X10.f1, X10.ok.mono (Nat.le_of_lt hmY5)⟩
    · exact ⟨X12.f0, X12.f1, X12.ok.mono (Nat.le_of_lt hmY5)⟩
    · exact ⟨X13.f0, X13.f1, X13.ok.mono (Nat.le_of_lt hmY5)⟩
    · exact ⟨X14.f0, X14.f1, X14.ok.mono (Nat.le_of_lt hmY5)⟩
  · intro x hx
    simp only [List.mem_cons, List.not_mem_nil, or_false] at hx
    rcases hx with rfl | rfl | rfl | rfl | rfl | rfl | rfl | rfl
    · exact ⟨X15.f0, X15.f1, X15.ok.mono (Nat.le_of_lt hmY5)⟩
    · exact ⟨X16.f0, X16.f1, X16.ok.mono (Nat.le_of_lt hmY5)⟩
    · exact ⟨X6.f0, X6.f1, X6.ok.mono (Nat.le_of_lt hmY5)⟩
    · exact ⟨X17.f0, X17.f1, X17.ok.mono (Nat.le_of_lt hmY5)⟩
    · exact ⟨X7.f0, X7.f1, X7.ok.mono (Nat.le_of_lt hmY5)⟩
    · exact ⟨X5.f0, X5.f1, X5.ok.mono (Nat.le_of_lt hmY5)⟩
    · exact ⟨X18.f0, X18.f1, X18.ok.mono (Nat.le_of_lt hmY5)⟩
    · exact ⟨X8.f0, X8.f1, X8.ok.mono (Nat.le_of_lt hmY5)⟩
end Go.Proofs.YtebjhbeaknokkaaGreatDoor
namespace Go.Proofs.YtebjhbeaknokkaaGreatDoor
open Go Go.RowKit

/-- What a statement does, in a frame of a function that is there. -/
def WpE (P : Program) (c : Code) (Q : Exit → Act → World → Prop) (a : Act) (w : World) : Prop :=
  ∀ (b : Frame) (k : List Item) (cs : List Frame), b.roundOf = none → (∃ g, P.funcs[b.fn]? = some g) →
    ∃ e a' w', Q e a' w' ∧ ArrivesIn (Machine.fenced P Fence.wide) P (lone (b.atR a (.code c :: k)) cs w) b k cs e a' w'

theorem WpE.of {n : Nat} {P : Program} {c : Code} {Q : Exit → Act → World → Prop} {a : Act} {w : World} (h : c.wpIn Fence.wide n P Q a w) : WpE P c Q a w :=
  fun b k cs hro _ => h b k cs hro trivial (room_wide _)
theorem WpE.mono {P : Program} {c : Code} {Q Q' : Exit → Act → World → Prop} {a : Act} {w : World} (h : WpE P c Q a w) (hq : ∀ e a w, Q e a w → Q' e a w) : WpE P c Q' a w :=
  fun b k cs hro hg => let ⟨e, a', w', q, r⟩ := h b k cs hro hg; ⟨e, a', w', hq _ _ _ q, r⟩
theorem wpE_seq {P : Program} {x y : Code} {Q : Exit → Act → World → Prop} {a : Act} {w : World} (h : WpE P x (Exit.then (WpE P y Q) Q) a w) : WpE P (Code.seq x y) Q a w := by
  intro b k cs hro hg
  have h0 : (lone (b.atR a (.code (.seq x y) :: k)) cs w).fenced P Fence.wide := fenced_wide _ _
  obtain ⟨e, a₁, w₁, hq, harr⟩ := h b (.code y :: k) cs hro hg
  cases e with
  | normal =>
    obtain ⟨e₂, a₂, w₂, hq₂, harr₂⟩ := hq b k cs hro hg
    exact ⟨e₂, a₂, w₂, hq₂, .of_steps (.head h0 stepR_seq harr) harr₂⟩
  | exit id => exact ⟨_, a₁, w₁, hq, .of_steps (.one h0 stepR_seq) (.pass (x := .code y) rfl (fun _ _ => .inl (by simp)) harr)⟩
  | goto l => exact ⟨_, a₁, w₁, hq, .of_steps (.one h0 stepR_seq) (.pass (x := .code y) rfl (fun _ _ => .inl (by simp)) harr)⟩
  | ret => exact ⟨_, a₁, w₁, hq, .of_steps (.one h0 stepR_seq) (.pass (x := .code y) rfl (fun _ _ => .inl (by simp)) harr)⟩
  | panic ch => exact ⟨_, a₁, w₁, hq, .of_steps (.one h0 stepR_seq) (.pass (x := .code y) rfl (fun _ _ => .inl (by simp)) harr)⟩
  | outgrown => exact ⟨_, a₁, w₁, hq, .of_steps (.one h0 stepR_seq) (.pass (x := .code y) rfl (fun _ _ => .inl (by simp)) harr)⟩
theorem wpE_block {P : Program} {id : Nat} {c : Code} {Q : Exit → Act → World → Prop} {a : Act} {w : World} (h : WpE P c (Exit.inBlock id Q) a w) : WpE P (Code.block id c) Q a w := by
  intro b k cs hro hg
  have h0 : (lone (b.atR a (.code (.block id c) :: k)) cs w).fenced P Fence.wide := fenced_wide _ _
  obtain ⟨e, a₁, w₁, hq, harr⟩ := h b (.inBlock id :: k) cs hro hg
  cases e with
  | normal => exact ⟨.normal, a₁, w₁, hq, .head h0 stepR_block (StepsIn.trans harr (.one (fenced_wide _ _) stepR_inBlock))⟩
  | exit id' =>
    by_cases hid : id' = id
    · simp only [Exit.inBlock, hid, if_true] at hq
      exact ⟨.normal, a₁, w₁, hq, .head h0 stepR_block (harr.1 k (by simp [exitTo, hid]))⟩
    · simp only [Exit.inBlock, hid, if_false] at hq
      have this : (id == id') = false := by simp; exact fun h => hid h.symm
      have hx : exitTo id' (.inBlock id :: k) = exitTo id' k := by simp [exitTo, this]
      exact ⟨.exit id', a₁, w₁, hq, fun k' hk => .head h0 stepR_block (harr.1 k' (by rw [hx]; exact hk)),
        fun hr' hk => let ⟨k₁, h1, h2⟩ := harr.2 hr' (by rw [hx]; exact hk); ⟨k₁, h1, .head h0 stepR_block h2⟩⟩
  | goto l =>
    have hx : gotoIn l (.inBlock id :: k) = gotoIn l k := by simp [gotoIn]
    exact ⟨_, a₁, w₁, hq, fun k' hk => .head h0 stepR_block (harr.1 k' (by rw [hx]; exact hk)),
      fun hr' hk => let ⟨k₁, h1, h2⟩ := harr.2 hr' (by rw [hx]; exact hk); ⟨k₁, h1, .head h0 stepR_block h2⟩⟩
  | ret => exact ⟨_, a₁, w₁, hq, .of_steps (.one h0 stepR_block) harr⟩
  | panic ch => exact ⟨_, a₁, w₁, hq, .of_steps (.one h0 stepR_block) harr⟩
  | outgrown => exact ⟨_, a₁, w₁, hq, .of_steps (.one h0 stepR_block) harr⟩
/-- A piece that the walk can do, and then more. -/
theorem wpE_then {n : Nat} {P : Program} {x y : Code} {Q : Exit → Act → World → Prop} {a : Act} {w : World} (h : x.wpIn Fence.wide n P (Exit.then (WpE P y Q) Q) a w) : WpE P (Code.seq x y) Q a w := wpE_seq (.of h)

theorem calls_of_wpE {n : Nat} {P : Program} {f : FuncId} {fn : Func} {c : Code} {args : Array Value} {w : World} {R : Ending → World → Prop} (hf : P.funcs[f]? = some fn) (hb : fn.body = some c)
    (h : WpE P c (bodyPostM Fence.wide n P fn R) { tmps := args ++ Array.replicate (fn.ntmps - args.size) undef, defers := [] } w) : Calls P f args w R := by
  refine (callsIn_wide (n := n)).1 ⟨trivial, fun cs hr => ?_⟩
  let b : Frame := { (default : Frame) with fn := f, kind := .normal, roundOf := none }
  have henter : Frame.enter P f args .normal =
      b.atR { tmps := args ++ Array.replicate (fn.ntmps - args.size) undef, defers := [] } [.code c] := by
    simp [Frame.enter, Frame.atR, hf, hb, b]
  obtain ⟨e, a', w', hq, harr⟩ := h b [] cs rfl ⟨fn, hf⟩
  rw [← henter] at harr
  have hF : Fence.wide.fn f := trivial
  cases e with
  | normal =>
    obtain ⟨e', w'', fr', hR, hs, hfn, hl⟩ := leaves_stepsInM a'.defers .returning w' { b.atR a' [] with mode := .returning } cs rfl rfl rfl hf rfl hF hr hq
    exact ⟨e', w'', fr', hR, ComesIn.of_steps (StepsIn.trans harr (.one (fenced_wide _ _) (stepR_end rfl))) hs, hfn, hl⟩
  | ret =>
    obtain ⟨todo, hs₀⟩ := harr.1 rfl
    obtain ⟨e', w'', fr', hR, hs, hfn, hl⟩ := leaves_stepsInM a'.defers .returning w' { b.atR a' todo with mode := .returning } cs rfl rfl rfl hf rfl hF hr hq
    exact ⟨e', w'', fr', hR, ComesIn.of_steps hs₀ hs, hfn, hl⟩
  | panic chain =>
    obtain ⟨todo, hs₀⟩ := harr
    obtain ⟨e', w'', fr', hR, hs, hfn, hl⟩ := leaves_stepsInM a'.defers (.panicking chain) w' { b.atR a' todo with mode := .panicking chain } cs rfl rfl rfl hf rfl hF hr hq
    exact ⟨e', w'', fr', hR, ComesIn.of_steps hs₀ hs, hfn, hl⟩
  | exit id => exact hq.elim
  | goto l => exact hq.elim
  | outgrown => exact ⟨.outgrown, w', b, hq, harr.resolve_left (by simp [b]), rfl, trivial⟩

/-- How a round may end. -/
def roundPostX (P : Program) (l : Nat) (R : Ending → World → Prop) : Exit → Act → World → Prop
  | .normal, _, w => ∃ v w', (Instr.endRound l none).run P w = .ok v w' ∧ R (.returned v) w'
  | .panic ch, a, w => a.defers = [] ∧ R (.panicked ch) w
  | _, _, _ => False

theorem roundIn_of_wpInX {n : Nat} {P : Program} {l : Nat} {f : FuncId} {tmps : Array Value} {assign body : Code} {w : World} {R : Ending → World → Prop} (hg : ∃ g, P.funcs[f]? = some g)
    (h : assign.wpIn (Fence.wide.inRound l) n P (Exit.then (fun a₁ w₁ => ∃ w₂, (Instr.beginRound l).run P w₁ = .ok () w₂ ∧ body.wpIn (Fence.wide.inRound l) n P (roundPostX P l R) a₁ w₂) (fun _ _ _ => False))
      { tmps := tmps, defers := [] } w) :
    RoundIn Fence.wide n P l f tmps assign body w R := by
  refine ⟨trivial, fun c cs hr => ?_⟩
  let b : Frame := { (default : Frame) with fn := f, kind := .normal, roundOf := some l }
  have hb0 : Frame.round l f tmps assign body .normal = b.atR { tmps := tmps, defers := [] } [.code assign, .beginRound, .code body] := by
    simp [Frame.round, Frame.atR, b]
  have hr' : (Fence.wide.inRound l).room ((c :: cs).length + 1 + n) := hr
  have hF' : (Fence.wide.inRound l).fn b.fn := trivial
  obtain ⟨e, a₁, w₁, hq, harr⟩ := h b [.beginRound, .code body] (c :: cs) rfl hF' hr'
  rw [← hb0] at harr
  cases e with
  | normal =>
    obtain ⟨w₂, hbr, hbody⟩ := hq
    have s1 : StepsIn (Machine.fenced P Fence.wide) P (lone (b.atR a₁ [.beginRound, .code body]) (c :: cs) w₁) (lone (b.atR a₁ [.code body]) (c :: cs) w₂) :=
      .one (fenced_wide _ _) (stepR_beginRound rfl hbr)
    obtain ⟨e₂, a₂, w₃, hq₂, harr₂⟩ := hbody b [] (c :: cs) rfl hF' hr'
    cases e₂ with
    | normal =>
      obtain ⟨v, w₄, hend, hR⟩ := hq₂
      exact ⟨.returned v, w₄, hR, (StepsIn.trans harr s1).trans (StepsIn.trans harr₂ (.one (fenced_wide _ _) (stepR_round_end rfl rfl hend)))⟩
    | panic chain =>
      obtain ⟨hd, hR⟩ := hq₂
      obtain ⟨todo, hs⟩ := harr₂
      exact ⟨.panicked chain, w₃, hR, (StepsIn.trans harr s1).trans (StepsIn.trans hs (.one (fenced_wide _ _) (step_leave_panicked ⟨rfl, hd, hg⟩)))⟩
    | ret => exact hq₂.elim
    | exit id => exact hq₂.elim
    | goto t => exact hq₂.elim
    | outgrown => exact hq₂.elim
  | exit id => exact hq.elim
  | goto t => exact hq.elim
  | ret => exact hq.elim
  | panic chain => exact hq.elim
  | outgrown => exact hq.elim

/-- The statement, in a frame of a function that is there. -/
theorem wpE_rangeFunc {n : Nat} {P : Program} {g : Operand} {ps : Array Tmp} {assign body : Code} {Q : Exit → Act → World → Prop} {a : Act} {w : World} (_h1 : 1 ≤ n)
    (h : ∀ fn, (∃ x, P.funcs[fn]? = some x) → ∃ (l : Nat) (mark : List Deferred) (w₁ : World) (d : Deferred) (w₁' : World) (f : FuncId) (args : Array Value) (w₂ : World),
      (Instr.enterLoop fn a.tmps ps assign body none).run P w = .ok (l, mark) w₁ ∧
      (resolve a.eval (rangeCall g l) 0).run P w₁ = .ok d w₁' ∧
      (invoke d.target d.args).run P w₁' = .ok (.enter f args) w₂ ∧
      CallsIn Fence.wide (n - 1) P f args w₂ (rangePost Fence.wide n P l Q { a with defers := mark ++ a.defers })) :
    WpE P (Code.rangeFunc g ps assign body) Q a w := by
  intro b k cs hro hex
  have hr : Fence.wide.room (cs.length + 1 + n) := room_wide _
  have hb : Fence.wide.fn b.fn := trivial
  obtain ⟨l, mark, w₁, d, w₁', f, args, w₂, he, hres, hinv, hF, hcall⟩ := h b.fn hex
  rw [← hro] at he
  have h0 : (lone (b.atR a (.code (.rangeFunc g ps assign body) :: k)) cs w).fenced P Fence.wide := fenced_wide _ _
  have henter := stepR_rangeFunc (P := P) (b := b) (a := a) (k := k) (cs := cs) (w := w) he hres hinv
  obtain ⟨e, w₃, fr, hR, hsteps, hfn, hleave⟩ := hcall (b.atR { a with defers := mark ++ a.defers } (.inRangeFunc l :: k) :: cs) (room_wide _)
  cases e with
  | outgrown =>
    obtain ⟨a₀, w₀, hq⟩ := hR
    exact ⟨.outgrown, a₀, w₀, hq, .inr (Outgrown.of_steps (.one henter) hsteps)⟩
  | returned v =>
    have hl : (lone fr (b.atR { a with defers := mark ++ a.defers } (.inRangeFunc l :: k) :: cs) w₃).fenced P Fence.wide := fenced_wide _ _
    obtain ⟨jump, w₄, hend, hj⟩ := hR
    have sback : StepsIn (Machine.fenced P Fence.wide) P (lone (b.atR a (.code (.rangeFunc g ps assign body) :: k)) cs w) (lone (b.atR { a with defers := mark ++ a.defers } ((jump.map Item.code).toList ++ k)) cs w₄) := by
      refine .head h0 henter (StepsIn.trans hsteps (.head hl ?_ (.one (fenced_wide _ _) (stepR_endRangeFunc hend))))
      rw [← finish_atR_inRangeFunc l v]; exact step_leave_returned hleave
    cases jump with
    | none => exact ⟨.normal, _, w₄, hj, sback⟩
    | some c =>
      obtain ⟨e', a'', w₅, hq, harr⟩ := hj b k cs hro hb hr
      exact ⟨e', a'', w₅, hq, .of_steps sback harr⟩
  | panicked chain =>
    have hl : (lone fr (b.atR { a with defers := mark ++ a.defers } (.inRangeFunc l :: k) :: cs) w₃).fenced P Fence.wide := fenced_wide _ _
    refine ⟨.panic chain, _, w₃, hR, .inRangeFunc l :: k, .head h0 henter (StepsIn.trans hsteps (.one hl ?_))⟩
    rw [← Frame.raise_atR]; exact step_leave_panicked hleave

theorem yieldAt_anyX {m m' : Nat} {P : Program} {l : Nat} {args : Array Value} {W : World} {R : Ending → World → Prop} (h : YieldAt Fence.wide m P l args W R) : YieldAt Fence.wide m' P l args W R := by
  obtain ⟨fn, tmps, assign, body, hy, h1, h2⟩ := h
  exact ⟨fn, tmps, assign, body, hy, h1, fun c cs _ => h2 c cs (room_wide _)⟩
/-- How the body of a round may be left. -/
def lxPost {α : Type} (B : Nat) (T : Nat → Prop) (I : List α → World → Prop) (Ip : List PanicEntry → World → Prop) (xs : List α) (W : World) : Exit → Act → World → Prop
  | .normal, _, W' => KeepsFrom B W W' ∧ (∀ b, b < W.heap.size → T b → W'.heap[b]? = W.heap[b]?) ∧ I xs W'
  | .panic ch, a, W' => a.defers = [] ∧ KeepsFrom B W W' ∧ Ip ch W'
  | _, _, _ => False

theorem range_lx {α : Type} {P : Program} {n : Nat} {g : Operand} {ps : Array Tmp} {assign body : Code} {Q : Exit → Act → World → Prop} {a : Act} {w : World} (h1 : 1 ≤ n)
    {gf : Nat} {lb : Array Value} (hg : a.eval g = .func (.func gf) #[] lb) (eg : ∀ args w, (callFunc gf args).run P w = .ok (.enter gf args) w)
    {encs : α → Array Value} (hps : ∀ x, (encs x).size = ps.size) (I : List α → World → Prop) (hI : OwnFrom w.heap.size I) (hIq : ∀ pre A B, I pre A → A.grownBy B (some (w.heap.size + 2)) → I pre B) (Ip : List PanicEntry → World → Prop)
    (T : Nat → Prop) (hT : ∀ b, T b → b ≠ w.heap.size + 1) (S : List α → Prop)
    (G : List α → α → Prop)
    (hseq : ∀ (l : Nat) (J : List α → World → Prop) (Jp : List PanicEntry → World → Prop) (W : World), W.heap.size = w.heap.size + 2 → (∀ pre A, J pre A → I pre A) →
      (∀ pre A B, J pre A → A.grownBy B (some (w.heap.size + 2)) → J pre B) →
      (∀ m pre x A, J pre A → G pre x → YieldAt Fence.wide m P l (encs x) A fun e W' =>
        (e = .returned (.bool true) ∧ J (pre ++ [x]) W' ∧ A.heap.size ≤ W'.heap.size ∧ ∀ b, b < A.heap.size → T b → W'.heap[b]? = A.heap[b]?) ∨ (∃ ch, e = .panicked ch ∧ Jp ch W')) →
      J [] W → CallsIn Fence.wide (n - 1) P gf (#[.func (.yield l) #[] #[]] ++ lb) W fun e W' => (∃ v xs, e = .returned v ∧ S xs ∧ J xs W') ∨ (∃ ch, e = .panicked ch ∧ Jp ch W'))
    (h0 : I [] w) (Ax : List α → α → Act → World → Prop) (hAx : ∀ pre x a', OwnFrom w.heap.size fun (_ : Unit) W => Ax pre x a' W)
    (hassign : ∀ (l : Nat) (pre : List α) (x : α) (A : World) (K : Act → World → Prop), I pre A → w.heap.size + 2 ≤ A.heap.size → G pre x → (∀ a' B', KeepsFrom w.heap.size A B' → (∀ b, b < A.heap.size → T b → B'.heap[b]? = A.heap[b]?) → Ax pre x a' B' → K a' B') →
      assign.wpIn (Fence.wide.inRound l) n P (Exit.then K (fun _ _ _ => False)) { tmps := (ps.zip (encs x)).foldl (fun t (p, v) => t.setIfInBounds p v) a.tmps, defers := [] } A)
    (hbody : ∀ (l : Nat) (pre : List α) (x : α) (a' : Act) (B : World), Ax pre x a' B →
      body.wpIn (Fence.wide.inRound l) n P (lxPost w.heap.size T I Ip (pre ++ [x]) B) a' B)
    (hdone : ∀ (D : Nat) (xs : List α) (W : World), w.heap.size ≤ D → S xs → I xs W → W.heap[D]? = some (.deferred (some [])) → w.heap.size + 2 ≤ W.heap.size → Q .normal { a with defers := { target := .collected D, args := #[] } :: a.defers } W)
    (hpan : ∀ (D : Nat) (ch : List PanicEntry) (W : World), w.heap.size ≤ D → Ip ch W → W.heap[D]? = some (.deferred (some [])) → Q (.panic ch) { a with defers := { target := .collected D, args := #[] } :: a.defers } W) :
    WpE P (Code.rangeFunc g ps assign body) Q a w := by
  refine wpE_rangeFunc h1 ?_
  intro fn hfn
  obtain ⟨rec, hrec⟩ : ∃ rec : LoopState → Option Code → Loop, rec = fun st pe => { state := st, pending := pe, fn, tmps := a.tmps, params := ps, assign, body, defers := w.heap.size } := ⟨_, rfl⟩
  obtain ⟨W1, hW1⟩ : ∃ W1, (w.alloc (.deferred (some []))).alloc (.loop (rec .ready none)) = W1 := ⟨_, rfl⟩
  have hL1 : W1.heap[w.heap.size + 1]? = some (.loop (rec .ready none)) := by
    rw [← hW1]; have := World.alloc_heap_new (w.alloc (.deferred (some []))) (.loop (rec .ready none)); rwa [World.size_alloc] at this
  have hK1 : W1.heap[w.heap.size]? = some (.deferred (some [])) := by
    rw [← hW1]; exact (Below.heap_alloc _ _ _ (by simp)).trans (World.alloc_heap_new w _)
  have hI1 : I [] W1 := by rw [← hW1]; exact hI.alloc _ (hI.alloc _ h0)
  have hb1 : Below w.heap.size w W1 := by rw [← hW1]; exact ((Below.refl _ w).alloc (Nat.le_refl _) _).alloc (by simp) _
  refine ⟨w.heap.size + 1, [{ target := .collected w.heap.size, args := #[] }], W1, { target := .fn (.func gf) lb, args := #[.func (.yield (w.heap.size + 1)) #[] #[]] }, W1, gf,
    #[.func (.yield (w.heap.size + 1)) #[] #[]] ++ lb, W1, ?_, ?_, ?_, ?_⟩
  · rw [← hW1, hrec]; exact run_enterLoop_outer _ _ _ _ _
  · simp only [resolve, hg]
    simp [go_sem]
  · simp [invoke, go_sem, eg]
  · refine (hseq (w.heap.size + 1)
      (fun pre W => I pre W ∧ W.heap[w.heap.size + 1]? = some (.loop (rec .ready none)) ∧ W.heap[w.heap.size]? = some (.deferred (some [])))
      (fun ch W => Ip ch W ∧ W.heap[w.heap.size]? = some (.deferred (some [])))
      W1 (by rw [← hW1]; simp) (fun _ A h => h.1)
      (fun pre A B hs hg' => ⟨hIq pre A B hs.1 hg', (hg'.block _ (Array.getElem?_eq_some_iff.1 hs.2.1).1 (by simp)).trans hs.2.1, (hg'.block _ (Array.getElem?_eq_some_iff.1 hs.2.2).1 (by simp)).trans hs.2.2⟩)
      ?_ ⟨hI1, hL1, hK1⟩).mono ?_
    · rintro m pre x W ⟨hi, hl, hk⟩ hgx
      have hlt : w.heap.size + 1 < W.heap.size := (Array.getElem?_eq_some_iff.1 hl).1
      have hy := run_yield (P := P) (args := encs x) hl (by rw [hrec]; exact hps x)
      rw [hrec] at hy
      refine yieldAt_anyX (m := n) ⟨fn, _, assign, body, hy, roundIn_of_wpInX hfn (hassign _ pre x W _ hi hlt hgx ?_)⟩
      intro a' W' hk1 hT1 hax
      have hl1 := hk1.same _ _ (by omega) hl rfl
      have hd1 := hk1.same _ _ (Nat.le_refl _) hk rfl
      have hlt1 : w.heap.size + 1 < W'.heap.size := (Array.getElem?_eq_some_iff.1 hl1).1
      refine ⟨_, run_beginRound hl1 (by rw [hrec]), ?_⟩
      have hl2 : (W'.putObj (w.heap.size + 1) (.loop { rec .ready none with state := .busy })).heap[w.heap.size + 1]? = some (.loop { rec .ready none with state := .busy }) := World.putObj_heap_same hlt1
      have hk2 : (W'.putObj (w.heap.size + 1) (.loop { rec .ready none with state := .busy })).heap[w.heap.size]? = some (.deferred (some [])) := (World.putObj_heap_other (by omega)).trans hd1
      refine wpIn_mono (hbody _ pre x a' _ ((hAx pre x a').putObj (s := ()) _ hax (by omega) hl1 rfl)) ?_
      rintro e a3 W3 hp
      cases e with
      | normal =>
        obtain ⟨hk3, hkp3, hi3⟩ := hp
        have hl3 := hk3.same _ _ (by omega) hl2 rfl
        have hend := run_endRound (P := P) none hl3
        have hlt3 := (Array.getElem?_eq_some_iff.1 hl3).1
        have hs1 := hk1.size
        have hs3 := hk3.size
        have hp : ∀ (W : World) (l : Nat) (o : Obj), (W.putObj l o).heap.size = W.heap.size := fun W l o => by simp [World.putObj]
        rw [hp] at hs3
        have hrr : ({ { rec .ready none with state := .busy } with state := if (none : Option Code).isNone then .ready else .done, pending := none } : Loop) = rec .ready none := by rw [hrec]; rfl
        rw [hrr] at hend
        refine ⟨_, _, hend, .inl ⟨rfl, ⟨hI.putObj _ hi3 (by omega) hl3 rfl, World.putObj_heap_same hlt3, (World.putObj_heap_other (by omega)).trans (hk3.same _ _ (Nat.le_refl _) hk2 rfl)⟩, by rw [hp]; omega, fun b hlt hb => ?_⟩⟩
        have := hT b hb
        rw [World.putObj_heap_other (by omega), hkp3 b (by rw [hp]; omega) hb, World.putObj_heap_other (by omega), hT1 b hlt hb]
      | panic ch =>
        obtain ⟨hdf, hk3, hi3⟩ := hp
        exact ⟨hdf, .inr ⟨ch, rfl, hi3, hk3.same _ _ (Nat.le_refl _) hk2 rfl⟩⟩
      | ret => exact hp.elim
      | exit id => exact hp.elim
      | goto t => exact hp.elim
      | outgrown => exact hp.elim
    · rintro e W2 (⟨v, xs, rfl, hS, hi, hl, hk⟩ | ⟨ch, rfl, hi, hk⟩)
      · exact ⟨none, _, by have := run_endLoop (P := P) hl (by rw [hrec]; simp); rw [hrec] at this; exact this, hdone _ xs _ (Nat.le_refl _) hS (hI.putObj _ hi (by omega) hl rfl) ((World.putObj_heap_other (by omega)).trans hk) (by have := (Array.getElem?_eq_some_iff.1 hl).1; simp only [World.putObj, Array.size_setIfInBounds]; omega)⟩
      · exact hpan _ ch _ (Nat.le_refl _) hi hk

end Go.Proofs.YtebjhbeaknokkaaGreatDoor
namespace Go.Proofs.YtebjhbeaknokkaaGreatDoor
open Go Go.RowKit Go.Lib Go.Shelf
attribute [local go_sem] Oper.semAt_some

abbrev V3 := Value × Value × Value
/-- Fields, each with its place. -/
def fsOf (xs : List V3) : List (Nat × V3) := (List.range xs.length).map fun j => (j, xs.getD j (.nilFunc, .nilFunc, .nilFunc))
theorem fs_length (xs : List V3) : (fsOf xs).length = xs.length := by simp [fsOf]
theorem fs_at {xs : List V3} {j : Nat} {x : V3} (h : xs[j]? = some x) : (fsOf xs)[j]? = some (j, x) := by
  have hj := (List.getElem?_eq_some_iff.1 h).1
  unfold fsOf
  rw [List.getElem?_map, List.getElem?_range hj]
  simp [List.getD_eq_getElem?_getD, h]
theorem fs_get {xs : List V3} {j i : Nat} {x : V3} (h : (fsOf xs)[j]? = some (i, x)) : i = j ∧ xs[j]? = some x := by
  have hj := (List.getElem?_eq_some_iff.1 h).1
  rw [fs_length] at hj
  have := fs_at (List.getElem?_eq_getElem hj)
  rw [h] at this
  cases this
  exact ⟨rfl, List.getElem?_eq_getElem hj⟩
def GoodF (xs : List V3) (pre : List (Nat × V3)) (x : Nat × V3) : Prop := pre = (fsOf xs).take pre.length ∧ (fsOf xs)[pre.length]? = some x
def encF (x : Nat × V3) : Array Value := #[.int .i64 (x.1 : Nat), .agg #[x.2.1, x.2.2.1, x.2.2.2]]
theorem fields_any (r n : Nat) (w : World) : Calls Tryz.prog 167 #[rowS r n] w fun e w' =>
    e = .returned (.func (.func 239) #[] #[.pointer (some ⟨w.heap.size, 0, none⟩)]) ∧ w' = w.alloc (.cells #[rowS r n] 128) := by
  have hmf : ∀ (fn : Fn) (first cap : Array Value) (w : World), (Instr.makeFunc fn first cap).run Tryz.prog w = .ok (.func fn first cap) w := fun _ _ _ _ => rfl
  unfold rowS
  go_enter Tryz.func167, Tryz.ntmps167
  go_wp2_with fail
  go_ret
  exact ⟨rfl, rfl⟩
set_option maxRecDepth 100000 in
set_option maxHeartbeats 4000000 in
theorem fields_seq (xs : List V3) (T : Nat → Prop) (l bs r : Nat) (J : List (Nat × V3) → World → Prop) (Jp : List PanicEntry → World → Prop) (hlen : xs.length ≤ 100)
    (hf : Hid (∀ x ∈ xs, IsFn x.1 ∧ IsFn x.2.1 ∧ IsFn x.2.2))
    (cs : Hid (∀ pre A, J pre A → A.cell? ⟨bs, 0, none⟩ = some (rowS r xs.length))) (cr : Hid (∀ pre A, J pre A → A.heap[r]? = some (.cells (pcells xs).toArray 180 (0, 0))))
    (jg : Hid (∀ pre A B, J pre A → A.grownBy B none → J pre B))
    (y : Hid (∀ m pre x A, J pre A → GoodF xs pre x → YieldAt Fence.wide m Tryz.prog l (encF x) A fun e W' =>
      (e = .returned (.bool true) ∧ J (pre ++ [x]) W' ∧ A.heap.size ≤ W'.heap.size ∧ ∀ b, b < A.heap.size → T b → W'.heap[b]? = A.heap[b]?) ∨ (∃ ch, e = .panicked ch ∧ Jp ch W')))
    (m : Nat) (W : World) (h0 : J [] W) :
    CallsIn Fence.wide m Tryz.prog 239 #[.func (.yield l) #[] #[], .pointer (some ⟨bs, 0, none⟩)] W fun e W' =>
      (∃ v zs, e = .returned v ∧ zs = fsOf xs ∧ J zs W') ∨ (∃ ch, e = .panicked ch ∧ Jp ch W') := by
  have hro : Fence.wide.round = none := rfl
  have b0 := cs.out _ _ h0
  unfold rowS at b0
  refine callsIn_of_wp Tryz.func239 rfl trivial ?_ rfl
  simp only [Tryz.ntmps239, List.size_toArray, List.length_cons, List.length_nil, Nat.reduceAdd, Nat.reduceSub, Array.replicate_succ, Array.replicate_zero, List.push_toArray, List.append_toArray, List.nil_append, List.cons_append]
  gi_wp2
  gi_loopw [7] (fun i wr => ∃ j : Nat, j ≤ xs.length ∧ i = .int .i64 (j : Int) ∧ J ((fsOf xs).take j) wr) (fun i _ => xs.length - (intOf i).toNat)
  case atStart => exact ⟨0, Nat.zero_le _, rfl, by simpa using h0⟩
  case round =>
    clear b0
    obtain ⟨j, hj, rfl, hJ⟩ := hrel
    by_cases hlt : j < xs.length
    · have hjI : (j : Int) < xs.length := by omega
      have hx := List.getElem?_eq_getElem hlt
      obtain ⟨⟨p, g, q⟩, hxx⟩ : ∃ x, xs[j] = x := ⟨_, rfl⟩
      rw [hxx] at hx
      have hfx := hf.out (p, g, q) (List.mem_of_getElem? hx)
      have hfs := fs_at hx
      have hcr := cr.out _ _ hJ
      obtain ⟨e0, e1, e2⟩ := pcells_at xs j _ hx
      have c0 : wr.cell? ⟨r, j * 3, none⟩ = some p := by simp only [World.cell?, hcr, List.getElem?_toArray]; exact e0
      have c1 : wr.cell? ⟨r, j * 3 + 1, none⟩ = some g := by simp only [World.cell?, hcr, List.getElem?_toArray]; exact e1
      have c2 : wr.cell? ⟨r, j * 3 + 2, none⟩ = some q := by simp only [World.cell?, hcr, List.getElem?_toArray]; exact e2
      have s0 := fun W a => store_fn hfx.1 W a
      have s1 := fun W a => store_fn hfx.2.1 W a
      have s2 := fun W a => store_fn hfx.2.2 W a
      have hgo : GoodF xs ((fsOf xs).take j) (j, p, g, q) := by
        have : ((fsOf xs).take j).length = j := by rw [List.length_take, fs_length]; omega
        unfold GoodF
        rw [this]
        exact ⟨rfl, hfs⟩
      have HSN : Hid ((fsOf xs).take j ++ [(j, p, g, q)] = (fsOf xs).take (j + 1)) := by
        show _ = _
        rw [List.take_add_one, hfs]
        rfl
      have hJ2 := jg.out _ _ (wr.alloc (.cells #[p, g, q] 180)) hJ (World.grownBy_alloc _ _ _)
      obtain ⟨fn, tmps, assign, body, hyy, hR⟩ := y.out (m - 1) _ _ _ hJ2 hgo
      dsimp only [encF] at hyy
      have hlen9 : (xs.length : Int) ≤ 100 := by omega
      clear hgo hfs hcr e0 e1 e2 hx hxx hJ hJ2 hfx
      gi_wp2
      refine ⟨fun h => (by cases h), hR.mono ?_⟩
      rintro e W5 (⟨rfl, hj5, hz5, hk5⟩ | ⟨ch, rfl, hjp⟩)
      · rw [HSN.out] at hj5
        have HJ5 := Lib.hid hj5
        clear hyy hR hj5 hk5
        gi_wp2
        go_roundw
        case rel => exact ⟨j + 1, by omega, by push_cast; rfl, HJ5.out⟩
        case measure => simp [intOf]; omega
      · have HJP := Lib.hid hjp
        clear hyy hR hjp
        gi_wp2_with fail
        exact ⟨rfl, .inr ⟨ch, rfl, HJP.out⟩⟩
    · have hjI : ¬ (j : Int) < xs.length := by omega
      rw [List.take_of_length_le (by rw [fs_length]; omega)] at hJ
      have HJ := Lib.hid hJ
      clear hJ
      gi_wp2_with fail
      go_end0
      exact .inl ⟨⟨_, rfl⟩, HJ.out⟩
end Go.Proofs.YtebjhbeaknokkaaGreatDoor
