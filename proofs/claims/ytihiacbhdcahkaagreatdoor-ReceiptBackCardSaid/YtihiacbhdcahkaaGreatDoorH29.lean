/- Receipts: works, the document's example and each form. ReceiptOnly, walked. -/
import Derived.Test.YtihiacbhdcahkaaGreatDoorH28
namespace Go.Proofs.YtihiacbhdcahkaaGreatDoor
open Go Go.RowKit Go.Lib
attribute [local go_sem] Oper.semAt_some
deriving instance DecidableEq for M.Lg, M.Rc

def zR : M.Rc := ⟨0, false, 0, [], false, 0, 0⟩
def dR : M.Rc := ⟨126, true, 5, [], true, 7, 1⟩
def iR : M.Rc := ⟨0, false, 0, [], true, 0, 0⟩
theorem er0 : M.encR zR = ([195, 128, 128, 192], 0) := by decide +kernel
theorem erD : M.encR dR = ([126, 197, 1, 5, 192, 7, 1], 0) := by decide +kernel
theorem erI : M.encR iR = ([], 2) := by decide +kernel
theorem dr0 : M.decR [195, 128, 128, 192] = (zR, 0) := by decide +kernel
theorem drD : M.decR [126, 197, 1, 5, 192, 7, 1] = (dR, 0) := by decide +kernel
theorem drJ : M.decR [3, 192] = (zR, 9) := by decide +kernel
theorem few_nil : FewL [] := ⟨by decide, by simp⟩
/-- The handle of the type 'error'. -/
abbrev Hdl (w : World) : Prop := w.cell? ⟨0, 0, none⟩ = some (.iface 239 (.agg #[.pointer (some ⟨4, 61, none⟩)]))
theorem Hdl.kept {w W : World} (h : Hdl w) (hb : Below w.heap.size w W) : Hdl W := (hb.cell (p := ⟨0, 0, none⟩) (addr_lt h)).trans h
theorem enc_0 (W : World) : Calls Tryz.prog 12 #[.agg #[.int .i64 0, .bool false, .int .u64 0, .slice none 0 0, .bool false, .int .u64 0, .int .u64 0]] W fun e w' => e = .returned (.tuple #[.string ⟨#[195, 128, 128, 192]⟩, .int .i64 0]) ∧ Below W.heap.size W w' := by
  have := pencode_any zR none 0 W few_nil (by decide) (by decide) (.nil_ (by decide))
  rw [er0] at this
  exact this
theorem enc_D (W : World) : Calls Tryz.prog 12 #[.agg #[.int .i64 126, .bool true, .int .u64 5, .slice none 0 0, .bool true, .int .u64 7, .int .u64 1]] W fun e w' => e = .returned (.tuple #[.string ⟨#[126, 197, 1, 5, 192, 7, 1]⟩, .int .i64 0]) ∧ Below W.heap.size W w' := by
  have := pencode_any dR none 0 W few_nil (by decide) (by decide) (.nil_ (by decide))
  rw [erD] at this
  exact this
theorem enc_I (W : World) : Calls Tryz.prog 12 #[.agg #[.int .i64 0, .bool false, .int .u64 0, .slice none 0 0, .bool true, .int .u64 0, .int .u64 0]] W fun e w' => e = .returned (.tuple #[.string ⟨#[]⟩, .int .i64 2]) ∧ Below W.heap.size W w' := by
  have := pencode_any iR none 0 W few_nil (by decide) (by decide) (.nil_ (by decide))
  rw [erI] at this
  exact this
theorem nil_of {W : World} {n : Nat} {v : Value} (h : Ls W n [] v) : ∃ a c, v = .slice a 0 c ∧ c ≤ maxLen := by
  obtain ⟨a, c, e, _, hm⟩ := h.slice
  exact ⟨a, c, e, hm⟩
theorem dec_0 (W : World) (h : Hdl W) : Calls Tryz.prog 18 #[.string ⟨#[195, 128, 128, 192]⟩] W fun e w' => (∃ a c, e = .returned (.tuple #[.agg #[.int .i64 0, .bool false, .int .u64 0, .slice a 0 c, .bool false, .int .u64 0, .int .u64 0], .int .i64 0]) ∧ c ≤ maxLen) ∧ Below W.heap.size W w' := by
  refine (pdecode_any [195, 128, 128, 192] W h (M.gd_rdI _ _ (Nat.le_trans (by rw [List.length_drop]; exact Nat.sub_le _ _) (by decide))) (by decide)).mono ?_
  rw [dr0]
  rintro e w' ⟨⟨v, rfl, hl⟩, hb⟩
  obtain ⟨a, c, rfl, hm⟩ := nil_of hl
  exact ⟨⟨a, c, rfl, hm⟩, hb⟩
theorem dec_D (W : World) (h : Hdl W) : Calls Tryz.prog 18 #[.string ⟨#[126, 197, 1, 5, 192, 7, 1]⟩] W fun e w' => (∃ a c, e = .returned (.tuple #[.agg #[.int .i64 126, .bool true, .int .u64 5, .slice a 0 c, .bool true, .int .u64 7, .int .u64 1], .int .i64 0]) ∧ c ≤ maxLen) ∧ Below W.heap.size W w' := by
  refine (pdecode_any [126, 197, 1, 5, 192, 7, 1] W h (M.gd_rdI _ _ (Nat.le_trans (by rw [List.length_drop]; exact Nat.sub_le _ _) (by decide))) (by decide)).mono ?_
  rw [drD]
  rintro e w' ⟨⟨v, rfl, hl⟩, hb⟩
  obtain ⟨a, c, rfl, hm⟩ := nil_of hl
  exact ⟨⟨a, c, rfl, hm⟩, hb⟩
theorem dec_J (W : World) (h : Hdl W) : Calls Tryz.prog 18 #[.string ⟨#[3, 192]⟩] W fun e w' => (∃ a c, e = .returned (.tuple #[.agg #[.int .i64 0, .bool false, .int .u64 0, .slice a 0 c, .bool false, .int .u64 0, .int .u64 0], .int .i64 9]) ∧ c ≤ maxLen) ∧ Below W.heap.size W w' := by
  refine (pdecode_any [3, 192] W h (M.gd_rdI _ _ (Nat.le_trans (by rw [List.length_drop]; exact Nat.sub_le _ _) (by decide))) (by decide)).mono ?_
  rw [drJ]
  rintro e w' ⟨⟨v, rfl, hl⟩, hb⟩
  obtain ⟨a, c, rfl, hm⟩ := nil_of hl
  exact ⟨⟨a, c, rfl, hm⟩, hb⟩
theorem same_zz (a b : Option Addr) (c d : Nat) (W : World) (hc : c ≤ maxLen) (hd : d ≤ maxLen) : Calls Tryz.prog 17 #[.agg #[.int .i64 0, .bool false, .int .u64 0, .slice a 0 c, .bool false, .int .u64 0, .int .u64 0], .agg #[.int .i64 0, .bool false, .int .u64 0, .slice b 0 d, .bool false, .int .u64 0, .int .u64 0]] W fun e w' => e = .returned (.bool true) ∧ Below W.heap.size W w' := by
  have := psame_any zR zR a c b d W (.nil_ hc) (.nil_ hd) few_nil
  rw [show M.sameR zR zR = true by decide +kernel] at this
  exact this
theorem same_dd (a b : Option Addr) (c d : Nat) (W : World) (hc : c ≤ maxLen) (hd : d ≤ maxLen) : Calls Tryz.prog 17 #[.agg #[.int .i64 126, .bool true, .int .u64 5, .slice a 0 c, .bool true, .int .u64 7, .int .u64 1], .agg #[.int .i64 126, .bool true, .int .u64 5, .slice b 0 d, .bool true, .int .u64 7, .int .u64 1]] W fun e w' => e = .returned (.bool true) ∧ Below W.heap.size W w' := by
  have := psame_any dR dR a c b d W (.nil_ hc) (.nil_ hd) few_nil
  rw [show M.sameR dR dR = true by decide +kernel] at this
  exact this
theorem same_zd (a b : Option Addr) (c d : Nat) (W : World) (hc : c ≤ maxLen) (hd : d ≤ maxLen) : Calls Tryz.prog 17 #[.agg #[.int .i64 0, .bool false, .int .u64 0, .slice a 0 c, .bool false, .int .u64 0, .int .u64 0], .agg #[.int .i64 126, .bool true, .int .u64 5, .slice b 0 d, .bool true, .int .u64 7, .int .u64 1]] W fun e w' => e = .returned (.bool false) ∧ Below W.heap.size W w' := by
  have := psame_any zR dR a c b d W (.nil_ hc) (.nil_ hd) few_nil
  rw [show M.sameR zR dR = false by decide +kernel] at this
  exact this
theorem check_D (W : World) : Calls Tryz.prog 15 #[.agg #[.int .i64 126, .bool true, .int .u64 5, .slice none 0 0, .bool true, .int .u64 7, .int .u64 1]] W fun e w' => e = .returned (.int .i64 0) ∧ Below W.heap.size W w' := by
  have := pcheck_any dR none 0 W few_nil (.nil_ (by decide))
  rw [show M.chkR dR = 0 by decide +kernel] at this
  exact this
theorem Form_D (W : World) : Calls Tryz.prog 16 #[.agg #[.int .i64 126, .bool true, .int .u64 5, .slice none 0 0, .bool true, .int .u64 7, .int .u64 1]] W fun e w' => e = .returned (.int .i64 2) ∧ Below W.heap.size W w' := form_any 126 5 7 1 true true _ W
theorem Form_Z (a : Option Addr) (c : Nat) (W : World) : Calls Tryz.prog 16 #[.agg #[.int .i64 0, .bool false, .int .u64 0, .slice a 0 c, .bool false, .int .u64 0, .int .u64 0]] W fun e w' => e = .returned (.int .i64 0) ∧ Below W.heap.size W w' := form_any 0 0 0 0 false false _ W
/-- A receipt's box, of literal cells. -/
structure B7 (w : World) (g : Nat) (v0 v1 v2 v3 v4 v5 v6 : Value) : Prop where
  c0 : w.cell? ⟨g, 0, none⟩ = some v0
  c1 : w.cell? ⟨g, 1, none⟩ = some v1
  c2 : w.cell? ⟨g, 2, none⟩ = some v2
  c3 : w.cell? ⟨g, 3, none⟩ = some v3
  c4 : w.cell? ⟨g, 4, none⟩ = some v4
  c5 : w.cell? ⟨g, 5, none⟩ = some v5
  c6 : w.cell? ⟨g, 6, none⟩ = some v6
theorem B7.new (w : World) (v0 v1 v2 v3 v4 v5 v6 : Value) (t : TypeId) : B7 (w.alloc (.cells #[v0, v1, v2, v3, v4, v5, v6] t)) w.heap.size v0 v1 v2 v3 v4 v5 v6 :=
  ⟨by simp [go_sem], by simp [go_sem], by simp [go_sem], by simp [go_sem], by simp [go_sem], by simp [go_sem], by simp [go_sem]⟩
theorem B7.from_ {w W : World} {g : Nat} {v0 v1 v2 v3 v4 v5 v6 : Value} (h : B7 w g v0 v1 v2 v3 v4 v5 v6) (hb : Below w.heap.size w W) : B7 W g v0 v1 v2 v3 v4 v5 v6 := by
  have hg : g < w.heap.size := addr_lt h.c0
  exact ⟨(hb.cell (p := ⟨g, 0, none⟩) hg).trans h.c0, (hb.cell (p := ⟨g, 1, none⟩) hg).trans h.c1, (hb.cell (p := ⟨g, 2, none⟩) hg).trans h.c2, (hb.cell (p := ⟨g, 3, none⟩) hg).trans h.c3, (hb.cell (p := ⟨g, 4, none⟩) hg).trans h.c4, (hb.cell (p := ⟨g, 5, none⟩) hg).trans h.c5, (hb.cell (p := ⟨g, 6, none⟩) hg).trans h.c6⟩
set_option maxRecDepth 100000 in
set_option maxHeartbeats 8000000 in
theorem works11 (w : World) (hh : Hdl w) : Calls Tryz.prog 8 #[] w fun e w' => e = .returned (.bool true) ∧ Below w.heap.size w w' := by
  have HH_w := Lib.hid hh
  have HB_w := Lib.hid (Below.refl w.heap.size w)
  clear hh
  go_enter Tryz.func8, Tryz.ntmps8
  go_wp2_with fail
  refine (enc_0 _).mono ?_
  rintro e w1 ⟨rfl, hb_⟩
  have HB_w1 := Lib.hid (HB_w.out.trans (hb_.mono HB_w.out.size))
  have HH_w1 := Lib.hid (HH_w.out.kept hb_)
  clear hb_
  go_wp2_with fail
  refine (dec_0 _ HH_w1.out).mono ?_
  rintro e w2 ⟨⟨a1, k1, rfl, hm1⟩, hb_⟩
  have HB_w2 := Lib.hid (HB_w1.out.trans (hb_.mono HB_w1.out.size))
  have HH_w2 := Lib.hid (HH_w1.out.kept hb_)
  clear hb_
  obtain ⟨g3, hg3⟩ : ∃ g3, w2.heap.size = g3 := ⟨_, rfl⟩
  obtain ⟨w3, hw3⟩ : ∃ w3, w2.alloc (.cells #[.int .i64 0, .bool false, .int .u64 0, .slice a1 0 k1, .bool false, .int .u64 0, .int .u64 0] 25) = w3 := ⟨_, rfl⟩
  have hb_ : Below w2.heap.size w2 w3 := by rw [← hw3]; exact (Below.refl _ _).alloc (Nat.le_refl _) _
  have hx_ := B7.new w2 (.int .i64 0) (.bool false) (.int .u64 0) (.slice a1 0 k1) (.bool false) (.int .u64 0) (.int .u64 0) 25
  rw [hw3, hg3] at hx_
  have HA_w3 := Lib.hid hw3
  have HB_w3 := Lib.hid (HB_w2.out.trans (hb_.mono HB_w2.out.size))
  have HH_w3 := Lib.hid (HH_w2.out.kept hb_)
  have HX3_w3 := Lib.hid hx_
  clear hx_ hb_ hw3
  obtain ⟨g5, hg5⟩ : ∃ g5, w3.heap.size = g5 := ⟨_, rfl⟩
  obtain ⟨w4, hw4⟩ : ∃ w4, w3.alloc (.cells #[.int .i64 126, .bool true, .int .u64 5, .slice none 0 0, .bool true, .int .u64 7, .int .u64 1] 25) = w4 := ⟨_, rfl⟩
  have hb_ : Below w3.heap.size w3 w4 := by rw [← hw4]; exact (Below.refl _ _).alloc (Nat.le_refl _) _
  have hx_ := B7.new w3 (.int .i64 126) (.bool true) (.int .u64 5) (.slice none 0 0) (.bool true) (.int .u64 7) (.int .u64 1) 25
  rw [hw4, hg5] at hx_
  have HA_w4 := Lib.hid hw4
  have HB_w4 := Lib.hid (HB_w3.out.trans (hb_.mono HB_w3.out.size))
  have HH_w4 := Lib.hid (HH_w3.out.kept hb_)
  have HX5_w4 := Lib.hid hx_
  have HX3_w4 := Lib.hid (HX3_w3.out.from_ hb_)
  clear hx_ hb_ hw4
  obtain ⟨p50, p51, p52, p53, p54, p55, p56⟩ := HX5_w4.out
  go_wp2_with (first | rw [HA_w3.out] | rw [HA_w4.out] | rw [hg3] | rw [hg5])
  clear p50 p51 p52 p53 p54 p55 p56
  refine (enc_D _).mono ?_
  rintro e w5 ⟨rfl, hb_⟩
  have HB_w5 := Lib.hid (HB_w4.out.trans (hb_.mono HB_w4.out.size))
  have HH_w5 := Lib.hid (HH_w4.out.kept hb_)
  have HX3_w5 := Lib.hid (HX3_w4.out.from_ hb_)
  have HX5_w5 := Lib.hid (HX5_w4.out.from_ hb_)
  clear hb_
  go_wp2_with fail
  refine (dec_D _ HH_w5.out).mono ?_
  rintro e w6 ⟨⟨a2, k2, rfl, hm2⟩, hb_⟩
  have HB_w6 := Lib.hid (HB_w5.out.trans (hb_.mono HB_w5.out.size))
  have HH_w6 := Lib.hid (HH_w5.out.kept hb_)
  have HX3_w6 := Lib.hid (HX3_w5.out.from_ hb_)
  have HX5_w6 := Lib.hid (HX5_w5.out.from_ hb_)
  clear hb_
  obtain ⟨g8, hg8⟩ : ∃ g8, w6.heap.size = g8 := ⟨_, rfl⟩
  obtain ⟨w7, hw7⟩ : ∃ w7, w6.alloc (.cells #[.int .i64 126, .bool true, .int .u64 5, .slice a2 0 k2, .bool true, .int .u64 7, .int .u64 1] 25) = w7 := ⟨_, rfl⟩
  have hb_ : Below w6.heap.size w6 w7 := by rw [← hw7]; exact (Below.refl _ _).alloc (Nat.le_refl _) _
  have hx_ := B7.new w6 (.int .i64 126) (.bool true) (.int .u64 5) (.slice a2 0 k2) (.bool true) (.int .u64 7) (.int .u64 1) 25
  rw [hw7, hg8] at hx_
  have HA_w7 := Lib.hid hw7
  have HB_w7 := Lib.hid (HB_w6.out.trans (hb_.mono HB_w6.out.size))
  have HH_w7 := Lib.hid (HH_w6.out.kept hb_)
  have HX8_w7 := Lib.hid hx_
  have HX3_w7 := Lib.hid (HX3_w6.out.from_ hb_)
  have HX5_w7 := Lib.hid (HX5_w6.out.from_ hb_)
  clear hx_ hb_ hw7
  go_wp2_with (first | rw [HA_w7.out] | rw [hg8])
  refine (enc_I _).mono ?_
  rintro e w8 ⟨rfl, hb_⟩
  have HB_w8 := Lib.hid (HB_w7.out.trans (hb_.mono HB_w7.out.size))
  have HH_w8 := Lib.hid (HH_w7.out.kept hb_)
  have HX3_w8 := Lib.hid (HX3_w7.out.from_ hb_)
  have HX5_w8 := Lib.hid (HX5_w7.out.from_ hb_)
  have HX8_w8 := Lib.hid (HX8_w7.out.from_ hb_)
  clear hb_
  go_wp2_with fail
  refine (dec_J _ HH_w8.out).mono ?_
  rintro e w9 ⟨⟨a3, k3, rfl, hm3⟩, hb_⟩
  have HB_w9 := Lib.hid (HB_w8.out.trans (hb_.mono HB_w8.out.size))
  have HH_w9 := Lib.hid (HH_w8.out.kept hb_)
  have HX3_w9 := Lib.hid (HX3_w8.out.from_ hb_)
  have HX5_w9 := Lib.hid (HX5_w8.out.from_ hb_)
  have HX8_w9 := Lib.hid (HX8_w8.out.from_ hb_)
  clear hb_
  obtain ⟨g12, hg12⟩ : ∃ g12, w9.heap.size = g12 := ⟨_, rfl⟩
  obtain ⟨w10, hw10⟩ : ∃ w10, w9.alloc (.cells #[.int .i64 0, .bool false, .int .u64 0, .slice a3 0 k3, .bool false, .int .u64 0, .int .u64 0] 25) = w10 := ⟨_, rfl⟩
  have hb_ : Below w9.heap.size w9 w10 := by rw [← hw10]; exact (Below.refl _ _).alloc (Nat.le_refl _) _
  have hx_ := B7.new w9 (.int .i64 0) (.bool false) (.int .u64 0) (.slice a3 0 k3) (.bool false) (.int .u64 0) (.int .u64 0) 25
  rw [hw10, hg12] at hx_
  have HA_w10 := Lib.hid hw10
  have HB_w10 := Lib.hid (HB_w9.out.trans (hb_.mono HB_w9.out.size))
  have HH_w10 := Lib.hid (HH_w9.out.kept hb_)
  have HX3_w10 := Lib.hid (HX3_w9.out.from_ hb_)
  have HX5_w10 := Lib.hid (HX5_w9.out.from_ hb_)
  have HX8_w10 := Lib.hid (HX8_w9.out.from_ hb_)
  clear hx_ hb_ hw10
  obtain ⟨p30, p31, p32, p33, p34, p35, p36⟩ := HX3_w10.out
  go_wp2_with (first | rw [HA_w10.out] | rw [hg12])
  clear p30 p31 p32 p33 p34 p35 p36
  refine (same_zz a1 none k1 0 _ hm1 (by decide)).mono ?_
  rintro e w11 ⟨rfl, hb_⟩
  have HB_w11 := Lib.hid (HB_w10.out.trans (hb_.mono HB_w10.out.size))
  have HH_w11 := Lib.hid (HH_w10.out.kept hb_)
  have HX3_w11 := Lib.hid (HX3_w10.out.from_ hb_)
  have HX5_w11 := Lib.hid (HX5_w10.out.from_ hb_)
  have HX8_w11 := Lib.hid (HX8_w10.out.from_ hb_)
  clear hb_
  obtain ⟨p80, p81, p82, p83, p84, p85, p86⟩ := HX8_w11.out
  obtain ⟨p50, p51, p52, p53, p54, p55, p56⟩ := HX5_w11.out
  go_wp2_with fail
  clear p80 p81 p82 p83 p84 p85 p86
  clear p50 p51 p52 p53 p54 p55 p56
  refine (same_dd a2 none k2 0 _ hm2 (by decide)).mono ?_
  rintro e w12 ⟨rfl, hb_⟩
  have HB_w12 := Lib.hid (HB_w11.out.trans (hb_.mono HB_w11.out.size))
  have HH_w12 := Lib.hid (HH_w11.out.kept hb_)
  have HX3_w12 := Lib.hid (HX3_w11.out.from_ hb_)
  have HX5_w12 := Lib.hid (HX5_w11.out.from_ hb_)
  have HX8_w12 := Lib.hid (HX8_w11.out.from_ hb_)
  clear hb_
  obtain ⟨p50, p51, p52, p53, p54, p55, p56⟩ := HX5_w12.out
  go_wp2_with fail
  clear p50 p51 p52 p53 p54 p55 p56
  refine (Form_D _).mono ?_
  rintro e w13 ⟨rfl, hb_⟩
  have HB_w13 := Lib.hid (HB_w12.out.trans (hb_.mono HB_w12.out.size))
  have HH_w13 := Lib.hid (HH_w12.out.kept hb_)
  have HX3_w13 := Lib.hid (HX3_w12.out.from_ hb_)
  have HX5_w13 := Lib.hid (HX5_w12.out.from_ hb_)
  have HX8_w13 := Lib.hid (HX8_w12.out.from_ hb_)
  clear hb_
  obtain ⟨p30, p31, p32, p33, p34, p35, p36⟩ := HX3_w13.out
  go_wp2_with fail
  clear p30 p31 p32 p33 p34 p35 p36
  refine (Form_Z a1 k1 _).mono ?_
  rintro e w14 ⟨rfl, hb_⟩
  have HB_w14 := Lib.hid (HB_w13.out.trans (hb_.mono HB_w13.out.size))
  have HH_w14 := Lib.hid (HH_w13.out.kept hb_)
  have HX3_w14 := Lib.hid (HX3_w13.out.from_ hb_)
  have HX5_w14 := Lib.hid (HX5_w13.out.from_ hb_)
  have HX8_w14 := Lib.hid (HX8_w13.out.from_ hb_)
  clear hb_
  obtain ⟨p50, p51, p52, p53, p54, p55, p56⟩ := HX5_w14.out
  go_wp2_with fail
  clear p50 p51 p52 p53 p54 p55 p56
  refine (check_D _).mono ?_
  rintro e w15 ⟨rfl, hb_⟩
  have HB_w15 := Lib.hid (HB_w14.out.trans (hb_.mono HB_w14.out.size))
  have HH_w15 := Lib.hid (HH_w14.out.kept hb_)
  have HX3_w15 := Lib.hid (HX3_w14.out.from_ hb_)
  have HX5_w15 := Lib.hid (HX5_w14.out.from_ hb_)
  have HX8_w15 := Lib.hid (HX8_w14.out.from_ hb_)
  clear hb_
  obtain ⟨p30, p31, p32, p33, p34, p35, p36⟩ := HX3_w15.out
  obtain ⟨p80, p81, p82, p83, p84, p85, p86⟩ := HX8_w15.out
  go_wp2_with fail
  clear p30 p31 p32 p33 p34 p35 p36
  clear p80 p81 p82 p83 p84 p85 p86
  refine (same_zd a1 a2 k1 k2 _ hm1 hm2).mono ?_
  rintro e w16 ⟨rfl, hb_⟩
  have HB_w16 := Lib.hid (HB_w15.out.trans (hb_.mono HB_w15.out.size))
  have HH_w16 := Lib.hid (HH_w15.out.kept hb_)
  clear hb_
  go_wp2_with fail
  go_ret
  exact ⟨rfl, HB_w16.out⟩
end Go.Proofs.YtihiacbhdcahkaaGreatDoor
namespace Go.Proofs.YtihiacbhdcahkaaGreatDoor
open Go Go.RowKit Go.Lib
attribute [local go_sem] Oper.semAt_some

theorem few_chk {x : M.Rc} (h : M.chkR x = 0) : FewL x.logs := by
  obtain ⟨h1, h2⟩ := M.chkR_logs h
  exact ⟨by omega, fun g hg => by have := (h2 g hg).2.2.1; omega⟩
theorem decR_no {s : List UInt8} (h : (M.decR s).2 ≠ 0) : (M.decR s).1 = zR := by
  unfold M.decR at h ⊢
  by_cases h0 : (M.rdRc s).2 = 0
  · rw [if_pos h0] at h; exact absurd h0 h
  · rw [if_neg h0]; rfl
set_option maxRecDepth 100000 in
set_option maxHeartbeats 8000000 in
theorem only11_law (s : List UInt8) (w : World) (hh : Hdl w) : Calls Tryz.prog 6 #[.string ⟨s.toArray⟩] w fun e w' => e = .returned (.bool true) ∧ Below w.heap.size w w' := by
  have HW := Lib.hid (works11 w hh)
  have HH := Lib.hid hh
  clear hh
  by_cases hl : 2500 < s.length
  · have hl' : (2500 : Int) < (s.length : Nat) := by omega
    go_enter Tryz.func6, Tryz.ntmps6
    go_wp2_with fail
    refine HW.out.mono ?_
    rintro e w1 ⟨rfl, hb1⟩
    go_wp2_with fail
    go_ret
    exact ⟨rfl, hb1⟩
  · have hl' : ¬ (2500 : Int) < (s.length : Nat) := by omega
    have HD := Lib.hid (fun W (h : Hdl W) => pdecode_any s W h (M.gd_rdI _ _ (Nat.le_trans (by rw [List.length_drop]; exact Nat.sub_le _ _) (by omega))) (by omega))
    by_cases hn : (M.decR s).2 = 0
    · obtain ⟨q1, q2, q3, q4⟩ := M.dec_then_enc (by omega) hn
      have hfw := few_chk q2
      rw [hn] at HD
      have HE := Lib.hid (fun a c W (hL : Ls W W.heap.size (M.decR s).1.logs (.slice a (M.decR s).1.logs.length c)) => pencode_any (M.decR s).1 a c W hfw q3 q4 hL)
      have HC := Lib.hid (fun a c W (hL : Ls W W.heap.size (M.decR s).1.logs (.slice a (M.decR s).1.logs.length c)) => pcheck_any (M.decR s).1 a c W hfw hL)
      rw [q1] at HE
      rw [q2] at HC
      clear q1 q2 q3 q4 hfw hn
      generalize (M.decR s).1 = x at *
      obtain ⟨k, st, ga, ls, fu, no, ve⟩ := x
      dsimp only at *
      go_enter Tryz.func6, Tryz.ntmps6
      go_wp2_with fail
      refine HW.out.mono ?_
      rintro e w1 ⟨rfl, hb1⟩
      have HB1 := Lib.hid hb1
      have HH1 := Lib.hid (HH.out.kept hb1)
      clear hb1 HH
      go_wp2_with fail
      refine (HD.out _ HH1.out).mono ?_
      rintro e w2 ⟨⟨v, rfl, hL⟩, hb2⟩
      obtain ⟨a, c, rfl, _, _⟩ := hL.slice
      obtain ⟨g, hg⟩ : ∃ g, w2.heap.size = g := ⟨_, rfl⟩
      obtain ⟨w3, hw3⟩ : ∃ w3, w2.alloc (.cells #[.int .i64 k, .bool st, .int .u64 (ga : Nat), .slice a ls.length c, .bool fu, .int .u64 (no : Nat), .int .u64 (ve : Nat)] 25) = w3 := ⟨_, rfl⟩
      have hb23 : Below w2.heap.size w2 w3 := by rw [← hw3]; exact (Below.refl _ _).alloc (Nat.le_refl _) _
      have hx := B7.new w2 (.int .i64 k) (.bool st) (.int .u64 (ga : Nat)) (.slice a ls.length c) (.bool fu) (.int .u64 (no : Nat)) (.int .u64 (ve : Nat)) 25
      rw [hw3, hg] at hx
      have HW3 := Lib.hid hw3
      have HL3 := Lib.hid (hL.kept hb23)
      have HB3 := Lib.hid ((HB1.out.trans (hb2.mono HB1.out.size)).trans (hb23.mono (Nat.le_trans HB1.out.size hb2.size)))
      have HX3 := Lib.hid hx
      obtain ⟨c0, c1, c2, c3, c4, c5, c6⟩ := hx
      clear hb2 hb23 hw3 hL HD
      go_wp2_with (first | rw [HW3.out] | rw [hg])
      refine (HE.out _ _ _ HL3.out).mono ?_
      rintro e w4 ⟨rfl, hb4⟩
      have hx4 := HX3.out.from_ hb4
      have HL4 := Lib.hid (HL3.out.kept hb4)
      have HB4 := Lib.hid (HB3.out.trans (hb4.mono HB3.out.size))
      clear c0 c1 c2 c3 c4 c5 c6 hb4
      obtain ⟨c0, c1, c2, c3, c4, c5, c6⟩ := hx4
      go_wp2_with fail
      refine (HC.out _ _ _ HL4.out).mono ?_
      rintro e w5 ⟨rfl, hb5⟩
      go_wp2_with fail
      go_ret
      exact ⟨rfl, HB4.out.trans (hb5.mono HB4.out.size)⟩
    · rw [decR_no hn] at HD
      generalize (M.decR s).2 = n at *
      have hn1 : ((n : Int) == 0) = false := by simp [hn]
      have hnx : ¬ (n : Int) = 0 := by omega
      go_enter Tryz.func6, Tryz.ntmps6
      go_wp2_with fail
      refine HW.out.mono ?_
      rintro e w1 ⟨rfl, hb1⟩
      have HB1 := Lib.hid hb1
      have HH1 := Lib.hid (HH.out.kept hb1)
      clear hb1 HH
      go_wp2_with fail
      refine (HD.out _ HH1.out).mono ?_
      rintro e w2 ⟨⟨v, rfl, hL⟩, hb2⟩
      obtain ⟨a, c, rfl, hm⟩ := nil_of hL
      obtain ⟨g, hg⟩ : ∃ g, w2.heap.size = g := ⟨_, rfl⟩
      obtain ⟨w3, hw3⟩ : ∃ w3, w2.alloc (.cells #[.int .i64 0, .bool false, .int .u64 0, .slice a 0 c, .bool false, .int .u64 0, .int .u64 0] 25) = w3 := ⟨_, rfl⟩
      have hb23 : Below w2.heap.size w2 w3 := by rw [← hw3]; exact (Below.refl _ _).alloc (Nat.le_refl _) _
      have hx := B7.new w2 (.int .i64 0) (.bool false) (.int .u64 0) (.slice a 0 c) (.bool false) (.int .u64 0) (.int .u64 0) 25
      rw [hw3, hg] at hx
      have HW3 := Lib.hid hw3
      have HB3 := Lib.hid ((HB1.out.trans (hb2.mono HB1.out.size)).trans (hb23.mono (Nat.le_trans HB1.out.size hb2.size)))
      have HS := Lib.hid (fun W => same_zz a none c 0 W hm (by decide))
      obtain ⟨c0, c1, c2, c3, c4, c5, c6⟩ := hx
      clear hb2 hb23 hw3 hL HD
      have z1 : (rcv zR (.slice a 0 c)) = .agg #[.int .i64 0, .bool false, .int .u64 0, .slice a 0 c, .bool false, .int .u64 0, .int .u64 0] := rfl
      rw [z1]
      clear z1
      go_wp2_with (first | rw [HW3.out] | rw [hg])
      refine (HS.out _).mono ?_
      rintro e w4 ⟨rfl, hb4⟩
      go_wp2_with fail
      go_ret
      exact ⟨rfl, HB3.out.trans (hb4.mono HB3.out.size)⟩
end Go.Proofs.YtihiacbhdcahkaaGreatDoor
