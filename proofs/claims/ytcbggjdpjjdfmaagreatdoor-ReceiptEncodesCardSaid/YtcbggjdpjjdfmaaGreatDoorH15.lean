/- Receipts, plainly: what is read is written just so. Receipts, plainly: a receipt that is read is written just so. Receipts: works, the document's example and each form. The reference's Few, of a receipt. The reference of layer 11: which kinds there are; the form. The reference of layer 10: Long, First. The reference of layer 11: logs. The reference of layer 11: Check. Regions that draw their order, whose operations read, or call what keeps a class of worlds. -/
import Derived.Test.YtcbggjdpjjdfmaaGreatDoorH14
import Derived.Test.YtcbggjdpjjdfmaaGreatDoorH01
import Derived.Deep.Quiet
import Derived.Deep.QuietTactic
namespace Go.Proofs.YtcbggjdpjjdfmaaGreatDoor
open Go Go.RowKit Go.Lib
namespace M
mutual
theorem sm_form : ∀ (x : It) (d : Nat), formI d x = 0 → (bytesI x).length ≤ 65536 → smI x
  | .mk false b xs, d, h, hz => by
    obtain rfl := (formI_ok h).2 rfl
    have := bytes_len (.mk false b [])
    rw [ownI] at this
    rw [smI]
    exact ⟨by omega, trivial⟩
  | .mk true b xs, d, h, hz => by
    obtain ⟨rfl, _, _, h4⟩ := (formI_ok h).1 rfl
    rw [bytesI, List.length_append] at hz
    rw [smI]
    exact ⟨by simp, sms_form xs (d + 1) h4 (by omega)⟩
theorem sms_form : ∀ (xs : List It) (d : Nat), formIs d xs = 0 → (bytesIs xs).length ≤ 65536 → smIs xs
  | [], _, _, _ => by rw [smIs]; trivial
  | x :: xs, d, h, hz => by
    obtain ⟨h1, h2⟩ := formIs_ok h
    rw [bytesIs, List.length_append] at hz
    rw [smIs]
    exact ⟨sm_form x d h1 (by omega), sms_form xs d h2 (by omega)⟩
end
theorem gd_zero : Gd zeroI := by
  refine ⟨?_, ?_, ?_⟩
  · rw [smI]; exact ⟨by simp, by rw [smIs]; trivial⟩
  · simp [cntIs]
  · simp [formI]
theorem gd_of {x : It} (h : checkI x = 0) (hz : cntI x ≤ 4000) : Gd x := by
  obtain ⟨h1, h2⟩ := checkI_ok.1 h
  have h3 := sm_form x 0 h1 h2
  obtain ⟨l, d, ys⟩ := x
  rw [cntI] at hz
  exact ⟨h3, by omega, h1⟩
theorem gd_rdI (e : Nat) (s : List UInt8) (hs : s.length ≤ 4000) : Gd (rdI e s).1 := by
  unfold rdI
  split
  · by_cases h : (decodeL s).2 = 0
    · obtain ⟨h1, h2⟩ := dec_only h
      have h3 := cnt_le (decodeL s).1 0 (checkI_ok.1 h2).1
      rw [h1] at h3
      exact gd_of h2 (by omega)
    · rw [dec_no h]; exact gd_zero
  · exact gd_zero
end M
end Go.Proofs.YtcbggjdpjjdfmaaGreatDoor
namespace Go.Proofs.YtcbggjdpjjdfmaaGreatDoor
open Go Go.RowKit Go.Lib
namespace M
end M
end Go.Proofs.YtcbggjdpjjdfmaaGreatDoor
namespace Go.Proofs.YtcbggjdpjjdfmaaGreatDoor
open Go Go.RowKit Go.Lib
attribute [local go_sem] Oper.semAt_some
deriving instance DecidableEq for M.Lg, M.Rc

def zR : M.Rc := ⟨0, false, 0, [], false, 0, 0⟩
def dR : M.Rc := ⟨126, true, 5, [], true, 7, 1⟩
def iR : M.Rc := ⟨0, false, 0, [], true, 0, 0⟩
theorem er0 : M.encR zR = ([195, 128, 128, 192], 0) := by decide +kernel
theorem erD : M.encR dR = ([126, 197, 1, 5, 192, 7, 1], 0) := by decide +kernel
theorem erI : M.encR iR = ([], 2) := by decide +kernel
theorem dr0 : M.decR [195, 128, 128, 192] = (zR, 0) := by decide +kernel
theorem drD : M.decR [126, 197, 1, 5, 192, 7, 1] = (dR, 0) := by decide +kernel
theorem drJ : M.decR [3, 192] = (zR, 9) := by decide +kernel
theorem few_nil : FewL [] := ⟨by decide, by simp⟩
/-- The handle of the type 'error'. -/
abbrev Hdl (w : World) : Prop := w.cell? ⟨0, 0, none⟩ = some (.iface 238 (.agg #[.pointer (some ⟨4, 60, none⟩)]))
theorem Hdl.kept {w W : World} (h : Hdl w) (hb : Below w.heap.size w W) : Hdl W := (hb.cell (p := ⟨0, 0, none⟩) (addr_lt h)).trans h
theorem enc_0 (W : World) : Calls Tryz.prog 9 #[.agg #[.int .i64 0, .bool false, .int .u64 0, .slice none 0 0, .bool false, .int .u64 0, .int .u64 0]] W fun e w' => e = .returned (.tuple #[.string ⟨#[195, 128, 128, 192]⟩, .int .i64 0]) ∧ Below W.heap.size W w' := by
  have := pencode_any zR none 0 W few_nil (by decide) (by decide) (.nil_ (by decide))
  rw [er0] at this
  exact this
theorem enc_D (W : World) : Calls Tryz.prog 9 #[.agg #[.int .i64 126, .bool true, .int .u64 5, .slice none 0 0, .bool true, .int .u64 7, .int .u64 1]] W fun e w' => e = .returned (.tuple #[.string ⟨#[126, 197, 1, 5, 192, 7, 1]⟩, .int .i64 0]) ∧ Below W.heap.size W w' := by
  have := pencode_any dR none 0 W few_nil (by decide) (by decide) (.nil_ (by decide))
  rw [erD] at this
  exact this
theorem enc_I (W : World) : Calls Tryz.prog 9 #[.agg #[.int .i64 0, .bool false, .int .u64 0, .slice none 0 0, .bool true, .int .u64 0, .int .u64 0]] W fun e w' => e = .returned (.tuple #[.string ⟨#[]⟩, .int .i64 2]) ∧ Below W.heap.size W w' := by
  have := pencode_any iR none 0 W few_nil (by decide) (by decide) (.nil_ (by decide))
  rw [erI] at this
  exact this
theorem nil_of {W : World} {n : Nat} {v : Value} (h : Ls W n [] v) : ∃ a c, v = .slice a 0 c ∧ c ≤ maxLen := by
  obtain ⟨a, c, e, _, hm⟩ := h.slice
  exact ⟨a, c, e, hm⟩
theorem dec_0 (W : World) (h : Hdl W) : Calls Tryz.prog 15 #[.string ⟨#[195, 128, 128, 192]⟩] W fun e w' => (∃ a c, e = .returned (.tuple #[.agg #[.int .i64 0, .bool false, .int .u64 0, .slice a 0 c, .bool false, .int .u64 0, .int .u64 0], .int .i64 0]) ∧ c ≤ maxLen) ∧ Below W.heap.size W w' := by
  refine (pdecode_any [195, 128, 128, 192] W h (M.gd_rdI _ _ (Nat.le_trans (by rw [List.length_drop]; exact Nat.sub_le _ _) (by decide))) (by decide)).mono ?_
  rw [dr0]
  rintro e w' ⟨⟨v, rfl, hl⟩, hb⟩
  obtain ⟨a, c, rfl, hm⟩ := nil_of hl
  exact ⟨⟨a, c, rfl, hm⟩, hb⟩
theorem dec_D (W : World) (h : Hdl W) : Calls Tryz.prog 15 #[.string ⟨#[126, 197, 1, 5, 192, 7, 1]⟩] W fun e w' => (∃ a c, e = .returned (.tuple #[.agg #[.int .i64 126, .bool true, .int .u64 5, .slice a 0 c, .bool true, .int .u64 7, .int .u64 1], .int .i64 0]) ∧ c ≤ maxLen) ∧ Below W.heap.size W w' := by
  refine (pdecode_any [126, 197, 1, 5, 192, 7, 1] W h (M.gd_rdI _ _ (Nat.le_trans (by rw [List.length_drop]; exact Nat.sub_le _ _) (by decide))) (by decide)).mono ?_
  rw [drD]
  rintro e w' ⟨⟨v, rfl, hl⟩, hb⟩
  obtain ⟨a, c, rfl, hm⟩ := nil_of hl
  exact ⟨⟨a, c, rfl, hm⟩, hb⟩
theorem dec_J (W : World) (h : Hdl W) : Calls Tryz.prog 15 #[.string ⟨#[3, 192]⟩] W fun e w' => (∃ a c, e = .returned (.tuple #[.agg #[.int .i64 0, .bool false, .int .u64 0, .slice a 0 c, .bool false, .int .u64 0, .int .u64 0], .int .i64 9]) ∧ c ≤ maxLen) ∧ Below W.heap.size W w' := by
  refine (pdecode_any [3, 192] W h (M.gd_rdI _ _ (Nat.le_trans (by rw [List.length_drop]; exact Nat.sub_le _ _) (by decide))) (by decide)).mono ?_
  rw [drJ]
  rintro e w' ⟨⟨v, rfl, hl⟩, hb⟩
  obtain ⟨a, c, rfl, hm⟩ := nil_of hl
  exact ⟨⟨a, c, rfl, hm⟩, hb⟩
theorem same_zz (a b : Option Addr) (c d : Nat) (W : World) (hc : c ≤ maxLen) (hd : d ≤ maxLen) : Calls Tryz.prog 14 #[.agg #[.int .i64 0, .bool false, .int .u64 0, .slice a 0 c, .bool false, .int .u64 0, .int .u64 0], .agg #[.int .i64 0, .bool false, .int .u64 0, .slice b 0 d, .bool false, .int .u64 0, .int .u64 0]] W fun e w' => e = .returned (.bool true) ∧ Below W.heap.size W w' := by
  have := psame_any zR zR a c b d W (.nil_ hc) (.nil_ hd) few_nil
  rw [show M.sameR zR zR = true by decide +kernel] at this
  exact this
theorem same_dd (a b : Option Addr) (c d : Nat) (W : World) (hc : c ≤ maxLen) (hd : d ≤ maxLen) : Calls Tryz.prog 14 #[.agg #[.int .i64 126, .bool true, .int .u64 5, .slice a 0 c, .bool true, .int .u64 7, .int .u64 1], .agg #[.int .i64 126, .bool true, .int .u64 5, .slice b 0 d, .bool true, .int .u64 7, .int .u64 1]] W fun e w' => e = .returned (.bool true) ∧ Below W.heap.size W w' := by
  have := psame_any dR dR a c b d W (.nil_ hc) (.nil_ hd) few_nil
  rw [show M.sameR dR dR = true by decide +kernel] at this
  exact this
theorem same_zd (a b : Option Addr) (c d : Nat) (W : World) (hc : c ≤ maxLen) (hd : d ≤ maxLen) : Calls Tryz.prog 14 #[.agg #[.int .i64 0, .bool false, .int .u64 0, .slice a 0 c, .bool false, .int .u64 0, .int .u64 0], .agg #[.int .i64 126, .bool true, .int .u64 5, .slice b 0 d, .bool true, .int .u64 7, .int .u64 1]] W fun e w' => e = .returned (.bool false) ∧ Below W.heap.size W w' := by
  have := psame_any zR dR a c b d W (.nil_ hc) (.nil_ hd) few_nil
  rw [show M.sameR zR dR = false by decide +kernel] at this
  exact this
theorem check_D (W : World) : Calls Tryz.prog 12 #[.agg #[.int .i64 126, .bool true, .int .u64 5, .slice none 0 0, .bool true, .int .u64 7, .int .u64 1]] W fun e w' => e = .returned (.int .i64 0) ∧ Below W.heap.size W w' := by
  have := pcheck_any dR none 0 W few_nil (.nil_ (by decide))
  rw [show M.chkR dR = 0 by decide +kernel] at this
  exact this
theorem Form_D (W : World) : Calls Tryz.prog 13 #[.agg #[.int .i64 126, .bool true, .int .u64 5, .slice none 0 0, .bool true, .int .u64 7, .int .u64 1]] W fun e w' => e = .returned (.int .i64 2) ∧ Below W.heap.size W w' := form_any 126 5 7 1 true true _ W
theorem Form_Z (a : Option Addr) (c : Nat) (W : World) : Calls Tryz.prog 13 #[.agg #[.int .i64 0, .bool false, .int .u64 0, .slice a 0 c, .bool false, .int .u64 0, .int .u64 0]] W fun e w' => e = .returned (.int .i64 0) ∧ Below W.heap.size W w' := form_any 0 0 0 0 false false _ W
/-- A receipt's box, of literal cells. -/
structure B7 (w : World) (g : Nat) (v0 v1 v2 v3 v4 v5 v6 : Value) : Prop where
  c0 : w.cell? ⟨g, 0, none⟩ = some v0
  c1 : w.cell? ⟨g, 1, none⟩ = some v1
  c2 : w.cell? ⟨g, 2, none⟩ = some v2
  c3 : w.cell? ⟨g, 3, none⟩ = some v3
  c4 : w.cell? ⟨g, 4, none⟩ = some v4
  c5 : w.cell? ⟨g, 5, none⟩ = some v5
  c6 : w.cell? ⟨g, 6, none⟩ = some v6
theorem B7.new (w : World) (v0 v1 v2 v3 v4 v5 v6 : Value) (t : TypeId) : B7 (w.alloc (.cells #[v0, v1, v2, v3, v4, v5, v6] t)) w.heap.size v0 v1 v2 v3 v4 v5 v6 :=
  ⟨by simp [go_sem], by simp [go_sem], by simp [go_sem], by simp [go_sem], by simp [go_sem], by simp [go_sem], by simp [go_sem]⟩
theorem B7.from_ {w W : World} {g : Nat} {v0 v1 v2 v3 v4 v5 v6 : Value} (h : B7 w g v0 v1 v2 v3 v4 v5 v6) (hb : Below w.heap.size w W) : B7 W g v0 v1 v2 v3 v4 v5 v6 := by
  have hg : g < w.heap.size := addr_lt h.c0
  exact ⟨(hb.cell (p := ⟨g, 0, none⟩) hg).trans h.c0, (hb.cell (p := ⟨g, 1, none⟩) hg).trans h.c1, (hb.cell (p := ⟨g, 2, none⟩) hg).trans h.c2, (hb.cell (p := ⟨g, 3, none⟩) hg).trans h.c3, (hb.cell (p := ⟨g, 4, none⟩) hg).trans h.c4, (hb.cell (p := ⟨g, 5, none⟩) hg).trans h.c5, (hb.cell (p := ⟨g, 6, none⟩) hg).trans h.c6⟩
set_option maxRecDepth 100000 in
set_option maxHeartbeats 8000000 in
theorem works11 (w : World) (hh : Hdl w) : Calls Tryz.prog 5 #[] w fun e w' => e = .returned (.bool true) ∧ Below w.heap.size w w' := by
  have HH_w := Lib.hid hh
  have HB_w := Lib.hid (Below.refl w.heap.size w)
  clear hh
  go_enter Tryz.func5, Tryz.ntmps5
  go_wp2_with fail
  refine (enc_0 _).mono ?_
  rintro e w1 ⟨rfl, hb_⟩
  have HB_w1 := Lib.hid (HB_w.out.trans (hb_.mono HB_w.out.size))
  have HH_w1 := Lib.hid (HH_w.out.kept hb_)
  clear hb_
  go_wp2_with fail
  refine (dec_0 _ HH_w1.out).mono ?_
  rintro e w2 ⟨⟨a1, k1, rfl, hm1⟩, hb_⟩
  have HB_w2 := Lib.hid (HB_w1.out.trans (hb_.mono HB_w1.out.size))
  have HH_w2 := Lib.hid (HH_w1.out.kept hb_)
  clear hb_
  obtain ⟨g3, hg3⟩ : ∃ g3, w2.heap.size = g3 := ⟨_, rfl⟩
  obtain ⟨w3, hw3⟩ : ∃ w3, w2.alloc (.cells #[.int .i64 0, .bool false, .int .u64 0, .slice a1 0 k1, .bool false, .int .u64 0, .int .u64 0] 25) = w3 := ⟨_, rfl⟩
  have hb_ : Below w2.heap.size w2 w3 := by rw [← hw3]; exact (Below.refl _ _).alloc (Nat.le_refl _) _
  have hx_ := B7.new w2 (.int .i64 0) (.bool false) (.int .u64 0) (.slice a1 0 k1) (.bool false) (.int .u64 0) (.int .u64 0) 25
  rw [hw3, hg3] at hx_
  have HA_w3 := Lib.hid hw3
  have HB_w3 := Lib.hid (HB_w2.out.trans (hb_.mono HB_w2.out.size))
  have HH_w3 := Lib.hid (HH_w2.out.kept hb_)
  have HX3_w3 := Lib.hid hx_
  clear hx_ hb_ hw3
  obtain ⟨g5, hg5⟩ : ∃ g5, w3.heap.size = g5 := ⟨_, rfl⟩
  obtain ⟨w4, hw4⟩ : ∃ w4, w3.alloc (.cells #[.int .i64 126, .bool true, .int .u64 5, .slice none 0 0, .bool true, .int .u64 7, .int .u64 1] 25) = w4 := ⟨_, rfl⟩
  have hb_ : Below w3.heap.size w3 w4 := by rw [← hw4]; exact (Below.refl _ _).alloc (Nat.le_refl _) _
  have hx_ := B7.new w3 (.int .i64 126) (.bool true) (.int .u64 5) (.slice none 0 0) (.bool true) (.int .u64 7) (.int .u64 1) 25
  rw [hw4, hg5] at hx_
  have HA_w4 := Lib.hid hw4
  have HB_w4 := Lib.hid (HB_w3.out.trans (hb_.mono HB_w3.out.size))
  have HH_w4 := Lib.hid (HH_w3.out.kept hb_)
  have HX5_w4 := Lib.hid hx_
  have HX3_w4 := Lib.hid (HX3_w3.out.from_ hb_)
  clear hx_ hb_ hw4
  obtain ⟨p50, p51, p52, p53, p54, p55, p56⟩ := HX5_w4.out
  go_wp2_with (first | rw [HA_w3.out] | rw [HA_w4.out] | rw [hg3] | rw [hg5])
  clear p50 p51 p52 p53 p54 p55 p56
  refine (enc_D _).mono ?_
  rintro e w5 ⟨rfl, hb_⟩
  have HB_w5 := Lib.hid (HB_w4.out.trans (hb_.mono HB_w4.out.size))
  have HH_w5 := Lib.hid (HH_w4.out.kept hb_)
  have HX3_w5 := Lib.hid (HX3_w4.out.from_ hb_)
  have HX5_w5 := Lib.hid (HX5_w4.out.from_ hb_)
  clear hb_
  go_wp2_with fail
  refine (dec_D _ HH_w5.out).mono ?_
  rintro e w6 ⟨⟨a2, k2, rfl, hm2⟩, hb_⟩
  have HB_w6 := Lib.hid (HB_w5.out.trans (hb_.mono HB_w5.out.size))
  have HH_w6 := Lib.hid (HH_w5.out.kept hb_)
  have HX3_w6 := Lib.hid (HX3_w5.out.from_ hb_)
  have HX5_w6 := Lib.hid (HX5_w5.out.from_ hb_)
  clear hb_
  obtain ⟨g8, hg8⟩ : ∃ g8, w6.heap.size = g8 := ⟨_, rfl⟩
  obtain ⟨w7, hw7⟩ : ∃ w7, w6.alloc (.cells #[.int .i64 126, .bool true, .int .u64 5, .slice a2 0 k2, .bool true, .int .u64 7, .int .u64 1] 25) = w7 := ⟨_, rfl⟩
  have hb_ : Below w6.heap.size w6 w7 := by rw [← hw7]; exact (Below.refl _ _).alloc (Nat.le_refl _) _
  have hx_ := B7.new w6 (.int .i64 126) (.bool true) (.int .u64 5) (.slice a2 0 k2) (.bool true) (.int .u64 7) (.int .u64 1) 25
  rw [hw7, hg8] at hx_
  have HA_w7 := Lib.hid hw7
  have HB_w7 := Lib.hid (HB_w6.out.trans (hb_.mono HB_w6.out.size))
  have HH_w7 := Lib.hid (HH_w6.out.kept hb_)
  have HX8_w7 := Lib.hid hx_
  have HX3_w7 := Lib.hid (HX3_w6.out.from_ hb_)
  have HX5_w7 := Lib.hid (HX5_w6.out.from_ hb_)
  clear hx_ hb_ hw7
  go_wp2_with (first | rw [HA_w7.out] | rw [hg8])
  refine (enc_I _).mono ?_
  rintro e w8 ⟨rfl, hb_⟩
  have HB_w8 := Lib.hid (HB_w7.out.trans (hb_.mono HB_w7.out.size))
  have HH_w8 := Lib.hid (HH_w7.out.kept hb_)
  have HX3_w8 := Lib.hid (HX3_w7.out.from_ hb_)
  have HX5_w8 := Lib.hid (HX5_w7.out.from_ hb_)
  have HX8_w8 := Lib.hid (HX8_w7.out.from_ hb_)
  clear hb_
  go_wp2_with fail
  refine (dec_J _ HH_w8.out).mono ?_
  rintro e w9 ⟨⟨a3, k3, rfl, hm3⟩, hb_⟩
  have HB_w9 := Lib.hid (HB_w8.out.trans (hb_.mono HB_w8.out.size))
  have HH_w9 := Lib.hid (HH_w8.out.kept hb_)
  have HX3_w9 := Lib.hid (HX3_w8.out.from_ hb_)
  have HX5_w9 := Lib.hid (HX5_w8.out.from_ hb_)
  have HX8_w9 := Lib.hid (HX8_w8.out.from_ hb_)
  clear hb_
  obtain ⟨g12, hg12⟩ : ∃ g12, w9.heap.size = g12 := ⟨_, rfl⟩
  obtain ⟨w10, hw10⟩ : ∃ w10, w9.alloc (.cells #[.int .i64 0, .bool false, .int .u64 0, .slice a3 0 k3, .bool false, .int .u64 0, .int .u64 0] 25) = w10 := ⟨_, rfl⟩
  have hb_ : Below w9.heap.size w9 w10 := by rw [← hw10]; exact (Below.refl _ _).alloc (Nat.le_refl _) _
  have hx_ := B7.new w9 (.int .i64 0) (.bool false) (.int .u64 0) (.slice a3 0 k3) (.bool false) (.int .u64 0) (.int .u64 0) 25
  rw [hw10, hg12] at hx_
  have HA_w10 := Lib.hid hw10
  have HB_w10 := Lib.hid (HB_w9.out.trans (hb_.mono HB_w9.out.size))
  have HH_w10 := Lib.hid (HH_w9.out.kept hb_)
  have HX3_w10 := Lib.hid (HX3_w9.out.from_ hb_)
  have HX5_w10 := Lib.hid (HX5_w9.out.from_ hb_)
  have HX8_w10 := Lib.hid (HX8_w9.out.from_ hb_)
  clear hx_ hb_ hw10
  obtain ⟨p30, p31, p32, p33, p34, p35, p36⟩ := HX3_w10.out
  go_wp2_with (first | rw [HA_w10.out] | rw [hg12])
  clear p30 p31 p32 p33 p34 p35 p36
  refine (same_zz a1 none k1 0 _ hm1 (by decide)).mono ?_
  rintro e w11 ⟨rfl, hb_⟩
  have HB_w11 := Lib.hid (HB_w10.out.trans (hb_.mono HB_w10.out.size))
  have HH_w11 := Lib.hid (HH_w10.out.kept hb_)
  have HX3_w11 := Lib.hid (HX3_w10.out.from_ hb_)
  have HX5_w11 := Lib.hid (HX5_w10.out.from_ hb_)
  have HX8_w11 := Lib.hid (HX8_w10.out.from_ hb_)
  clear hb_
  obtain ⟨p80, p81, p82, p83, p84, p85, p86⟩ := HX8_w11.out
  obtain ⟨p50, p51, p52, p53, p54, p55, p56⟩ := HX5_w11.out
  go_wp2_with fail
  clear p80 p81 p82 p83 p84 p85 p86
  clear p50 p51 p52 p53 p54 p55 p56
  refine (same_dd a2 none k2 0 _ hm2 (by decide)).mono ?_
  rintro e w12 ⟨rfl, hb_⟩
  have HB_w12 := Lib.hid (HB_w11.out.trans (hb_.mono HB_w11.out.size))
  have HH_w12 := Lib.hid (HH_w11.out.kept hb_)
  have HX3_w12 := Lib.hid (HX3_w11.out.from_ hb_)
  have HX5_w12 := Lib.hid (HX5_w11.out.from_ hb_)
  have HX8_w12 := Lib.hid (HX8_w11.out.from_ hb_)
  clear hb_
  obtain ⟨p50, p51, p52, p53, p54, p55, p56⟩ := HX5_w12.out
  go_wp2_with fail
  clear p50 p51 p52 p53 p54 p55 p56
  refine (Form_D _).mono ?_
  rintro e w13 ⟨rfl, hb_⟩
  have HB_w13 := Lib.hid (HB_w12.out.trans (hb_.mono HB_w12.out.size))
  have HH_w13 := Lib.hid (HH_w12.out.kept hb_)
  have HX3_w13 := Lib.hid (HX3_w12.out.from_ hb_)
  have HX5_w13 := Lib.hid (HX5_w12.out.from_ hb_)
  have HX8_w13 := Lib.hid (HX8_w12.out.from_ hb_)
  clear hb_
  obtain ⟨p30, p31, p32, p33, p34, p35, p36⟩ := HX3_w13.out
  go_wp2_with fail
  clear p30 p31 p32 p33 p34 p35 p36
  refine (Form_Z a1 k1 _).mono ?_
  rintro e w14 ⟨rfl, hb_⟩
  have HB_w14 := Lib.hid (HB_w13.out.trans (hb_.mono HB_w13.out.size))
  have HH_w14 := Lib.hid (HH_w13.out.kept hb_)
  have HX3_w14 := Lib.hid (HX3_w13.out.from_ hb_)
  have HX5_w14 := Lib.hid (HX5_w13.out.from_ hb_)
  have HX8_w14 := Lib.hid (HX8_w13.out.from_ hb_)
  clear hb_
  obtain ⟨p50, p51, p52, p53, p54, p55, p56⟩ := HX5_w14.out
  go_wp2_with fail
  clear p50 p51 p52 p53 p54 p55 p56
  refine (check_D _).mono ?_
  rintro e w15 ⟨rfl, hb_⟩
  have HB_w15 := Lib.hid (HB_w14.out.trans (hb_.mono HB_w14.out.size))
  have HH_w15 := Lib.hid (HH_w14.out.kept hb_)
  have HX3_w15 := Lib.hid (HX3_w14.out.from_ hb_)
  have HX5_w15 := Lib.hid (HX5_w14.out.from_ hb_)
  have HX8_w15 := Lib.hid (HX8_w14.out.from_ hb_)
  clear hb_
  obtain ⟨p30, p31, p32, p33, p34, p35, p36⟩ := HX3_w15.out
  obtain ⟨p80, p81, p82, p83, p84, p85, p86⟩ := HX8_w15.out
  go_wp2_with fail
  clear p30 p31 p32 p33 p34 p35 p36
  clear p80 p81 p82 p83 p84 p85 p86
  refine (same_zd a1 a2 k1 k2 _ hm1 hm2).mono ?_
  rintro e w16 ⟨rfl, hb_⟩
  have HB_w16 := Lib.hid (HB_w15.out.trans (hb_.mono HB_w15.out.size))
  have HH_w16 := Lib.hid (HH_w15.out.kept hb_)
  clear hb_
  go_wp2_with fail
  go_ret
  exact ⟨rfl, HB_w16.out⟩
end Go.Proofs.YtcbggjdpjjdfmaaGreatDoor
namespace Go.Proofs.YtcbggjdpjjdfmaaGreatDoor
open Go Go.RowKit Go.Lib
attribute [local go_sem] Oper.semAt_some

/-- A log that is looked at. -/
def M.fewG (g : M.Lg) : Prop := ¬ (300 < g.data.length ∧ g.data.length ≤ 4096) ∧ g.topics.length ≤ 10 ∧ g.addr.length ≤ 100 ∧ ∀ t ∈ g.topics, t.length ≤ 100
def M.fewX (ls : List M.Lg) : Prop := ls.length ≤ 20 ∧ ∀ g ∈ ls, M.fewG g
theorem M.fewX_few {ls : List M.Lg} (h : M.fewX ls) : FewL ls := ⟨by have := h.1; omega, fun g hg => by have := (h.2 g hg).2.1; omega⟩
theorem M.fewG_take {P : M.Lg → Prop} {ls : List M.Lg} {k : Nat} {g : M.Lg} (h : ∀ x ∈ ls.take k, P x) (hk : ls[k]? = some g) (hg : P g) : ∀ x ∈ ls.take (k + 1), P x := by
  intro x hx
  rw [List.take_add_one, hk] at hx
  rcases List.mem_append.1 hx with hx | hx
  · exact h x hx
  · rcases (by simpa using hx : x = g) with rfl
    exact hg
theorem M.take_all {P : List UInt8 → Prop} {ls : List (List UInt8)} {k : Nat} {g : List UInt8} (h : ∀ x ∈ ls.take k, P x) (hk : ls[k]? = some g) (hg : P g) : ∀ x ∈ ls.take (k + 1), P x := by
  intro x hx
  rw [List.take_add_one, hk] at hx
  rcases List.mem_append.1 hx with hx | hx
  · exact h x hx
  · rcases (by simpa using hx : x = g) with rfl
    exact hg
def FewPost (ls : List M.Lg) (e : Ending) : Prop := ∃ q, e = .returned (.bool q) ∧ (q = true → M.fewX ls)
theorem FewPost.no (ls : List M.Lg) : FewPost ls (.returned (.bool false)) := ⟨_, rfl, fun e => by cases e⟩
set_option maxRecDepth 100000 in
set_option maxHeartbeats 8000000 in
theorem rfew_any (k : Int) (st : Bool) (ga : Nat) (ls : List M.Lg) (fu : Bool) (no ve : Nat) (a : Option Addr) (cap : Nat) (w : World) (hL : Ls w w.heap.size ls (.slice a ls.length cap)) :
    Calls Tryz.prog 6 #[.agg #[.int .i64 k, .bool st, .int .u64 (ga : Nat), .slice a ls.length cap, .bool fu, .int .u64 (no : Nat), .int .u64 (ve : Nat)]] w fun e w' => FewPost ls e ∧ Below w.heap.size w w' := by
  obtain ⟨h, hh⟩ : ∃ h, w.heap.size = h := ⟨_, rfl⟩
  obtain ⟨w0, hw0⟩ : ∃ w0, w.alloc (.cells #[.int .i64 k, .bool st, .int .u64 (ga : Nat), .slice a ls.length cap, .bool fu, .int .u64 (no : Nat), .int .u64 (ve : Nat)] 25) = w0 := ⟨_, rfl⟩
  have hb0 : Below w.heap.size w w0 := by rw [← hw0]; exact (Below.refl _ _).alloc (Nat.le_refl _) _
  have hbx := B7.new w (.int .i64 k) (.bool st) (.int .u64 (ga : Nat)) (.slice a ls.length cap) (.bool fu) (.int .u64 (no : Nat)) (.int .u64 (ve : Nat)) 25
  rw [hw0, hh] at hbx
  have b3 := hbx.c3
  have HL := Lib.hid (hL.kept hb0)
  have HB2 := Lib.hid hb0
  rw [hh] at hb0
  have HB := Lib.hid hb0
  have HW := Lib.hid hw0
  clear hw0 hb0 hbx hL
  by_cases h20 : 20 < ls.length
  · have h20' : (20 : Int) < (ls.length : Nat) := by omega
    go_enter Tryz.func6, Tryz.ntmps6
    go_wp2_with (first | rw [HW.out] | rw [hh])
    go_ret
    exact ⟨.no ls, HB.out⟩
  · have h20' : ¬ (20 : Int) < (ls.length : Nat) := by omega
    go_enter Tryz.func6, Tryz.ntmps6
    go_wp2_with (first | rw [HW.out] | rw [hh])
    go_loopw [3] (fun i wr => ∃ n : Nat, n ≤ ls.length ∧ i = .int .i64 n ∧ wr = w0 ∧ ∀ g ∈ ls.take n, M.fewG g) (fun i _ => ls.length - (RowKit.intOf i).toNat)
    case atStart => exact ⟨0, Nat.zero_le _, rfl, rfl, by simp⟩
    case round =>
      obtain ⟨n, hn, rfl, rfl, hG⟩ := hrel
      by_cases hlt : n < ls.length
      · have hlti : (n : Int) < ls.length := by omega
        have hn9 : n < 20 := by omega
        obtain ⟨q, o, g, ta, tc, rfl, hq, hg, c0, c1, c2, hT⟩ := HL.out.at_ hlt
        have HT := Lib.hid hT
        have HGt := Lib.hid hG
        have HGn := Lib.hid hg
        clear hT hG hg
        obtain ⟨ad, tp, dt⟩ := g
        dsimp only at c0 c1 c2 HT
        by_cases h3 : 300 < dt.length
        · have h3' : (300 : Int) < (dt.length : Nat) := by omega
          by_cases h4 : dt.length ≤ 4096
          · have h4' : ((dt.length : Nat) : Int) ≤ 4096 := by omega
            go_wp2_with fail
            go_ret
            exact ⟨.no ls, by first | exact HB.out | exact HB2.out⟩
          · have h4' : ¬ ((dt.length : Nat) : Int) ≤ 4096 := by omega
            by_cases ht : 10 < tp.length
            · have ht' : (10 : Int) < (tp.length : Nat) := by omega
              go_wp2_with fail
              go_ret
              exact ⟨.no ls, by first | exact HB.out | exact HB2.out⟩
            · have ht' : ¬ (10 : Int) < (tp.length : Nat) := by omega
              by_cases ha : 100 < ad.length
              · have ha' : (100 : Int) < (ad.length : Nat) := by omega
                go_wp2_with fail
                go_ret
                exact ⟨.no ls, by first | exact HB.out | exact HB2.out⟩
              · have ha' : ¬ (100 : Int) < (ad.length : Nat) := by omega
                go_wp2_with fail
                go_loopw [4] (fun i wi => ∃ m : Nat, m ≤ tp.length ∧ i = .int .i64 m ∧ wi = wr ∧ ∀ t ∈ tp.take m, t.length ≤ 100) (fun i _ => tp.length - (RowKit.intOf i).toNat)
                case atStart => exact ⟨0, Nat.zero_le _, rfl, rfl, by simp⟩
                case round =>
                  obtain ⟨m, hm, rfl, rfl, hK⟩ := hrel
                  by_cases hmt : m < tp.length
                  · have hmti : (m : Int) < tp.length := by omega
                    have hm9 : m < 10 := by omega
                    obtain ⟨tb, tq, s, rfl, _, hs, d0⟩ := HT.out.at_ hmt
                    have HK := Lib.hid hK
                    have HS := Lib.hid hs
                    clear hK hs
                    by_cases hl : 100 < s.length
                    · have hl' : (100 : Int) < (s.length : Nat) := by omega
                      go_wp2_with fail
                      go_ret
                      exact ⟨.no ls, by first | exact HB.out | exact HB2.out⟩

                    · have hl' : ¬ (100 : Int) < (s.length : Nat) := by omega
                      go_wp2_with fail
                      go_roundw
                      case rel => exact ⟨m + 1, by omega, by simp, by first | rfl | trivial, M.take_all HK.out HS.out (by omega)⟩
                      case measure => simp [RowKit.intOf]; omega
                  · obtain rfl : m = tp.length := by omega
                    rw [List.take_length] at hK
                    go_wp2_with fail
                    go_roundw
                    case rel => exact ⟨n + 1, by omega, by simp, by first | rfl | trivial, M.fewG_take HGt.out HGn.out ⟨fun x => h4 x.2, Nat.not_lt.1 ht, Nat.not_lt.1 ha, hK⟩⟩
                    case measure => simp [RowKit.intOf]; omega
        · have h3' : ¬ (300 : Int) < (dt.length : Nat) := by omega
          by_cases ht : 10 < tp.length
          · have ht' : (10 : Int) < (tp.length : Nat) := by omega
            go_wp2_with fail
            go_ret
            exact ⟨.no ls, by first | exact HB.out | exact HB2.out⟩
          · have ht' : ¬ (10 : Int) < (tp.length : Nat) := by omega
            by_cases ha : 100 < ad.length
            · have ha' : (100 : Int) < (ad.length : Nat) := by omega
              go_wp2_with fail
              go_ret
              exact ⟨.no ls, by first | exact HB.out | exact HB2.out⟩
            · have ha' : ¬ (100 : Int) < (ad.length : Nat) := by omega
              go_wp2_with fail
              go_loopw [4] (fun i wi => ∃ m : Nat, m ≤ tp.length ∧ i = .int .i64 m ∧ wi = wr ∧ ∀ t ∈ tp.take m, t.length ≤ 100) (fun i _ => tp.length - (RowKit.intOf i).toNat)
              case atStart => exact ⟨0, Nat.zero_le _, rfl, rfl, by simp⟩
              case round =>
                obtain ⟨m, hm, rfl, rfl, hK⟩ := hrel
                by_cases hmt : m < tp.length
                · have hmti : (m : Int) < tp.length := by omega
                  have hm9 : m < 10 := by omega
                  obtain ⟨tb, tq, s, rfl, _, hs, d0⟩ := HT.out.at_ hmt
                  have HK := Lib.hid hK
                  have HS := Lib.hid hs
                  clear hK hs
                  by_cases hl : 100 < s.length
                  · have hl' : (100 : Int) < (s.length : Nat) := by omega
                    go_wp2_with fail
                    go_ret
                    exact ⟨.no ls, by first | exact HB.out | exact HB2.out⟩

                  · have hl' : ¬ (100 : Int) < (s.length : Nat) := by omega
                    go_wp2_with fail
                    go_roundw
                    case rel => exact ⟨m + 1, by omega, by simp, by first | rfl | trivial, M.take_all HK.out HS.out (by omega)⟩
                    case measure => simp [RowKit.intOf]; omega
                · obtain rfl : m = tp.length := by omega
                  rw [List.take_length] at hK
                  go_wp2_with fail
                  go_roundw
                  case rel => exact ⟨n + 1, by omega, by simp, by first | rfl | trivial, M.fewG_take HGt.out HGn.out ⟨fun x => h3 x.1, Nat.not_lt.1 ht, Nat.not_lt.1 ha, hK⟩⟩
                  case measure => simp [RowKit.intOf]; omega
      · obtain rfl : n = ls.length := by omega
        rw [List.take_length] at hG
        go_wp2_with fail
        go_ret
        exact ⟨⟨_, rfl, fun _ => ⟨by omega, hG⟩⟩, (by first | exact HB.out | exact HB2.out)⟩
end Go.Proofs.YtcbggjdpjjdfmaaGreatDoor
namespace Go.Proofs.YtcbggjdpjjdfmaaGreatDoor
open Go Go.RowKit Go.Lib
attribute [local go_sem] Oper.semAt_some

def M.manyK (k : Int) : Nat := if k = 0 then 9 else if k = 1 then 11 else if k = 2 then 12 else if k = 4 then 13 else if k = 126 then 8 else 0
set_option maxRecDepth 100000 in
theorem rmany_any (k : Int) (w : World) : Calls Tryz.prog 17 #[.int .i64 k] w fun e w' => e = .returned (.int .i64 (M.manyK k : Nat)) ∧ Below w.heap.size w w' := by
  by_cases h0 : k = 0
  · subst h0
    go_enter Tryz.func17, Tryz.ntmps17
    go_wp2_with fail
    go_ret
    exact ⟨rfl, Below.refl _ _⟩
  · by_cases h1 : k = 1
    · subst h1
      go_enter Tryz.func17, Tryz.ntmps17
      go_wp2_with fail
      go_ret
      exact ⟨rfl, Below.refl _ _⟩
    · by_cases h2 : k = 2
      · subst h2
        go_enter Tryz.func17, Tryz.ntmps17
        go_wp2_with fail
        go_ret
        exact ⟨rfl, Below.refl _ _⟩
      · by_cases h4 : k = 4
        · subst h4
          go_enter Tryz.func17, Tryz.ntmps17
          go_wp2_with fail
          go_ret
          exact ⟨rfl, Below.refl _ _⟩
        · by_cases h6 : k = 126
          · subst h6
            go_enter Tryz.func17, Tryz.ntmps17
            go_wp2_with fail
            go_ret
            exact ⟨rfl, Below.refl _ _⟩
          · have e : M.manyK k = 0 := by unfold M.manyK; simp [h0, h1, h2, h4, h6]
            rw [e]
            have e0 : (k == 0) = false := by simpa using h0
            have e1 : (k == 1) = false := by simpa using h1
            have e2 : (k == 2) = false := by simpa using h2
            have e4 : (k == 4) = false := by simpa using h4
            have e6 : (k == 126) = false := by simpa using h6
            go_enter Tryz.func17, Tryz.ntmps17
            go_wp2_with fail
            go_ret
            exact ⟨rfl, Below.refl _ _⟩
theorem M.manyK_zero (k : Int) : M.manyK k = 0 ↔ M.kdB k = false := by
  unfold M.manyK M.kdB
  by_cases h0 : k = 0
  · simp [h0]
  · by_cases h1 : k = 1
    · simp [h1]
    · by_cases h2 : k = 2
      · simp [h2]
      · by_cases h4 : k = 4
        · simp [h4]
        · by_cases h6 : k = 126
          · simp [h6]
          · simp [h0, h1, h2, h4, h6]
set_option maxRecDepth 100000 in
theorem rform_any (k g n v : Int) (st full : Bool) (ls : Value) (w : World) : Calls Tryz.prog 8 #[.agg #[.int .i64 k, .bool st, .int .u64 g, ls, .bool full, .int .u64 n, .int .u64 v]] w fun e w' =>
    e = .returned (.int .i64 (if full then if v = 0 then 1 else 2 else 0)) ∧ Below w.heap.size w w' := by
  obtain ⟨h, hh⟩ : ∃ h, w.heap.size = h := ⟨_, rfl⟩
  obtain ⟨w0, hw0⟩ : ∃ w0, w.alloc (.cells #[.int .i64 k, .bool st, .int .u64 g, ls, .bool full, .int .u64 n, .int .u64 v] 25) = w0 := ⟨_, rfl⟩
  have hb0 : Below w.heap.size w w0 := by rw [← hw0]; exact (Below.refl _ _).alloc (Nat.le_refl _) _
  have hx := B7.new w (.int .i64 k) (.bool st) (.int .u64 g) ls (.bool full) (.int .u64 n) (.int .u64 v) 25
  rw [hw0, hh] at hx
  have b4 := hx.c4
  have b6 := hx.c6
  have HB2 := Lib.hid hb0
  rw [hh] at hb0
  have HB := Lib.hid hb0
  have HW := Lib.hid hw0
  clear hx hw0 hb0
  cases full with
  | false =>
    go_enter Tryz.func8, Tryz.ntmps8
    go_wp2_with (first | rw [HW.out] | rw [hh])
    go_ret
    exact ⟨rfl, by first | exact HB.out | exact HB2.out⟩
  | true =>
    by_cases hv : v = 0
    · subst hv
      go_enter Tryz.func8, Tryz.ntmps8
      go_wp2_with (first | rw [HW.out] | rw [hh])
      go_ret
      exact ⟨rfl, by first | exact HB.out | exact HB2.out⟩
    · rw [if_pos rfl, if_neg hv]
      have hv1 : (v == 0) = false := by simpa using hv
      go_enter Tryz.func8, Tryz.ntmps8
      go_wp2_with (first | rw [HW.out] | rw [hh])
      go_ret
      exact ⟨rfl, by first | exact HB.out | exact HB2.out⟩
end Go.Proofs.YtcbggjdpjjdfmaaGreatDoor
namespace Go.Proofs.YtcbggjdpjjdfmaaGreatDoor
open Go Go.RowKit Go.Lib
attribute [local go_sem] Oper.semAt_some

end Go.Proofs.YtcbggjdpjjdfmaaGreatDoor
namespace Go.Proofs.YtcbggjdpjjdfmaaGreatDoor
open Go Go.RowKit Go.Lib
attribute [local go_sem] Oper.semAt_some

theorem M.any_no {ls : List M.Lg} {n : Nat} {g : M.Lg} (hg : ls[n]? = some g) (h : M.noLog g = true) : ls.any M.noLog = true := List.any_eq_true.2 ⟨g, List.mem_of_getElem? hg, h⟩
theorem M.noLog_ok {g : M.Lg} (h1 : g.addr.length = 20) (h2 : ∀ t ∈ g.topics, t.length = 32) : M.noLog g = false := by
  unfold M.noLog
  rw [Bool.or_eq_false_iff]
  refine ⟨by rw [h1]; rfl, ?_⟩
  rw [List.any_eq_false]
  intro t ht
  rw [h2 t ht]
  decide
theorem M.noLog_addr {g : M.Lg} (h1 : g.addr.length ≠ 20) : M.noLog g = true := by
  unfold M.noLog
  simp [h1]
theorem M.noLog_topic {g : M.Lg} {m : Nat} {t : List UInt8} (ht : g.topics[m]? = some t) (h1 : t.length ≠ 32) : M.noLog g = true := by
  unfold M.noLog
  rw [Bool.or_eq_true]
  right
  exact List.any_eq_true.2 ⟨t, List.mem_of_getElem? ht, by simpa using h1⟩
set_option maxRecDepth 100000 in
set_option maxHeartbeats 8000000 in
theorem rlogs_any (ls : List M.Lg) (a : Option Addr) (cap : Nat) (w : World) (hF : FewL ls) (hL : Ls w w.heap.size ls (.slice a ls.length cap)) :
    Calls Tryz.prog 18 #[.slice a ls.length cap] w fun e w' => e = .returned (.bool (!ls.any M.noLog)) ∧ Below w.heap.size w w' := by
  have HL := Lib.hid hL
  have HF := Lib.hid hF
  obtain ⟨B, hB⟩ : ∃ B, (!ls.any M.noLog) = B := ⟨_, rfl⟩
  rw [hB]
  have HB := Lib.hid hB
  have hl4 := hF.1
  clear hL hF hB
  go_enter Tryz.func18, Tryz.ntmps18
  go_wp2_with fail
  go_loopw [3] (fun i wr => ∃ n : Nat, n ≤ ls.length ∧ i = .int .i64 n ∧ wr = w ∧ ∀ g ∈ ls.take n, M.noLog g = false) (fun i _ => ls.length - (RowKit.intOf i).toNat)
  case atStart => exact ⟨0, Nat.zero_le _, rfl, rfl, by simp⟩
  case round =>
    obtain ⟨n, hn, rfl, rfl, hG⟩ := hrel
    by_cases hlt : n < ls.length
    · have hlti : (n : Int) < ls.length := by omega
      have hn9 : n < 4000 := by omega
      obtain ⟨q, o, g, ta, tc, rfl, hq, hg, c0, c1, c2, hT⟩ := HL.out.at_ hlt
      have HT := Lib.hid hT
      have HGt := Lib.hid hG
      have HGn := Lib.hid hg
      have ht4 := HF.out.2 g (List.mem_of_getElem? hg)
      clear hT hG hg
      obtain ⟨ad, tp, dt⟩ := g
      dsimp only at c0 c1 c2 HT ht4
      by_cases ha : ad.length = 20
      · have ha1 : (((ad.length : Nat) : Int) == 20) = true := by simp [ha]
        have ha2 : ((ad.length : Nat) : Int) = 20 := by omega
        go_wp2_with fail
        go_loopw [4] (fun i wi => ∃ m : Nat, m ≤ tp.length ∧ i = .int .i64 m ∧ wi = wr ∧ ∀ t ∈ tp.take m, t.length = 32) (fun i _ => tp.length - (RowKit.intOf i).toNat)
        case atStart => exact ⟨0, Nat.zero_le _, rfl, rfl, by simp⟩
        case round =>
          obtain ⟨m, hm, rfl, rfl, hK⟩ := hrel
          by_cases hmt : m < tp.length
          · have hmti : (m : Int) < tp.length := by omega
            have hm9 : m < 4000 := by omega
            obtain ⟨tb, tq, s, rfl, _, hs, d0⟩ := HT.out.at_ hmt
            have HK := Lib.hid hK
            have HS := Lib.hid hs
            clear hK hs
            by_cases hl : s.length = 32
            · have hl1 : (((s.length : Nat) : Int) == 32) = true := by simp [hl]
              have hl2 : ((s.length : Nat) : Int) = 32 := by omega
              go_wp2_with fail
              go_roundw
              case rel => exact ⟨m + 1, by omega, by simp, by first | rfl | trivial, M.take_all HK.out HS.out hl⟩
              case measure => simp [RowKit.intOf]; omega
            · have hl1 : (((s.length : Nat) : Int) == 32) = false := by simp; omega
              have hl2 : ¬ ((s.length : Nat) : Int) = 32 := by omega
              obtain rfl : B = false := by
                rw [← HB.out, M.any_no HGn.out (M.noLog_topic HS.out hl)]
                rfl
              go_wp2_with fail
              go_ret
              exact ⟨rfl, Below.refl _ _⟩
          · obtain rfl : m = tp.length := by omega
            rw [List.take_length] at hK
            go_wp2_with fail
            go_roundw
            case rel => exact ⟨n + 1, by omega, by simp, by first | rfl | trivial, M.fewG_take HGt.out HGn.out (M.noLog_ok ha hK)⟩
            case measure => simp [RowKit.intOf]; omega
      · have ha1 : (((ad.length : Nat) : Int) == 20) = false := by simp; omega
        have ha2 : ¬ ((ad.length : Nat) : Int) = 20 := by omega
        obtain rfl : B = false := by
          rw [← HB.out, M.any_no HGn.out (M.noLog_addr ha)]
          rfl
        go_wp2_with fail
        go_ret
        exact ⟨rfl, Below.refl _ _⟩
    · obtain rfl : n = ls.length := by omega
      rw [List.take_length] at hG
      obtain rfl : B = true := by
        rw [← HB.out, show ls.any M.noLog = false from List.any_eq_false.2 fun g hg => by rw [hG g hg]; decide]
        rfl
      go_wp2_with fail
      go_ret
      exact ⟨rfl, Below.refl _ _⟩
end Go.Proofs.YtcbggjdpjjdfmaaGreatDoor
namespace Go.Proofs.YtcbggjdpjjdfmaaGreatDoor
open Go Go.RowKit Go.Lib
attribute [local go_sem] Oper.semAt_some

theorem M.chk_kind {x : M.Rc} (h : M.kdB x.kind = false) : M.chkR x = 9 := by unfold M.chkR; simp [h]
theorem M.chk_form {x : M.Rc} (h : M.kdB x.kind = true) (h2 : M.formedR x = false) : M.chkR x = 2 := by unfold M.chkR; simp [h, h2]
theorem M.chk_long {x : M.Rc} (h : M.kdB x.kind = true) (h2 : M.formedR x = true) (h3 : M.longR x = true) : M.chkR x = 5 := by unfold M.chkR; simp [h, h2, h3]
theorem M.long_ok {g : M.Lg} (h1 : ¬ 4 < g.topics.length) (h2 : ¬ 4096 < g.data.length) : M.longLog g = false := by unfold M.longLog; simp [h1, h2]
theorem M.long_any {ls : List M.Lg} {n : Nat} {g : M.Lg} (hg : ls[n]? = some g) (h : 4 < g.topics.length ∨ 4096 < g.data.length) : ls.any M.longLog = true := by
  refine List.any_eq_true.2 ⟨g, List.mem_of_getElem? hg, ?_⟩
  unfold M.longLog
  rcases h with h | h <;> simp [h]
set_option maxRecDepth 100000 in
set_option maxHeartbeats 8000000 in
theorem rcheckR_any (k : Int) (st : Bool) (ga : Nat) (ls : List M.Lg) (fu : Bool) (no ve : Nat) (a : Option Addr) (cap : Nat) (w : World) (hF : FewL ls) (hL : Ls w w.heap.size ls (.slice a ls.length cap)) :
    Calls Tryz.prog 7 #[.agg #[.int .i64 k, .bool st, .int .u64 (ga : Nat), .slice a ls.length cap, .bool fu, .int .u64 (no : Nat), .int .u64 (ve : Nat)]] w fun e w' => e = .returned (.int .i64 (M.chkR ⟨k, st, ga, ls, fu, no, ve⟩ : Nat)) ∧ Below w.heap.size w w' := by
  obtain ⟨h, hh⟩ : ∃ h, w.heap.size = h := ⟨_, rfl⟩
  obtain ⟨w0, hw0⟩ : ∃ w0, w.alloc (.cells #[.int .i64 k, .bool st, .int .u64 (ga : Nat), .slice a ls.length cap, .bool fu, .int .u64 (no : Nat), .int .u64 (ve : Nat)] 25) = w0 := ⟨_, rfl⟩
  have hb0 : Below w.heap.size w w0 := by rw [← hw0]; exact (Below.refl _ _).alloc (Nat.le_refl _) _
  have hbx := B7.new w (.int .i64 k) (.bool st) (.int .u64 (ga : Nat)) (.slice a ls.length cap) (.bool fu) (.int .u64 (no : Nat)) (.int .u64 (ve : Nat)) 25
  rw [hw0, hh] at hbx
  have HX0 := Lib.hid hbx
  have HM := Lib.hid (fun W => rmany_any k W)
  have HLG := Lib.hid (fun W (hL : Ls W W.heap.size ls (.slice a ls.length cap)) => rlogs_any ls a cap W hF hL)
  have hl4 := hF.1
  have HF := Lib.hid hF
  have HL0 := Lib.hid (hL.kept hb0)
  have HB0 := Lib.hid hb0
  have HW0 := Lib.hid hw0
  obtain ⟨R, hR⟩ : ∃ R, M.chkR ⟨k, st, ga, ls, fu, no, ve⟩ = R := ⟨_, rfl⟩
  rw [hR]
  have HR := Lib.hid hR
  clear hw0 hb0 hbx hL hF hR
  cases hkd : M.kdB k with
  | false =>
    have e0 := (M.manyK_zero k).2 hkd
    rw [e0] at HM
    obtain rfl : R = 9 := HR.out.symm.trans (M.chk_kind hkd)
    clear e0 hkd HR
    obtain ⟨c0, c1, c2, c3, c4, c5, c6⟩ := HX0.out
    go_enter Tryz.func7, Tryz.ntmps7
    go_wp2_with (first | rw [HW0.out] | rw [hh])
    refine (HM.out _).mono ?_
    rintro e w1 ⟨rfl, hb1⟩
    go_wp2_with fail
    go_ret
    exact ⟨rfl, HB0.out.trans (hb1.mono HB0.out.size)⟩
  | true =>
    have e0 : M.manyK k ≠ 0 := fun q => by
      have := (M.manyK_zero k).1 q
      rw [hkd] at this
      cases this
    have HK := Lib.hid hkd
    generalize M.manyK k = mk at *
    have e1 : ((mk : Int) == 0) = false := by simp [e0]
    have e2 : ¬ (mk : Int) = 0 := by omega
    clear hkd e0
    cases hng : ls.any M.noLog with
    | true =>
      rw [hng] at HLG
      obtain rfl : R = 2 := HR.out.symm.trans (M.chk_form HK.out (by unfold M.formedR; simp [hng]))
      clear HR HK
      obtain ⟨c0, c1, c2, c3, c4, c5, c6⟩ := HX0.out
      go_enter Tryz.func7, Tryz.ntmps7
      go_wp2_with (first | rw [HW0.out] | rw [hh])
      try rw [HW0.out]
      refine (HM.out _).mono ?_
      rintro e w1 ⟨rfl, hb1⟩
      have HB1 := Lib.hid (HB0.out.trans (hb1.mono HB0.out.size))
      have HX1 := Lib.hid (HX0.out.from_ hb1)
      have HL1 := Lib.hid (HL0.out.kept hb1)
      clear c0 c1 c2 c3 c4 c5 c6 hb1 HX0 HL0 HB0 HM
      obtain ⟨c0, c1, c2, c3, c4, c5, c6⟩ := HX1.out
      go_wp2_with fail
      refine (HLG.out _ HL1.out).mono ?_
      rintro e w2 ⟨rfl, hb2⟩
      have HB2 := Lib.hid (HB1.out.trans (hb2.mono HB1.out.size))
      have HX2 := Lib.hid (HX1.out.from_ hb2)
      have HL2 := Lib.hid (HL1.out.kept hb2)
      clear c0 c1 c2 c3 c4 c5 c6 hb2 HX1 HL1 HB1 HLG
      obtain ⟨c0, c1, c2, c3, c4, c5, c6⟩ := HX2.out
      go_wp2_with fail
      go_ret
      exact ⟨rfl, by first | exact HB2.out | exact (hh ▸ HB2.out)⟩
    | false =>
      rw [hng] at HLG
      cases fu with
      | true =>
        by_cases hv : 1 < ve
        · have hv' : (1 : Int) < (ve : Nat) := by omega
          obtain rfl : R = 2 := HR.out.symm.trans (M.chk_form HK.out (by unfold M.formedR; simp [hv]))
          clear HR HK
          obtain ⟨c0, c1, c2, c3, c4, c5, c6⟩ := HX0.out
          go_enter Tryz.func7, Tryz.ntmps7
          go_wp2_with (first | rw [HW0.out] | rw [hh])
          try rw [HW0.out]
          refine (HM.out _).mono ?_
          rintro e w1 ⟨rfl, hb1⟩
          have HB1 := Lib.hid (HB0.out.trans (hb1.mono HB0.out.size))
          have HX1 := Lib.hid (HX0.out.from_ hb1)
          have HL1 := Lib.hid (HL0.out.kept hb1)
          clear c0 c1 c2 c3 c4 c5 c6 hb1 HX0 HL0 HB0 HM
          obtain ⟨c0, c1, c2, c3, c4, c5, c6⟩ := HX1.out
          go_wp2_with fail
          refine (HLG.out _ HL1.out).mono ?_
          rintro e w2 ⟨rfl, hb2⟩
          have HB2 := Lib.hid (HB1.out.trans (hb2.mono HB1.out.size))
          have HX2 := Lib.hid (HX1.out.from_ hb2)
          have HL2 := Lib.hid (HL1.out.kept hb2)
          clear c0 c1 c2 c3 c4 c5 c6 hb2 HX1 HL1 HB1 HLG
          obtain ⟨c0, c1, c2, c3, c4, c5, c6⟩ := HX2.out
          go_wp2_with fail
          go_ret
          exact ⟨rfl, by first | exact HB2.out | exact (hh ▸ HB2.out)⟩
        · have hv' : ¬ (1 : Int) < (ve : Nat) := by omega
          by_cases hk : k = 126
          · subst hk
            have hfm : M.formedR ⟨126, st, ga, ls, true, no, ve⟩ = true := by unfold M.formedR; simp [hng, hv]
            have HFM := Lib.hid hfm
            clear hfm
            obtain ⟨c0, c1, c2, c3, c4, c5, c6⟩ := HX0.out
            go_enter Tryz.func7, Tryz.ntmps7
            go_wp2_with (first | rw [HW0.out] | rw [hh])
            try rw [HW0.out]
            refine (HM.out _).mono ?_
            rintro e w1 ⟨rfl, hb1⟩
            have HB1 := Lib.hid (HB0.out.trans (hb1.mono HB0.out.size))
            have HX1 := Lib.hid (HX0.out.from_ hb1)
            have HL1 := Lib.hid (HL0.out.kept hb1)
            clear c0 c1 c2 c3 c4 c5 c6 hb1 HX0 HL0 HB0 HM
            obtain ⟨c0, c1, c2, c3, c4, c5, c6⟩ := HX1.out
            go_wp2_with fail
            refine (HLG.out _ HL1.out).mono ?_
            rintro e w2 ⟨rfl, hb2⟩
            have HB2 := Lib.hid (HB1.out.trans (hb2.mono HB1.out.size))
            have HX2 := Lib.hid (HX1.out.from_ hb2)
            have HL2 := Lib.hid (HL1.out.kept hb2)
            clear c0 c1 c2 c3 c4 c5 c6 hb2 HX1 HL1 HB1 HLG
            obtain ⟨c0, c1, c2, c3, c4, c5, c6⟩ := HX2.out
            go_wp2_with fail
            clear c0 c1 c2 c4 c5 c6
            go_loopw [3] (fun i wr => ∃ n : Nat, n ≤ ls.length ∧ i = .int .i64 n ∧ wr = w2 ∧ ∀ g ∈ ls.take n, M.longLog g = false) (fun i _ => ls.length - (RowKit.intOf i).toNat)
            case atStart => exact ⟨0, Nat.zero_le _, rfl, rfl, by simp⟩
            case round =>
              obtain ⟨n, hn, rfl, rfl, hG⟩ := hrel
              by_cases hlt : n < ls.length
              · have hlti : (n : Int) < ls.length := by omega
                have hn9 : n < 4000 := by omega
                obtain ⟨q, o, g, ta, tc, rfl, hq, hg, d0, d1, d2, hT⟩ := HL2.out.at_ hlt
                have HGt := Lib.hid hG
                have HGn := Lib.hid hg
                clear hT hG hg
                obtain ⟨ad, tp, dt⟩ := g
                dsimp only at d0 d1 d2
                by_cases ht : 4 < tp.length
                · have ht' : (4 : Int) < (tp.length : Nat) := by omega
                  obtain rfl : R = 5 := HR.out.symm.trans (M.chk_long HK.out HFM.out (by unfold M.longR; simp only [Bool.or_eq_true]; exact .inr (M.long_any HGn.out (.inl ht))))
                  go_wp2_with fail
                  go_ret
                  exact ⟨rfl, by first | exact HB2.out | exact (hh ▸ HB2.out)⟩
                · have ht' : ¬ (4 : Int) < (tp.length : Nat) := by omega
                  by_cases hd : 4096 < dt.length
                  · have hd' : (4096 : Int) < (dt.length : Nat) := by omega
                    obtain rfl : R = 5 := HR.out.symm.trans (M.chk_long HK.out HFM.out (by unfold M.longR; simp only [Bool.or_eq_true]; exact .inr (M.long_any HGn.out (.inr hd))))
                    go_wp2_with fail
                    go_ret
                    exact ⟨rfl, by first | exact HB2.out | exact (hh ▸ HB2.out)⟩
                  · have hd' : ¬ (4096 : Int) < (dt.length : Nat) := by omega
                    go_wp2_with fail
                    go_roundw
                    case rel => exact ⟨n + 1, by omega, by simp, by first | rfl | trivial, M.fewG_take HGt.out HGn.out (M.long_ok ht hd)⟩
                    case measure => simp [RowKit.intOf]; omega
              · obtain rfl : n = ls.length := by omega
                rw [List.take_length] at hG
                have hno : ls.any M.longLog = false := List.any_eq_false.2 fun g hg => by rw [hG g hg]; decide
                by_cases h16 : 16 < ls.length
                · have h16' : (16 : Int) < (ls.length : Nat) := by omega
                  obtain rfl : R = 5 := HR.out.symm.trans (M.chk_long HK.out HFM.out (by unfold M.longR; simp [h16]))
                  go_wp2_with fail
                  go_ret
                  exact ⟨rfl, by first | exact HB2.out | exact (hh ▸ HB2.out)⟩
                · have h16' : ¬ (16 : Int) < (ls.length : Nat) := by omega
                  obtain rfl : R = 0 := HR.out.symm.trans (M.chkR_zero HK.out HFM.out (by unfold M.longR; simp [h16, hno]))
                  go_wp2_with fail
                  go_ret
                  exact ⟨rfl, by first | exact HB2.out | exact (hh ▸ HB2.out)⟩
          · have hk1 : (k == 126) = false := by simpa using hk
            have hk2 : (k != 126) = true := by simp [hk]
            obtain rfl : R = 2 := HR.out.symm.trans (M.chk_form HK.out (by unfold M.formedR; simp [hk]))
            clear HR HK
            obtain ⟨c0, c1, c2, c3, c4, c5, c6⟩ := HX0.out
            go_enter Tryz.func7, Tryz.ntmps7
            go_wp2_with (first | rw [HW0.out] | rw [hh])
            try rw [HW0.out]
            refine (HM.out _).mono ?_
            rintro e w1 ⟨rfl, hb1⟩
            have HB1 := Lib.hid (HB0.out.trans (hb1.mono HB0.out.size))
            have HX1 := Lib.hid (HX0.out.from_ hb1)
            have HL1 := Lib.hid (HL0.out.kept hb1)
            clear c0 c1 c2 c3 c4 c5 c6 hb1 HX0 HL0 HB0 HM
            obtain ⟨c0, c1, c2, c3, c4, c5, c6⟩ := HX1.out
            go_wp2_with fail
            refine (HLG.out _ HL1.out).mono ?_
            rintro e w2 ⟨rfl, hb2⟩
            have HB2 := Lib.hid (HB1.out.trans (hb2.mono HB1.out.size))
            have HX2 := Lib.hid (HX1.out.from_ hb2)
            have HL2 := Lib.hid (HL1.out.kept hb2)
            clear c0 c1 c2 c3 c4 c5 c6 hb2 HX1 HL1 HB1 HLG
            obtain ⟨c0, c1, c2, c3, c4, c5, c6⟩ := HX2.out
            go_wp2_with fail
            go_ret
            exact ⟨rfl, by first | exact HB2.out | exact (hh ▸ HB2.out)⟩
      | false =>
        by_cases hv : ve = 0
        · subst hv
          rw [show ((0 : Nat) : Int) = 0 from rfl] at HW0
          by_cases hn0 : no = 0
          · subst hn0
            try rw [show ((0 : Nat) : Int) = 0 from rfl] at HW0
            have hfm : M.formedR ⟨k, st, ga, ls, false, 0, 0⟩ = true := by unfold M.formedR; simp [hng]
            have HFM := Lib.hid hfm
            clear hfm
            obtain ⟨c0, c1, c2, c3, c4, c5, c6⟩ := HX0.out
            go_enter Tryz.func7, Tryz.ntmps7
            go_wp2_with (first | rw [HW0.out] | rw [hh])
            try rw [HW0.out]
            refine (HM.out _).mono ?_
            rintro e w1 ⟨rfl, hb1⟩
            have HB1 := Lib.hid (HB0.out.trans (hb1.mono HB0.out.size))
            have HX1 := Lib.hid (HX0.out.from_ hb1)
            have HL1 := Lib.hid (HL0.out.kept hb1)
            clear c0 c1 c2 c3 c4 c5 c6 hb1 HX0 HL0 HB0 HM
            obtain ⟨c0, c1, c2, c3, c4, c5, c6⟩ := HX1.out
            go_wp2_with fail
            refine (HLG.out _ HL1.out).mono ?_
            rintro e w2 ⟨rfl, hb2⟩
            have HB2 := Lib.hid (HB1.out.trans (hb2.mono HB1.out.size))
            have HX2 := Lib.hid (HX1.out.from_ hb2)
            have HL2 := Lib.hid (HL1.out.kept hb2)
            clear c0 c1 c2 c3 c4 c5 c6 hb2 HX1 HL1 HB1 HLG
            obtain ⟨c0, c1, c2, c3, c4, c5, c6⟩ := HX2.out
            go_wp2_with fail
            clear c0 c1 c2 c4 c5 c6
            go_loopw [3] (fun i wr => ∃ n : Nat, n ≤ ls.length ∧ i = .int .i64 n ∧ wr = w2 ∧ ∀ g ∈ ls.take n, M.longLog g = false) (fun i _ => ls.length - (RowKit.intOf i).toNat)
            case atStart => exact ⟨0, Nat.zero_le _, rfl, rfl, by simp⟩
            case round =>
              obtain ⟨n, hn, rfl, rfl, hG⟩ := hrel
              by_cases hlt : n < ls.length
              · have hlti : (n : Int) < ls.length := by omega
                have hn9 : n < 4000 := by omega
                obtain ⟨q, o, g, ta, tc, rfl, hq, hg, d0, d1, d2, hT⟩ := HL2.out.at_ hlt
                have HGt := Lib.hid hG
                have HGn := Lib.hid hg
                clear hT hG hg
                obtain ⟨ad, tp, dt⟩ := g
                dsimp only at d0 d1 d2
                by_cases ht : 4 < tp.length
                · have ht' : (4 : Int) < (tp.length : Nat) := by omega
                  obtain rfl : R = 5 := HR.out.symm.trans (M.chk_long HK.out HFM.out (by unfold M.longR; simp only [Bool.or_eq_true]; exact .inr (M.long_any HGn.out (.inl ht))))
                  go_wp2_with fail
                  go_ret
                  exact ⟨rfl, by first | exact HB2.out | exact (hh ▸ HB2.out)⟩
                · have ht' : ¬ (4 : Int) < (tp.length : Nat) := by omega
                  by_cases hd : 4096 < dt.length
                  · have hd' : (4096 : Int) < (dt.length : Nat) := by omega
                    obtain rfl : R = 5 := HR.out.symm.trans (M.chk_long HK.out HFM.out (by unfold M.longR; simp only [Bool.or_eq_true]; exact .inr (M.long_any HGn.out (.inr hd))))
                    go_wp2_with fail
                    go_ret
                    exact ⟨rfl, by first | exact HB2.out | exact (hh ▸ HB2.out)⟩
                  · have hd' : ¬ (4096 : Int) < (dt.length : Nat) := by omega
                    go_wp2_with fail
                    go_roundw
                    case rel => exact ⟨n + 1, by omega, by simp, by first | rfl | trivial, M.fewG_take HGt.out HGn.out (M.long_ok ht hd)⟩
                    case measure => simp [RowKit.intOf]; omega
              · obtain rfl : n = ls.length := by omega
                rw [List.take_length] at hG
                have hno : ls.any M.longLog = false := List.any_eq_false.2 fun g hg => by rw [hG g hg]; decide
                by_cases h16 : 16 < ls.length
                · have h16' : (16 : Int) < (ls.length : Nat) := by omega
                  obtain rfl : R = 5 := HR.out.symm.trans (M.chk_long HK.out HFM.out (by unfold M.longR; simp [h16]))
                  go_wp2_with fail
                  go_ret
                  exact ⟨rfl, by first | exact HB2.out | exact (hh ▸ HB2.out)⟩
                · have h16' : ¬ (16 : Int) < (ls.length : Nat) := by omega
                  obtain rfl : R = 0 := HR.out.symm.trans (M.chkR_zero HK.out HFM.out (by unfold M.longR; simp [h16, hno]))
                  go_wp2_with fail
                  go_ret
                  exact ⟨rfl, by first | exact HB2.out | exact (hh ▸ HB2.out)⟩
          · have hn1 : ((no : Int) == 0) = false := by simp [hn0]
            have hn2 : ¬ (no : Int) = 0 := by omega
            obtain rfl : R = 2 := HR.out.symm.trans (M.chk_form HK.out (by unfold M.formedR; simp [hn0]))
            clear HR HK
            obtain ⟨c0, c1, c2, c3, c4, c5, c6⟩ := HX0.out
            go_enter Tryz.func7, Tryz.ntmps7
            go_wp2_with (first | rw [HW0.out] | rw [hh])
            try rw [HW0.out]
            refine (HM.out _).mono ?_
            rintro e w1 ⟨rfl, hb1⟩
            have HB1 := Lib.hid (HB0.out.trans (hb1.mono HB0.out.size))
            have HX1 := Lib.hid (HX0.out.from_ hb1)
            have HL1 := Lib.hid (HL0.out.kept hb1)
            clear c0 c1 c2 c3 c4 c5 c6 hb1 HX0 HL0 HB0 HM
            obtain ⟨c0, c1, c2, c3, c4, c5, c6⟩ := HX1.out
            go_wp2_with fail
            refine (HLG.out _ HL1.out).mono ?_
            rintro e w2 ⟨rfl, hb2⟩
            have HB2 := Lib.hid (HB1.out.trans (hb2.mono HB1.out.size))
            have HX2 := Lib.hid (HX1.out.from_ hb2)
            have HL2 := Lib.hid (HL1.out.kept hb2)
            clear c0 c1 c2 c3 c4 c5 c6 hb2 HX1 HL1 HB1 HLG
            obtain ⟨c0, c1, c2, c3, c4, c5, c6⟩ := HX2.out
            go_wp2_with fail
            go_ret
            exact ⟨rfl, by first | exact HB2.out | exact (hh ▸ HB2.out)⟩
        · have hv1 : ((ve : Int) == 0) = false := by simp [hv]
          have hv2 : ¬ (ve : Int) = 0 := by omega
          by_cases hv9 : 1 < ve
          · have hv' : (1 : Int) < (ve : Nat) := by omega
            obtain rfl : R = 2 := HR.out.symm.trans (M.chk_form HK.out (by unfold M.formedR; simp [hv]))
            clear HR HK
            obtain ⟨c0, c1, c2, c3, c4, c5, c6⟩ := HX0.out
            go_enter Tryz.func7, Tryz.ntmps7
            go_wp2_with (first | rw [HW0.out] | rw [hh])
            try rw [HW0.out]
            refine (HM.out _).mono ?_
            rintro e w1 ⟨rfl, hb1⟩
            have HB1 := Lib.hid (HB0.out.trans (hb1.mono HB0.out.size))
            have HX1 := Lib.hid (HX0.out.from_ hb1)
            have HL1 := Lib.hid (HL0.out.kept hb1)
            clear c0 c1 c2 c3 c4 c5 c6 hb1 HX0 HL0 HB0 HM
            obtain ⟨c0, c1, c2, c3, c4, c5, c6⟩ := HX1.out
            go_wp2_with fail
            refine (HLG.out _ HL1.out).mono ?_
            rintro e w2 ⟨rfl, hb2⟩
            have HB2 := Lib.hid (HB1.out.trans (hb2.mono HB1.out.size))
            have HX2 := Lib.hid (HX1.out.from_ hb2)
            have HL2 := Lib.hid (HL1.out.kept hb2)
            clear c0 c1 c2 c3 c4 c5 c6 hb2 HX1 HL1 HB1 HLG
            obtain ⟨c0, c1, c2, c3, c4, c5, c6⟩ := HX2.out
            go_wp2_with fail
            go_ret
            exact ⟨rfl, by first | exact HB2.out | exact (hh ▸ HB2.out)⟩
          · obtain rfl : ve = 1 := by omega
            clear hv1 hv2 hv9
            try rw [show ((1 : Nat) : Int) = 1 from rfl] at HW0
            by_cases hn0 : no = 0
            · subst hn0
              try rw [show ((0 : Nat) : Int) = 0 from rfl] at HW0
              obtain rfl : R = 2 := HR.out.symm.trans (M.chk_form HK.out (by unfold M.formedR; simp))
              clear HR HK
              obtain ⟨c0, c1, c2, c3, c4, c5, c6⟩ := HX0.out
              go_enter Tryz.func7, Tryz.ntmps7
              go_wp2_with (first | rw [HW0.out] | rw [hh])
              try rw [HW0.out]
              refine (HM.out _).mono ?_
              rintro e w1 ⟨rfl, hb1⟩
              have HB1 := Lib.hid (HB0.out.trans (hb1.mono HB0.out.size))
              have HX1 := Lib.hid (HX0.out.from_ hb1)
              have HL1 := Lib.hid (HL0.out.kept hb1)
              clear c0 c1 c2 c3 c4 c5 c6 hb1 HX0 HL0 HB0 HM
              obtain ⟨c0, c1, c2, c3, c4, c5, c6⟩ := HX1.out
              go_wp2_with fail
              refine (HLG.out _ HL1.out).mono ?_
              rintro e w2 ⟨rfl, hb2⟩
              have HB2 := Lib.hid (HB1.out.trans (hb2.mono HB1.out.size))
              have HX2 := Lib.hid (HX1.out.from_ hb2)
              have HL2 := Lib.hid (HL1.out.kept hb2)
              clear c0 c1 c2 c3 c4 c5 c6 hb2 HX1 HL1 HB1 HLG
              obtain ⟨c0, c1, c2, c3, c4, c5, c6⟩ := HX2.out
              go_wp2_with fail
              go_ret
              exact ⟨rfl, by first | exact HB2.out | exact (hh ▸ HB2.out)⟩
            · have hn1 : ((no : Int) == 0) = false := by simp [hn0]
              have hn2 : ¬ (no : Int) = 0 := by omega
              obtain rfl : R = 2 := HR.out.symm.trans (M.chk_form HK.out (by unfold M.formedR; simp))
              clear HR HK
              obtain ⟨c0, c1, c2, c3, c4, c5, c6⟩ := HX0.out
              go_enter Tryz.func7, Tryz.ntmps7
              go_wp2_with (first | rw [HW0.out] | rw [hh])
              try rw [HW0.out]
              refine (HM.out _).mono ?_
              rintro e w1 ⟨rfl, hb1⟩
              have HB1 := Lib.hid (HB0.out.trans (hb1.mono HB0.out.size))
              have HX1 := Lib.hid (HX0.out.from_ hb1)
              have HL1 := Lib.hid (HL0.out.kept hb1)
              clear c0 c1 c2 c3 c4 c5 c6 hb1 HX0 HL0 HB0 HM
              obtain ⟨c0, c1, c2, c3, c4, c5, c6⟩ := HX1.out
              go_wp2_with fail
              refine (HLG.out _ HL1.out).mono ?_
              rintro e w2 ⟨rfl, hb2⟩
              have HB2 := Lib.hid (HB1.out.trans (hb2.mono HB1.out.size))
              have HX2 := Lib.hid (HX1.out.from_ hb2)
              have HL2 := Lib.hid (HL1.out.kept hb2)
              clear c0 c1 c2 c3 c4 c5 c6 hb2 HX1 HL1 HB1 HLG
              obtain ⟨c0, c1, c2, c3, c4, c5, c6⟩ := HX2.out
              go_wp2_with fail
              go_ret
              exact ⟨rfl, by first | exact HB2.out | exact (hh ▸ HB2.out)⟩
end Go.Proofs.YtcbggjdpjjdfmaaGreatDoor
namespace Go.Proofs.YtcbggjdpjjdfmaaGreatDoor
open Go Go.RowKit

section
variable {P : Program} {ops : Array Oper} {C : World → Prop} {Q : Act → Prop} {o : Oper} {rest : List Oper} {a : Act}
end
end Go.Proofs.YtcbggjdpjjdfmaaGreatDoor
