/- ReceiptForms, walked. -/
import Derived.Test.YtihiacbhdcahkaaGreatDoorTZ1g
import Derived.Test.YtihiacbhdcahkaaGreatDoorTZ3g
namespace Go.Proofs.YtihiacbhdcahkaaGreatDoor
open Go Go.RowKit Go.Lib
attribute [local go_sem] Oper.semAt_some

theorem below_setR {B g : Nat} {w W : World} (h : Below B w W) (hg : B ≤ g) (cs : Array Value) : Below B w (W.setRow g cs) :=
  h.trans ⟨rfl, rfl, rfl, by rw [setRow_size]; exact Nat.le_refl _, fun i hi => setRow_other _ _ _ _ (by omega)⟩
set_option maxRecDepth 100000 in
set_option maxHeartbeats 8000000 in
theorem forms11_law (k : Int) (st : Bool) (ga : Nat) (ls : List M.Lg) (a : Option Addr) (cap : Nat) (fu : Bool) (n0 v0 : Nat) (no : Nat) (w : World) (hh : Hdl w) (hL : Ls w w.heap.size ls (.slice a ls.length cap)) (hga : ga < 18446744073709551616) (hno : no < 18446744073709551616) :
    Calls Tryz.prog 7 #[.agg #[.int .i64 k, .bool st, .int .u64 (ga : Nat), .slice a ls.length cap, .bool fu, .int .u64 (n0 : Nat), .int .u64 (v0 : Nat)], .int .u64 (no : Nat)] w fun e w' => e = .returned (.bool true) ∧ Below w.heap.size w w' := by
  obtain ⟨h, hhs⟩ : ∃ h, w.heap.size = h := ⟨_, rfl⟩
  obtain ⟨w0, hw0⟩ : ∃ w0, w.alloc (.cells #[.int .i64 k, .bool st, .int .u64 (ga : Nat), .slice a ls.length cap, .bool fu, .int .u64 (n0 : Nat), .int .u64 (v0 : Nat)] 25) = w0 := ⟨_, rfl⟩
  have hb0 : Below w.heap.size w w0 := by rw [← hw0]; exact (Below.refl _ _).alloc (Nat.le_refl _) _
  have hr0 : w0.heap[h]? = some (.cells #[.int .i64 k, .bool st, .int .u64 (ga : Nat), .slice a ls.length cap, .bool fu, .int .u64 (n0 : Nat), .int .u64 (v0 : Nat)] 25 (0, 0)) := by rw [← hw0, ← hhs]; exact heap_alloc_new w _
  have HWK := Lib.hid (works11 w0 (hh.kept hb0))
  have HEX := Lib.hid (fun W (hF : FewL ls) (hL : Ls W W.heap.size ls (.slice a ls.length cap)) => pencode_any (M.fX k st ga ls) a cap W hF hga (by show (0 : Nat) < _; decide) hL)
  have HEY := Lib.hid (fun W (hF : FewL ls) (hL : Ls W W.heap.size ls (.slice a ls.length cap)) => pencode_any (M.fY k st ga no ls) a cap W hF hga hno hL)
  have HEZ := Lib.hid (fun W (hF : FewL ls) (hL : Ls W W.heap.size ls (.slice a ls.length cap)) => pencode_any (M.fZ k st ga no ls) a cap W hF hga hno hL)
  have HFX := Lib.hid (fun W => form_any k (ga : Int) 0 0 st false (.slice a ls.length cap) W)
  have HFY := Lib.hid (fun W => form_any k (ga : Int) (no : Int) 0 st true (.slice a ls.length cap) W)
  have HFZ := Lib.hid (fun W => form_any k (ga : Int) (no : Int) 1 st true (.slice a ls.length cap) W)
  have HL0 := Lib.hid (hL.kept hb0)
  have HW0 := Lib.hid hw0
  have HB0 := Lib.hid hb0
  have HR0 := Lib.hid hr0
  have hz0 : h < w0.heap.size := (Array.getElem?_eq_some_iff.1 hr0).1
  clear hh hL hw0 hb0 hr0
  by_cases hX : M.chkR (M.fX k st ga ls) = 0
  · by_cases hk : k = 126
    · obtain ⟨hY, hZ⟩ := M.forms_yes k st ga no ls hX hk
      obtain ⟨hl1, hl2⟩ := M.forms_len k st ga no ls hX hk hga hno
      have eX : M.encR (M.fX k st ga ls) = (M.bytesR (M.fX k st ga ls), 0) := by unfold M.encR; rw [if_pos hX]
      have eY : M.encR (M.fY k st ga no ls) = (M.bytesR (M.fY k st ga no ls), 0) := by unfold M.encR; rw [if_pos hY]
      have eZ : M.encR (M.fZ k st ga no ls) = (M.bytesR (M.fZ k st ga no ls), 0) := by unfold M.encR; rw [if_pos hZ]
      rw [eX] at HEX
      rw [eY] at HEY
      rw [eZ] at HEZ
      generalize M.bytesR (M.fX k st ga ls) = bx at *
      generalize M.bytesR (M.fY k st ga no ls) = bY at *
      generalize M.bytesR (M.fZ k st ga no ls) = bz at *
      have hl1' : ((bx.length : Nat) : Int) < (bY.length : Nat) := by omega
      have hl2' : ((bY.length : Nat) : Int) < (bz.length : Nat) := by omega
      subst hk
      clear hX hY hZ eX eY eZ hl1 hl2
      dsimp only at *
      have hz_h_0 := hz0
      go_enter Tryz.func7, Tryz.ntmps7
      go_wp2_with (first | rw [HW0.out] | rw [hhs])
      refine (HWK.out).mono ?_
      rintro e w1 ⟨rfl, hb_⟩
      have HRh1 := Lib.hid ((hb_.block h hz_h_0).trans HR0.out)
      have hz_h_1 : h < w1.heap.size := Nat.lt_of_lt_of_le hz_h_0 hb_.size
      have HB1 := Lib.hid (HB0.out.trans (hb_.mono HB0.out.size))
      have HL1 := Lib.hid (HL0.out.kept hb_)
      clear hb_
      have r_ := HRh1.out
      have c0 : w1.cell? ⟨h, 0, none⟩ = some (.int .i64 126) := by simp [World.cell?, r_]
      have c1 : w1.cell? ⟨h, 1, none⟩ = some (.bool st) := by simp [World.cell?, r_]
      have c2 : w1.cell? ⟨h, 2, none⟩ = some (.int .u64 (ga : Nat)) := by simp [World.cell?, r_]
      have c3 : w1.cell? ⟨h, 3, none⟩ = some (.slice a ls.length cap) := by simp [World.cell?, r_]
      have c4 : w1.cell? ⟨h, 4, none⟩ = some (.bool fu) := by simp [World.cell?, r_]
      have c5 : w1.cell? ⟨h, 5, none⟩ = some (.int .u64 (n0 : Nat)) := by simp [World.cell?, r_]
      have c6 : w1.cell? ⟨h, 6, none⟩ = some (.int .u64 (v0 : Nat)) := by simp [World.cell?, r_]
      clear r_
      go_wp2_with fail
      clear c0 c1 c2 c3 c4 c5 c6
      refine (rfew_any 126 st ga ls fu n0 v0 a cap w1 HL1.out).mono ?_
      rintro e w2 ⟨⟨q, rfl, hq⟩, hb_⟩
      have HRh2 := Lib.hid ((hb_.block h hz_h_1).trans HRh1.out)
      have hz_h_2 : h < w2.heap.size := Nat.lt_of_lt_of_le hz_h_1 hb_.size
      have HB2 := Lib.hid (HB1.out.trans (hb_.mono HB1.out.size))
      have HL2 := Lib.hid (HL1.out.kept hb_)
      clear hb_
      cases q with
      | false =>
        go_wp2_with fail
        go_ret
        exact ⟨rfl, HB2.out⟩
      | true =>
        have HFW := Lib.hid (M.fewX_few (hq rfl))
        clear hq
        have hwh : w.heap.size ≤ h := Nat.le_of_eq hhs
        have r_ := HRh2.out
        have hw_ := setCell_eq_setRow w2 h 4 _ _ (0, 0) (.bool false) r_
        change _ = w2.setRow h #[.int .i64 126, .bool st, .int .u64 (ga : Nat), .slice a ls.length cap, .bool false, .int .u64 (n0 : Nat), .int .u64 (v0 : Nat)] at hw_
        have zc3 : ∃ v, w2.cell? ⟨h, 4, none⟩ = some v := ⟨_, by simp only [World.cell?, r_]; rfl⟩
        obtain ⟨_, zc3⟩ := zc3
        have zf3 : w2.frozen? ⟨h, 4, none⟩ = false := by simp [World.frozen?, r_]
        have hl_ := HL2.out.rowN (NoTxt.rc rfl r_) #[.int .i64 126, .bool st, .int .u64 (ga : Nat), .slice a ls.length cap, .bool false, .int .u64 (n0 : Nat), .int .u64 (v0 : Nat)]
        obtain ⟨w3, hw3⟩ : ∃ w3, w2.setRow h #[.int .i64 126, .bool st, .int .u64 (ga : Nat), .slice a ls.length cap, .bool false, .int .u64 (n0 : Nat), .int .u64 (v0 : Nat)] = w3 := ⟨_, rfl⟩
        have hs_ : w3.heap.size = w2.heap.size := by rw [← hw3, setRow_size]
        rw [hw3] at hw_ hl_
        rw [← hs_] at hl_
        have HS3 := Lib.hid hw_
        have HL3 := Lib.hid hl_
        have HRh3 : Hid (w3.heap[h]? = some (.cells #[.int .i64 126, .bool st, .int .u64 (ga : Nat), .slice a ls.length cap, .bool false, .int .u64 (n0 : Nat), .int .u64 (v0 : Nat)] 25 (0, 0))) := Lib.hid (by rw [← hw3]; exact setRow_heap _ _ _ _ _ (0, 0) r_)
        have hz_h_3 : h < w3.heap.size := by rw [hs_]; exact hz_h_2
        have HB3 : Hid (Below w.heap.size w w3) := Lib.hid (by rw [← hw3]; exact below_setR HB2.out (by omega) _)
        clear hw3 hw_ hl_ hs_ r_
        have r_ := HRh3.out
        have hw_ := setCell_eq_setRow w3 h 5 _ _ (0, 0) (.int .u64 0) r_
        change _ = w3.setRow h #[.int .i64 126, .bool st, .int .u64 (ga : Nat), .slice a ls.length cap, .bool false, .int .u64 0, .int .u64 (v0 : Nat)] at hw_
        have zc4 : ∃ v, w3.cell? ⟨h, 5, none⟩ = some v := ⟨_, by simp only [World.cell?, r_]; rfl⟩
        obtain ⟨_, zc4⟩ := zc4
        have zf4 : w3.frozen? ⟨h, 5, none⟩ = false := by simp [World.frozen?, r_]
        have hl_ := HL3.out.rowN (NoTxt.rc rfl r_) #[.int .i64 126, .bool st, .int .u64 (ga : Nat), .slice a ls.length cap, .bool false, .int .u64 0, .int .u64 (v0 : Nat)]
        obtain ⟨w4, hw4⟩ : ∃ w4, w3.setRow h #[.int .i64 126, .bool st, .int .u64 (ga : Nat), .slice a ls.length cap, .bool false, .int .u64 0, .int .u64 (v0 : Nat)] = w4 := ⟨_, rfl⟩
        have hs_ : w4.heap.size = w3.heap.size := by rw [← hw4, setRow_size]
        rw [hw4] at hw_ hl_
        rw [← hs_] at hl_
        have HS4 := Lib.hid hw_
        have HL4 := Lib.hid hl_
        have HRh4 : Hid (w4.heap[h]? = some (.cells #[.int .i64 126, .bool st, .int .u64 (ga : Nat), .slice a ls.length cap, .bool false, .int .u64 0, .int .u64 (v0 : Nat)] 25 (0, 0))) := Lib.hid (by rw [← hw4]; exact setRow_heap _ _ _ _ _ (0, 0) r_)
        have hz_h_4 : h < w4.heap.size := by rw [hs_]; exact hz_h_3
        have HB4 : Hid (Below w.heap.size w w4) := Lib.hid (by rw [← hw4]; exact below_setR HB3.out (by omega) _)
        clear hw4 hw_ hl_ hs_ r_
        have r_ := HRh4.out
        have hw_ := setCell_eq_setRow w4 h 6 _ _ (0, 0) (.int .u64 0) r_
        change _ = w4.setRow h #[.int .i64 126, .bool st, .int .u64 (ga : Nat), .slice a ls.length cap, .bool false, .int .u64 0, .int .u64 0] at hw_
        have zc5 : ∃ v, w4.cell? ⟨h, 6, none⟩ = some v := ⟨_, by simp only [World.cell?, r_]; rfl⟩
        obtain ⟨_, zc5⟩ := zc5
        have zf5 : w4.frozen? ⟨h, 6, none⟩ = false := by simp [World.frozen?, r_]
        have hl_ := HL4.out.rowN (NoTxt.rc rfl r_) #[.int .i64 126, .bool st, .int .u64 (ga : Nat), .slice a ls.length cap, .bool false, .int .u64 0, .int .u64 0]
        obtain ⟨w5, hw5⟩ : ∃ w5, w4.setRow h #[.int .i64 126, .bool st, .int .u64 (ga : Nat), .slice a ls.length cap, .bool false, .int .u64 0, .int .u64 0] = w5 := ⟨_, rfl⟩
        have hs_ : w5.heap.size = w4.heap.size := by rw [← hw5, setRow_size]
        rw [hw5] at hw_ hl_
        rw [← hs_] at hl_
        have HS5 := Lib.hid hw_
        have HL5 := Lib.hid hl_
        have HRh5 : Hid (w5.heap[h]? = some (.cells #[.int .i64 126, .bool st, .int .u64 (ga : Nat), .slice a ls.length cap, .bool false, .int .u64 0, .int .u64 0] 25 (0, 0))) := Lib.hid (by rw [← hw5]; exact setRow_heap _ _ _ _ _ (0, 0) r_)
        have hz_h_5 : h < w5.heap.size := by rw [hs_]; exact hz_h_4
        have HB5 : Hid (Below w.heap.size w w5) := Lib.hid (by rw [← hw5]; exact below_setR HB4.out (by omega) _)
        clear hw5 hw_ hl_ hs_ r_
        have r_ := HRh5.out
        have c0 : w5.cell? ⟨h, 0, none⟩ = some (.int .i64 126) := by simp [World.cell?, r_]
        have c1 : w5.cell? ⟨h, 1, none⟩ = some (.bool st) := by simp [World.cell?, r_]
        have c2 : w5.cell? ⟨h, 2, none⟩ = some (.int .u64 (ga : Nat)) := by simp [World.cell?, r_]
        have c3 : w5.cell? ⟨h, 3, none⟩ = some (.slice a ls.length cap) := by simp [World.cell?, r_]
        have c4 : w5.cell? ⟨h, 4, none⟩ = some (.bool false) := by simp [World.cell?, r_]
        have c5 : w5.cell? ⟨h, 5, none⟩ = some (.int .u64 0) := by simp [World.cell?, r_]
        have c6 : w5.cell? ⟨h, 6, none⟩ = some (.int .u64 0) := by simp [World.cell?, r_]
        clear r_
        obtain ⟨g7, hg_g7⟩ : ∃ g7, w5.heap.size = g7 := ⟨_, rfl⟩
        obtain ⟨w6, hw6⟩ : ∃ w6, w5.alloc (.cells #[.int .i64 126, .bool st, .int .u64 (ga : Nat), .slice a ls.length cap, .bool false, .int .u64 0, .int .u64 0] 25) = w6 := ⟨_, rfl⟩
        have hb_ : Below w5.heap.size w5 w6 := by rw [← hw6]; exact (Below.refl _ _).alloc (Nat.le_refl _) _
        have HRh6 := Lib.hid ((hb_.block h hz_h_5).trans HRh5.out)
        have hz_h_6 : h < w6.heap.size := Nat.lt_of_lt_of_le hz_h_5 hb_.size
        have hlt_h_g7 : h < g7 := by omega
        have r_ : w6.heap[g7]? = some (.cells #[.int .i64 126, .bool st, .int .u64 (ga : Nat), .slice a ls.length cap, .bool false, .int .u64 0, .int .u64 0] 25 (0, 0)) := by rw [← hw6, ← hg_g7]; exact heap_alloc_new w5 _
        have HRg76 := Lib.hid r_
        have hz_g7_6 : g7 < w6.heap.size := (Array.getElem?_eq_some_iff.1 r_).1
        have HB6 := Lib.hid (HB5.out.trans (hb_.mono HB5.out.size))
        have HL6 := Lib.hid (HL5.out.kept hb_)
        have HS6 := Lib.hid hw6
        clear hb_ hw6 r_
        have r_ := HRg76.out
        have hw_ := setCell_eq_setRow w6 g7 4 _ _ (0, 0) (.bool true) r_
        change _ = w6.setRow g7 #[.int .i64 126, .bool st, .int .u64 (ga : Nat), .slice a ls.length cap, .bool true, .int .u64 0, .int .u64 0] at hw_
        have zc7 : ∃ v, w6.cell? ⟨g7, 4, none⟩ = some v := ⟨_, by simp only [World.cell?, r_]; rfl⟩
        obtain ⟨_, zc7⟩ := zc7
        have zf7 : w6.frozen? ⟨g7, 4, none⟩ = false := by simp [World.frozen?, r_]
        have hl_ := HL6.out.rowN (NoTxt.rc rfl r_) #[.int .i64 126, .bool st, .int .u64 (ga : Nat), .slice a ls.length cap, .bool true, .int .u64 0, .int .u64 0]
        obtain ⟨w7, hw7⟩ : ∃ w7, w6.setRow g7 #[.int .i64 126, .bool st, .int .u64 (ga : Nat), .slice a ls.length cap, .bool true, .int .u64 0, .int .u64 0] = w7 := ⟨_, rfl⟩
        have hs_ : w7.heap.size = w6.heap.size := by rw [← hw7, setRow_size]
        rw [hw7] at hw_ hl_
        rw [← hs_] at hl_
        have HS7 := Lib.hid hw_
        have HL7 := Lib.hid hl_
        have HRh7 : Hid (w7.heap[h]? = some (.cells #[.int .i64 126, .bool st, .int .u64 (ga : Nat), .slice a ls.length cap, .bool false, .int .u64 0, .int .u64 0] 25 (0, 0))) := Lib.hid (by rw [← hw7]; exact (setRow_other w6 g7 h _ (by omega)).trans HRh6.out)
        have hz_h_7 : h < w7.heap.size := by rw [hs_]; exact hz_h_6
        have HRg77 : Hid (w7.heap[g7]? = some (.cells #[.int .i64 126, .bool st, .int .u64 (ga : Nat), .slice a ls.length cap, .bool true, .int .u64 0, .int .u64 0] 25 (0, 0))) := Lib.hid (by rw [← hw7]; exact setRow_heap _ _ _ _ _ (0, 0) r_)
        have hz_g7_7 : g7 < w7.heap.size := by rw [hs_]; exact hz_g7_6
        have HB7 : Hid (Below w.heap.size w w7) := Lib.hid (by rw [← hw7]; exact below_setR HB6.out (by omega) _)
        clear hw7 hw_ hl_ hs_ r_
        have r_ := HRg77.out
        have hw_ := setCell_eq_setRow w7 g7 5 _ _ (0, 0) (.int .u64 (no : Nat)) r_
        change _ = w7.setRow g7 #[.int .i64 126, .bool st, .int .u64 (ga : Nat), .slice a ls.length cap, .bool true, .int .u64 (no : Nat), .int .u64 0] at hw_
        have zc8 : ∃ v, w7.cell? ⟨g7, 5, none⟩ = some v := ⟨_, by simp only [World.cell?, r_]; rfl⟩
        obtain ⟨_, zc8⟩ := zc8
        have zf8 : w7.frozen? ⟨g7, 5, none⟩ = false := by simp [World.frozen?, r_]
        have hl_ := HL7.out.rowN (NoTxt.rc rfl r_) #[.int .i64 126, .bool st, .int .u64 (ga : Nat), .slice a ls.length cap, .bool true, .int .u64 (no : Nat), .int .u64 0]
        obtain ⟨w8, hw8⟩ : ∃ w8, w7.setRow g7 #[.int .i64 126, .bool st, .int .u64 (ga : Nat), .slice a ls.length cap, .bool true, .int .u64 (no : Nat), .int .u64 0] = w8 := ⟨_, rfl⟩
        have hs_ : w8.heap.size = w7.heap.size := by rw [← hw8, setRow_size]
        rw [hw8] at hw_ hl_
        rw [← hs_] at hl_
        have HS8 := Lib.hid hw_
        have HL8 := Lib.hid hl_
        have HRh8 : Hid (w8.heap[h]? = some (.cells #[.int .i64 126, .bool st, .int .u64 (ga : Nat), .slice a ls.length cap, .bool false, .int .u64 0, .int .u64 0] 25 (0, 0))) := Lib.hid (by rw [← hw8]; exact (setRow_other w7 g7 h _ (by omega)).trans HRh7.out)
        have hz_h_8 : h < w8.heap.size := by rw [hs_]; exact hz_h_7
        have HRg78 : Hid (w8.heap[g7]? = some (.cells #[.int .i64 126, .bool st, .int .u64 (ga : Nat), .slice a ls.length cap, .bool true, .int .u64 (no : Nat), .int .u64 0] 25 (0, 0))) := Lib.hid (by rw [← hw8]; exact setRow_heap _ _ _ _ _ (0, 0) r_)
        have hz_g7_8 : g7 < w8.heap.size := by rw [hs_]; exact hz_g7_7
        have HB8 : Hid (Below w.heap.size w w8) := Lib.hid (by rw [← hw8]; exact below_setR HB7.out (by omega) _)
        clear hw8 hw_ hl_ hs_ r_
        have r_ := HRg78.out
        have d0 : w8.cell? ⟨g7, 0, none⟩ = some (.int .i64 126) := by simp [World.cell?, r_]
        have d1 : w8.cell? ⟨g7, 1, none⟩ = some (.bool st) := by simp [World.cell?, r_]
        have d2 : w8.cell? ⟨g7, 2, none⟩ = some (.int .u64 (ga : Nat)) := by simp [World.cell?, r_]
        have d3 : w8.cell? ⟨g7, 3, none⟩ = some (.slice a ls.length cap) := by simp [World.cell?, r_]
        have d4 : w8.cell? ⟨g7, 4, none⟩ = some (.bool true) := by simp [World.cell?, r_]
        have d5 : w8.cell? ⟨g7, 5, none⟩ = some (.int .u64 (no : Nat)) := by simp [World.cell?, r_]
        have d6 : w8.cell? ⟨g7, 6, none⟩ = some (.int .u64 0) := by simp [World.cell?, r_]
        clear r_
        obtain ⟨g8, hg_g8⟩ : ∃ g8, w8.heap.size = g8 := ⟨_, rfl⟩
        obtain ⟨w9, hw9⟩ : ∃ w9, w8.alloc (.cells #[.int .i64 126, .bool st, .int .u64 (ga : Nat), .slice a ls.length cap, .bool true, .int .u64 (no : Nat), .int .u64 0] 25) = w9 := ⟨_, rfl⟩
        have hb_ : Below w8.heap.size w8 w9 := by rw [← hw9]; exact (Below.refl _ _).alloc (Nat.le_refl _) _
        have HRh9 := Lib.hid ((hb_.block h hz_h_8).trans HRh8.out)
        have hz_h_9 : h < w9.heap.size := Nat.lt_of_lt_of_le hz_h_8 hb_.size
        have hlt_h_g8 : h < g8 := by omega
        have HRg79 := Lib.hid ((hb_.block g7 hz_g7_8).trans HRg78.out)
        have hz_g7_9 : g7 < w9.heap.size := Nat.lt_of_lt_of_le hz_g7_8 hb_.size
        have hlt_g7_g8 : g7 < g8 := by omega
        have r_ : w9.heap[g8]? = some (.cells #[.int .i64 126, .bool st, .int .u64 (ga : Nat), .slice a ls.length cap, .bool true, .int .u64 (no : Nat), .int .u64 0] 25 (0, 0)) := by rw [← hw9, ← hg_g8]; exact heap_alloc_new w8 _
        have HRg89 := Lib.hid r_
        have hz_g8_9 : g8 < w9.heap.size := (Array.getElem?_eq_some_iff.1 r_).1
        have HB9 := Lib.hid (HB8.out.trans (hb_.mono HB8.out.size))
        have HL9 := Lib.hid (HL8.out.kept hb_)
        have HS9 := Lib.hid hw9
        clear hb_ hw9 r_
        have r_ := HRg89.out
        have hw_ := setCell_eq_setRow w9 g8 6 _ _ (0, 0) (.int .u64 1) r_
        change _ = w9.setRow g8 #[.int .i64 126, .bool st, .int .u64 (ga : Nat), .slice a ls.length cap, .bool true, .int .u64 (no : Nat), .int .u64 1] at hw_
        have zc10 : ∃ v, w9.cell? ⟨g8, 6, none⟩ = some v := ⟨_, by simp only [World.cell?, r_]; rfl⟩
        obtain ⟨_, zc10⟩ := zc10
        have zf10 : w9.frozen? ⟨g8, 6, none⟩ = false := by simp [World.frozen?, r_]
        have hl_ := HL9.out.rowN (NoTxt.rc rfl r_) #[.int .i64 126, .bool st, .int .u64 (ga : Nat), .slice a ls.length cap, .bool true, .int .u64 (no : Nat), .int .u64 1]
        obtain ⟨w10, hw10⟩ : ∃ w10, w9.setRow g8 #[.int .i64 126, .bool st, .int .u64 (ga : Nat), .slice a ls.length cap, .bool true, .int .u64 (no : Nat), .int .u64 1] = w10 := ⟨_, rfl⟩
        have hs_ : w10.heap.size = w9.heap.size := by rw [← hw10, setRow_size]
        rw [hw10] at hw_ hl_
        rw [← hs_] at hl_
        have HS10 := Lib.hid hw_
        have HL10 := Lib.hid hl_
        have HRh10 : Hid (w10.heap[h]? = some (.cells #[.int .i64 126, .bool st, .int .u64 (ga : Nat), .slice a ls.length cap, .bool false, .int .u64 0, .int .u64 0] 25 (0, 0))) := Lib.hid (by rw [← hw10]; exact (setRow_other w9 g8 h _ (by omega)).trans HRh9.out)
        have hz_h_10 : h < w10.heap.size := by rw [hs_]; exact hz_h_9
        have HRg710 : Hid (w10.heap[g7]? = some (.cells #[.int .i64 126, .bool st, .int .u64 (ga : Nat), .slice a ls.length cap, .bool true, .int .u64 (no : Nat), .int .u64 0] 25 (0, 0))) := Lib.hid (by rw [← hw10]; exact (setRow_other w9 g8 g7 _ (by omega)).trans HRg79.out)
        have hz_g7_10 : g7 < w10.heap.size := by rw [hs_]; exact hz_g7_9
        have HRg810 : Hid (w10.heap[g8]? = some (.cells #[.int .i64 126, .bool st, .int .u64 (ga : Nat), .slice a ls.length cap, .bool true, .int .u64 (no : Nat), .int .u64 1] 25 (0, 0))) := Lib.hid (by rw [← hw10]; exact setRow_heap _ _ _ _ _ (0, 0) r_)
        have hz_g8_10 : g8 < w10.heap.size := by rw [hs_]; exact hz_g8_9
        have HB10 : Hid (Below w.heap.size w w10) := Lib.hid (by rw [← hw10]; exact below_setR HB9.out (by omega) _)
        clear hw10 hw_ hl_ hs_ r_
        have r_ := HRh10.out
        have e0 : w10.cell? ⟨h, 0, none⟩ = some (.int .i64 126) := by simp [World.cell?, r_]
        have e1 : w10.cell? ⟨h, 1, none⟩ = some (.bool st) := by simp [World.cell?, r_]
        have e2 : w10.cell? ⟨h, 2, none⟩ = some (.int .u64 (ga : Nat)) := by simp [World.cell?, r_]
        have e3 : w10.cell? ⟨h, 3, none⟩ = some (.slice a ls.length cap) := by simp [World.cell?, r_]
        have e4 : w10.cell? ⟨h, 4, none⟩ = some (.bool false) := by simp [World.cell?, r_]
        have e5 : w10.cell? ⟨h, 5, none⟩ = some (.int .u64 0) := by simp [World.cell?, r_]
        have e6 : w10.cell? ⟨h, 6, none⟩ = some (.int .u64 0) := by simp [World.cell?, r_]
        clear r_
        go_wp2_with (first | rw [HS3.out] | rw [HS4.out] | rw [HS5.out] | rw [HS6.out] | rw [HS7.out] | rw [HS8.out] | rw [HS9.out] | rw [HS10.out] | rw [hg_g7] | rw [hg_g8])
        clear c0 c1 c2 c3 c4 c5 c6 d0 d1 d2 d3 d4 d5 d6 e0 e1 e2 e3 e4 e5 e6
        refine (HEX.out _ HFW.out HL10.out).mono ?_
        rintro e w11 ⟨rfl, hb_⟩
        have HRh11 := Lib.hid ((hb_.block h hz_h_10).trans HRh10.out)
        have hz_h_11 : h < w11.heap.size := Nat.lt_of_lt_of_le hz_h_10 hb_.size
        have HRg711 := Lib.hid ((hb_.block g7 hz_g7_10).trans HRg710.out)
        have hz_g7_11 : g7 < w11.heap.size := Nat.lt_of_lt_of_le hz_g7_10 hb_.size
        have HRg811 := Lib.hid ((hb_.block g8 hz_g8_10).trans HRg810.out)
        have hz_g8_11 : g8 < w11.heap.size := Nat.lt_of_lt_of_le hz_g8_10 hb_.size
        have HB11 := Lib.hid (HB10.out.trans (hb_.mono HB10.out.size))
        have HL11 := Lib.hid (HL10.out.kept hb_)
        clear hb_
        have r_ := HRg711.out
        have c0 : w11.cell? ⟨g7, 0, none⟩ = some (.int .i64 126) := by simp [World.cell?, r_]
        have c1 : w11.cell? ⟨g7, 1, none⟩ = some (.bool st) := by simp [World.cell?, r_]
        have c2 : w11.cell? ⟨g7, 2, none⟩ = some (.int .u64 (ga : Nat)) := by simp [World.cell?, r_]
        have c3 : w11.cell? ⟨g7, 3, none⟩ = some (.slice a ls.length cap) := by simp [World.cell?, r_]
        have c4 : w11.cell? ⟨g7, 4, none⟩ = some (.bool true) := by simp [World.cell?, r_]
        have c5 : w11.cell? ⟨g7, 5, none⟩ = some (.int .u64 (no : Nat)) := by simp [World.cell?, r_]
        have c6 : w11.cell? ⟨g7, 6, none⟩ = some (.int .u64 0) := by simp [World.cell?, r_]
        clear r_
        go_wp2_with fail
        clear c0 c1 c2 c3 c4 c5 c6
        refine (HEY.out _ HFW.out HL11.out).mono ?_
        rintro e w12 ⟨rfl, hb_⟩
        have HRh12 := Lib.hid ((hb_.block h hz_h_11).trans HRh11.out)
        have hz_h_12 : h < w12.heap.size := Nat.lt_of_lt_of_le hz_h_11 hb_.size
        have HRg712 := Lib.hid ((hb_.block g7 hz_g7_11).trans HRg711.out)
        have hz_g7_12 : g7 < w12.heap.size := Nat.lt_of_lt_of_le hz_g7_11 hb_.size
        have HRg812 := Lib.hid ((hb_.block g8 hz_g8_11).trans HRg811.out)
        have hz_g8_12 : g8 < w12.heap.size := Nat.lt_of_lt_of_le hz_g8_11 hb_.size
        have HB12 := Lib.hid (HB11.out.trans (hb_.mono HB11.out.size))
        have HL12 := Lib.hid (HL11.out.kept hb_)
        clear hb_
        have r_ := HRg812.out
        have c0 : w12.cell? ⟨g8, 0, none⟩ = some (.int .i64 126) := by simp [World.cell?, r_]
        have c1 : w12.cell? ⟨g8, 1, none⟩ = some (.bool st) := by simp [World.cell?, r_]
        have c2 : w12.cell? ⟨g8, 2, none⟩ = some (.int .u64 (ga : Nat)) := by simp [World.cell?, r_]
        have c3 : w12.cell? ⟨g8, 3, none⟩ = some (.slice a ls.length cap) := by simp [World.cell?, r_]
        have c4 : w12.cell? ⟨g8, 4, none⟩ = some (.bool true) := by simp [World.cell?, r_]
        have c5 : w12.cell? ⟨g8, 5, none⟩ = some (.int .u64 (no : Nat)) := by simp [World.cell?, r_]
        have c6 : w12.cell? ⟨g8, 6, none⟩ = some (.int .u64 1) := by simp [World.cell?, r_]
        clear r_
        go_wp2_with fail
        clear c0 c1 c2 c3 c4 c5 c6
        refine (HEZ.out _ HFW.out HL12.out).mono ?_
        rintro e w13 ⟨rfl, hb_⟩
        have HRh13 := Lib.hid ((hb_.block h hz_h_12).trans HRh12.out)
        have hz_h_13 : h < w13.heap.size := Nat.lt_of_lt_of_le hz_h_12 hb_.size
        have HRg713 := Lib.hid ((hb_.block g7 hz_g7_12).trans HRg712.out)
        have hz_g7_13 : g7 < w13.heap.size := Nat.lt_of_lt_of_le hz_g7_12 hb_.size
        have HRg813 := Lib.hid ((hb_.block g8 hz_g8_12).trans HRg812.out)
        have hz_g8_13 : g8 < w13.heap.size := Nat.lt_of_lt_of_le hz_g8_12 hb_.size
        have HB13 := Lib.hid (HB12.out.trans (hb_.mono HB12.out.size))
        have HL13 := Lib.hid (HL12.out.kept hb_)
        clear hb_
        have r_ := HRh13.out
        have c0 : w13.cell? ⟨h, 0, none⟩ = some (.int .i64 126) := by simp [World.cell?, r_]
        have c1 : w13.cell? ⟨h, 1, none⟩ = some (.bool st) := by simp [World.cell?, r_]
        have c2 : w13.cell? ⟨h, 2, none⟩ = some (.int .u64 (ga : Nat)) := by simp [World.cell?, r_]
        have c3 : w13.cell? ⟨h, 3, none⟩ = some (.slice a ls.length cap) := by simp [World.cell?, r_]
        have c4 : w13.cell? ⟨h, 4, none⟩ = some (.bool false) := by simp [World.cell?, r_]
        have c5 : w13.cell? ⟨h, 5, none⟩ = some (.int .u64 0) := by simp [World.cell?, r_]
        have c6 : w13.cell? ⟨h, 6, none⟩ = some (.int .u64 0) := by simp [World.cell?, r_]
        clear r_
        go_wp2_with fail
        clear c0 c1 c2 c3 c4 c5 c6
        refine (HFX.out _).mono ?_
        rintro e w14 ⟨rfl, hb_⟩
        have HRh14 := Lib.hid ((hb_.block h hz_h_13).trans HRh13.out)
        have hz_h_14 : h < w14.heap.size := Nat.lt_of_lt_of_le hz_h_13 hb_.size
        have HRg714 := Lib.hid ((hb_.block g7 hz_g7_13).trans HRg713.out)
        have hz_g7_14 : g7 < w14.heap.size := Nat.lt_of_lt_of_le hz_g7_13 hb_.size
        have HRg814 := Lib.hid ((hb_.block g8 hz_g8_13).trans HRg813.out)
        have hz_g8_14 : g8 < w14.heap.size := Nat.lt_of_lt_of_le hz_g8_13 hb_.size
        have HB14 := Lib.hid (HB13.out.trans (hb_.mono HB13.out.size))
        have HL14 := Lib.hid (HL13.out.kept hb_)
        clear hb_
        have r_ := HRg714.out
        have c0 : w14.cell? ⟨g7, 0, none⟩ = some (.int .i64 126) := by simp [World.cell?, r_]
        have c1 : w14.cell? ⟨g7, 1, none⟩ = some (.bool st) := by simp [World.cell?, r_]
        have c2 : w14.cell? ⟨g7, 2, none⟩ = some (.int .u64 (ga : Nat)) := by simp [World.cell?, r_]
        have c3 : w14.cell? ⟨g7, 3, none⟩ = some (.slice a ls.length cap) := by simp [World.cell?, r_]
        have c4 : w14.cell? ⟨g7, 4, none⟩ = some (.bool true) := by simp [World.cell?, r_]
        have c5 : w14.cell? ⟨g7, 5, none⟩ = some (.int .u64 (no : Nat)) := by simp [World.cell?, r_]
        have c6 : w14.cell? ⟨g7, 6, none⟩ = some (.int .u64 0) := by simp [World.cell?, r_]
        clear r_
        go_wp2_with fail
        clear c0 c1 c2 c3 c4 c5 c6
        refine (HFY.out _).mono ?_
        rintro e w15 ⟨rfl, hb_⟩
        have HRh15 := Lib.hid ((hb_.block h hz_h_14).trans HRh14.out)
        have hz_h_15 : h < w15.heap.size := Nat.lt_of_lt_of_le hz_h_14 hb_.size
        have HRg715 := Lib.hid ((hb_.block g7 hz_g7_14).trans HRg714.out)
        have hz_g7_15 : g7 < w15.heap.size := Nat.lt_of_lt_of_le hz_g7_14 hb_.size
        have HRg815 := Lib.hid ((hb_.block g8 hz_g8_14).trans HRg814.out)
        have hz_g8_15 : g8 < w15.heap.size := Nat.lt_of_lt_of_le hz_g8_14 hb_.size
        have HB15 := Lib.hid (HB14.out.trans (hb_.mono HB14.out.size))
        have HL15 := Lib.hid (HL14.out.kept hb_)
        clear hb_
        have r_ := HRg815.out
        have c0 : w15.cell? ⟨g8, 0, none⟩ = some (.int .i64 126) := by simp [World.cell?, r_]
        have c1 : w15.cell? ⟨g8, 1, none⟩ = some (.bool st) := by simp [World.cell?, r_]
        have c2 : w15.cell? ⟨g8, 2, none⟩ = some (.int .u64 (ga : Nat)) := by simp [World.cell?, r_]
        have c3 : w15.cell? ⟨g8, 3, none⟩ = some (.slice a ls.length cap) := by simp [World.cell?, r_]
        have c4 : w15.cell? ⟨g8, 4, none⟩ = some (.bool true) := by simp [World.cell?, r_]
        have c5 : w15.cell? ⟨g8, 5, none⟩ = some (.int .u64 (no : Nat)) := by simp [World.cell?, r_]
        have c6 : w15.cell? ⟨g8, 6, none⟩ = some (.int .u64 1) := by simp [World.cell?, r_]
        clear r_
        go_wp2_with fail
        clear c0 c1 c2 c3 c4 c5 c6
        refine (HFZ.out _).mono ?_
        rintro e w16 ⟨rfl, hb_⟩
        have HRh16 := Lib.hid ((hb_.block h hz_h_15).trans HRh15.out)
        have hz_h_16 : h < w16.heap.size := Nat.lt_of_lt_of_le hz_h_15 hb_.size
        have HRg716 := Lib.hid ((hb_.block g7 hz_g7_15).trans HRg715.out)
        have hz_g7_16 : g7 < w16.heap.size := Nat.lt_of_lt_of_le hz_g7_15 hb_.size
        have HRg816 := Lib.hid ((hb_.block g8 hz_g8_15).trans HRg815.out)
        have hz_g8_16 : g8 < w16.heap.size := Nat.lt_of_lt_of_le hz_g8_15 hb_.size
        have HB16 := Lib.hid (HB15.out.trans (hb_.mono HB15.out.size))
        have HL16 := Lib.hid (HL15.out.kept hb_)
        clear hb_
        go_wp2_with fail
        go_ret
        exact ⟨rfl, HB16.out⟩
    · obtain ⟨hY, hZ⟩ := M.forms_kind k st ga no ls hX hk
      have eX : M.encR (M.fX k st ga ls) = (M.bytesR (M.fX k st ga ls), 0) := by unfold M.encR; rw [if_pos hX]
      have eY : M.encR (M.fY k st ga no ls) = ([], 2) := by unfold M.encR; rw [if_neg (by rw [hY]; decide), hY]
      have eZ : M.encR (M.fZ k st ga no ls) = ([], 2) := by unfold M.encR; rw [if_neg (by rw [hZ]; decide), hZ]
      rw [eX] at HEX
      rw [eY] at HEY
      rw [eZ] at HEZ
      generalize M.bytesR (M.fX k st ga ls) = bx at *
      have hk1 : (k == 126) = false := by simpa using hk
      clear hX hY hZ eX eY eZ HFX HFY HFZ
      dsimp only at *
      have hz_h_0 := hz0
      go_enter Tryz.func7, Tryz.ntmps7
      go_wp2_with (first | rw [HW0.out] | rw [hhs])
      refine (HWK.out).mono ?_
      rintro e w1 ⟨rfl, hb_⟩
      have HRh1 := Lib.hid ((hb_.block h hz_h_0).trans HR0.out)
      have hz_h_1 : h < w1.heap.size := Nat.lt_of_lt_of_le hz_h_0 hb_.size
      have HB1 := Lib.hid (HB0.out.trans (hb_.mono HB0.out.size))
      have HL1 := Lib.hid (HL0.out.kept hb_)
      clear hb_
      have r_ := HRh1.out
      have c0 : w1.cell? ⟨h, 0, none⟩ = some (.int .i64 k) := by simp [World.cell?, r_]
      have c1 : w1.cell? ⟨h, 1, none⟩ = some (.bool st) := by simp [World.cell?, r_]
      have c2 : w1.cell? ⟨h, 2, none⟩ = some (.int .u64 (ga : Nat)) := by simp [World.cell?, r_]
      have c3 : w1.cell? ⟨h, 3, none⟩ = some (.slice a ls.length cap) := by simp [World.cell?, r_]
      have c4 : w1.cell? ⟨h, 4, none⟩ = some (.bool fu) := by simp [World.cell?, r_]
      have c5 : w1.cell? ⟨h, 5, none⟩ = some (.int .u64 (n0 : Nat)) := by simp [World.cell?, r_]
      have c6 : w1.cell? ⟨h, 6, none⟩ = some (.int .u64 (v0 : Nat)) := by simp [World.cell?, r_]
      clear r_
      go_wp2_with fail
      clear c0 c1 c2 c3 c4 c5 c6
      refine (rfew_any k st ga ls fu n0 v0 a cap w1 HL1.out).mono ?_
      rintro e w2 ⟨⟨q, rfl, hq⟩, hb_⟩
      have HRh2 := Lib.hid ((hb_.block h hz_h_1).trans HRh1.out)
      have hz_h_2 : h < w2.heap.size := Nat.lt_of_lt_of_le hz_h_1 hb_.size
      have HB2 := Lib.hid (HB1.out.trans (hb_.mono HB1.out.size))
      have HL2 := Lib.hid (HL1.out.kept hb_)
      clear hb_
      cases q with
      | false =>
        go_wp2_with fail
        go_ret
        exact ⟨rfl, HB2.out⟩
      | true =>
        have HFW := Lib.hid (M.fewX_few (hq rfl))
        clear hq
        have hwh : w.heap.size ≤ h := Nat.le_of_eq hhs
        have r_ := HRh2.out
        have hw_ := setCell_eq_setRow w2 h 4 _ _ (0, 0) (.bool false) r_
        change _ = w2.setRow h #[.int .i64 k, .bool st, .int .u64 (ga : Nat), .slice a ls.length cap, .bool false, .int .u64 (n0 : Nat), .int .u64 (v0 : Nat)] at hw_
        have zc3 : ∃ v, w2.cell? ⟨h, 4, none⟩ = some v := ⟨_, by simp only [World.cell?, r_]; rfl⟩
        obtain ⟨_, zc3⟩ := zc3
        have zf3 : w2.frozen? ⟨h, 4, none⟩ = false := by simp [World.frozen?, r_]
        have hl_ := HL2.out.rowN (NoTxt.rc rfl r_) #[.int .i64 k, .bool st, .int .u64 (ga : Nat), .slice a ls.length cap, .bool false, .int .u64 (n0 : Nat), .int .u64 (v0 : Nat)]
        obtain ⟨w3, hw3⟩ : ∃ w3, w2.setRow h #[.int .i64 k, .bool st, .int .u64 (ga : Nat), .slice a ls.length cap, .bool false, .int .u64 (n0 : Nat), .int .u64 (v0 : Nat)] = w3 := ⟨_, rfl⟩
        have hs_ : w3.heap.size = w2.heap.size := by rw [← hw3, setRow_size]
        rw [hw3] at hw_ hl_
        rw [← hs_] at hl_
        have HS3 := Lib.hid hw_
        have HL3 := Lib.hid hl_
        have HRh3 : Hid (w3.heap[h]? = some (.cells #[.int .i64 k, .bool st, .int .u64 (ga : Nat), .slice a ls.length cap, .bool false, .int .u64 (n0 : Nat), .int .u64 (v0 : Nat)] 25 (0, 0))) := Lib.hid (by rw [← hw3]; exact setRow_heap _ _ _ _ _ (0, 0) r_)
        have hz_h_3 : h < w3.heap.size := by rw [hs_]; exact hz_h_2
        have HB3 : Hid (Below w.heap.size w w3) := Lib.hid (by rw [← hw3]; exact below_setR HB2.out (by omega) _)
        clear hw3 hw_ hl_ hs_ r_
        have r_ := HRh3.out
        have hw_ := setCell_eq_setRow w3 h 5 _ _ (0, 0) (.int .u64 0) r_
        change _ = w3.setRow h #[.int .i64 k, .bool st, .int .u64 (ga : Nat), .slice a ls.length cap, .bool false, .int .u64 0, .int .u64 (v0 : Nat)] at hw_
        have zc4 : ∃ v, w3.cell? ⟨h, 5, none⟩ = some v := ⟨_, by simp only [World.cell?, r_]; rfl⟩
        obtain ⟨_, zc4⟩ := zc4
        have zf4 : w3.frozen? ⟨h, 5, none⟩ = false := by simp [World.frozen?, r_]
        have hl_ := HL3.out.rowN (NoTxt.rc rfl r_) #[.int .i64 k, .bool st, .int .u64 (ga : Nat), .slice a ls.length cap, .bool false, .int .u64 0, .int .u64 (v0 : Nat)]
        obtain ⟨w4, hw4⟩ : ∃ w4, w3.setRow h #[.int .i64 k, .bool st, .int .u64 (ga : Nat), .slice a ls.length cap, .bool false, .int .u64 0, .int .u64 (v0 : Nat)] = w4 := ⟨_, rfl⟩
        have hs_ : w4.heap.size = w3.heap.size := by rw [← hw4, setRow_size]
        rw [hw4] at hw_ hl_
        rw [← hs_] at hl_
        have HS4 := Lib.hid hw_
        have HL4 := Lib.hid hl_
        have HRh4 : Hid (w4.heap[h]? = some (.cells #[.int .i64 k, .bool st, .int .u64 (ga : Nat), .slice a ls.length cap, .bool false, .int .u64 0, .int .u64 (v0 : Nat)] 25 (0, 0))) := Lib.hid (by rw [← hw4]; exact setRow_heap _ _ _ _ _ (0, 0) r_)
        have hz_h_4 : h < w4.heap.size := by rw [hs_]; exact hz_h_3
        have HB4 : Hid (Below w.heap.size w w4) := Lib.hid (by rw [← hw4]; exact below_setR HB3.out (by omega) _)
        clear hw4 hw_ hl_ hs_ r_
        have r_ := HRh4.out
        have hw_ := setCell_eq_setRow w4 h 6 _ _ (0, 0) (.int .u64 0) r_
        change _ = w4.setRow h #[.int .i64 k, .bool st, .int .u64 (ga : Nat), .slice a ls.length cap, .bool false, .int .u64 0, .int .u64 0] at hw_
        have zc5 : ∃ v, w4.cell? ⟨h, 6, none⟩ = some v := ⟨_, by simp only [World.cell?, r_]; rfl⟩
        obtain ⟨_, zc5⟩ := zc5
        have zf5 : w4.frozen? ⟨h, 6, none⟩ = false := by simp [World.frozen?, r_]
        have hl_ := HL4.out.rowN (NoTxt.rc rfl r_) #[.int .i64 k, .bool st, .int .u64 (ga : Nat), .slice a ls.length cap, .bool false, .int .u64 0, .int .u64 0]
        obtain ⟨w5, hw5⟩ : ∃ w5, w4.setRow h #[.int .i64 k, .bool st, .int .u64 (ga : Nat), .slice a ls.length cap, .bool false, .int .u64 0, .int .u64 0] = w5 := ⟨_, rfl⟩
        have hs_ : w5.heap.size = w4.heap.size := by rw [← hw5, setRow_size]
        rw [hw5] at hw_ hl_
        rw [← hs_] at hl_
        have HS5 := Lib.hid hw_
        have HL5 := Lib.hid hl_
        have HRh5 : Hid (w5.heap[h]? = some (.cells #[.int .i64 k, .bool st, .int .u64 (ga : Nat), .slice a ls.length cap, .bool false, .int .u64 0, .int .u64 0] 25 (0, 0))) := Lib.hid (by rw [← hw5]; exact setRow_heap _ _ _ _ _ (0, 0) r_)
        have hz_h_5 : h < w5.heap.size := by rw [hs_]; exact hz_h_4
        have HB5 : Hid (Below w.heap.size w w5) := Lib.hid (by rw [← hw5]; exact below_setR HB4.out (by omega) _)
        clear hw5 hw_ hl_ hs_ r_
        have r_ := HRh5.out
        have c0 : w5.cell? ⟨h, 0, none⟩ = some (.int .i64 k) := by simp [World.cell?, r_]
        have c1 : w5.cell? ⟨h, 1, none⟩ = some (.bool st) := by simp [World.cell?, r_]
        have c2 : w5.cell? ⟨h, 2, none⟩ = some (.int .u64 (ga : Nat)) := by simp [World.cell?, r_]
        have c3 : w5.cell? ⟨h, 3, none⟩ = some (.slice a ls.length cap) := by simp [World.cell?, r_]
        have c4 : w5.cell? ⟨h, 4, none⟩ = some (.bool false) := by simp [World.cell?, r_]
        have c5 : w5.cell? ⟨h, 5, none⟩ = some (.int .u64 0) := by simp [World.cell?, r_]
        have c6 : w5.cell? ⟨h, 6, none⟩ = some (.int .u64 0) := by simp [World.cell?, r_]
        clear r_
        obtain ⟨g7, hg_g7⟩ : ∃ g7, w5.heap.size = g7 := ⟨_, rfl⟩
        obtain ⟨w6, hw6⟩ : ∃ w6, w5.alloc (.cells #[.int .i64 k, .bool st, .int .u64 (ga : Nat), .slice a ls.length cap, .bool false, .int .u64 0, .int .u64 0] 25) = w6 := ⟨_, rfl⟩
        have hb_ : Below w5.heap.size w5 w6 := by rw [← hw6]; exact (Below.refl _ _).alloc (Nat.le_refl _) _
        have HRh6 := Lib.hid ((hb_.block h hz_h_5).trans HRh5.out)
        have hz_h_6 : h < w6.heap.size := Nat.lt_of_lt_of_le hz_h_5 hb_.size
        have hlt_h_g7 : h < g7 := by omega
        have r_ : w6.heap[g7]? = some (.cells #[.int .i64 k, .bool st, .int .u64 (ga : Nat), .slice a ls.length cap, .bool false, .int .u64 0, .int .u64 0] 25 (0, 0)) := by rw [← hw6, ← hg_g7]; exact heap_alloc_new w5 _
        have HRg76 := Lib.hid r_
        have hz_g7_6 : g7 < w6.heap.size := (Array.getElem?_eq_some_iff.1 r_).1
        have HB6 := Lib.hid (HB5.out.trans (hb_.mono HB5.out.size))
        have HL6 := Lib.hid (HL5.out.kept hb_)
        have HS6 := Lib.hid hw6
        clear hb_ hw6 r_
        have r_ := HRg76.out
        have hw_ := setCell_eq_setRow w6 g7 4 _ _ (0, 0) (.bool true) r_
        change _ = w6.setRow g7 #[.int .i64 k, .bool st, .int .u64 (ga : Nat), .slice a ls.length cap, .bool true, .int .u64 0, .int .u64 0] at hw_
        have zc7 : ∃ v, w6.cell? ⟨g7, 4, none⟩ = some v := ⟨_, by simp only [World.cell?, r_]; rfl⟩
        obtain ⟨_, zc7⟩ := zc7
        have zf7 : w6.frozen? ⟨g7, 4, none⟩ = false := by simp [World.frozen?, r_]
        have hl_ := HL6.out.rowN (NoTxt.rc rfl r_) #[.int .i64 k, .bool st, .int .u64 (ga : Nat), .slice a ls.length cap, .bool true, .int .u64 0, .int .u64 0]
        obtain ⟨w7, hw7⟩ : ∃ w7, w6.setRow g7 #[.int .i64 k, .bool st, .int .u64 (ga : Nat), .slice a ls.length cap, .bool true, .int .u64 0, .int .u64 0] = w7 := ⟨_, rfl⟩
        have hs_ : w7.heap.size = w6.heap.size := by rw [← hw7, setRow_size]
        rw [hw7] at hw_ hl_
        rw [← hs_] at hl_
        have HS7 := Lib.hid hw_
        have HL7 := Lib.hid hl_
        have HRh7 : Hid (w7.heap[h]? = some (.cells #[.int .i64 k, .bool st, .int .u64 (ga : Nat), .slice a ls.length cap, .bool false, .int .u64 0, .int .u64 0] 25 (0, 0))) := Lib.hid (by rw [← hw7]; exact (setRow_other w6 g7 h _ (by omega)).trans HRh6.out)
        have hz_h_7 : h < w7.heap.size := by rw [hs_]; exact hz_h_6
        have HRg77 : Hid (w7.heap[g7]? = some (.cells #[.int .i64 k, .bool st, .int .u64 (ga : Nat), .slice a ls.length cap, .bool true, .int .u64 0, .int .u64 0] 25 (0, 0))) := Lib.hid (by rw [← hw7]; exact setRow_heap _ _ _ _ _ (0, 0) r_)
        have hz_g7_7 : g7 < w7.heap.size := by rw [hs_]; exact hz_g7_6
        have HB7 : Hid (Below w.heap.size w w7) := Lib.hid (by rw [← hw7]; exact below_setR HB6.out (by omega) _)
        clear hw7 hw_ hl_ hs_ r_
        have r_ := HRg77.out
        have hw_ := setCell_eq_setRow w7 g7 5 _ _ (0, 0) (.int .u64 (no : Nat)) r_
        change _ = w7.setRow g7 #[.int .i64 k, .bool st, .int .u64 (ga : Nat), .slice a ls.length cap, .bool true, .int .u64 (no : Nat), .int .u64 0] at hw_
        have zc8 : ∃ v, w7.cell? ⟨g7, 5, none⟩ = some v := ⟨_, by simp only [World.cell?, r_]; rfl⟩
        obtain ⟨_, zc8⟩ := zc8
        have zf8 : w7.frozen? ⟨g7, 5, none⟩ = false := by simp [World.frozen?, r_]
        have hl_ := HL7.out.rowN (NoTxt.rc rfl r_) #[.int .i64 k, .bool st, .int .u64 (ga : Nat), .slice a ls.length cap, .bool true, .int .u64 (no : Nat), .int .u64 0]
        obtain ⟨w8, hw8⟩ : ∃ w8, w7.setRow g7 #[.int .i64 k, .bool st, .int .u64 (ga : Nat), .slice a ls.length cap, .bool true, .int .u64 (no : Nat), .int .u64 0] = w8 := ⟨_, rfl⟩
        have hs_ : w8.heap.size = w7.heap.size := by rw [← hw8, setRow_size]
        rw [hw8] at hw_ hl_
        rw [← hs_] at hl_
        have HS8 := Lib.hid hw_
        have HL8 := Lib.hid hl_
        have HRh8 : Hid (w8.heap[h]? = some (.cells #[.int .i64 k, .bool st, .int .u64 (ga : Nat), .slice a ls.length cap, .bool false, .int .u64 0, .int .u64 0] 25 (0, 0))) := Lib.hid (by rw [← hw8]; exact (setRow_other w7 g7 h _ (by omega)).trans HRh7.out)
        have hz_h_8 : h < w8.heap.size := by rw [hs_]; exact hz_h_7
        have HRg78 : Hid (w8.heap[g7]? = some (.cells #[.int .i64 k, .bool st, .int .u64 (ga : Nat), .slice a ls.length cap, .bool true, .int .u64 (no : Nat), .int .u64 0] 25 (0, 0))) := Lib.hid (by rw [← hw8]; exact setRow_heap _ _ _ _ _ (0, 0) r_)
        have hz_g7_8 : g7 < w8.heap.size := by rw [hs_]; exact hz_g7_7
        have HB8 : Hid (Below w.heap.size w w8) := Lib.hid (by rw [← hw8]; exact below_setR HB7.out (by omega) _)
        clear hw8 hw_ hl_ hs_ r_
        have r_ := HRg78.out
        have d0 : w8.cell? ⟨g7, 0, none⟩ = some (.int .i64 k) := by simp [World.cell?, r_]
        have d1 : w8.cell? ⟨g7, 1, none⟩ = some (.bool st) := by simp [World.cell?, r_]
        have d2 : w8.cell? ⟨g7, 2, none⟩ = some (.int .u64 (ga : Nat)) := by simp [World.cell?, r_]
        have d3 : w8.cell? ⟨g7, 3, none⟩ = some (.slice a ls.length cap) := by simp [World.cell?, r_]
        have d4 : w8.cell? ⟨g7, 4, none⟩ = some (.bool true) := by simp [World.cell?, r_]
        have d5 : w8.cell? ⟨g7, 5, none⟩ = some (.int .u64 (no : Nat)) := by simp [World.cell?, r_]
        have d6 : w8.cell? ⟨g7, 6, none⟩ = some (.int .u64 0) := by simp [World.cell?, r_]
        clear r_
        obtain ⟨g8, hg_g8⟩ : ∃ g8, w8.heap.size = g8 := ⟨_, rfl⟩
        obtain ⟨w9, hw9⟩ : ∃ w9, w8.alloc (.cells #[.int .i64 k, .bool st, .int .u64 (ga : Nat), .slice a ls.length cap, .bool true, .int .u64 (no : Nat), .int .u64 0] 25) = w9 := ⟨_, rfl⟩
        have hb_ : Below w8.heap.size w8 w9 := by rw [← hw9]; exact (Below.refl _ _).alloc (Nat.le_refl _) _
        have HRh9 := Lib.hid ((hb_.block h hz_h_8).trans HRh8.out)
        have hz_h_9 : h < w9.heap.size := Nat.lt_of_lt_of_le hz_h_8 hb_.size
        have hlt_h_g8 : h < g8 := by omega
        have HRg79 := Lib.hid ((hb_.block g7 hz_g7_8).trans HRg78.out)
        have hz_g7_9 : g7 < w9.heap.size := Nat.lt_of_lt_of_le hz_g7_8 hb_.size
        have hlt_g7_g8 : g7 < g8 := by omega
        have r_ : w9.heap[g8]? = some (.cells #[.int .i64 k, .bool st, .int .u64 (ga : Nat), .slice a ls.length cap, .bool true, .int .u64 (no : Nat), .int .u64 0] 25 (0, 0)) := by rw [← hw9, ← hg_g8]; exact heap_alloc_new w8 _
        have HRg89 := Lib.hid r_
        have hz_g8_9 : g8 < w9.heap.size := (Array.getElem?_eq_some_iff.1 r_).1
        have HB9 := Lib.hid (HB8.out.trans (hb_.mono HB8.out.size))
        have HL9 := Lib.hid (HL8.out.kept hb_)
        have HS9 := Lib.hid hw9
        clear hb_ hw9 r_
        have r_ := HRg89.out
        have hw_ := setCell_eq_setRow w9 g8 6 _ _ (0, 0) (.int .u64 1) r_
        change _ = w9.setRow g8 #[.int .i64 k, .bool st, .int .u64 (ga : Nat), .slice a ls.length cap, .bool true, .int .u64 (no : Nat), .int .u64 1] at hw_
        have zc10 : ∃ v, w9.cell? ⟨g8, 6, none⟩ = some v := ⟨_, by simp only [World.cell?, r_]; rfl⟩
        obtain ⟨_, zc10⟩ := zc10
        have zf10 : w9.frozen? ⟨g8, 6, none⟩ = false := by simp [World.frozen?, r_]
        have hl_ := HL9.out.rowN (NoTxt.rc rfl r_) #[.int .i64 k, .bool st, .int .u64 (ga : Nat), .slice a ls.length cap, .bool true, .int .u64 (no : Nat), .int .u64 1]
        obtain ⟨w10, hw10⟩ : ∃ w10, w9.setRow g8 #[.int .i64 k, .bool st, .int .u64 (ga : Nat), .slice a ls.length cap, .bool true, .int .u64 (no : Nat), .int .u64 1] = w10 := ⟨_, rfl⟩
        have hs_ : w10.heap.size = w9.heap.size := by rw [← hw10, setRow_size]
        rw [hw10] at hw_ hl_
        rw [← hs_] at hl_
        have HS10 := Lib.hid hw_
        have HL10 := Lib.hid hl_
        have HRh10 : Hid (w10.heap[h]? = some (.cells #[.int .i64 k, .bool st, .int .u64 (ga : Nat), .slice a ls.length cap, .bool false, .int .u64 0, .int .u64 0] 25 (0, 0))) := Lib.hid (by rw [← hw10]; exact (setRow_other w9 g8 h _ (by omega)).trans HRh9.out)
        have hz_h_10 : h < w10.heap.size := by rw [hs_]; exact hz_h_9
        have HRg710 : Hid (w10.heap[g7]? = some (.cells #[.int .i64 k, .bool st, .int .u64 (ga : Nat), .slice a ls.length cap, .bool true, .int .u64 (no : Nat), .int .u64 0] 25 (0, 0))) := Lib.hid (by rw [← hw10]; exact (setRow_other w9 g8 g7 _ (by omega)).trans HRg79.out)
        have hz_g7_10 : g7 < w10.heap.size := by rw [hs_]; exact hz_g7_9
        have HRg810 : Hid (w10.heap[g8]? = some (.cells #[.int .i64 k, .bool st, .int .u64 (ga : Nat), .slice a ls.length cap, .bool true, .int .u64 (no : Nat), .int .u64 1] 25 (0, 0))) := Lib.hid (by rw [← hw10]; exact setRow_heap _ _ _ _ _ (0, 0) r_)
        have hz_g8_10 : g8 < w10.heap.size := by rw [hs_]; exact hz_g8_9
        have HB10 : Hid (Below w.heap.size w w10) := Lib.hid (by rw [← hw10]; exact below_setR HB9.out (by omega) _)
        clear hw10 hw_ hl_ hs_ r_
        have r_ := HRh10.out
        have e0 : w10.cell? ⟨h, 0, none⟩ = some (.int .i64 k) := by simp [World.cell?, r_]
        have e1 : w10.cell? ⟨h, 1, none⟩ = some (.bool st) := by simp [World.cell?, r_]
        have e2 : w10.cell? ⟨h, 2, none⟩ = some (.int .u64 (ga : Nat)) := by simp [World.cell?, r_]
        have e3 : w10.cell? ⟨h, 3, none⟩ = some (.slice a ls.length cap) := by simp [World.cell?, r_]
        have e4 : w10.cell? ⟨h, 4, none⟩ = some (.bool false) := by simp [World.cell?, r_]
        have e5 : w10.cell? ⟨h, 5, none⟩ = some (.int .u64 0) := by simp [World.cell?, r_]
        have e6 : w10.cell? ⟨h, 6, none⟩ = some (.int .u64 0) := by simp [World.cell?, r_]
        clear r_
        go_wp2_with (first | rw [HS3.out] | rw [HS4.out] | rw [HS5.out] | rw [HS6.out] | rw [HS7.out] | rw [HS8.out] | rw [HS9.out] | rw [HS10.out] | rw [hg_g7] | rw [hg_g8])
        clear c0 c1 c2 c3 c4 c5 c6 d0 d1 d2 d3 d4 d5 d6 e0 e1 e2 e3 e4 e5 e6
        refine (HEX.out _ HFW.out HL10.out).mono ?_
        rintro e w11 ⟨rfl, hb_⟩
        have HRh11 := Lib.hid ((hb_.block h hz_h_10).trans HRh10.out)
        have hz_h_11 : h < w11.heap.size := Nat.lt_of_lt_of_le hz_h_10 hb_.size
        have HRg711 := Lib.hid ((hb_.block g7 hz_g7_10).trans HRg710.out)
        have hz_g7_11 : g7 < w11.heap.size := Nat.lt_of_lt_of_le hz_g7_10 hb_.size
        have HRg811 := Lib.hid ((hb_.block g8 hz_g8_10).trans HRg810.out)
        have hz_g8_11 : g8 < w11.heap.size := Nat.lt_of_lt_of_le hz_g8_10 hb_.size
        have HB11 := Lib.hid (HB10.out.trans (hb_.mono HB10.out.size))
        have HL11 := Lib.hid (HL10.out.kept hb_)
        clear hb_
        have r_ := HRg711.out
        have c0 : w11.cell? ⟨g7, 0, none⟩ = some (.int .i64 k) := by simp [World.cell?, r_]
        have c1 : w11.cell? ⟨g7, 1, none⟩ = some (.bool st) := by simp [World.cell?, r_]
        have c2 : w11.cell? ⟨g7, 2, none⟩ = some (.int .u64 (ga : Nat)) := by simp [World.cell?, r_]
        have c3 : w11.cell? ⟨g7, 3, none⟩ = some (.slice a ls.length cap) := by simp [World.cell?, r_]
        have c4 : w11.cell? ⟨g7, 4, none⟩ = some (.bool true) := by simp [World.cell?, r_]
        have c5 : w11.cell? ⟨g7, 5, none⟩ = some (.int .u64 (no : Nat)) := by simp [World.cell?, r_]
        have c6 : w11.cell? ⟨g7, 6, none⟩ = some (.int .u64 0) := by simp [World.cell?, r_]
        clear r_
        go_wp2_with fail
        clear c0 c1 c2 c3 c4 c5 c6
        refine (HEY.out _ HFW.out HL11.out).mono ?_
        rintro e w12 ⟨rfl, hb_⟩
        have HRh12 := Lib.hid ((hb_.block h hz_h_11).trans HRh11.out)
        have hz_h_12 : h < w12.heap.size := Nat.lt_of_lt_of_le hz_h_11 hb_.size
        have HRg712 := Lib.hid ((hb_.block g7 hz_g7_11).trans HRg711.out)
        have hz_g7_12 : g7 < w12.heap.size := Nat.lt_of_lt_of_le hz_g7_11 hb_.size
        have HRg812 := Lib.hid ((hb_.block g8 hz_g8_11).trans HRg811.out)
        have hz_g8_12 : g8 < w12.heap.size := Nat.lt_of_lt_of_le hz_g8_11 hb_.size
        have HB12 := Lib.hid (HB11.out.trans (hb_.mono HB11.out.size))
        have HL12 := Lib.hid (HL11.out.kept hb_)
        clear hb_
        have r_ := HRg812.out
        have c0 : w12.cell? ⟨g8, 0, none⟩ = some (.int .i64 k) := by simp [World.cell?, r_]
        have c1 : w12.cell? ⟨g8, 1, none⟩ = some (.bool st) := by simp [World.cell?, r_]
        have c2 : w12.cell? ⟨g8, 2, none⟩ = some (.int .u64 (ga : Nat)) := by simp [World.cell?, r_]
        have c3 : w12.cell? ⟨g8, 3, none⟩ = some (.slice a ls.length cap) := by simp [World.cell?, r_]
        have c4 : w12.cell? ⟨g8, 4, none⟩ = some (.bool true) := by simp [World.cell?, r_]
        have c5 : w12.cell? ⟨g8, 5, none⟩ = some (.int .u64 (no : Nat)) := by simp [World.cell?, r_]
        have c6 : w12.cell? ⟨g8, 6, none⟩ = some (.int .u64 1) := by simp [World.cell?, r_]
        clear r_
        go_wp2_with fail
        clear c0 c1 c2 c3 c4 c5 c6
        refine (HEZ.out _ HFW.out HL12.out).mono ?_
        rintro e w13 ⟨rfl, hb_⟩
        have HRh13 := Lib.hid ((hb_.block h hz_h_12).trans HRh12.out)
        have hz_h_13 : h < w13.heap.size := Nat.lt_of_lt_of_le hz_h_12 hb_.size
        have HRg713 := Lib.hid ((hb_.block g7 hz_g7_12).trans HRg712.out)
        have hz_g7_13 : g7 < w13.heap.size := Nat.lt_of_lt_of_le hz_g7_12 hb_.size
        have HRg813 := Lib.hid ((hb_.block g8 hz_g8_12).trans HRg812.out)
        have hz_g8_13 : g8 < w13.heap.size := Nat.lt_of_lt_of_le hz_g8_12 hb_.size
        have HB13 := Lib.hid (HB12.out.trans (hb_.mono HB12.out.size))
        have HL13 := Lib.hid (HL12.out.kept hb_)
        clear hb_
        have r_ := HRh13.out
        have c0 : w13.cell? ⟨h, 0, none⟩ = some (.int .i64 k) := by simp [World.cell?, r_]
        have c1 : w13.cell? ⟨h, 1, none⟩ = some (.bool st) := by simp [World.cell?, r_]
        have c2 : w13.cell? ⟨h, 2, none⟩ = some (.int .u64 (ga : Nat)) := by simp [World.cell?, r_]
        have c3 : w13.cell? ⟨h, 3, none⟩ = some (.slice a ls.length cap) := by simp [World.cell?, r_]
        have c4 : w13.cell? ⟨h, 4, none⟩ = some (.bool false) := by simp [World.cell?, r_]
        have c5 : w13.cell? ⟨h, 5, none⟩ = some (.int .u64 0) := by simp [World.cell?, r_]
        have c6 : w13.cell? ⟨h, 6, none⟩ = some (.int .u64 0) := by simp [World.cell?, r_]
        clear r_
        go_wp2_with fail
        go_ret
        exact ⟨rfl, HB13.out⟩
  · obtain ⟨hY, hZ⟩ := M.forms_no k st ga no ls hX
    have eX : M.encR (M.fX k st ga ls) = ([], M.chkR (M.fX k st ga ls)) := by unfold M.encR; rw [if_neg hX]
    have eY : M.encR (M.fY k st ga no ls) = ([], M.chkR (M.fY k st ga no ls)) := by unfold M.encR; rw [if_neg hY]
    have eZ : M.encR (M.fZ k st ga no ls) = ([], M.chkR (M.fZ k st ga no ls)) := by unfold M.encR; rw [if_neg hZ]
    rw [eX] at HEX
    rw [eY] at HEY
    rw [eZ] at HEZ
    generalize M.chkR (M.fX k st ga ls) = cx at *
    generalize M.chkR (M.fY k st ga no ls) = cy at *
    generalize M.chkR (M.fZ k st ga no ls) = cz at *
    have hx1 : ((cx : Int) == 0) = false := by simp [hX]
    have hy1 : ((cy : Int) == 0) = false := by simp [hY]
    have hz1 : ((cz : Int) == 0) = false := by simp [hZ]
    have hx2 : ¬ (cx : Int) = 0 := by omega
    have hy2 : ¬ (cy : Int) = 0 := by omega
    have hz2 : ¬ (cz : Int) = 0 := by omega
    clear eX eY eZ HFX HFY HFZ
    dsimp only at *
    have hz_h_0 := hz0
    go_enter Tryz.func7, Tryz.ntmps7
    go_wp2_with (first | rw [HW0.out] | rw [hhs])
    refine (HWK.out).mono ?_
    rintro e w1 ⟨rfl, hb_⟩
    have HRh1 := Lib.hid ((hb_.block h hz_h_0).trans HR0.out)
    have hz_h_1 : h < w1.heap.size := Nat.lt_of_lt_of_le hz_h_0 hb_.size
    have HB1 := Lib.hid (HB0.out.trans (hb_.mono HB0.out.size))
    have HL1 := Lib.hid (HL0.out.kept hb_)
    clear hb_
    have r_ := HRh1.out
    have c0 : w1.cell? ⟨h, 0, none⟩ = some (.int .i64 k) := by simp [World.cell?, r_]
    have c1 : w1.cell? ⟨h, 1, none⟩ = some (.bool st) := by simp [World.cell?, r_]
    have c2 : w1.cell? ⟨h, 2, none⟩ = some (.int .u64 (ga : Nat)) := by simp [World.cell?, r_]
    have c3 : w1.cell? ⟨h, 3, none⟩ = some (.slice a ls.length cap) := by simp [World.cell?, r_]
    have c4 : w1.cell? ⟨h, 4, none⟩ = some (.bool fu) := by simp [World.cell?, r_]
    have c5 : w1.cell? ⟨h, 5, none⟩ = some (.int .u64 (n0 : Nat)) := by simp [World.cell?, r_]
    have c6 : w1.cell? ⟨h, 6, none⟩ = some (.int .u64 (v0 : Nat)) := by simp [World.cell?, r_]
    clear r_
    go_wp2_with fail
    clear c0 c1 c2 c3 c4 c5 c6
    refine (rfew_any k st ga ls fu n0 v0 a cap w1 HL1.out).mono ?_
    rintro e w2 ⟨⟨q, rfl, hq⟩, hb_⟩
    have HRh2 := Lib.hid ((hb_.block h hz_h_1).trans HRh1.out)
    have hz_h_2 : h < w2.heap.size := Nat.lt_of_lt_of_le hz_h_1 hb_.size
    have HB2 := Lib.hid (HB1.out.trans (hb_.mono HB1.out.size))
    have HL2 := Lib.hid (HL1.out.kept hb_)
    clear hb_
    cases q with
    | false =>
      go_wp2_with fail
      go_ret
      exact ⟨rfl, HB2.out⟩
    | true =>
      have HFW := Lib.hid (M.fewX_few (hq rfl))
      clear hq
      have hwh : w.heap.size ≤ h := Nat.le_of_eq hhs
      have r_ := HRh2.out
      have hw_ := setCell_eq_setRow w2 h 4 _ _ (0, 0) (.bool false) r_
      change _ = w2.setRow h #[.int .i64 k, .bool st, .int .u64 (ga : Nat), .slice a ls.length cap, .bool false, .int .u64 (n0 : Nat), .int .u64 (v0 : Nat)] at hw_
      have zc3 : ∃ v, w2.cell? ⟨h, 4, none⟩ = some v := ⟨_, by simp only [World.cell?, r_]; rfl⟩
      obtain ⟨_, zc3⟩ := zc3
      have zf3 : w2.frozen? ⟨h, 4, none⟩ = false := by simp [World.frozen?, r_]
      have hl_ := HL2.out.rowN (NoTxt.rc rfl r_) #[.int .i64 k, .bool st, .int .u64 (ga : Nat), .slice a ls.length cap, .bool false, .int .u64 (n0 : Nat), .int .u64 (v0 : Nat)]
      obtain ⟨w3, hw3⟩ : ∃ w3, w2.setRow h #[.int .i64 k, .bool st, .int .u64 (ga : Nat), .slice a ls.length cap, .bool false, .int .u64 (n0 : Nat), .int .u64 (v0 : Nat)] = w3 := ⟨_, rfl⟩
      have hs_ : w3.heap.size = w2.heap.size := by rw [← hw3, setRow_size]
      rw [hw3] at hw_ hl_
      rw [← hs_] at hl_
      have HS3 := Lib.hid hw_
      have HL3 := Lib.hid hl_
      have HRh3 : Hid (w3.heap[h]? = some (.cells #[.int .i64 k, .bool st, .int .u64 (ga : Nat), .slice a ls.length cap, .bool false, .int .u64 (n0 : Nat), .int .u64 (v0 : Nat)] 25 (0, 0))) := Lib.hid (by rw [← hw3]; exact setRow_heap _ _ _ _ _ (0, 0) r_)
      have hz_h_3 : h < w3.heap.size := by rw [hs_]; exact hz_h_2
      have HB3 : Hid (Below w.heap.size w w3) := Lib.hid (by rw [← hw3]; exact below_setR HB2.out (by omega) _)
      clear hw3 hw_ hl_ hs_ r_
      have r_ := HRh3.out
      have hw_ := setCell_eq_setRow w3 h 5 _ _ (0, 0) (.int .u64 0) r_
      change _ = w3.setRow h #[.int .i64 k, .bool st, .int .u64 (ga : Nat), .slice a ls.length cap, .bool false, .int .u64 0, .int .u64 (v0 : Nat)] at hw_
      have zc4 : ∃ v, w3.cell? ⟨h, 5, none⟩ = some v := ⟨_, by simp only [World.cell?, r_]; rfl⟩
      obtain ⟨_, zc4⟩ := zc4
      have zf4 : w3.frozen? ⟨h, 5, none⟩ = false := by simp [World.frozen?, r_]
      have hl_ := HL3.out.rowN (NoTxt.rc rfl r_) #[.int .i64 k, .bool st, .int .u64 (ga : Nat), .slice a ls.length cap, .bool false, .int .u64 0, .int .u64 (v0 : Nat)]
      obtain ⟨w4, hw4⟩ : ∃ w4, w3.setRow h #[.int .i64 k, .bool st, .int .u64 (ga : Nat), .slice a ls.length cap, .bool false, .int .u64 0, .int .u64 (v0 : Nat)] = w4 := ⟨_, rfl⟩
      have hs_ : w4.heap.size = w3.heap.size := by rw [← hw4, setRow_size]
      rw [hw4] at hw_ hl_
      rw [← hs_] at hl_
      have HS4 := Lib.hid hw_
      have HL4 := Lib.hid hl_
      have HRh4 : Hid (w4.heap[h]? = some (.cells #[.int .i64 k, .bool st, .int .u64 (ga : Nat), .slice a ls.length cap, .bool false, .int .u64 0, .int .u64 (v0 : Nat)] 25 (0, 0))) := Lib.hid (by rw [← hw4]; exact setRow_heap _ _ _ _ _ (0, 0) r_)
      have hz_h_4 : h < w4.heap.size := by rw [hs_]; exact hz_h_3
      have HB4 : Hid (Below w.heap.size w w4) := Lib.hid (by rw [← hw4]; exact below_setR HB3.out (by omega) _)
      clear hw4 hw_ hl_ hs_ r_
      have r_ := HRh4.out
      have hw_ := setCell_eq_setRow w4 h 6 _ _ (0, 0) (.int .u64 0) r_
      change _ = w4.setRow h #[.int .i64 k, .bool st, .int .u64 (ga : Nat), .slice a ls.length cap, .bool false, .int .u64 0, .int .u64 0] at hw_
      have zc5 : ∃ v, w4.cell? ⟨h, 6, none⟩ = some v := ⟨_, by simp only [World.cell?, r_]; rfl⟩
      obtain ⟨_, zc5⟩ := zc5
      have zf5 : w4.frozen? ⟨h, 6, none⟩ = false := by simp [World.frozen?, r_]
      have hl_ := HL4.out.rowN (NoTxt.rc rfl r_) #[.int .i64 k, .bool st, .int .u64 (ga : Nat), .slice a ls.length cap, .bool false, .int .u64 0, .int .u64 0]
      obtain ⟨w5, hw5⟩ : ∃ w5, w4.setRow h #[.int .i64 k, .bool st, .int .u64 (ga : Nat), .slice a ls.length cap, .bool false, .int .u64 0, .int .u64 0] = w5 := ⟨_, rfl⟩
      have hs_ : w5.heap.size = w4.heap.size := by rw [← hw5, setRow_size]
      rw [hw5] at hw_ hl_
      rw [← hs_] at hl_
      have HS5 := Lib.hid hw_
      have HL5 := Lib.hid hl_
      have HRh5 : Hid (w5.heap[h]? = some (.cells #[.int .i64 k, .bool st, .int .u64 (ga : Nat), .slice a ls.length cap, .bool false, .int .u64 0, .int .u64 0] 25 (0, 0))) := Lib.hid (by rw [← hw5]; exact setRow_heap _ _ _ _ _ (0, 0) r_)
      have hz_h_5 : h < w5.heap.size := by rw [hs_]; exact hz_h_4
      have HB5 : Hid (Below w.heap.size w w5) := Lib.hid (by rw [← hw5]; exact below_setR HB4.out (by omega) _)
      clear hw5 hw_ hl_ hs_ r_
      have r_ := HRh5.out
      have c0 : w5.cell? ⟨h, 0, none⟩ = some (.int .i64 k) := by simp [World.cell?, r_]
      have c1 : w5.cell? ⟨h, 1, none⟩ = some (.bool st) := by simp [World.cell?, r_]
      have c2 : w5.cell? ⟨h, 2, none⟩ = some (.int .u64 (ga : Nat)) := by simp [World.cell?, r_]
      have c3 : w5.cell? ⟨h, 3, none⟩ = some (.slice a ls.length cap) := by simp [World.cell?, r_]
      have c4 : w5.cell? ⟨h, 4, none⟩ = some (.bool false) := by simp [World.cell?, r_]
      have c5 : w5.cell? ⟨h, 5, none⟩ = some (.int .u64 0) := by simp [World.cell?, r_]
      have c6 : w5.cell? ⟨h, 6, none⟩ = some (.int .u64 0) := by simp [World.cell?, r_]
      clear r_
      obtain ⟨g7, hg_g7⟩ : ∃ g7, w5.heap.size = g7 := ⟨_, rfl⟩
      obtain ⟨w6, hw6⟩ : ∃ w6, w5.alloc (.cells #[.int .i64 k, .bool st, .int .u64 (ga : Nat), .slice a ls.length cap, .bool false, .int .u64 0, .int .u64 0] 25) = w6 := ⟨_, rfl⟩
      have hb_ : Below w5.heap.size w5 w6 := by rw [← hw6]; exact (Below.refl _ _).alloc (Nat.le_refl _) _
      have HRh6 := Lib.hid ((hb_.block h hz_h_5).trans HRh5.out)
      have hz_h_6 : h < w6.heap.size := Nat.lt_of_lt_of_le hz_h_5 hb_.size
      have hlt_h_g7 : h < g7 := by omega
      have r_ : w6.heap[g7]? = some (.cells #[.int .i64 k, .bool st, .int .u64 (ga : Nat), .slice a ls.length cap, .bool false, .int .u64 0, .int .u64 0] 25 (0, 0)) := by rw [← hw6, ← hg_g7]; exact heap_alloc_new w5 _
      have HRg76 := Lib.hid r_
      have hz_g7_6 : g7 < w6.heap.size := (Array.getElem?_eq_some_iff.1 r_).1
      have HB6 := Lib.hid (HB5.out.trans (hb_.mono HB5.out.size))
      have HL6 := Lib.hid (HL5.out.kept hb_)
      have HS6 := Lib.hid hw6
      clear hb_ hw6 r_
      have r_ := HRg76.out
      have hw_ := setCell_eq_setRow w6 g7 4 _ _ (0, 0) (.bool true) r_
      change _ = w6.setRow g7 #[.int .i64 k, .bool st, .int .u64 (ga : Nat), .slice a ls.length cap, .bool true, .int .u64 0, .int .u64 0] at hw_
      have zc7 : ∃ v, w6.cell? ⟨g7, 4, none⟩ = some v := ⟨_, by simp only [World.cell?, r_]; rfl⟩
      obtain ⟨_, zc7⟩ := zc7
      have zf7 : w6.frozen? ⟨g7, 4, none⟩ = false := by simp [World.frozen?, r_]
      have hl_ := HL6.out.rowN (NoTxt.rc rfl r_) #[.int .i64 k, .bool st, .int .u64 (ga : Nat), .slice a ls.length cap, .bool true, .int .u64 0, .int .u64 0]
      obtain ⟨w7, hw7⟩ : ∃ w7, w6.setRow g7 #[.int .i64 k, .bool st, .int .u64 (ga : Nat), .slice a ls.length cap, .bool true, .int .u64 0, .int .u64 0] = w7 := ⟨_, rfl⟩
      have hs_ : w7.heap.size = w6.heap.size := by rw [← hw7, setRow_size]
      rw [hw7] at hw_ hl_
      rw [← hs_] at hl_
      have HS7 := Lib.hid hw_
      have HL7 := Lib.hid hl_
      have HRh7 : Hid (w7.heap[h]? = some (.cells #[.int .i64 k, .bool st, .int .u64 (ga : Nat), .slice a ls.length cap, .bool false, .int .u64 0, .int .u64 0] 25 (0, 0))) := Lib.hid (by rw [← hw7]; exact (setRow_other w6 g7 h _ (by omega)).trans HRh6.out)
      have hz_h_7 : h < w7.heap.size := by rw [hs_]; exact hz_h_6
      have HRg77 : Hid (w7.heap[g7]? = some (.cells #[.int .i64 k, .bool st, .int .u64 (ga : Nat), .slice a ls.length cap, .bool true, .int .u64 0, .int .u64 0] 25 (0, 0))) := Lib.hid (by rw [← hw7]; exact setRow_heap _ _ _ _ _ (0, 0) r_)
      have hz_g7_7 : g7 < w7.heap.size := by rw [hs_]; exact hz_g7_6
      have HB7 : Hid (Below w.heap.size w w7) := Lib.hid (by rw [← hw7]; exact below_setR HB6.out (by omega) _)
      clear hw7 hw_ hl_ hs_ r_
      have r_ := HRg77.out
      have hw_ := setCell_eq_setRow w7 g7 5 _ _ (0, 0) (.int .u64 (no : Nat)) r_
      change _ = w7.setRow g7 #[.int .i64 k, .bool st, .int .u64 (ga : Nat), .slice a ls.length cap, .bool true, .int .u64 (no : Nat), .int .u64 0] at hw_
      have zc8 : ∃ v, w7.cell? ⟨g7, 5, none⟩ = some v := ⟨_, by simp only [World.cell?, r_]; rfl⟩
      obtain ⟨_, zc8⟩ := zc8
      have zf8 : w7.frozen? ⟨g7, 5, none⟩ = false := by simp [World.frozen?, r_]
      have hl_ := HL7.out.rowN (NoTxt.rc rfl r_) #[.int .i64 k, .bool st, .int .u64 (ga : Nat), .slice a ls.length cap, .bool true, .int .u64 (no : Nat), .int .u64 0]
      obtain ⟨w8, hw8⟩ : ∃ w8, w7.setRow g7 #[.int .i64 k, .bool st, .int .u64 (ga : Nat), .slice a ls.length cap, .bool true, .int .u64 (no : Nat), .int .u64 0] = w8 := ⟨_, rfl⟩
      have hs_ : w8.heap.size = w7.heap.size := by rw [← hw8, setRow_size]
      rw [hw8] at hw_ hl_
      rw [← hs_] at hl_
      have HS8 := Lib.hid hw_
      have HL8 := Lib.hid hl_
      have HRh8 : Hid (w8.heap[h]? = some (.cells #[.int .i64 k, .bool st, .int .u64 (ga : Nat), .slice a ls.length cap, .bool false, .int .u64 0, .int .u64 0] 25 (0, 0))) := Lib.hid (by rw [← hw8]; exact (setRow_other w7 g7 h _ (by omega)).trans HRh7.out)
      have hz_h_8 : h < w8.heap.size := by rw [hs_]; exact hz_h_7
      have HRg78 : Hid (w8.heap[g7]? = some (.cells #[.int .i64 k, .bool st, .int .u64 (ga : Nat), .slice a ls.length cap, .bool true, .int .u64 (no : Nat), .int .u64 0] 25 (0, 0))) := Lib.hid (by rw [← hw8]; exact setRow_heap _ _ _ _ _ (0, 0) r_)
      have hz_g7_8 : g7 < w8.heap.size := by rw [hs_]; exact hz_g7_7
      have HB8 : Hid (Below w.heap.size w w8) := Lib.hid (by rw [← hw8]; exact below_setR HB7.out (by omega) _)
      clear hw8 hw_ hl_ hs_ r_
      have r_ := HRg78.out
      have d0 : w8.cell? ⟨g7, 0, none⟩ = some (.int .i64 k) := by simp [World.cell?, r_]
      have d1 : w8.cell? ⟨g7, 1, none⟩ = some (.bool st) := by simp [World.cell?, r_]
      have d2 : w8.cell? ⟨g7, 2, none⟩ = some (.int .u64 (ga : Nat)) := by simp [World.cell?, r_]
      have d3 : w8.cell? ⟨g7, 3, none⟩ = some (.slice a ls.length cap) := by simp [World.cell?, r_]
      have d4 : w8.cell? ⟨g7, 4, none⟩ = some (.bool true) := by simp [World.cell?, r_]
      have d5 : w8.cell? ⟨g7, 5, none⟩ = some (.int .u64 (no : Nat)) := by simp [World.cell?, r_]
      have d6 : w8.cell? ⟨g7, 6, none⟩ = some (.int .u64 0) := by simp [World.cell?, r_]
      clear r_
      obtain ⟨g8, hg_g8⟩ : ∃ g8, w8.heap.size = g8 := ⟨_, rfl⟩
      obtain ⟨w9, hw9⟩ : ∃ w9, w8.alloc (.cells #[.int .i64 k, .bool st, .int .u64 (ga : Nat), .slice a ls.length cap, .bool true, .int .u64 (no : Nat), .int .u64 0] 25) = w9 := ⟨_, rfl⟩
      have hb_ : Below w8.heap.size w8 w9 := by rw [← hw9]; exact (Below.refl _ _).alloc (Nat.le_refl _) _
      have HRh9 := Lib.hid ((hb_.block h hz_h_8).trans HRh8.out)
      have hz_h_9 : h < w9.heap.size := Nat.lt_of_lt_of_le hz_h_8 hb_.size
      have hlt_h_g8 : h < g8 := by omega
      have HRg79 := Lib.hid ((hb_.block g7 hz_g7_8).trans HRg78.out)
      have hz_g7_9 : g7 < w9.heap.size := Nat.lt_of_lt_of_le hz_g7_8 hb_.size
      have hlt_g7_g8 : g7 < g8 := by omega
      have r_ : w9.heap[g8]? = some (.cells #[.int .i64 k, .bool st, .int .u64 (ga : Nat), .slice a ls.length cap, .bool true, .int .u64 (no : Nat), .int .u64 0] 25 (0, 0)) := by rw [← hw9, ← hg_g8]; exact heap_alloc_new w8 _
      have HRg89 := Lib.hid r_
      have hz_g8_9 : g8 < w9.heap.size := (Array.getElem?_eq_some_iff.1 r_).1
      have HB9 := Lib.hid (HB8.out.trans (hb_.mono HB8.out.size))
      have HL9 := Lib.hid (HL8.out.kept hb_)
      have HS9 := Lib.hid hw9
      clear hb_ hw9 r_
      have r_ := HRg89.out
      have hw_ := setCell_eq_setRow w9 g8 6 _ _ (0, 0) (.int .u64 1) r_
      change _ = w9.setRow g8 #[.int .i64 k, .bool st, .int .u64 (ga : Nat), .slice a ls.length cap, .bool true, .int .u64 (no : Nat), .int .u64 1] at hw_
      have zc10 : ∃ v, w9.cell? ⟨g8, 6, none⟩ = some v := ⟨_, by simp only [World.cell?, r_]; rfl⟩
      obtain ⟨_, zc10⟩ := zc10
      have zf10 : w9.frozen? ⟨g8, 6, none⟩ = false := by simp [World.frozen?, r_]
      have hl_ := HL9.out.rowN (NoTxt.rc rfl r_) #[.int .i64 k, .bool st, .int .u64 (ga : Nat), .slice a ls.length cap, .bool true, .int .u64 (no : Nat), .int .u64 1]
      obtain ⟨w10, hw10⟩ : ∃ w10, w9.setRow g8 #[.int .i64 k, .bool st, .int .u64 (ga : Nat), .slice a ls.length cap, .bool true, .int .u64 (no : Nat), .int .u64 1] = w10 := ⟨_, rfl⟩
      have hs_ : w10.heap.size = w9.heap.size := by rw [← hw10, setRow_size]
      rw [hw10] at hw_ hl_
      rw [← hs_] at hl_
      have HS10 := Lib.hid hw_
      have HL10 := Lib.hid hl_
      have HRh10 : Hid (w10.heap[h]? = some (.cells #[.int .i64 k, .bool st, .int .u64 (ga : Nat), .slice a ls.length cap, .bool false, .int .u64 0, .int .u64 0] 25 (0, 0))) := Lib.hid (by rw [← hw10]; exact (setRow_other w9 g8 h _ (by omega)).trans HRh9.out)
      have hz_h_10 : h < w10.heap.size := by rw [hs_]; exact hz_h_9
      have HRg710 : Hid (w10.heap[g7]? = some (.cells #[.int .i64 k, .bool st, .int .u64 (ga : Nat), .slice a ls.length cap, .bool true, .int .u64 (no : Nat), .int .u64 0] 25 (0, 0))) := Lib.hid (by rw [← hw10]; exact (setRow_other w9 g8 g7 _ (by omega)).trans HRg79.out)
      have hz_g7_10 : g7 < w10.heap.size := by rw [hs_]; exact hz_g7_9
      have HRg810 : Hid (w10.heap[g8]? = some (.cells #[.int .i64 k, .bool st, .int .u64 (ga : Nat), .slice a ls.length cap, .bool true, .int .u64 (no : Nat), .int .u64 1] 25 (0, 0))) := Lib.hid (by rw [← hw10]; exact setRow_heap _ _ _ _ _ (0, 0) r_)
      have hz_g8_10 : g8 < w10.heap.size := by rw [hs_]; exact hz_g8_9
      have HB10 : Hid (Below w.heap.size w w10) := Lib.hid (by rw [← hw10]; exact below_setR HB9.out (by omega) _)
      clear hw10 hw_ hl_ hs_ r_
      have r_ := HRh10.out
      have e0 : w10.cell? ⟨h, 0, none⟩ = some (.int .i64 k) := by simp [World.cell?, r_]
      have e1 : w10.cell? ⟨h, 1, none⟩ = some (.bool st) := by simp [World.cell?, r_]
      have e2 : w10.cell? ⟨h, 2, none⟩ = some (.int .u64 (ga : Nat)) := by simp [World.cell?, r_]
      have e3 : w10.cell? ⟨h, 3, none⟩ = some (.slice a ls.length cap) := by simp [World.cell?, r_]
      have e4 : w10.cell? ⟨h, 4, none⟩ = some (.bool false) := by simp [World.cell?, r_]
      have e5 : w10.cell? ⟨h, 5, none⟩ = some (.int .u64 0) := by simp [World.cell?, r_]
      have e6 : w10.cell? ⟨h, 6, none⟩ = some (.int .u64 0) := by simp [World.cell?, r_]
      clear r_
      go_wp2_with (first | rw [HS3.out] | rw [HS4.out] | rw [HS5.out] | rw [HS6.out] | rw [HS7.out] | rw [HS8.out] | rw [HS9.out] | rw [HS10.out] | rw [hg_g7] | rw [hg_g8])
      clear c0 c1 c2 c3 c4 c5 c6 d0 d1 d2 d3 d4 d5 d6 e0 e1 e2 e3 e4 e5 e6
      refine (HEX.out _ HFW.out HL10.out).mono ?_
      rintro e w11 ⟨rfl, hb_⟩
      have HRh11 := Lib.hid ((hb_.block h hz_h_10).trans HRh10.out)
      have hz_h_11 : h < w11.heap.size := Nat.lt_of_lt_of_le hz_h_10 hb_.size
      have HRg711 := Lib.hid ((hb_.block g7 hz_g7_10).trans HRg710.out)
      have hz_g7_11 : g7 < w11.heap.size := Nat.lt_of_lt_of_le hz_g7_10 hb_.size
      have HRg811 := Lib.hid ((hb_.block g8 hz_g8_10).trans HRg810.out)
      have hz_g8_11 : g8 < w11.heap.size := Nat.lt_of_lt_of_le hz_g8_10 hb_.size
      have HB11 := Lib.hid (HB10.out.trans (hb_.mono HB10.out.size))
      have HL11 := Lib.hid (HL10.out.kept hb_)
      clear hb_
      have r_ := HRg711.out
      have c0 : w11.cell? ⟨g7, 0, none⟩ = some (.int .i64 k) := by simp [World.cell?, r_]
      have c1 : w11.cell? ⟨g7, 1, none⟩ = some (.bool st) := by simp [World.cell?, r_]
      have c2 : w11.cell? ⟨g7, 2, none⟩ = some (.int .u64 (ga : Nat)) := by simp [World.cell?, r_]
      have c3 : w11.cell? ⟨g7, 3, none⟩ = some (.slice a ls.length cap) := by simp [World.cell?, r_]
      have c4 : w11.cell? ⟨g7, 4, none⟩ = some (.bool true) := by simp [World.cell?, r_]
      have c5 : w11.cell? ⟨g7, 5, none⟩ = some (.int .u64 (no : Nat)) := by simp [World.cell?, r_]
      have c6 : w11.cell? ⟨g7, 6, none⟩ = some (.int .u64 0) := by simp [World.cell?, r_]
      clear r_
      go_wp2_with fail
      clear c0 c1 c2 c3 c4 c5 c6
      refine (HEY.out _ HFW.out HL11.out).mono ?_
      rintro e w12 ⟨rfl, hb_⟩
      have HRh12 := Lib.hid ((hb_.block h hz_h_11).trans HRh11.out)
      have hz_h_12 : h < w12.heap.size := Nat.lt_of_lt_of_le hz_h_11 hb_.size
      have HRg712 := Lib.hid ((hb_.block g7 hz_g7_11).trans HRg711.out)
      have hz_g7_12 : g7 < w12.heap.size := Nat.lt_of_lt_of_le hz_g7_11 hb_.size
      have HRg812 := Lib.hid ((hb_.block g8 hz_g8_11).trans HRg811.out)
      have hz_g8_12 : g8 < w12.heap.size := Nat.lt_of_lt_of_le hz_g8_11 hb_.size
      have HB12 := Lib.hid (HB11.out.trans (hb_.mono HB11.out.size))
      have HL12 := Lib.hid (HL11.out.kept hb_)
      clear hb_
      have r_ := HRg812.out
      have c0 : w12.cell? ⟨g8, 0, none⟩ = some (.int .i64 k) := by simp [World.cell?, r_]
      have c1 : w12.cell? ⟨g8, 1, none⟩ = some (.bool st) := by simp [World.cell?, r_]
      have c2 : w12.cell? ⟨g8, 2, none⟩ = some (.int .u64 (ga : Nat)) := by simp [World.cell?, r_]
      have c3 : w12.cell? ⟨g8, 3, none⟩ = some (.slice a ls.length cap) := by simp [World.cell?, r_]
      have c4 : w12.cell? ⟨g8, 4, none⟩ = some (.bool true) := by simp [World.cell?, r_]
      have c5 : w12.cell? ⟨g8, 5, none⟩ = some (.int .u64 (no : Nat)) := by simp [World.cell?, r_]
      have c6 : w12.cell? ⟨g8, 6, none⟩ = some (.int .u64 1) := by simp [World.cell?, r_]
      clear r_
      go_wp2_with fail
      clear c0 c1 c2 c3 c4 c5 c6
      refine (HEZ.out _ HFW.out HL12.out).mono ?_
      rintro e w13 ⟨rfl, hb_⟩
      have HRh13 := Lib.hid ((hb_.block h hz_h_12).trans HRh12.out)
      have hz_h_13 : h < w13.heap.size := Nat.lt_of_lt_of_le hz_h_12 hb_.size
      have HRg713 := Lib.hid ((hb_.block g7 hz_g7_12).trans HRg712.out)
      have hz_g7_13 : g7 < w13.heap.size := Nat.lt_of_lt_of_le hz_g7_12 hb_.size
      have HRg813 := Lib.hid ((hb_.block g8 hz_g8_12).trans HRg812.out)
      have hz_g8_13 : g8 < w13.heap.size := Nat.lt_of_lt_of_le hz_g8_12 hb_.size
      have HB13 := Lib.hid (HB12.out.trans (hb_.mono HB12.out.size))
      have HL13 := Lib.hid (HL12.out.kept hb_)
      clear hb_
      have r_ := HRh13.out
      have c0 : w13.cell? ⟨h, 0, none⟩ = some (.int .i64 k) := by simp [World.cell?, r_]
      have c1 : w13.cell? ⟨h, 1, none⟩ = some (.bool st) := by simp [World.cell?, r_]
      have c2 : w13.cell? ⟨h, 2, none⟩ = some (.int .u64 (ga : Nat)) := by simp [World.cell?, r_]
      have c3 : w13.cell? ⟨h, 3, none⟩ = some (.slice a ls.length cap) := by simp [World.cell?, r_]
      have c4 : w13.cell? ⟨h, 4, none⟩ = some (.bool false) := by simp [World.cell?, r_]
      have c5 : w13.cell? ⟨h, 5, none⟩ = some (.int .u64 0) := by simp [World.cell?, r_]
      have c6 : w13.cell? ⟨h, 6, none⟩ = some (.int .u64 0) := by simp [World.cell?, r_]
      clear r_
      go_wp2_with fail
      go_ret
      refine ⟨?_, HB13.out⟩
      show Ending.returned (.bool ((cy : Int) != 0 && (cz : Int) != 0)) = .returned (.bool true)
      simp [hY, hZ]
end Go.Proofs.YtihiacbhdcahkaaGreatDoor
