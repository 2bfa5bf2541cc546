/- The landed package merkle: roots of lists of bits, of unions. The landed package merkle: roots of lists of bits, of unions. The landed package merkle: Root. The landed package merkle: Root, of any value. The landed package merkle: Root, its error. The example of layer 9, walked. The example of layer 9, walked. The law of trees. A slice of texts that comes in, as it lies in memory. The tables of keccak as the cards of layer 9 list them. MerkleTrees: the statement: for every input the call returns true and each argument reads as it did. The listed library tables are tied to the text (the card). Its condition: none beyond the card's own words. -/
import Derived.Test.YtaajkbclojmbeaaGreatDoorH18
import Derived.Test.YtaajkbclojmbeaaGreatDoorH16
import Derived.Test.YtaajkbclojmbeaaGreatDoorH17
import Derived.OpenShut
import Derived.Test.YtaajkbclojmbeaaGreatDoorH03
import Derived.Lib.SmallJoins
import Derived.Deep.Slices
import Derived.SizedLaws
import Derived.Test.YtaajkbclojmbeaaGreatDoorH15
import Derived.Test.YtaajkbclojmbeaaGreatDoorRows
import Derived.ProofKit
import Derived.Lib.LaidTab
import Derived.MakeChecks
import Derived.Stop.LaidErr
import Derived.Test.YtaajkbclojmbeaaGreatDoorCards
import Derived.Test.YtaajkbclojmbeaaGreatDoorTie
import Derived.ShutString
import Derived.ChangeOld
import Derived.Below
import Derived.LaidMore
import Derived.Lay
import Derived.SevenTiedAt
import Derived.Stop.Joined
namespace Go.Proofs.YtaajkbclojmbeaaGreatDoor
open Go Go.RowKit Go.Shelf Go.Lib
attribute [local go_sem] Oper.semAt_some

set_option maxRecDepth 100000 in
set_option maxHeartbeats 8000000 in
theorem bitlist_any (m : Nat) (at_ : Option Addr) (ct : Nat) (N : Nat) (bs : List Bool) (us : List M.Va) (p : Int) (ab : Option Addr) (cb : Nat) (au : Option Addr) (cu : Nat) (w : World) (hV : Vl w w.heap.size N bs us ab cb au cu) (hm : m ≤ 512) (hbl : bs.length ≤ m) (hTab : Tab w) (hm1 : 1 ≤ m) :
    Calls Tryz.prog 53 #[tv 6 (m : Nat) (.slice at_ 0 ct), vv N (.slice ab bs.length cb) (.slice au us.length cu) p] w (RP w (M.rootV (.mk 6 (m : Nat) []) (.mk N bs us p))) := by
  have hsz : M.sizeT (.mk 5 (m : Nat) []) = (m + 7) / 8 := by
    have hc5 : M.chkT 0 (.mk 5 (m : Nat) []) = 0 := by
      refine M.chkT_ok.2 ⟨by omega, ?_, by omega, rfl⟩
      unfold M.formT
      simp
      omega
    rw [(size_whole (Or.inr (Or.inr rfl)) hc5).1, M.szT5, Int.toNat_natCast]
  obtain ⟨w0, hw0⟩ : ∃ w0, (w.alloc (.cells #[.int .i64 6, .int .i64 (m : Nat), .slice at_ 0 ct] 32)).alloc (.cells #[.int .u64 (M.pt 0 N), .int .u64 (M.pt 1 N), .int .u64 (M.pt 2 N), .int .u64 (M.pt 3 N), .slice ab bs.length cb, .slice au us.length cu, .int .i64 p] 38) = w0 := ⟨_, rfl⟩
  have hb0 : Below w.heap.size w w0 := by rw [← hw0]; exact two_boxes _ _ _
  have hz0 : w0.heap.size = w.heap.size + 2 := by rw [← hw0]; simp
  have hB0 : BoxT w0 w.heap.size 6 (m : Nat) (.slice at_ 0 ct) := by rw [← hw0]; exact ⟨by simp [go_sem], by simp [go_sem], by simp [go_sem]⟩
  have hA0 : Cells7 w0 (w.heap.size + 1) 0 N (.slice ab bs.length cb) (.slice au us.length cu) p := by
    rw [← hw0]
    have := Cells7.new (w.alloc (.cells #[.int .i64 6, .int .i64 (m : Nat), .slice at_ 0 ct] 32)) N (.slice ab bs.length cb) (.slice au us.length cu) p 38
    rwa [World.size_alloc] at this
  have hlt0 : w.heap.size < w0.heap.size := by omega
  have hlt1 : w.heap.size + 1 < w0.heap.size := by omega
  have HW := Lib.hid hw0
  have HZ0 := Lib.hid hz0
  have mixed : Tryz.prog.follows .mixedOrders = true := by kernel_rfl
  clear hw0 hz0
  have HP := Lib.hid (fun X (h : Below w0.heap.size w0 X) => putBitsM_any bs ab cb X ((hV.from_ (hb0.trans (h.mono hb0.size))).mono (hb0.trans (h.mono hb0.size)).size).b (by omega))
  have HO := Lib.hid (fun X => bitsOfM_any m X)
  have HZ := Lib.hid (fun X => shape_size 5 (m : Nat) [] none 0 X (.nil_ (by decide)) (by simp [M.cntT, M.cntTs]))
  have hpk : (M.packB bs).length ≤ 100 := by rw [M.pack_length]; omega
  rw [M.rootV6, Int.toNat_natCast]
  have hl6 : (M.packT (M.packB bs) ((m + 7) / 8)).length = 32 := M.treeT_length _ (M.chunks_all _)
  have hHK : ∀ X (h : Below w0.heap.size w0 X), Calls Tryz.prog 46 #[.string ⟨(M.packB bs).toArray⟩, .int .i64 (M.sizeT (.mk 5 (m : Nat) []) : Nat)] X (RP X (M.packT (M.packB bs) ((m + 7) / 8))) := fun X h => by
    rw [hsz]
    exact packed_any (M.packB bs) ((m + 7) / 8) X (by omega) (by omega) (hTab.from (hb0.trans (h.mono hb0.size)))
  have HK := Lib.hid hHK
  generalize M.packT (M.packB bs) ((m + 7) / 8) = R at *
  generalize M.packB bs = s at *
  generalize M.sizeT (.mk 5 (m : Nat) []) = z at *
  have HM := Lib.hid (fun X (h : Below w0.heap.size w0 X) => mmix_any R bs.length X (by omega) hl6 (hTab.from (hb0.trans (h.mono hb0.size))))
  have hbl9 : bs.length ≤ 512 := by omega
  clear hHK hl6 hpk hsz
  go_enter Tryz.func53, Tryz.ntmps53
  go_wp2_with fail
  rw [HW.out]
  refine wp_region_held (S := fun Y => Below w0.heap.size w0 Y) mixed ?_
  have hS0 : Below w0.heap.size w0 { w0 with drawn := w0.drawn + 1 } := Below.drew (Below.refl _ _)
  rw [show Array.replicate (Array.size _) false = #[false, false, false, false, false, false, false, false, false, false, false, false, false, false] from rfl, show Array.size (α := Oper) _ = 14 from rfl]
  refine wpAnyH_take (i := 0) (v := .pointer (some ⟨w.heap.size + 1, 4, none⟩)) rfl (by kernel_rfl) (by kernel_rfl) (by kernel_rfl) (fun _ _ _ h => h) (Or.inl ⟨by rfl, ?_⟩) hS0 ?_
  · intro Y hY
    skip
    go_simp
  simp only [Act.put, List.getElem_toArray, List.getElem_cons_zero, List.setIfInBounds_toArray, List.set_cons_zero, List.set_cons_succ]
  refine wpAnyH_take (i := 1) (v := .slice ab bs.length cb) rfl (by kernel_rfl) (by kernel_rfl) (by kernel_rfl) (fun _ _ _ h => h) (Or.inl ⟨by rfl, ?_⟩) hS0 ?_
  · intro Y hY
    have hAY := hA0.from_ hY hlt1; have a0 := hAY.c0; have a1 := hAY.c1; have a2 := hAY.c2; have a3 := hAY.c3; have a4 := hAY.c4; have a5 := hAY.c5; have a6 := hAY.c6; simp only [Nat.zero_add] at a1 a2 a3 a4 a5 a6
    go_simp
  simp only [Act.put, List.getElem_toArray, List.getElem_cons_succ, List.getElem_cons_zero, List.setIfInBounds_toArray, List.set_cons_zero, List.set_cons_succ]
  refine wpAnyH_take (i := 3) (v := .pointer (some ⟨w.heap.size, 1, none⟩)) rfl (by kernel_rfl) (by kernel_rfl) (by kernel_rfl) (fun _ _ _ h => h) (Or.inl ⟨by rfl, ?_⟩) hS0 ?_
  · intro Y hY
    skip
    go_simp
  simp only [Act.put, List.getElem_toArray, List.getElem_cons_succ, List.getElem_cons_zero, List.setIfInBounds_toArray, List.set_cons_zero, List.set_cons_succ]
  refine wpAnyH_take (i := 4) (v := .int .i64 (m : Nat)) rfl (by kernel_rfl) (by kernel_rfl) (by kernel_rfl) (fun _ _ _ h => h) (Or.inl ⟨by rfl, ?_⟩) hS0 ?_
  · intro Y hY
    have b0 := (hY.cell (p := ⟨w.heap.size, 0, none⟩) hlt0).trans hB0.c0; have b1 := (hY.cell (p := ⟨w.heap.size, 1, none⟩) hlt0).trans hB0.c1; have b2 := (hY.cell (p := ⟨w.heap.size, 2, none⟩) hlt0).trans hB0.c2
    go_simp
  simp only [Act.put, List.getElem_toArray, List.getElem_cons_succ, List.getElem_cons_zero, List.setIfInBounds_toArray, List.set_cons_zero, List.set_cons_succ]
  refine wpAnyH_take (i := 8) (v := .pointer (some ⟨w.heap.size + 1, 4, none⟩)) rfl (by kernel_rfl) (by kernel_rfl) (by kernel_rfl) (fun _ _ _ h => h) (Or.inl ⟨by rfl, ?_⟩) hS0 ?_
  · intro Y hY
    skip
    go_simp
  simp only [Act.put, List.getElem_toArray, List.getElem_cons_succ, List.getElem_cons_zero, List.setIfInBounds_toArray, List.set_cons_zero, List.set_cons_succ]
  refine wpAnyH_take (i := 9) (v := .slice ab bs.length cb) rfl (by kernel_rfl) (by kernel_rfl) (by kernel_rfl) (fun _ _ _ h => h) (Or.inl ⟨by rfl, ?_⟩) hS0 ?_
  · intro Y hY
    have hAY := hA0.from_ hY hlt1; have a0 := hAY.c0; have a1 := hAY.c1; have a2 := hAY.c2; have a3 := hAY.c3; have a4 := hAY.c4; have a5 := hAY.c5; have a6 := hAY.c6; simp only [Nat.zero_add] at a1 a2 a3 a4 a5 a6
    go_simp
  simp only [Act.put, List.getElem_toArray, List.getElem_cons_succ, List.getElem_cons_zero, List.setIfInBounds_toArray, List.set_cons_zero, List.set_cons_succ]
  refine wpAnyH_take (i := 10) (v := .int .i64 (bs.length : Nat)) rfl (by kernel_rfl) (by kernel_rfl) (by kernel_rfl) (fun _ _ _ h => h) (Or.inl ⟨by rfl, ?_⟩) hS0 ?_
  · intro Y hY
    skip
    go_simp
  simp only [Act.put, List.getElem_toArray, List.getElem_cons_succ, List.getElem_cons_zero, List.setIfInBounds_toArray, List.set_cons_zero, List.set_cons_succ]
  refine wpAnyH_take (i := 11) (v := .int .u64 (bs.length : Nat)) rfl (by kernel_rfl) (by kernel_rfl) (by kernel_rfl) (fun _ _ _ h => h) (Or.inl ⟨by rfl, ?_⟩) hS0 ?_
  · intro Y hY
    skip
    go_simp
    first | done | (rw [IntKind.wrap_u64]; omega)
  simp only [Act.put, List.getElem_toArray, List.getElem_cons_succ, List.getElem_cons_zero, List.setIfInBounds_toArray, List.set_cons_zero, List.set_cons_succ]
  refine wpAnyH_ready (rs := [2]) (by kernel_rfl) (by simp) ?_
  refine AllReadyH.cons rfl (fun K hK => ?_) AllReadyH.nil
  go_simp
  refine (HP.out _ hS0).mono ?_
  rintro e w1 ⟨rfl, hb1⟩
  have hS1 : Below w0.heap.size w0 w1 := hS0.trans (Below.mono hb1 hS0.size)
  try go_wp2_with fail
  refine hK.out _ _ hS1 (fun _ => ?_)
  clear hK K
  simp only [List.setIfInBounds_toArray, List.set_cons_zero, List.set_cons_succ]
  refine wpAnyH_ready (rs := [5]) (by kernel_rfl) (by simp) ?_
  refine AllReadyH.cons rfl (fun K hK => ?_) AllReadyH.nil
  go_simp
  refine (HO.out _).mono ?_
  rintro e w2 ⟨rfl, hb2⟩
  have hS2 : Below w0.heap.size w0 w2 := hS1.trans (Below.mono hb2 hS1.size)
  try go_wp2_with fail
  refine hK.out _ _ hS2 (fun _ => ?_)
  clear hK K
  simp only [List.setIfInBounds_toArray, List.set_cons_zero, List.set_cons_succ]
  refine wpAnyH_ready (rs := [6]) (by kernel_rfl) (by simp) ?_
  refine AllReadyH.cons rfl (fun K hK => ?_) AllReadyH.nil
  go_simp
  refine (HZ.out _).mono ?_
  rintro e w3 ⟨rfl, hb3⟩
  have hS3 : Below w0.heap.size w0 w3 := hS2.trans (Below.mono hb3 hS2.size)
  try go_wp2_with fail
  refine hK.out _ _ hS3 (fun _ => ?_)
  clear hK K
  simp only [List.setIfInBounds_toArray, List.set_cons_zero, List.set_cons_succ]
  refine wpAnyH_ready (rs := [7]) (by kernel_rfl) (by simp) ?_
  refine AllReadyH.cons rfl (fun K hK => ?_) AllReadyH.nil
  go_simp
  refine (HK.out _ hS3).mono ?_
  rintro e w4 ⟨rfl, hb4⟩
  have hS4 : Below w0.heap.size w0 w4 := hS3.trans (Below.mono hb4 hS3.size)
  try go_wp2_with fail
  refine hK.out _ _ hS4 (fun _ => ?_)
  clear hK K
  simp only [List.setIfInBounds_toArray, List.set_cons_zero, List.set_cons_succ]
  refine wpAnyH_ready (rs := [12]) (by kernel_rfl) (by simp) ?_
  refine AllReadyH.cons rfl (fun K hK => ?_) AllReadyH.nil
  go_simp
  refine (HM.out _ hS4).mono ?_
  rintro e w5 ⟨rfl, hb5⟩
  have hS5 : Below w0.heap.size w0 w5 := hS4.trans (Below.mono hb5 hS4.size)
  try go_wp2_with fail
  refine hK.out _ _ hS5 (fun _ => ?_)
  clear hK K
  simp only [List.setIfInBounds_toArray, List.set_cons_zero, List.set_cons_succ]
  refine wpAnyH_ready (rs := [13]) (by kernel_rfl) (by simp) ?_
  refine AllReadyH.cons rfl (fun K hK => ?_) AllReadyH.nil
  go_simp
  refine hK.out _ _ hS5 (fun _ => ?_)
  clear hK K
  simp only [List.setIfInBounds_toArray, List.set_cons_zero, List.set_cons_succ]
  refine wpAnyH_done (by kernel_rfl) ?_ _
  go_wp2_with fail
  go_ret
  exact ⟨rfl, hb0.trans (Below.mono hS5 hb0.size)⟩
end Go.Proofs.YtaajkbclojmbeaaGreatDoor
namespace Go.Proofs.YtaajkbclojmbeaaGreatDoor
open Go Go.RowKit Go.Shelf Go.Lib
attribute [local go_sem] Oper.semAt_some

set_option maxRecDepth 100000 in
set_option maxHeartbeats 8000000 in
theorem union_any (z : Nat) (ih : Hid (RootC z)) (n : Int) (ts : List M.Ty) (at_ : Option Addr) (ct : Nat) (N : Nat) (bs : List Bool) (u : M.Va) (P : Nat) (ab : Option Addr) (cb : Nat) (au : Option Addr) (cu : Nat) (w : World) (mb kb ib : Nat) (hT : LayT w w.heap.size ts (.slice at_ ts.length ct)) (hV : Vl w w.heap.size N bs [u] ab cb au cu) (hs : SizeOf.sizeOf [u] ≤ z + 1) (hc : M.chkT 0 (.mk 8 n ts) = 0) (hf : M.fitV (.mk 8 n ts) (.mk N bs [u] (P : Nat)) = 0) (h1 : M.cntT (.mk 8 n ts) ≤ 1000) (h2 : M.cntV (.mk N bs [u] (P : Nat)) ≤ 6000) (hK : Tbl w w.heap.size mb kb ib) (hTab : Tab w) :
    Calls Tryz.prog 57 #[tv 8 n (.slice at_ ts.length ct), vv N (.slice ab bs.length cb) (.slice au 1 cu) (P : Nat), .pointer (some ⟨kb, 0, none⟩)] w (RP w (M.rootV (.mk 8 n ts) (.mk N bs [u] (P : Nat)))) := by
  obtain ⟨_, ho, hfs⟩ := M.of_fit hf
  have hform := (M.chkT_ok.1 hc).2.1
  have htl : ts.length ≤ 8 := by unfold M.formT at hform; simp at hform; omega
  have hP : P < ts.length := by rw [M.ofV_8] at ho; simp at ho; omega
  have hin8 : M.inT 8 ts (P : Nat) 0 = ts[P] := by unfold M.inT; simp [List.getElem?_eq_getElem hP]
  have hfu := M.fitVs_at 8 ts (P : Nat) [u] 0 0 u hfs rfl
  rw [Nat.zero_add, hin8] at hfu
  have hchk := M.chkT_in hc (List.getElem_mem hP)
  rw [M.rootV8, M.rootVs, hin8, Int.toNat_natCast, List.headD_cons]
  have hcT : M.cntTs ts ≤ 999 := by rw [M.cntT] at h1; omega
  have hcV : M.cntVs [u] ≤ 5999 := by rw [M.cntV] at h2; omega
  obtain ⟨c, x, k', n', us', ua, uc, hat, hcn, hxt, e0, e1, e2, hLt⟩ := hT.at_ hP
  subst hat
  rw [List.getElem?_eq_getElem hP] at hxt
  obtain ⟨b, o, N', bs', vs', q', ab', cb', av', cv', hau, hbn, hxk, h7, hVl⟩ := hV.v.at_ (i := 0) (by simp)
  subst hau
  obtain rfl : u = .mk N' bs' vs' q' := by simpa using hxk
  have hcx := M.cntT_part (List.getElem_mem hP)
  have hsx := size_va hxk
  rw [M.Va.mk.sizeOf_spec] at hsx
  have hxt' : ts[P] = .mk k' n' us' := Option.some.inj hxt
  rw [hxt'] at hfu hchk hcx ⊢
  simp only [Nat.zero_mul, Nat.add_zero] at h7
  have hl8 := M.root_length _ _ hfu
  have hcx2 : M.cntV (.mk N' bs' vs' q') ≤ 6000 := by have := M.cntV_part (List.mem_of_getElem? hxk); omega
  obtain ⟨w0, hw0⟩ : ∃ w0, (w.alloc (.cells #[.int .i64 8, .int .i64 n, .slice (some ⟨c, x, none⟩) ts.length ct] 32)).alloc (.cells #[.int .u64 (M.pt 0 N), .int .u64 (M.pt 1 N), .int .u64 (M.pt 2 N), .int .u64 (M.pt 3 N), .slice ab bs.length cb, .slice (some ⟨b, o, none⟩) 1 cu, .int .i64 (P : Nat)] 38) = w0 := ⟨_, rfl⟩
  have hb0 : Below w.heap.size w w0 := by rw [← hw0]; exact two_boxes _ _ _
  have hz0 : w0.heap.size = w.heap.size + 2 := by rw [← hw0]; simp
  have hB0 : BoxT w0 w.heap.size 8 n (.slice (some ⟨c, x, none⟩) ts.length ct) := by rw [← hw0]; exact ⟨by simp [go_sem], by simp [go_sem], by simp [go_sem]⟩
  have hA0 : Cells7 w0 (w.heap.size + 1) 0 N (.slice ab bs.length cb) (.slice (some ⟨b, o, none⟩) 1 cu) (P : Nat) := by
    rw [← hw0]
    have := Cells7.new (w.alloc (.cells #[.int .i64 8, .int .i64 n, .slice (some ⟨c, x, none⟩) ts.length ct] 32)) N (.slice ab bs.length cb) (.slice (some ⟨b, o, none⟩) 1 cu) (P : Nat) 38
    rwa [World.size_alloc] at this
  have hlt0 : w.heap.size < w0.heap.size := by omega
  have hlt1 : w.heap.size + 1 < w0.heap.size := by omega
  have HW := Lib.hid hw0
  have HZ0 := Lib.hid hz0
  have mixed : Tryz.prog.follows .mixedOrders = true := by kernel_rfl
  clear hw0 hz0
  have HC : Hid (∀ X, Below w0.heap.size w0 X → Calls Tryz.prog 25 #[.map (some mb), tv k' n' (.slice ua us'.length uc), vv N' (.slice ab' bs'.length cb') (.slice av' vs'.length cv') q'] X (RP X (M.rootV (.mk k' n' us') (.mk N' bs' vs' q')))) := fun X h => by
    have hX : Below w.heap.size w X := hb0.trans (Below.mono h hb0.size)
    exact ih.out k' n' us' ua uc N' bs' vs' q' ab' cb' av' cv' X mb kb ib (by omega) ((hLt.from_ hX).mono hX.size) ((hVl.from_ hX).mono hX.size) hchk hfu (by omega) hcx2 ((hK.from_ hX).mono hX.size) (hTab.from hX)
  generalize M.rootV (.mk k' n' us') (.mk N' bs' vs' q') = R at *
  have HM := Lib.hid (fun X (h : Below w0.heap.size w0 X) => mmix_any R P X (by omega) hl8 (hTab.from (hb0.trans (h.mono hb0.size))))
  have g0 := (hb0.cell (p := ⟨c, x + P * 3, none⟩) hcn).trans e0
  have g1 := (hb0.cell (p := ⟨c, x + P * 3 + 1, none⟩) hcn).trans e1
  have g2 := (hb0.cell (p := ⟨c, x + P * 3 + 2, none⟩) hcn).trans e2
  have hcn0 : c < w0.heap.size := by omega
  have hbn0 : b < w0.heap.size := by omega
  have h7r := h7.from_ hb0 hbn
  have hPi : (P : Int) < ts.length := by omega
  have hkl : kb < w0.heap.size := by have := hK.klt; omega
  have HKB : Hid (Boxed w0 kb 50 (.map (some mb))) := (hb0.block _ hK.klt).trans hK.kbx
  have hP9 : P < 8 := by omega
  clear hfs hf hc ih ho hform hin8 hfu hchk hxt hxt' hxk hLt hVl h7 e0 e1 e2 hcx hsx hcx2 hl8
  go_enter Tryz.func57, Tryz.ntmps57
  go_wp2_with fail
  rw [HW.out]
  refine wp_region_held (S := fun Y => Below w0.heap.size w0 Y) mixed ?_
  have hS0 : Below w0.heap.size w0 { w0 with drawn := w0.drawn + 1 } := Below.drew (Below.refl _ _)
  rw [show Array.replicate (Array.size _) false = #[false, false, false, false, false, false, false, false, false, false, false, false, false, false, false, false, false] from rfl, show Array.size (α := Oper) _ = 17 from rfl]
  refine wpAnyH_take (i := 0) (v := .map (some mb)) rfl (by kernel_rfl) (by kernel_rfl) (by kernel_rfl) (fun _ _ _ h => h) (Or.inl ⟨by rfl, ?_⟩) hS0 ?_
  · intro Y hY
    have kk := (hY.cell (p := ⟨kb, 0, none⟩) hkl).trans HKB.out.cell
    go_simp
  simp only [Act.put, List.getElem_toArray, List.getElem_cons_zero, List.setIfInBounds_toArray, List.set_cons_zero, List.set_cons_succ]
  refine wpAnyH_take (i := 1) (v := .pointer (some ⟨w.heap.size, 2, none⟩)) rfl (by kernel_rfl) (by kernel_rfl) (by kernel_rfl) (fun _ _ _ h => h) (Or.inl ⟨by rfl, ?_⟩) hS0 ?_
  · intro Y hY
    skip
    go_simp
  simp only [Act.put, List.getElem_toArray, List.getElem_cons_succ, List.getElem_cons_zero, List.setIfInBounds_toArray, List.set_cons_zero, List.set_cons_succ]
  refine wpAnyH_take (i := 2) (v := .slice (some ⟨c, x, none⟩) ts.length ct) rfl (by kernel_rfl) (by kernel_rfl) (by kernel_rfl) (fun _ _ _ h => h) (Or.inl ⟨by rfl, ?_⟩) hS0 ?_
  · intro Y hY
    have b0 := (hY.cell (p := ⟨w.heap.size, 0, none⟩) hlt0).trans hB0.c0; have b1 := (hY.cell (p := ⟨w.heap.size, 1, none⟩) hlt0).trans hB0.c1; have b2 := (hY.cell (p := ⟨w.heap.size, 2, none⟩) hlt0).trans hB0.c2
    go_simp
  simp only [Act.put, List.getElem_toArray, List.getElem_cons_succ, List.getElem_cons_zero, List.setIfInBounds_toArray, List.set_cons_zero, List.set_cons_succ]
  refine wpAnyH_take (i := 3) (v := .pointer (some ⟨w.heap.size + 1, 6, none⟩)) rfl (by kernel_rfl) (by kernel_rfl) (by kernel_rfl) (fun _ _ _ h => h) (Or.inl ⟨by rfl, ?_⟩) hS0 ?_
  · intro Y hY
    skip
    go_simp
  simp only [Act.put, List.getElem_toArray, List.getElem_cons_succ, List.getElem_cons_zero, List.setIfInBounds_toArray, List.set_cons_zero, List.set_cons_succ]
  refine wpAnyH_take (i := 4) (v := .int .i64 (P : Nat)) rfl (by kernel_rfl) (by kernel_rfl) (by kernel_rfl) (fun _ _ _ h => h) (Or.inl ⟨by rfl, ?_⟩) hS0 ?_
  · intro Y hY
    have hAY := hA0.from_ hY hlt1; have a0 := hAY.c0; have a1 := hAY.c1; have a2 := hAY.c2; have a3 := hAY.c3; have a4 := hAY.c4; have a5 := hAY.c5; have a6 := hAY.c6; simp only [Nat.zero_add] at a1 a2 a3 a4 a5 a6
    go_simp
  simp only [Act.put, List.getElem_toArray, List.getElem_cons_succ, List.getElem_cons_zero, List.setIfInBounds_toArray, List.set_cons_zero, List.set_cons_succ]
  refine wpAnyH_take (i := 5) (v := .pointer (some ⟨c, x + P * 3, none⟩)) rfl (by kernel_rfl) (by kernel_rfl) (by kernel_rfl) (fun _ _ _ h => h) (Or.inl ⟨by rfl, ?_⟩) hS0 ?_
  · intro Y hY
    skip
    go_simp
  simp only [Act.put, List.getElem_toArray, List.getElem_cons_succ, List.getElem_cons_zero, List.setIfInBounds_toArray, List.set_cons_zero, List.set_cons_succ]
  refine wpAnyH_take (i := 6) (v := tv k' n' (.slice ua us'.length uc)) rfl (by kernel_rfl) (by kernel_rfl) (by kernel_rfl) (fun _ _ _ h => h) (Or.inl ⟨by rfl, ?_⟩) hS0 ?_
  · intro Y hY
    have f0 := (hY.cell (p := ⟨c, x + P * 3, none⟩) hcn0).trans g0; have f1 := (hY.cell (p := ⟨c, x + P * 3 + 1, none⟩) hcn0).trans g1; have f2 := (hY.cell (p := ⟨c, x + P * 3 + 2, none⟩) hcn0).trans g2
    go_simp
  simp only [Act.put, List.getElem_toArray, List.getElem_cons_succ, List.getElem_cons_zero, List.setIfInBounds_toArray, List.set_cons_zero, List.set_cons_succ]
  refine wpAnyH_take (i := 7) (v := .pointer (some ⟨w.heap.size + 1, 5, none⟩)) rfl (by kernel_rfl) (by kernel_rfl) (by kernel_rfl) (fun _ _ _ h => h) (Or.inl ⟨by rfl, ?_⟩) hS0 ?_
  · intro Y hY
    skip
    go_simp
  simp only [Act.put, List.getElem_toArray, List.getElem_cons_succ, List.getElem_cons_zero, List.setIfInBounds_toArray, List.set_cons_zero, List.set_cons_succ]
  refine wpAnyH_take (i := 8) (v := .slice (some ⟨b, o, none⟩) 1 cu) rfl (by kernel_rfl) (by kernel_rfl) (by kernel_rfl) (fun _ _ _ h => h) (Or.inl ⟨by rfl, ?_⟩) hS0 ?_
  · intro Y hY
    have hAY := hA0.from_ hY hlt1; have a0 := hAY.c0; have a1 := hAY.c1; have a2 := hAY.c2; have a3 := hAY.c3; have a4 := hAY.c4; have a5 := hAY.c5; have a6 := hAY.c6; simp only [Nat.zero_add] at a1 a2 a3 a4 a5 a6
    go_simp
  simp only [Act.put, List.getElem_toArray, List.getElem_cons_succ, List.getElem_cons_zero, List.setIfInBounds_toArray, List.set_cons_zero, List.set_cons_succ]
  refine wpAnyH_take (i := 9) (v := .pointer (some ⟨b, o, none⟩)) rfl (by kernel_rfl) (by kernel_rfl) (by kernel_rfl) (fun _ _ _ h => h) (Or.inl ⟨by rfl, ?_⟩) hS0 ?_
  · intro Y hY
    skip
    go_simp
  simp only [Act.put, List.getElem_toArray, List.getElem_cons_succ, List.getElem_cons_zero, List.setIfInBounds_toArray, List.set_cons_zero, List.set_cons_succ]
  refine wpAnyH_take (i := 10) (v := vv N' (.slice ab' bs'.length cb') (.slice av' vs'.length cv') q') rfl (by kernel_rfl) (by kernel_rfl) (by kernel_rfl) (fun _ _ _ h => h) (Or.inl ⟨by rfl, ?_⟩) hS0 ?_
  · intro Y hY
    have hCY := h7r.from_ hY hbn0; have c0 := hCY.c0; have c1 := hCY.c1; have c2 := hCY.c2; have c3 := hCY.c3; have c4 := hCY.c4; have c5 := hCY.c5; have c6 := hCY.c6
    go_simp
  simp only [Act.put, List.getElem_toArray, List.getElem_cons_succ, List.getElem_cons_zero, List.setIfInBounds_toArray, List.set_cons_zero, List.set_cons_succ]
  refine wpAnyH_take (i := 12) (v := .pointer (some ⟨w.heap.size + 1, 6, none⟩)) rfl (by kernel_rfl) (by kernel_rfl) (by kernel_rfl) (fun _ _ _ h => h) (Or.inl ⟨by rfl, ?_⟩) hS0 ?_
  · intro Y hY
    skip
    go_simp
  simp only [Act.put, List.getElem_toArray, List.getElem_cons_succ, List.getElem_cons_zero, List.setIfInBounds_toArray, List.set_cons_zero, List.set_cons_succ]
  refine wpAnyH_take (i := 13) (v := .int .i64 (P : Nat)) rfl (by kernel_rfl) (by kernel_rfl) (by kernel_rfl) (fun _ _ _ h => h) (Or.inl ⟨by rfl, ?_⟩) hS0 ?_
  · intro Y hY
    have hAY := hA0.from_ hY hlt1; have a0 := hAY.c0; have a1 := hAY.c1; have a2 := hAY.c2; have a3 := hAY.c3; have a4 := hAY.c4; have a5 := hAY.c5; have a6 := hAY.c6; simp only [Nat.zero_add] at a1 a2 a3 a4 a5 a6
    go_simp
  simp only [Act.put, List.getElem_toArray, List.getElem_cons_succ, List.getElem_cons_zero, List.setIfInBounds_toArray, List.set_cons_zero, List.set_cons_succ]
  refine wpAnyH_take (i := 14) (v := .int .u64 (P : Nat)) rfl (by kernel_rfl) (by kernel_rfl) (by kernel_rfl) (fun _ _ _ h => h) (Or.inl ⟨by rfl, ?_⟩) hS0 ?_
  · intro Y hY
    skip
    go_simp
    first | done | (rw [IntKind.wrap_u64]; omega)
  simp only [Act.put, List.getElem_toArray, List.getElem_cons_succ, List.getElem_cons_zero, List.setIfInBounds_toArray, List.set_cons_zero, List.set_cons_succ]
  refine wpAnyH_ready (rs := [11]) (by kernel_rfl) (by simp) ?_
  refine AllReadyH.cons rfl (fun K hK => ?_) AllReadyH.nil
  go_simp
  refine (HC.out _ hS0).mono ?_
  rintro e w1 ⟨rfl, hb1⟩
  have hS1 : Below w0.heap.size w0 w1 := hS0.trans (Below.mono hb1 hS0.size)
  try go_wp2_with fail
  refine hK.out _ _ hS1 (fun _ => ?_)
  clear hK K
  simp only [List.setIfInBounds_toArray, List.set_cons_zero, List.set_cons_succ]
  refine wpAnyH_ready (rs := [15]) (by kernel_rfl) (by simp) ?_
  refine AllReadyH.cons rfl (fun K hK => ?_) AllReadyH.nil
  go_simp
  refine (HM.out _ hS1).mono ?_
  rintro e w2 ⟨rfl, hb2⟩
  have hS2 : Below w0.heap.size w0 w2 := hS1.trans (Below.mono hb2 hS1.size)
  try go_wp2_with fail
  refine hK.out _ _ hS2 (fun _ => ?_)
  clear hK K
  simp only [List.setIfInBounds_toArray, List.set_cons_zero, List.set_cons_succ]
  refine wpAnyH_ready (rs := [16]) (by kernel_rfl) (by simp) ?_
  refine AllReadyH.cons rfl (fun K hK => ?_) AllReadyH.nil
  go_simp
  refine hK.out _ _ hS2 (fun _ => ?_)
  clear hK K
  simp only [List.setIfInBounds_toArray, List.set_cons_zero, List.set_cons_succ]
  refine wpAnyH_done (by kernel_rfl) ?_ _
  go_wp2_with fail
  go_ret
  exact ⟨rfl, hb0.trans (Below.mono hS2 hb0.size)⟩
end Go.Proofs.YtaajkbclojmbeaaGreatDoor
namespace Go.Proofs.YtaajkbclojmbeaaGreatDoor
open Go Go.RowKit Go.Shelf Go.Lib
attribute [local go_sem] Oper.semAt_some

set_option maxRecDepth 100000 in
set_option maxHeartbeats 8000000 in
theorem ofK_1 (k n : Int) (ts : List M.Ty) (at_ : Option Addr) (ct : Nat) (N : Nat) (bs : List Bool) (us : List M.Va) (p : Int) (ab : Option Addr) (cb : Nat) (au : Option Addr) (cu : Nat) (w : World) (mb : Nat) (R : List UInt8) (HL : Hid (∀ W', Below w.heap.size w W' → (Instr.lookup 50 (.map (some mb)) (.int .i64 k) false).run Tryz.prog W' = .ok (.func (.func 45) #[] #[]) W'))
    (HC : Hid (∀ X, Below w.heap.size w X → Calls Tryz.prog 45 #[tv k n (.slice at_ ts.length ct), vv N (.slice ab bs.length cb) (.slice au us.length cu) p] X (RP X R))) :
    Calls Tryz.prog 25 #[.map (some mb), tv k n (.slice at_ ts.length ct), vv N (.slice ab bs.length cb) (.slice au us.length cu) p] w (RP w R) := by
  obtain ⟨w0, hw0⟩ : ∃ w0, (w.alloc (.cells #[.int .i64 k, .int .i64 n, .slice at_ ts.length ct] 32)).alloc (.cells #[.int .u64 (M.pt 0 N), .int .u64 (M.pt 1 N), .int .u64 (M.pt 2 N), .int .u64 (M.pt 3 N), .slice ab bs.length cb, .slice au us.length cu, .int .i64 p] 38) = w0 := ⟨_, rfl⟩
  have hb0 : Below w.heap.size w w0 := by rw [← hw0]; exact two_boxes _ _ _
  have hz0 : w0.heap.size = w.heap.size + 2 := by rw [← hw0]; simp
  have hB0 : BoxT w0 w.heap.size k n (.slice at_ ts.length ct) := by rw [← hw0]; exact ⟨by simp [go_sem], by simp [go_sem], by simp [go_sem]⟩
  have hA0 : Cells7 w0 (w.heap.size + 1) 0 N (.slice ab bs.length cb) (.slice au us.length cu) p := by
    rw [← hw0]
    have := Cells7.new (w.alloc (.cells #[.int .i64 k, .int .i64 n, .slice at_ ts.length ct] 32)) N (.slice ab bs.length cb) (.slice au us.length cu) p 38
    rwa [World.size_alloc] at this
  have hlt0 : w.heap.size < w0.heap.size := by omega
  have hlt1 : w.heap.size + 1 < w0.heap.size := by omega
  have HW := Lib.hid hw0
  have HZ0 := Lib.hid hz0
  have mixed : Tryz.prog.follows .mixedOrders = true := by kernel_rfl
  clear hw0 hz0
  have hL := HL.out w0 hb0
  have HC' := Lib.hid (HC.out w0 hb0)
  clear HL HC
  go_enter Tryz.func25, Tryz.ntmps25
  go_wp2_with fail
  rw [HW.out]
  have b0 := hB0.c0
  have b1 := hB0.c1
  have b2 := hB0.c2
  have a0 := hA0.c0
  have a1 := hA0.c1
  have a2 := hA0.c2
  have a3 := hA0.c3
  have a4 := hA0.c4
  have a5 := hA0.c5
  have a6 := hA0.c6
  simp only [Nat.zero_add] at a1 a2 a3 a4 a5 a6
  go_wp2_with fail
  rw [hL]
  go_wp2_with fail
  refine HC'.out.mono ?_
  rintro e w1 ⟨rfl, hb1⟩
  go_wp2_with fail
  go_ret
  exact ⟨rfl, hb0.trans (Below.mono hb1 hb0.size)⟩
set_option maxRecDepth 100000 in
set_option maxHeartbeats 8000000 in
theorem ofK_4 (k n : Int) (ts : List M.Ty) (at_ : Option Addr) (ct : Nat) (N : Nat) (bs : List Bool) (us : List M.Va) (p : Int) (ab : Option Addr) (cb : Nat) (au : Option Addr) (cu : Nat) (w : World) (mb : Nat) (R : List UInt8) (HL : Hid (∀ W', Below w.heap.size w W' → (Instr.lookup 50 (.map (some mb)) (.int .i64 k) false).run Tryz.prog W' = .ok (.func (.func 53) #[] #[]) W'))
    (HC : Hid (∀ X, Below w.heap.size w X → Calls Tryz.prog 53 #[tv k n (.slice at_ ts.length ct), vv N (.slice ab bs.length cb) (.slice au us.length cu) p] X (RP X R))) :
    Calls Tryz.prog 25 #[.map (some mb), tv k n (.slice at_ ts.length ct), vv N (.slice ab bs.length cb) (.slice au us.length cu) p] w (RP w R) := by
  obtain ⟨w0, hw0⟩ : ∃ w0, (w.alloc (.cells #[.int .i64 k, .int .i64 n, .slice at_ ts.length ct] 32)).alloc (.cells #[.int .u64 (M.pt 0 N), .int .u64 (M.pt 1 N), .int .u64 (M.pt 2 N), .int .u64 (M.pt 3 N), .slice ab bs.length cb, .slice au us.length cu, .int .i64 p] 38) = w0 := ⟨_, rfl⟩
  have hb0 : Below w.heap.size w w0 := by rw [← hw0]; exact two_boxes _ _ _
  have hz0 : w0.heap.size = w.heap.size + 2 := by rw [← hw0]; simp
  have hB0 : BoxT w0 w.heap.size k n (.slice at_ ts.length ct) := by rw [← hw0]; exact ⟨by simp [go_sem], by simp [go_sem], by simp [go_sem]⟩
  have hA0 : Cells7 w0 (w.heap.size + 1) 0 N (.slice ab bs.length cb) (.slice au us.length cu) p := by
    rw [← hw0]
    have := Cells7.new (w.alloc (.cells #[.int .i64 k, .int .i64 n, .slice at_ ts.length ct] 32)) N (.slice ab bs.length cb) (.slice au us.length cu) p 38
    rwa [World.size_alloc] at this
  have hlt0 : w.heap.size < w0.heap.size := by omega
  have hlt1 : w.heap.size + 1 < w0.heap.size := by omega
  have HW := Lib.hid hw0
  have HZ0 := Lib.hid hz0
  have mixed : Tryz.prog.follows .mixedOrders = true := by kernel_rfl
  clear hw0 hz0
  have hL := HL.out w0 hb0
  have HC' := Lib.hid (HC.out w0 hb0)
  clear HL HC
  go_enter Tryz.func25, Tryz.ntmps25
  go_wp2_with fail
  rw [HW.out]
  have b0 := hB0.c0
  have b1 := hB0.c1
  have b2 := hB0.c2
  have a0 := hA0.c0
  have a1 := hA0.c1
  have a2 := hA0.c2
  have a3 := hA0.c3
  have a4 := hA0.c4
  have a5 := hA0.c5
  have a6 := hA0.c6
  simp only [Nat.zero_add] at a1 a2 a3 a4 a5 a6
  go_wp2_with fail
  rw [hL]
  go_wp2_with fail
  refine HC'.out.mono ?_
  rintro e w1 ⟨rfl, hb1⟩
  go_wp2_with fail
  go_ret
  exact ⟨rfl, hb0.trans (Below.mono hb1 hb0.size)⟩
set_option maxRecDepth 100000 in
set_option maxHeartbeats 8000000 in
theorem ofK_2 (k n : Int) (ts : List M.Ty) (at_ : Option Addr) (ct : Nat) (N : Nat) (bs : List Bool) (us : List M.Va) (p : Int) (ab : Option Addr) (cb : Nat) (au : Option Addr) (cu : Nat) (w : World) (mb : Nat) (kb : Nat) (R : List UInt8) (HL : Hid (∀ W', Below w.heap.size w W' → (Instr.lookup 50 (.map (some mb)) (.int .i64 k) false).run Tryz.prog W' = .ok (.func (.func 49) #[] #[.pointer (some ⟨kb, 0, none⟩)]) W'))
    (HC : Hid (∀ X, Below w.heap.size w X → Calls Tryz.prog 49 #[tv k n (.slice at_ ts.length ct), vv N (.slice ab bs.length cb) (.slice au us.length cu) p, .pointer (some ⟨kb, 0, none⟩)] X (RP X R))) :
    Calls Tryz.prog 25 #[.map (some mb), tv k n (.slice at_ ts.length ct), vv N (.slice ab bs.length cb) (.slice au us.length cu) p] w (RP w R) := by
  obtain ⟨w0, hw0⟩ : ∃ w0, (w.alloc (.cells #[.int .i64 k, .int .i64 n, .slice at_ ts.length ct] 32)).alloc (.cells #[.int .u64 (M.pt 0 N), .int .u64 (M.pt 1 N), .int .u64 (M.pt 2 N), .int .u64 (M.pt 3 N), .slice ab bs.length cb, .slice au us.length cu, .int .i64 p] 38) = w0 := ⟨_, rfl⟩
  have hb0 : Below w.heap.size w w0 := by rw [← hw0]; exact two_boxes _ _ _
  have hz0 : w0.heap.size = w.heap.size + 2 := by rw [← hw0]; simp
  have hB0 : BoxT w0 w.heap.size k n (.slice at_ ts.length ct) := by rw [← hw0]; exact ⟨by simp [go_sem], by simp [go_sem], by simp [go_sem]⟩
  have hA0 : Cells7 w0 (w.heap.size + 1) 0 N (.slice ab bs.length cb) (.slice au us.length cu) p := by
    rw [← hw0]
    have := Cells7.new (w.alloc (.cells #[.int .i64 k, .int .i64 n, .slice at_ ts.length ct] 32)) N (.slice ab bs.length cb) (.slice au us.length cu) p 38
    rwa [World.size_alloc] at this
  have hlt0 : w.heap.size < w0.heap.size := by omega
  have hlt1 : w.heap.size + 1 < w0.heap.size := by omega
  have HW := Lib.hid hw0
  have HZ0 := Lib.hid hz0
  have mixed : Tryz.prog.follows .mixedOrders = true := by kernel_rfl
  clear hw0 hz0
  have hL := HL.out w0 hb0
  have HC' := Lib.hid (HC.out w0 hb0)
  clear HL HC
  go_enter Tryz.func25, Tryz.ntmps25
  go_wp2_with fail
  rw [HW.out]
  have b0 := hB0.c0
  have b1 := hB0.c1
  have b2 := hB0.c2
  have a0 := hA0.c0
  have a1 := hA0.c1
  have a2 := hA0.c2
  have a3 := hA0.c3
  have a4 := hA0.c4
  have a5 := hA0.c5
  have a6 := hA0.c6
  simp only [Nat.zero_add] at a1 a2 a3 a4 a5 a6
  go_wp2_with fail
  rw [hL]
  go_wp2_with fail
  refine HC'.out.mono ?_
  rintro e w1 ⟨rfl, hb1⟩
  go_wp2_with fail
  go_ret
  exact ⟨rfl, hb0.trans (Below.mono hb1 hb0.size)⟩
set_option maxRecDepth 100000 in
set_option maxHeartbeats 8000000 in
theorem ofK_3 (k n : Int) (ts : List M.Ty) (at_ : Option Addr) (ct : Nat) (N : Nat) (bs : List Bool) (us : List M.Va) (p : Int) (ab : Option Addr) (cb : Nat) (au : Option Addr) (cu : Nat) (w : World) (mb : Nat) (kb : Nat) (R : List UInt8) (HL : Hid (∀ W', Below w.heap.size w W' → (Instr.lookup 50 (.map (some mb)) (.int .i64 k) false).run Tryz.prog W' = .ok (.func (.func 52) #[] #[.pointer (some ⟨kb, 0, none⟩)]) W'))
    (HC : Hid (∀ X, Below w.heap.size w X → Calls Tryz.prog 52 #[tv k n (.slice at_ ts.length ct), vv N (.slice ab bs.length cb) (.slice au us.length cu) p, .pointer (some ⟨kb, 0, none⟩)] X (RP X R))) :
    Calls Tryz.prog 25 #[.map (some mb), tv k n (.slice at_ ts.length ct), vv N (.slice ab bs.length cb) (.slice au us.length cu) p] w (RP w R) := by
  obtain ⟨w0, hw0⟩ : ∃ w0, (w.alloc (.cells #[.int .i64 k, .int .i64 n, .slice at_ ts.length ct] 32)).alloc (.cells #[.int .u64 (M.pt 0 N), .int .u64 (M.pt 1 N), .int .u64 (M.pt 2 N), .int .u64 (M.pt 3 N), .slice ab bs.length cb, .slice au us.length cu, .int .i64 p] 38) = w0 := ⟨_, rfl⟩
  have hb0 : Below w.heap.size w w0 := by rw [← hw0]; exact two_boxes _ _ _
  have hz0 : w0.heap.size = w.heap.size + 2 := by rw [← hw0]; simp
  have hB0 : BoxT w0 w.heap.size k n (.slice at_ ts.length ct) := by rw [← hw0]; exact ⟨by simp [go_sem], by simp [go_sem], by simp [go_sem]⟩
  have hA0 : Cells7 w0 (w.heap.size + 1) 0 N (.slice ab bs.length cb) (.slice au us.length cu) p := by
    rw [← hw0]
    have := Cells7.new (w.alloc (.cells #[.int .i64 k, .int .i64 n, .slice at_ ts.length ct] 32)) N (.slice ab bs.length cb) (.slice au us.length cu) p 38
    rwa [World.size_alloc] at this
  have hlt0 : w.heap.size < w0.heap.size := by omega
  have hlt1 : w.heap.size + 1 < w0.heap.size := by omega
  have HW := Lib.hid hw0
  have HZ0 := Lib.hid hz0
  have mixed : Tryz.prog.follows .mixedOrders = true := by kernel_rfl
  clear hw0 hz0
  have hL := HL.out w0 hb0
  have HC' := Lib.hid (HC.out w0 hb0)
  clear HL HC
  go_enter Tryz.func25, Tryz.ntmps25
  go_wp2_with fail
  rw [HW.out]
  have b0 := hB0.c0
  have b1 := hB0.c1
  have b2 := hB0.c2
  have a0 := hA0.c0
  have a1 := hA0.c1
  have a2 := hA0.c2
  have a3 := hA0.c3
  have a4 := hA0.c4
  have a5 := hA0.c5
  have a6 := hA0.c6
  simp only [Nat.zero_add] at a1 a2 a3 a4 a5 a6
  go_wp2_with fail
  rw [hL]
  go_wp2_with fail
  refine HC'.out.mono ?_
  rintro e w1 ⟨rfl, hb1⟩
  go_wp2_with fail
  go_ret
  exact ⟨rfl, hb0.trans (Below.mono hb1 hb0.size)⟩
set_option maxRecDepth 100000 in
set_option maxHeartbeats 8000000 in
theorem ofK_5 (k n : Int) (ts : List M.Ty) (at_ : Option Addr) (ct : Nat) (N : Nat) (bs : List Bool) (us : List M.Va) (p : Int) (ab : Option Addr) (cb : Nat) (au : Option Addr) (cu : Nat) (w : World) (mb : Nat) (kb : Nat) (R : List UInt8) (HL : Hid (∀ W', Below w.heap.size w W' → (Instr.lookup 50 (.map (some mb)) (.int .i64 k) false).run Tryz.prog W' = .ok (.func (.func 56) #[] #[.pointer (some ⟨kb, 0, none⟩)]) W'))
    (HC : Hid (∀ X, Below w.heap.size w X → Calls Tryz.prog 56 #[tv k n (.slice at_ ts.length ct), vv N (.slice ab bs.length cb) (.slice au us.length cu) p, .pointer (some ⟨kb, 0, none⟩)] X (RP X R))) :
    Calls Tryz.prog 25 #[.map (some mb), tv k n (.slice at_ ts.length ct), vv N (.slice ab bs.length cb) (.slice au us.length cu) p] w (RP w R) := by
  obtain ⟨w0, hw0⟩ : ∃ w0, (w.alloc (.cells #[.int .i64 k, .int .i64 n, .slice at_ ts.length ct] 32)).alloc (.cells #[.int .u64 (M.pt 0 N), .int .u64 (M.pt 1 N), .int .u64 (M.pt 2 N), .int .u64 (M.pt 3 N), .slice ab bs.length cb, .slice au us.length cu, .int .i64 p] 38) = w0 := ⟨_, rfl⟩
  have hb0 : Below w.heap.size w w0 := by rw [← hw0]; exact two_boxes _ _ _
  have hz0 : w0.heap.size = w.heap.size + 2 := by rw [← hw0]; simp
  have hB0 : BoxT w0 w.heap.size k n (.slice at_ ts.length ct) := by rw [← hw0]; exact ⟨by simp [go_sem], by simp [go_sem], by simp [go_sem]⟩
  have hA0 : Cells7 w0 (w.heap.size + 1) 0 N (.slice ab bs.length cb) (.slice au us.length cu) p := by
    rw [← hw0]
    have := Cells7.new (w.alloc (.cells #[.int .i64 k, .int .i64 n, .slice at_ ts.length ct] 32)) N (.slice ab bs.length cb) (.slice au us.length cu) p 38
    rwa [World.size_alloc] at this
  have hlt0 : w.heap.size < w0.heap.size := by omega
  have hlt1 : w.heap.size + 1 < w0.heap.size := by omega
  have HW := Lib.hid hw0
  have HZ0 := Lib.hid hz0
  have mixed : Tryz.prog.follows .mixedOrders = true := by kernel_rfl
  clear hw0 hz0
  have hL := HL.out w0 hb0
  have HC' := Lib.hid (HC.out w0 hb0)
  clear HL HC
  go_enter Tryz.func25, Tryz.ntmps25
  go_wp2_with fail
  rw [HW.out]
  have b0 := hB0.c0
  have b1 := hB0.c1
  have b2 := hB0.c2
  have a0 := hA0.c0
  have a1 := hA0.c1
  have a2 := hA0.c2
  have a3 := hA0.c3
  have a4 := hA0.c4
  have a5 := hA0.c5
  have a6 := hA0.c6
  simp only [Nat.zero_add] at a1 a2 a3 a4 a5 a6
  go_wp2_with fail
  rw [hL]
  go_wp2_with fail
  refine HC'.out.mono ?_
  rintro e w1 ⟨rfl, hb1⟩
  go_wp2_with fail
  go_ret
  exact ⟨rfl, hb0.trans (Below.mono hb1 hb0.size)⟩
set_option maxRecDepth 100000 in
set_option maxHeartbeats 8000000 in
theorem ofK_6 (k n : Int) (ts : List M.Ty) (at_ : Option Addr) (ct : Nat) (N : Nat) (bs : List Bool) (us : List M.Va) (p : Int) (ab : Option Addr) (cb : Nat) (au : Option Addr) (cu : Nat) (w : World) (mb : Nat) (kb : Nat) (R : List UInt8) (HL : Hid (∀ W', Below w.heap.size w W' → (Instr.lookup 50 (.map (some mb)) (.int .i64 k) false).run Tryz.prog W' = .ok (.func (.func 57) #[] #[.pointer (some ⟨kb, 0, none⟩)]) W'))
    (HC : Hid (∀ X, Below w.heap.size w X → Calls Tryz.prog 57 #[tv k n (.slice at_ ts.length ct), vv N (.slice ab bs.length cb) (.slice au us.length cu) p, .pointer (some ⟨kb, 0, none⟩)] X (RP X R))) :
    Calls Tryz.prog 25 #[.map (some mb), tv k n (.slice at_ ts.length ct), vv N (.slice ab bs.length cb) (.slice au us.length cu) p] w (RP w R) := by
  obtain ⟨w0, hw0⟩ : ∃ w0, (w.alloc (.cells #[.int .i64 k, .int .i64 n, .slice at_ ts.length ct] 32)).alloc (.cells #[.int .u64 (M.pt 0 N), .int .u64 (M.pt 1 N), .int .u64 (M.pt 2 N), .int .u64 (M.pt 3 N), .slice ab bs.length cb, .slice au us.length cu, .int .i64 p] 38) = w0 := ⟨_, rfl⟩
  have hb0 : Below w.heap.size w w0 := by rw [← hw0]; exact two_boxes _ _ _
  have hz0 : w0.heap.size = w.heap.size + 2 := by rw [← hw0]; simp
  have hB0 : BoxT w0 w.heap.size k n (.slice at_ ts.length ct) := by rw [← hw0]; exact ⟨by simp [go_sem], by simp [go_sem], by simp [go_sem]⟩
  have hA0 : Cells7 w0 (w.heap.size + 1) 0 N (.slice ab bs.length cb) (.slice au us.length cu) p := by
    rw [← hw0]
    have := Cells7.new (w.alloc (.cells #[.int .i64 k, .int .i64 n, .slice at_ ts.length ct] 32)) N (.slice ab bs.length cb) (.slice au us.length cu) p 38
    rwa [World.size_alloc] at this
  have hlt0 : w.heap.size < w0.heap.size := by omega
  have hlt1 : w.heap.size + 1 < w0.heap.size := by omega
  have HW := Lib.hid hw0
  have HZ0 := Lib.hid hz0
  have mixed : Tryz.prog.follows .mixedOrders = true := by kernel_rfl
  clear hw0 hz0
  have hL := HL.out w0 hb0
  have HC' := Lib.hid (HC.out w0 hb0)
  clear HL HC
  go_enter Tryz.func25, Tryz.ntmps25
  go_wp2_with fail
  rw [HW.out]
  have b0 := hB0.c0
  have b1 := hB0.c1
  have b2 := hB0.c2
  have a0 := hA0.c0
  have a1 := hA0.c1
  have a2 := hA0.c2
  have a3 := hA0.c3
  have a4 := hA0.c4
  have a5 := hA0.c5
  have a6 := hA0.c6
  simp only [Nat.zero_add] at a1 a2 a3 a4 a5 a6
  go_wp2_with fail
  rw [hL]
  go_wp2_with fail
  refine HC'.out.mono ?_
  rintro e w1 ⟨rfl, hb1⟩
  go_wp2_with fail
  go_ret
  exact ⟨rfl, hb0.trans (Below.mono hb1 hb0.size)⟩
end Go.Proofs.YtaajkbclojmbeaaGreatDoor
namespace Go.Proofs.YtaajkbclojmbeaaGreatDoor
open Go Go.RowKit Go.Shelf Go.Lib
attribute [local go_sem] Oper.semAt_some

theorem rootC_step (z : Nat) (ih : Hid (RootC z)) : RootC (z + 1) := by
  intro k n ts at_ ct N bs us p ab cb au cu w mb kb ib hs hT hV hc hf h1 h2 hK hTab
  obtain ⟨⟨k1, k8⟩, hform, _, _⟩ := M.chkT_ok.1 hc
  obtain ⟨_, ho, _⟩ := M.of_fit hf
  have hTX : ∀ X, Below w.heap.size w X → LayT X X.heap.size ts (.slice at_ ts.length ct) := fun X h => (hT.from_ h).mono h.size
  have hVX : ∀ X, Below w.heap.size w X → Vl X X.heap.size N bs us ab cb au cu := fun X h => (hV.from_ h).mono h.size
  have hKX : ∀ X, Below w.heap.size w X → Tbl X X.heap.size mb kb ib := fun X h => (hK.from_ h).mono h.size
  have hLX := fun (j : Nat) h1 h8 => Lib.hid (fun W' h => hK.look j h1 h8 W' h)
  have hk8 : k = 1 ∨ k = 2 ∨ k = 3 ∨ k = 4 ∨ k = 5 ∨ k = 6 ∨ k = 7 ∨ k = 8 := by omega
  rcases hk8 with rfl | rfl | rfl | rfl | rfl | rfl | rfl | rfl
  · exact ofK_1 1 n ts at_ ct N bs us p ab cb au cu w mb _ (hLX 1 (by decide) (by decide)) (Lib.hid fun X h => whole_any 1 n ts at_ ct N bs us p ab cb au cu X (hTX X h) (hVX X h) (Or.inl rfl) hc hf h1 h2 (hTab.from h))
  · exact ofK_1 2 n ts at_ ct N bs us p ab cb au cu w mb _ (hLX 2 (by decide) (by decide)) (Lib.hid fun X h => whole_any 2 n ts at_ ct N bs us p ab cb au cu X (hTX X h) (hVX X h) (Or.inr (Or.inl rfl)) hc hf h1 h2 (hTab.from h))
  · obtain ⟨t, rfl, m, rfl⟩ : ∃ t, ts = [t] ∧ ∃ m : Nat, n = (m : Int) := by
      unfold M.formT at hform
      simp at hform
      obtain ⟨t, ht⟩ := List.length_eq_one_iff.1 hform.1.1
      exact ⟨t, ht, n.toNat, by omega⟩
    refine ofK_2 3 (m : Nat) [t] at_ ct N bs us p ab cb au cu w mb kb _ (hLX 3 (by decide) (by decide)) (Lib.hid fun X h => ?_)
    have := items_any z ih 3 m t at_ ct N bs us p ab cb au cu X mb kb ib (hTX X h) (hVX X h) hs (Or.inl rfl) hc hf h1 h2 (hKX X h) (hTab.from h)
    rw [← M.rootV3 (num := N) (bits := bs)] at this
    exact this
  · obtain ⟨t, rfl, m, rfl⟩ : ∃ t, ts = [t] ∧ ∃ m : Nat, n = (m : Int) := by
      unfold M.formT at hform
      simp at hform
      obtain ⟨t, ht⟩ := List.length_eq_one_iff.1 hform.1.1
      exact ⟨t, ht, n.toNat, by omega⟩
    exact ofK_3 4 (m : Nat) [t] at_ ct N bs us p ab cb au cu w mb ib _ (hLX 4 (by decide) (by decide)) (Lib.hid fun X h => list_any z ih m t at_ ct N bs us p ab cb au cu X mb kb ib (hTX X h) (hVX X h) hs hc hf h1 h2 (hKX X h) (hTab.from h))
  · exact ofK_1 5 n ts at_ ct N bs us p ab cb au cu w mb _ (hLX 5 (by decide) (by decide)) (Lib.hid fun X h => whole_any 5 n ts at_ ct N bs us p ab cb au cu X (hTX X h) (hVX X h) (Or.inr (Or.inr rfl)) hc hf h1 h2 (hTab.from h))
  · obtain ⟨rfl, m, rfl, hm1, hm⟩ : ts = [] ∧ ∃ m : Nat, n = (m : Int) ∧ 1 ≤ m ∧ m ≤ 512 := by
      unfold M.formT at hform
      simp at hform
      exact ⟨hform.1.1, n.toNat, by omega, by omega, by omega⟩
    have hbl : bs.length ≤ m := by
      have h6 := (M.of_fit hf).1
      simp at h6
      omega
    exact ofK_4 6 (m : Nat) [] at_ ct N bs us p ab cb au cu w mb _ (hLX 6 (by decide) (by decide)) (Lib.hid fun X h => bitlist_any m at_ ct N bs us p ab cb au cu X (hVX X h) hm hbl (hTab.from h) hm1)
  · exact ofK_5 7 n ts at_ ct N bs us p ab cb au cu w mb kb _ (hLX 7 (by decide) (by decide)) (Lib.hid fun X h => container_any z ih n ts at_ ct N bs us p ab cb au cu X mb kb ib (hTX X h) (hVX X h) hs hc hf h1 h2 (hKX X h) (hTab.from h))
  · obtain ⟨u, rfl, P, rfl⟩ : ∃ u, us = [u] ∧ ∃ P : Nat, p = (P : Int) := by
      rw [M.ofV_8] at ho
      simp at ho
      obtain ⟨u, hu⟩ := List.length_eq_one_iff.1 ho.1.1.2
      exact ⟨u, hu, p.toNat, by omega⟩
    exact ofK_6 8 n ts at_ ct N bs [u] (P : Nat) ab cb au cu w mb kb _ (hLX 8 (by decide) (by decide)) (Lib.hid fun X h => union_any z ih n ts at_ ct N bs u P ab cb au cu X mb kb ib (hTX X h) (hVX X h) hs hc hf h1 h2 (hKX X h) (hTab.from h))
theorem rootC_all : ∀ z, RootC z
  | 0 => fun k n ts at_ ct N bs us p ab cb au cu w mb kb ib hs => by
    have : 1 ≤ SizeOf.sizeOf us := by cases us <;> simp <;> omega
    omega
  | z + 1 => rootC_step z (Lib.hid (rootC_all z))

end Go.Proofs.YtaajkbclojmbeaaGreatDoor
namespace Go.Proofs.YtaajkbclojmbeaaGreatDoor
open Go Go.RowKit Go.Shelf Go.Lib
attribute [local go_sem] Oper.semAt_some

theorem fits_ok {t : M.Ty} {v : M.Va} (h : M.fitsV t v = 0) : M.chkT 0 t = 0 ∧ M.fitV t v = 0 := by
  unfold M.fitsV at h
  split at h
  · exact ⟨by assumption, h⟩
  · exact absurd h (by assumption)
set_option maxRecDepth 100000 in
set_option maxHeartbeats 8000000 in
theorem root_any (k n : Int) (ts : List M.Ty) (at_ : Option Addr) (ct : Nat) (N : Nat) (bs : List Bool) (us : List M.Va) (p : Int) (ab : Option Addr) (cb : Nat) (au : Option Addr) (cu : Nat) (w : World) (hT : LayT w w.heap.size ts (.slice at_ ts.length ct)) (hV : Vl w w.heap.size N bs us ab cb au cu) (h1 : M.cntT (.mk k n ts) ≤ 1000) (h2 : M.cntV (.mk N bs us p) ≤ 6000) (hTab : Tab w) :
    Calls Tryz.prog 11 #[tv k n (.slice at_ ts.length ct), vv N (.slice ab bs.length cb) (.slice au us.length cu) p] w fun e w' => e = .returned (.tuple #[.string ⟨(M.rootE (.mk k n ts) (.mk N bs us p)).1.toArray⟩, .int .i64 ((M.rootE (.mk k n ts) (.mk N bs us p)).2 : Nat)]) ∧ Below w.heap.size w w' := by
  obtain ⟨w0, hw0⟩ : ∃ w0, (w.alloc (.cells #[.int .i64 k, .int .i64 n, .slice at_ ts.length ct] 32)).alloc (.cells #[.int .u64 (M.pt 0 N), .int .u64 (M.pt 1 N), .int .u64 (M.pt 2 N), .int .u64 (M.pt 3 N), .slice ab bs.length cb, .slice au us.length cu, .int .i64 p] 38) = w0 := ⟨_, rfl⟩
  have hb0 : Below w.heap.size w w0 := by rw [← hw0]; exact two_boxes _ _ _
  have hz0 : w0.heap.size = w.heap.size + 2 := by rw [← hw0]; simp
  have hB0 : BoxT w0 w.heap.size k n (.slice at_ ts.length ct) := by rw [← hw0]; exact ⟨by simp [go_sem], by simp [go_sem], by simp [go_sem]⟩
  have hA0 : Cells7 w0 (w.heap.size + 1) 0 N (.slice ab bs.length cb) (.slice au us.length cu) p := by
    rw [← hw0]
    have := Cells7.new (w.alloc (.cells #[.int .i64 k, .int .i64 n, .slice at_ ts.length ct] 32)) N (.slice ab bs.length cb) (.slice au us.length cu) p 38
    rwa [World.size_alloc] at this
  have hlt0 : w.heap.size < w0.heap.size := by omega
  have hlt1 : w.heap.size + 1 < w0.heap.size := by omega
  have HW := Lib.hid hw0
  have HZ0 := Lib.hid hz0
  have mixed : Tryz.prog.follows .mixedOrders = true := by kernel_rfl
  clear hw0 hz0
  have HF := Lib.hid (fun X (h : Below w0.heap.size w0 X) => shape_fits k n ts at_ ct N bs us p ab cb au cu X ((hT.from_ (hb0.trans (h.mono hb0.size))).mono (hb0.trans (h.mono hb0.size)).size) ((hV.from_ (hb0.trans (h.mono hb0.size))).mono (hb0.trans (h.mono hb0.size)).size) h1 h2)
  have HMT := Lib.hid (fun X => mtable_any X)
  have HC : Hid (∀ X mb kb ib, Below w0.heap.size w0 X → Tbl X X.heap.size mb kb ib → M.fitsV (.mk k n ts) (.mk N bs us p) = 0 → Calls Tryz.prog 25 #[.map (some mb), tv k n (.slice at_ ts.length ct), vv N (.slice ab bs.length cb) (.slice au us.length cu) p] X (RP X (M.rootV (.mk k n ts) (.mk N bs us p)))) := fun X mb kb ib h hK h0 => by
    have hX : Below w.heap.size w X := hb0.trans (Below.mono h hb0.size)
    obtain ⟨hc, hf⟩ := fits_ok h0
    exact rootC_all _ k n ts at_ ct N bs us p ab cb au cu X mb kb ib (Nat.le_refl _) ((hT.from_ hX).mono hX.size) ((hV.from_ hX).mono hX.size) hc hf h1 h2 hK (hTab.from hX)
  have hR1 : M.fitsV (.mk k n ts) (.mk N bs us p) = 0 → M.rootE (.mk k n ts) (.mk N bs us p) = (M.rootV (.mk k n ts) (.mk N bs us p), 0) := fun h => by unfold M.rootE; rw [if_neg (by simp [h])]
  have hR2 : M.fitsV (.mk k n ts) (.mk N bs us p) ≠ 0 → M.rootE (.mk k n ts) (.mk N bs us p) = ([], M.fitsV (.mk k n ts) (.mk N bs us p)) := fun h => by unfold M.rootE; rw [if_pos h]
  generalize M.rootE (.mk k n ts) (.mk N bs us p) = R at *
  generalize M.rootV (.mk k n ts) (.mk N bs us p) = r at *
  generalize M.fitsV (.mk k n ts) (.mk N bs us p) = f at *
  by_cases h0 : f = 0
  · subst h0
    obtain rfl := hR1 rfl
    have HC' := Lib.hid (fun X mb kb ib (h : Below w0.heap.size w0 X) hK => HC.out X mb kb ib h hK rfl)
    clear hR1 hR2 HC
    go_enter Tryz.func11, Tryz.ntmps11
    go_wp2_with fail
    rw [HW.out]
    have b0 := hB0.c0
    have b1 := hB0.c1
    have b2 := hB0.c2
    have a0 := hA0.c0
    have a1 := hA0.c1
    have a2 := hA0.c2
    have a3 := hA0.c3
    have a4 := hA0.c4
    have a5 := hA0.c5
    have a6 := hA0.c6
    simp only [Nat.zero_add] at a1 a2 a3 a4 a5 a6
    go_wp2_with fail
    refine (HF.out _ (Below.refl _ _)).mono ?_
    rintro e w1 ⟨rfl, hb1⟩
    clear a0 a1 a2 a3 a4 a5 a6 b0 b1 b2 HF
    go_wp2_with fail
    refine wp_region_held (S := fun Y => Below w0.heap.size w0 Y) mixed ?_
    have hS0 : Below w0.heap.size w0 { w1 with drawn := w1.drawn + 1 } := Below.drew hb1
    rw [show Array.replicate (Array.size _) false = #[false, false, false, false, false, false] from rfl, show Array.size (α := Oper) _ = 6 from rfl]
    refine wpAnyH_take (i := 1) (v := tv k n (.slice at_ ts.length ct)) rfl (by kernel_rfl) (by kernel_rfl) (by kernel_rfl) (fun _ _ _ h => h) (Or.inl ⟨by rfl, ?_⟩) hS0 ?_
    · intro Y hY
      have b0 := (hY.cell (p := ⟨w.heap.size, 0, none⟩) hlt0).trans hB0.c0; have b1 := (hY.cell (p := ⟨w.heap.size, 1, none⟩) hlt0).trans hB0.c1; have b2 := (hY.cell (p := ⟨w.heap.size, 2, none⟩) hlt0).trans hB0.c2
      go_simp
    simp only [Act.put, List.getElem_toArray, List.getElem_cons_succ, List.getElem_cons_zero, List.setIfInBounds_toArray, List.set_cons_zero, List.set_cons_succ]
    refine wpAnyH_take (i := 2) (v := vv N (.slice ab bs.length cb) (.slice au us.length cu) p) rfl (by kernel_rfl) (by kernel_rfl) (by kernel_rfl) (fun _ _ _ h => h) (Or.inl ⟨by rfl, ?_⟩) hS0 ?_
    · intro Y hY
      have hAY := hA0.from_ hY hlt1; have a0 := hAY.c0; have a1 := hAY.c1; have a2 := hAY.c2; have a3 := hAY.c3; have a4 := hAY.c4; have a5 := hAY.c5; have a6 := hAY.c6; simp only [Nat.zero_add] at a1 a2 a3 a4 a5 a6
      go_simp
    simp only [Act.put, List.getElem_toArray, List.getElem_cons_succ, List.getElem_cons_zero, List.setIfInBounds_toArray, List.set_cons_zero, List.set_cons_succ]
    refine wpAnyH_ready (rs := [0]) (by kernel_rfl) (by simp) ?_
    refine AllReadyH.cons rfl (fun K hK => ?_) AllReadyH.nil
    go_simp
    refine (HMT.out _).mono ?_
    rintro e w2 ⟨mb, kb, ib, rfl, hK2, hb2⟩
    have hS2 : Below w0.heap.size w0 w2 := hS0.trans (Below.mono hb2 hS0.size)
    have HC2 := Lib.hid (HC'.out w2 mb kb ib hS2 hK2)
    try go_wp2_with fail
    refine hK.out _ _ hS2 (fun _ => ?_)
    clear hK K
    simp only [List.setIfInBounds_toArray, List.set_cons_zero]
    refine wpAnyH_ready (rs := [3]) (by kernel_rfl) (by simp) ?_
    refine AllReadyH.cons rfl (fun K hK => ?_) AllReadyH.nil
    go_simp
    refine HC2.out.mono ?_
    rintro e w3 ⟨rfl, hb3⟩
    have hS3 : Below w0.heap.size w0 w3 := hS2.trans (Below.mono hb3 hS2.size)
    try go_wp2_with fail
    refine hK.out _ _ hS3 (fun _ => ?_)
    clear hK K
    simp only [List.setIfInBounds_toArray, List.set_cons_zero, List.set_cons_succ]
    refine wpAnyH_ready (rs := [4]) (by kernel_rfl) (by simp) ?_
    refine AllReadyH.cons rfl (fun K hK => ?_) AllReadyH.nil
    go_simp
    refine hK.out _ _ hS3 (fun _ => ?_)
    clear hK K
    simp only [List.setIfInBounds_toArray, List.set_cons_zero, List.set_cons_succ]
    refine wpAnyH_ready (rs := [5]) (by kernel_rfl) (by simp) ?_
    refine AllReadyH.cons rfl (fun K hK => ?_) AllReadyH.nil
    go_simp
    refine hK.out _ _ hS3 (fun _ => ?_)
    clear hK K
    simp only [List.setIfInBounds_toArray, List.set_cons_zero, List.set_cons_succ]
    refine wpAnyH_done (by kernel_rfl) ?_ _
    go_wp2_with fail
    go_ret2
    exact ⟨rfl, hb0.trans (Below.mono hS3 hb0.size)⟩
  · have hf0 : ¬ (f : Int) = 0 := by omega
    obtain rfl := hR2 h0
    clear hR1 hR2 HC HMT
    go_enter Tryz.func11, Tryz.ntmps11
    go_wp2_with fail
    rw [HW.out]
    have b0 := hB0.c0
    have b1 := hB0.c1
    have b2 := hB0.c2
    have a0 := hA0.c0
    have a1 := hA0.c1
    have a2 := hA0.c2
    have a3 := hA0.c3
    have a4 := hA0.c4
    have a5 := hA0.c5
    have a6 := hA0.c6
    simp only [Nat.zero_add] at a1 a2 a3 a4 a5 a6
    go_wp2_with fail
    refine (HF.out _ (Below.refl _ _)).mono ?_
    rintro e w1 ⟨rfl, hb1⟩
    clear a0 a1 a2 a3 a4 a5 a6 b0 b1 b2 HF
    go_wp2_with fail
    go_ret2
    exact ⟨rfl, hb0.trans (Below.mono hb1 hb0.size)⟩
end Go.Proofs.YtaajkbclojmbeaaGreatDoor
namespace Go.Proofs.YtaajkbclojmbeaaGreatDoor
open Go Go.RowKit Go.Shelf Go.Lib
attribute [local go_sem] Oper.semAt_some

def one9 : List UInt8 := 1 :: List.replicate 31 0
theorem x9_root : M.rootE (.mk 1 2 []) (.mk 1 [] [] 0) = (one9, 0) := by decide +kernel
theorem x9_none : M.rootE (.mk 0 0 []) (.mk 0 [] [] 0) = ([], 9) := by decide +kernel
theorem x9_t1 : M.treeE [one9] 1 = (one9, 0) := by decide +kernel
theorem x9_t2 : M.treeE [one9, one9] 1 = ([], 1) := by decide +kernel
theorem x9_m : M.mixE [120] 1 = ([], 1) := by decide +kernel
theorem x9_t3 : M.treeE [one9] 3 = (M.sumL (M.sumL (one9 ++ M.z32) ++ M.sumL (M.z32 ++ M.z32)), 0) := by
  unfold M.treeE
  rw [if_neg (by decide +kernel)]
  show (M.treeT [one9] 3, 0) = _
  unfold M.treeT
  rw [show M.dep 3 = 2 by decide]
  rw [M.treeD, M.treeD, M.treeD, M.halve, M.halve, List.headD_cons]
theorem x9_two : M.fill32 (M.le 8 2) = 2 :: List.replicate 31 0 := by decide +kernel
theorem x9_mix : M.mixE one9 2 = (M.sumL (one9 ++ 2 :: List.replicate 31 0), 0) := by
  rw [← x9_two]
  unfold M.mixE
  rw [if_neg (by decide +kernel), M.mixT]
end Go.Proofs.YtaajkbclojmbeaaGreatDoor
namespace Go.Proofs.YtaajkbclojmbeaaGreatDoor
open Go Go.RowKit Go.Shelf Go.Lib
attribute [local go_sem] Oper.semAt_some

theorem ts_one {w : World} {b : Nat} {s : List UInt8} (t : TypeId) (h : w.heap[b]? = some (.cells #[.string ⟨s.toArray⟩] t (0, 0))) : Ts w w.heap.size [s] (.slice (some ⟨b, 0, none⟩) 1 1) := by
  refine .row (ls := [s]) (Array.getElem?_eq_some_iff.1 h).1 (by simp) (by decide) fun i x e => ?_
  match i, e with
  | 0, e => simp at e; subst e; simp [World.cell?, h]
  | i + 1, e => simp at e
theorem ts_two {w : World} {b : Nat} {s u : List UInt8} (t : TypeId) (h : w.heap[b]? = some (.cells #[.string ⟨s.toArray⟩, .string ⟨u.toArray⟩] t (0, 0))) : Ts w w.heap.size [s, u] (.slice (some ⟨b, 0, none⟩) 2 2) := by
  refine .row (ls := [s, u]) (Array.getElem?_eq_some_iff.1 h).1 (by simp) (by decide) fun i x e => ?_
  match i, e with
  | 0, e => simp at e; subst e; simp [World.cell?, h]
  | 1, e => simp at e; subst e; simp [World.cell?, h]
  | i + 2, e => simp at e
theorem ba_add (a b : List UInt8) : (⟨a.toArray⟩ : ByteArray) ++ ⟨b.toArray⟩ = ⟨(a ++ b).toArray⟩ := ByteArray.ext (by simp)
theorem sum_ba (b : ByteArray) (w : World) (h : b.size ≤ 1000) (hT : Tab w) : Calls Tryz.prog 13 #[.string b] w fun e w' => e = .returned (.string ⟨(M.sumL b.toList).toArray⟩) ∧ Below w.heap.size w w' := by
  have := callsIn_wide.1 (sum_in b w h hT)
  rwa [show b.data.toList = b.toList by obtain ⟨⟨l⟩⟩ := b; simp] at this
theorem sl9 {z y : List UInt8} (h : z = 0 :: y) (hy : y.length = 31) (W : World) : (Instr.slice 9 (.string ⟨z.toArray⟩) (some (.int .i64 1)) none none).run Tryz.prog W = .ok (.string ⟨y.toArray⟩) W := by
  have hz : z.length = 32 := by rw [h]; simp [hy]
  go_simp
  have he : (⟨(0 :: y).toArray⟩ : ByteArray).extract 1 32 = ⟨y.toArray⟩ := by
    apply ByteArray.ext
    rw [ByteArray.data_extract]
    simp [List.extract_eq_take_drop, List.take_of_length_le (show y.length ≤ 31 by omega)]
  subst h
  exact he
theorem tree_one {w : World} (X : World) (s : List UInt8) (m : Int) (hTab : Tab w) (h : Below w.heap.size w X) (b : Nat) (hb : X.heap.size = b) :
    Calls Tryz.prog 6 #[.slice (some ⟨b, 0, none⟩) 1 1, .int .i64 m] (X.alloc (.cells #[.string ⟨s.toArray⟩] 9)) fun e w' => e = .returned (.tuple #[.string ⟨(M.treeE [s] m).1.toArray⟩, .int .i64 ((M.treeE [s] m).2 : Nat)]) ∧ Below (X.alloc (.cells #[.string ⟨s.toArray⟩] 9)).heap.size (X.alloc (.cells #[.string ⟨s.toArray⟩] 9)) w' :=
  by subst hb; exact tree_any [s] m _ _ _ (ts_one _ (heap_alloc_new X _)) (hTab.from (h.alloc h.size _))
theorem tree_two {w : World} (X : World) (s u : List UInt8) (m : Int) (hTab : Tab w) (h : Below w.heap.size w X) (b : Nat) (hb : X.heap.size = b) :
    Calls Tryz.prog 6 #[.slice (some ⟨b, 0, none⟩) 2 2, .int .i64 m] (X.alloc (.cells #[.string ⟨s.toArray⟩, .string ⟨u.toArray⟩] 9)) fun e w' => e = .returned (.tuple #[.string ⟨(M.treeE [s, u] m).1.toArray⟩, .int .i64 ((M.treeE [s, u] m).2 : Nat)]) ∧ Below (X.alloc (.cells #[.string ⟨s.toArray⟩, .string ⟨u.toArray⟩] 9)).heap.size (X.alloc (.cells #[.string ⟨s.toArray⟩, .string ⟨u.toArray⟩] 9)) w' :=
  by subst hb; exact tree_any [s, u] m _ _ _ (ts_two _ (heap_alloc_new X _)) (hTab.from (h.alloc h.size _))
set_option maxRecDepth 100000 in
set_option maxHeartbeats 4000000 in
theorem works9 (w : World) (hTab : Tab w) : Calls Tryz.prog 5 #[] w fun e w' => e = .returned (.bool true) ∧ Below w.heap.size w w' := by
  obtain ⟨w1, hw1⟩ : ∃ w1, w.alloc (.cells #[.int .i64 1, .int .i64 2, .slice none 0 0] 32) = w1 := ⟨_, rfl⟩
  have hz1 : w1.heap.size = w.heap.size + 1 := by rw [← hw1]; simp
  have hb1 : Below w.heap.size w w1 := by rw [← hw1]; exact (Below.refl _ _).alloc (Nat.le_refl _) _
  have P1 := root_any 1 2 [] none 0 1 [] [] 0 none 0 none 0 w1 (.nil_ (by decide)) ⟨by unfold M.In; omega, .nil_ (by decide), .nil_ (by decide)⟩ (by decide) (by decide) (hTab.from hb1)
  rw [x9_root] at P1
  have P1 := Lib.hid P1
  have HW1 := Lib.hid hw1
  clear hw1
  go_enter Tryz.func5, Tryz.ntmps5
  go_wp2_with fail
  rw [HW1.out]
  refine P1.out.mono ?_
  rintro e w2 ⟨rfl, hb2⟩
  clear P1
  have hw12 : Below w.heap.size w w2 := hb1.trans (hb2.mono hb1.size)
  have hmk : (Instr.makeSlice 41 (.int .i64 32) (.int .i64 32)).run Tryz.prog w2 = .ok (.slice (some ⟨w2.heap.size, 0, none⟩) 32 32) (w2.alloc (.cells (bv (zb 32)) 5)) := make_zb 32 (by omega) w2
  have hBz : Br (w2.alloc (.cells (bv (zb 32)) 5)) w2.heap.size (zb 32) := Br.at_ _ _ rfl
  have hcv := hBz.conv (n := 32) (by rw [zb_length]) 32
  have hb2a : Below w2.heap.size w2 (w2.alloc (.cells (bv (zb 32)) 5)) := (Below.refl _ _).alloc (Nat.le_refl _) _
  have hw23 := hw12.trans (hb2a.mono hw12.size)
  have HT1 := Lib.hid (fun X (h : Below w.heap.size w X) => tree_one X one9 1 hTab h)
  have HT3 := Lib.hid (fun X (h : Below w.heap.size w X) => tree_one X one9 3 hTab h)
  have HT2 := Lib.hid (fun X (h : Below w.heap.size w X) => tree_two X one9 one9 1 hTab h)
  have HM := Lib.hid (fun X (h : Below w.heap.size w X) => mix_any one9 2 X (by decide) (hTab.from h))
  have HM2 := Lib.hid (fun X (h : Below w.heap.size w X) => mix_any [120] 1 X (by decide) (hTab.from h))
  have HN := Lib.hid (fun X (h : Below w.heap.size w X) => root_any 0 0 [] none 0 0 [] [] 0 none 0 none 0 X (.nil_ (by decide)) ⟨by unfold M.In; omega, .nil_ (by decide), .nil_ (by decide)⟩ (by decide) (by decide) (hTab.from h))
  have HS := Lib.hid (fun X (h : Below w.heap.size w X) (s : List UInt8) (hs : s.length ≤ 1000) => sum_any s X hs (hTab.from h))
  have HSB := Lib.hid (fun X (h : Below w.heap.size w X) (b : ByteArray) (hb : b.size ≤ 1000) => sum_ba b X hb (hTab.from h))
  rw [x9_t1] at HT1
  rw [x9_t3] at HT3
  rw [x9_t2] at HT2
  rw [x9_mix] at HM
  rw [x9_m] at HM2
  rw [x9_none] at HN
  have HZ := Lib.hid (zb_length 32)
  rw [show M.z32 = zb 32 from rfl] at HT3
  have hoy : one9 = 1 :: List.replicate 31 0 := rfl
  have hol : one9.length = 32 := rfl
  have hzy : zb 32 = 0 :: List.replicate 31 0 := rfl
  have hyl : (List.replicate 31 (0 : UInt8)).length = 31 := by simp
  generalize zb 32 = z at *
  generalize one9 = o at *
  generalize List.replicate 31 (0 : UInt8) = y at *
  have HOY := Lib.hid hoy
  have HZY := Lib.hid hzy
  have HOL := Lib.hid hol
  have HYL := Lib.hid hyl
  clear hoy hzy hol hyl
  clear hBz
  go_wp2_with fail
  refine (HT1.out _ hw23 _ (by simp)).mono ?_
  rintro e w3 ⟨rfl, hb3⟩
  have hw3 := hw23.trans (((Below.refl _ _).alloc (Nat.le_refl _) _).trans (hb3.mono (by simp)) |>.mono hw23.size)
  clear hmk hcv
  go_wp2_with fail
  refine (HT3.out _ hw3 _ rfl).mono ?_
  rintro e w4 ⟨rfl, hb4⟩
  have hw4 := hw3.trans (((Below.refl _ _).alloc (Nat.le_refl _) _).trans (hb4.mono (by simp)) |>.mono hw3.size)
  go_wp2_with fail
  refine (HM.out _ hw4).mono ?_
  rintro e w5 ⟨rfl, hb5⟩
  have hw5 := hw4.trans (hb5.mono hw4.size)
  go_wp2_with fail
  refine (HT2.out _ hw5 _ rfl).mono ?_
  rintro e w6 ⟨rfl, hb6⟩
  have hw6 := hw5.trans (((Below.refl _ _).alloc (Nat.le_refl _) _).trans (hb6.mono (by simp)) |>.mono hw5.size)
  go_wp2_with fail
  refine (HM2.out _ hw6).mono ?_
  rintro e w7 ⟨rfl, hb7⟩
  have hw7 := hw6.trans (hb7.mono hw6.size)
  go_wp2_with fail
  refine (HN.out _ hw7).mono ?_
  rintro e w8 ⟨rfl, hb8⟩
  have hw8 := hw7.trans (hb8.mono hw7.size)
  have hzl := HZ.out
  go_wp2_with fail
  refine (HS.out _ hw8 (z ++ z) (by have := HZ.out; simp; omega)).mono ?_
  rintro e w9 ⟨rfl, hb9⟩
  have hw9 := hw8.trans (hb9.mono hw8.size)
  clear HT1 HT3 HM HT2 HM2 HN hb1 hw12 hw23 hw3 hw4 hw5 hw6 hw7 hw8 hb2 hb2a hb3 hb4 hb5 hb6 hb7 hb8 hb9 hz1 HW1
  have hsl : ∀ W, (Instr.slice 9 (.string ⟨z.toArray⟩) (some (.int .i64 1)) none none).run Tryz.prog W = .ok (.string ⟨y.toArray⟩) W := fun W => sl9 HZY.out HYL.out W
  have hol := HOL.out
  have hyl := HYL.out
  have hsum := M.sum_length
  have e1 : (o == ((⟨#[1]⟩ : ByteArray) ++ ⟨y.toArray⟩).toList) = true := by rw [show (⟨#[1]⟩ : ByteArray) = ⟨[1].toArray⟩ from rfl, ba_add, HOY.out]; simp
  have e2 : (M.sumL (o ++ 2 :: y) == M.sumL ((⟨o.toArray⟩ : ByteArray) ++ ⟨#[2]⟩ ++ ⟨y.toArray⟩).toList) = true := by rw [show (⟨#[2]⟩ : ByteArray) = ⟨[2].toArray⟩ from rfl, ba_add, ba_add]; simp
  have hb9s : ((⟨o.toArray⟩ : ByteArray) ++ ⟨#[2]⟩ ++ ⟨y.toArray⟩).size ≤ 1000 := by
    rw [show (⟨#[2]⟩ : ByteArray) = ⟨[2].toArray⟩ from rfl, ba_add, ba_add]
    show (o ++ [2] ++ y).toArray.size ≤ 1000
    simp
    omega
  have hb9s := Lib.hid hb9s
  go_wp2_with fail
  refine (HS.out _ hw9 (o ++ z) (by have h1 := HZ.out; have h2 := HOL.out; simp; omega)).mono ?_
  rintro e wa ⟨rfl, hba⟩
  have hwa := hw9.trans (hba.mono hw9.size)
  clear e1
  go_wp2_with fail
  refine (HS.out _ hwa _ (by simp [M.sum_length])).mono ?_
  rintro e wb ⟨rfl, hbb⟩
  have hwb := hwa.trans (hbb.mono hwa.size)
  go_wp2_with fail
  refine (HSB.out _ hwb _ hb9s.out).mono ?_
  rintro e wc ⟨rfl, hbc⟩
  have hwc := hwb.trans (hbc.mono hwb.size)
  go_wp2_with fail
  go_ret
  exact ⟨rfl, hwc⟩
end Go.Proofs.YtaajkbclojmbeaaGreatDoor
namespace Go.Proofs.YtaajkbclojmbeaaGreatDoor
open Go Go.RowKit Go.Shelf Go.Lib Go.ChangeShapes
attribute [local go_sem] Oper.semAt_some

set_option maxRecDepth 100000 in
set_option maxHeartbeats 8000000 in
theorem trees_law (ls : List (List UInt8)) (a : Option Addr) (cap : Nat) (most : Int) (root : List UInt8) (n : Int) (w : World) (hT : Ts w w.heap.size ls (.slice a ls.length cap)) (hn : (Lit.int .u64 n).wf = true) (hTab : Tab w) :
    Calls Tryz.prog 3 #[.slice a ls.length cap, .int .i64 most, .string ⟨root.toArray⟩, .int .u64 n] w fun e w' => e = .returned (.bool true) ∧ Below w.heap.size w w' := by
  have hb := bounds_u64 hn
  obtain ⟨N, rfl⟩ := Int.eq_ofNat_of_zero_le hb.1
  have hN : N < 18446744073709551616 := by omega
  have HW := Lib.hid (works9 w hTab)
  have hTX : ∀ Y, Below w.heap.size w Y → Ts Y Y.heap.size ls (.slice a ls.length cap) := fun Y h => (hT.from_ h).mono h.size
  have HT := Lib.hid (fun Y (h : Below w.heap.size w Y) => tree_any ls most a cap Y (hTX Y h) (hTab.from h))
  have HRT := Lib.hid (fun Y (h : Below w.heap.size w Y) => rTree_any ls most a cap Y (hTX Y h))
  have HM := Lib.hid (fun Y (h : Below w.heap.size w Y) => mix_any root N Y hN (hTab.from h))
  have HRM := Lib.hid (fun (h : root.length ≤ 100) Y => rMix_any root N Y hN h)
  have hsz : ((⟨root.toArray⟩ : ByteArray).size : Int) = (root.length : Int) := by simp [ByteArray.size]
  generalize M.treeE ls most = E at *
  generalize M.mixE root N = F at *
  obtain ⟨R, hR⟩ : ∃ R : ByteArray, ⟨root.toArray⟩ = R := ⟨_, rfl⟩
  rw [hR] at HM HRM hsz ⊢
  clear hR hT hTX hTab hb hn
  go_enter Tryz.func3, Tryz.ntmps3
  go_wp2_with fail
  refine HW.out.mono ?_
  rintro e w1 ⟨rfl, hb1⟩
  by_cases h1 : (70 : Int) < ls.length
  · go_wp2_with fail
    go_ret
    exact ⟨rfl, hb1⟩
  by_cases h2 : 70 < most ∧ most ≤ 512
  · obtain ⟨h2, h2'⟩ := h2
    go_wp2_with fail
    go_ret
    exact ⟨rfl, hb1⟩
  by_cases h3 : 100 < root.length
  · have h3' : (100 : Int) < R.size := by omega
    by_cases h4 : 70 < most
    · have h5 : ¬ most ≤ 512 := by omega
      go_wp2_with fail
      go_ret
      exact ⟨rfl, hb1⟩
    · go_wp2_with fail
      go_ret
      exact ⟨rfl, hb1⟩
  have h3' : ¬ (100 : Int) < R.size := by omega
  have HRM2 := Lib.hid (HRM.out (by omega))
  clear HRM hsz
  have fin : ∀ (X : World), True := fun _ => trivial
  by_cases h4 : 70 < most
  · have h5 : ¬ most ≤ 512 := by omega
    clear h2
    go_wp2_with fail
    refine (HT.out _ hb1).mono ?_
    rintro e w2 ⟨rfl, hb2⟩
    have hw2 := hb1.trans (hb2.mono hb1.size)
    go_wp2_with fail
    refine (HRT.out _ hw2).mono ?_
    rintro e w3 ⟨rfl, hb3⟩
    have hw3 := hw2.trans (hb3.mono hw2.size)
    go_wp2_with fail
    refine (HM.out _ hw3).mono ?_
    rintro e w4 ⟨rfl, hb4⟩
    have hw4 := hw3.trans (hb4.mono hw3.size)
    go_wp2_with fail
    refine (HRM2.out _).mono ?_
    rintro e w5 ⟨rfl, hb5⟩
    have hw5 := hw4.trans (hb5.mono hw4.size)
    go_wp2_with fail
    go_ret
    exact ⟨rfl, hw5⟩
  · clear h2
    go_wp2_with fail
    refine (HT.out _ hb1).mono ?_
    rintro e w2 ⟨rfl, hb2⟩
    have hw2 := hb1.trans (hb2.mono hb1.size)
    go_wp2_with fail
    refine (HRT.out _ hw2).mono ?_
    rintro e w3 ⟨rfl, hb3⟩
    have hw3 := hw2.trans (hb3.mono hw2.size)
    go_wp2_with fail
    refine (HM.out _ hw3).mono ?_
    rintro e w4 ⟨rfl, hb4⟩
    have hw4 := hw3.trans (hb4.mono hw3.size)
    go_wp2_with fail
    refine (HRM2.out _).mono ?_
    rintro e w5 ⟨rfl, hb5⟩
    have hw5 := hw4.trans (hb5.mono hw4.size)
    go_wp2_with fail
    go_ret
    exact ⟨rfl, hw5⟩
end Go.Proofs.YtaajkbclojmbeaaGreatDoor
namespace Go.Proofs.YtaajkbclojmbeaaGreatDoor
open Go Go.RowKit

theorem string_cells : Tryz.prog.cellsOf 9 = 1 := by kernel_rfl
theorem reach_long : reachBytes ≤ longS := by have := reachBytes_lt; unfold longS; omega

theorem weightsAll_in {H : Type} {P : Program} {e : TypeId} : ∀ {ds : List (DataW H)} {d : DataW H}, d ∈ ds → ∀ n ∈ d.weights P e, n ∈ DataW.weightsAll P e ds
  | d' :: ds, d, h, n, hn => by
    rw [DataW.weightsAll]
    rcases List.mem_cons.1 h with rfl | h
    · exact List.mem_append_left _ hn
    · exact List.mem_append_right _ (weightsAll_in h n hn)

section
variable {H : Type} {enc : TypeId × Value → H} {W : World} {sp : Nat → Bool} {hd : Bool}

set_option maxRecDepth 100000 in
/-- What a slice of texts leads to. -/
theorem open_texts_at (fuel : Nat) (u : Value) (x : DataW H × List MemPlace) (h : DataW.trod enc Tryz.prog W 0 sp hd fuel 22 [u] = some x) (hw : ∀ n ∈ x.1.weights Tryz.prog 22, n ≤ reachBytes) :
    ∃ ls a cap, u = .slice a ls.length cap ∧ Ts W W.heap.size ls (.slice a ls.length cap) ∧ ∀ t ∈ ls, t.length ≤ longS := by
  rcases DataW.trod_slice Tryz.underlying22 h with ⟨hu, _⟩ | ⟨a, len, cap, elems, rest, n, hf, hu, hx, hb, hl, hm, hel, hei, _, _⟩
  · obtain rfl : u = .slice none 0 0 := by simpa using hu
    exact ⟨[], none, 0, rfl, .nil_ (by decide), fun t h => by cases h⟩
  · obtain rfl : u = .slice (some a) len cap := by simpa using hu
    by_cases h0 : len = 0
    · subst h0
      exact ⟨[], some a, cap, rfl, .nil_ hm, fun t h => by cases h⟩
    · have each : ∀ i, i < len → ∃ q : List UInt8, W.cell? (a.add i) = some (.string ⟨q.toArray⟩) ∧ q.length ≤ longS := by
        intro i hi
        have he := hei i hi
        rw [List.getElem?_eq_getElem (by omega)] at he
        obtain ⟨cs, h1, h2⟩ := Option.bind_eq_some_iff.1 he
        rw [string_cells, Nat.mul_one] at h1
        obtain ⟨s, e1, hlit, _⟩ := DataW.trod_string Tryz.underlying9 h2
        have hmem : ∀ k ∈ (elems[i]'(by omega)).1.weights Tryz.prog 9, k ≤ reachBytes := by
          intro k hk
          refine hw k ?_
          rw [hx]
          simp only [DataW.weights, Tryz.underlying22]
          exact List.mem_cons_of_mem _ (List.mem_append_left _ (weightsAll_in (List.mem_map.2 ⟨_, List.getElem_mem _, rfl⟩) k hk))
        rw [hlit] at hmem
        have hsl := hmem s.data.toList.length (by simp [DataW.weights])
        subst e1
        exact ⟨s.data.toList, Go.ChangeShapes.cell_of_cells?_one h1, Nat.le_trans hsl reach_long⟩
      obtain ⟨q, hq⟩ := Go.Deep.choose_lt each
      obtain ⟨b, o, spot⟩ := a
      have hspot : spot = none := by
        have := (hq 0 (by omega)).1
        simpa [Addr.add] using World.cell?_spot this
      subst hspot
      have hbl : b < W.heap.size := World.block_lt_of_cell? W _ ((hq 0 (by omega)).1)
      have hlen : ((List.range len).map q).length = len := by simp
      refine ⟨(List.range len).map q, some ⟨b, o, none⟩, cap, by rw [hlen], .row hbl (by rw [hlen]; exact hl) hm fun i s hi => ?_, fun t ht => ?_⟩
      · have hi' : i < len := by
          have := (List.getElem?_eq_some_iff.1 hi).1
          simpa using this
        simp [hi'] at hi
        subst hi
        have := (hq i hi').1
        unfold Addr.add at this
        by_cases hz : i = 0
        · subst hz; simpa using this
        · simpa [hz] using this
      · obtain ⟨i, hi, rfl⟩ := List.mem_map.1 ht
        exact (hq i (List.mem_range.1 hi)).2

set_option maxRecDepth 100000 in
/-- A slice of texts that comes in. -/
theorem open_texts {r : Reach} {b0 : Nat} {v : Value} {d : DataW H} {p : List MemPlace} (hv : Value.okWide Tryz.prog W r b0 22 v) (h : DataW.Trod enc Tryz.prog W 0 sp hd 22 v d p) (hw : ∀ n ∈ d.weights Tryz.prog 22, n ≤ reachBytes) :
    ∃ ls a cap, v = .slice a ls.length cap ∧ Ts W W.heap.size ls (.slice a ls.length cap) ∧ ∀ t ∈ ls, t.length ≤ longS := by
  obtain ⟨m, hm⟩ := h
  obtain ⟨a, l, c, rfl⟩ := Go.WideShapes.okWide_slice Tryz.underlying22 hv
  exact open_texts_at m _ (d, p) hm hw
end
end Go.Proofs.YtaajkbclojmbeaaGreatDoor
namespace Go.Proofs.YtaajkbclojmbeaaGreatDoor
open Go Go.RowKit Go.ChangeShapes Go.WideShapes Go.ChangeAt

theorem g_turns : Tryz.prog.globalNamed "rescript/keccak.turns" = some 1 := by kernel_rfl
theorem g_numbers : Tryz.prog.globalNamed "rescript/keccak.numbers" = some 0 := by kernel_rfl
theorem t_turns : (Tryz.prog.globals[1]?).map (·.type) = some 118 := by kernel_rfl
theorem t_numbers : (Tryz.prog.globals[0]?).map (·.type) = some 78 := by kernel_rfl
theorem tab_of_laid9 {W : World} (h : laidMetH Tryz.prog [("unicode/utf8.acceptRanges", Rows.laid_unicode_utf8_acceptRanges), ("rescript/keccak.turns", Rows.laid_rescript_keccak_turns), ("rescript/keccak.numbers", Rows.laid_rescript_keccak_numbers), ("unicode/utf8.first", Rows.laid_unicode_utf8_first)] W) : Tab W := by
  rw [MakeChecks.laidMetH_plain _ _ _ (by kernel_rfl)] at h
  have h1 := Lib.tabIs_of_head (k := .i64) (zs := M.offs.map fun n : Nat => (n : Int)) (n := 25) (e := 3) g_turns t_turns (by kernel_rfl) (by kernel_rfl) (by kernel_rfl) (by kernel_rfl) h.tail
  have h2 := Lib.tabIs_of_head (k := .u64) (zs := M.rcs.map fun n : Nat => (n : Int)) (n := 24) (e := 23) g_numbers t_numbers (by kernel_rfl) (by kernel_rfl) (by kernel_rfl) (by kernel_rfl) h.tail.tail
  refine ⟨fun i hi => ?_, fun i hi => ?_⟩
  · have hl : i < M.rcs.length := hi
    rw [h2.cell g_numbers i (by rw [List.length_map]; exact hl)]
    unfold M.gl
    simp [List.getD_eq_getElem?_getD, List.getElem?_eq_getElem hl]
  · have hl : i < M.offs.length := hi
    rw [h1.cell g_turns i (by rw [List.length_map]; exact hl)]
    unfold M.gl
    simp [List.getD_eq_getElem?_getD, List.getElem?_eq_getElem hl]
end Go.Proofs.YtaajkbclojmbeaaGreatDoor
namespace Go.Proofs.YtaajkbclojmbeaaGreatDoor
open Go.ChangeShapes Go.WideShapes Go.ChangeAt Go.RowKit
open Go.ChangeMaps (open_string shut_string)

namespace MerkleTrees
theorem own : ownKnob Tryz.prog.godebug = none := by kernel_rfl
theorem laidOut : laidOutB Tryz.prog = true := by kernel_rfl

set_option maxRecDepth 100000 in
theorem lifted (os : Os) (started : os.Started) (H : Type) (enc : TypeId × Value → H) :
    ReturnsInHanded {} Tryz.checked os 3 .any (fun w args => (Rows.merkleTreesSpec.pre enc Tryz.prog Tryz.f3 Rows.merkleTreesRow.domain false w args ∧ laidMetH Tryz.prog Rows.merkleTreesRow.laid w) ∧ sizedMet enc Tryz.prog Tryz.f3 (OpenSpec.ofChange Rows.merkleTreesSpec) false w args)
      (Rows.merkleTreesSpec.post enc Tryz.prog Tryz.f3 false true false false) := by
  refine returnsInHanded_of_change_and (C := Tryz.checked) (X := fun w _ => laidMetH Tryz.prog Rows.merkleTreesRow.laid w) (fun _ _ _ hh h => h.of_heap hh) own started (by kernel_rfl) Tryz.func3
    (ChangeSpec.witness_shaped (enc := enc) (C := Tryz.checked) (os := os) (X := fun w _ => laidMetH Tryz.prog Rows.merkleTreesRow.laid w) false (World.laidAll Tryz.prog os Rows.merkleTreesRow.laid) #[.slice none 0 0, .int .i64 0, .string ⟨#[]⟩, .int .u64 0] 8 (World.laidAll_os _ _ _)
      (World.shaped_of_ZipB (by kernel_rfl) (by kernel_rfl)) (by kernel_rfl) (by kernel_rfl) (by kernel_rfl)
      (by rw [MakeChecks.laidMetH_plain _ _ _ (by kernel_rfl)]; exact laidMet_laidAll _ (by kernel_rfl) (by kernel_rfl))) ?_
  intro W base args ds gs before hval0 hW _ hWt hLaid _
  have hval : ∀ (j : Nat) t v, Tryz.f3.params[j]? = some t → args[j]? = some v → Value.okWide Tryz.prog W .any base t v := hval0
  have hW' := hW
  obtain ⟨p, q, hA0, hV, rfl, hfz, hnd⟩ := hW
  have hA : DataW.TrodAll enc Tryz.prog W 0 (fun _ => true) true Tryz.f3.params.toList args.toList ds p := hA0
  rw [Tryz.params3] at hA hval hWt
  obtain ⟨v0, vs0, d0, ds0, p0, q0, hargs, rfl, rfl, h0, r0⟩ := trodAll_cons hA
  obtain ⟨v1, vs1, d1, ds1, p1, q1, rfl, rfl, rfl, h1, r1⟩ := trodAll_cons r0
  obtain ⟨v2, vs2, d2, ds2, p2, q2, rfl, rfl, rfl, h2, r2⟩ := trodAll_cons r1
  obtain ⟨v3, vs3, d3, ds3, p3, q3, rfl, rfl, rfl, h3, r3⟩ := trodAll_cons r2
  obtain ⟨rfl, rfl, rfl⟩ := trodAll_nil r3
  obtain rfl : args = #[v0, v1, v2, v3] := by cases args; simp_all
  obtain ⟨rfl, rfl⟩ := trodVars_none hV
  have k0 := h0
  have lt0 : ∀ x ∈ p0, x.block < W.heap.size := by obtain ⟨m, hm⟩ := k0; exact DataW.trod_lt m _ _ _ hm
  have k1 := h1
  have lt1 : ∀ x ∈ p1, x.block < W.heap.size := by obtain ⟨m, hm⟩ := k1; exact DataW.trod_lt m _ _ _ hm
  have k2 := h2
  have lt2 : ∀ x ∈ p2, x.block < W.heap.size := by obtain ⟨m, hm⟩ := k2; exact DataW.trod_lt m _ _ _ hm
  have k3 := h3
  have lt3 : ∀ x ∈ p3, x.block < W.heap.size := by obtain ⟨m, hm⟩ := k3; exact DataW.trod_lt m _ _ _ hm
  obtain ⟨ls0, a0, cap0, rfl, hL0, hs0⟩ := open_texts (hval 0 22 v0 rfl rfl) h0 (fun n hn => by have := List.all_eq_true.1 hWt n (DataW.weights_mem_each (j := 0) rfl rfl n hn); simpa using this)
  obtain ⟨x1, rfl, _, _, w1⟩ := open_int Tryz.underlying3 (hval 1 3 v1 rfl rfl) h1
  obtain ⟨s2, rfl, _, _, w2⟩ := open_string Tryz.underlying9 (hval 2 9 v2 rfl rfl) h2
  obtain ⟨x3, rfl, _, _, w3⟩ := open_int Tryz.underlying23 (hval 3 23 v3 rfl rfl) h3
  clear hA0 hval0
  refine (trees_law ls0 a0 cap0 x1 s2.data.toList x3 W hL0 w3 (tab_of_laid9 hLaid)).mono fun e W' ⟨he, bel⟩ => ?_
  subst he
  exact ⟨_, rfl, _, _, _, [], _, [], hW', trodAll_mk1 (shut_bool Tryz.underlying4 _), (trodAll_cons_mk (Below.trod laidOut (by kernel_rfl) (of_decide_eq_true (by kernel_rfl)) k0 bel lt0) (trodAll_cons_mk (Below.trod laidOut (by kernel_rfl) (of_decide_eq_true (by kernel_rfl)) k1 bel lt1) (trodAll_cons_mk (Below.trod laidOut (by kernel_rfl) (of_decide_eq_true (by kernel_rfl)) k2 bel lt2) (trodAll_cons_mk (Below.trod laidOut (by kernel_rfl) (of_decide_eq_true (by kernel_rfl)) k3 bel lt3) trodAll_mk0)))), rfl, bel.frame _, fun h => by cases h⟩

theorem over : Rows.merkleTreesRow.holds Tryz.pinned (OpenSpec.ofChange Rows.merkleTreesSpec) :=
  OpenClaim.holds_of_wide 3 Tryz.f3 rfl rfl rfl rfl rfl rfl rfl ⟨rfl, rfl, rfl, rfl, rfl⟩ rfl rfl rfl rfl rfl (by kernel_rfl) Tryz.func3 (by kernel_rfl)
    (of_decide_eq_true (by kernel_rfl)) (by unfold Func.isWrapper; first | (rw [if_pos (by decide +kernel)]; kernel_rfl) | (rw [if_neg (by decide +kernel)]; exact ⟨rfl, rfl⟩))
    (fun os started H enc _ => lifted os started H enc)
end MerkleTrees

theorem merkleTrees_card : Rows.MerkleTreesCardSaid :=
  Claim7.holds_tied_plain_at .later [] [.data, .data, .data, .pinned] true Rows.merkleTreesCard.stood.harness true
    MerkleTrees.over (fun _ h => by cases h) (by kernel_rfl) (fun _ h => by cases h) merkleTrees_row_tie rfl ⟨rfl, rfl⟩ (by kernel_rfl) rfl
    (fun f fn hf hfn => by
      obtain rfl : f = 3 := Option.some.inj ((show Tryz.prog.funcNamed "rescript/rescriptlaw09.MerkleTrees" = some 3 by kernel_rfl).symm.trans hf) |>.symm
      obtain rfl : fn = Tryz.f3 := (Option.some.inj (Tryz.func3.symm.trans hfn)).symm
      exact ⟨by kernel_rfl, fun j t ht => by
        rw [Tryz.params3] at ht
        have hm : t ∈ [22, 3, 9, 23] := by simpa using Array.mem_of_getElem? ht
        have hall : ([22, 3, 9, 23].all fun u => !Tryz.prog.wantsStandIn u) = true := by kernel_rfl
        exact (show Tryz.prog.wantsStandIn t = false by simpa using List.all_eq_true.1 hall t hm)⟩)
    (by kernel_rfl)
#print axioms merkleTrees_card
end Go.Proofs.YtaajkbclojmbeaaGreatDoor
