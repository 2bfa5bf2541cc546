/- The reference's Bytes, of one of several. -/
import Derived.Test.YtemnjoiajmcpjaaGreatDoorZ3g
import Derived.Test.YtemnjoiajmcpjaaGreatDoorK12
import Derived.Test.YtemnjoiajmcpjaaGreatDoorK06
import Derived.Test.YtemnjoiajmcpjaaGreatDoorK15
namespace Go.Proofs.YtemnjoiajmcpjaaGreatDoor
open Go Go.RowKit Go.Lib
attribute [local go_sem] Oper.semAt_some

theorem str_join (a b : List UInt8) : (({ data := a.toArray } : ByteArray) ++ { data := b.toArray }) = { data := (a ++ b).toArray } := by
  apply ByteArray.ext
  simp
/-- What the reference's Bytes must do, for values of such size. -/
def ZBytesC (z : Nat) : Prop := ∀ (k n : Int) (ts : List M.Ty) (at_ : Option Addr) (ct : Nat) (d : Nat) (N : Nat) (bs : List Bool) (us : List M.Va) (p : Int) (ab : Option Addr) (cb : Nat) (au : Option Addr) (cu : Nat) (w : World), SizeOf.sizeOf us ≤ z → LayT w w.heap.size ts (.slice at_ ts.length ct) → Vl w w.heap.size N bs us ab cb au cu → M.chkT d (.mk k n ts) = 0 → M.fitV (.mk k n ts) (.mk N bs us p) = 0 → M.cntV (.mk N bs us p) ≤ 800 →
    Calls Tryz.prog 26 #[tv k n (.slice at_ ts.length ct), vv N (.slice ab bs.length cb) (.slice au us.length cu) p] w fun e w' => e = .returned (.string ⟨(M.putV (.mk k n ts) (.mk N bs us p)).toArray⟩) ∧ Below w.heap.size w w'
set_option maxRecDepth 100000 in
set_option maxHeartbeats 4000000 in
theorem zunion_step (z : Nat) (ih : Hid (ZBytesC z)) (n : Int) (ts : List M.Ty) (at_ : Option Addr) (ct : Nat) (d : Nat) (N : Nat) (bs : List Bool) (us : List M.Va) (p : Int) (ab : Option Addr) (cb : Nat) (au : Option Addr) (cu : Nat) (w : World) (hs : SizeOf.sizeOf us ≤ z + 1) (hT : LayT w w.heap.size ts (.slice at_ ts.length ct)) (hV : Vl w w.heap.size N bs us ab cb au cu) (hc : M.chkT d (.mk 8 n ts) = 0) (hf : M.fitV (.mk 8 n ts) (.mk N bs us p) = 0) (h2 : M.cntV (.mk N bs us p) ≤ 800) :
    Calls Tryz.prog 26 #[tv 8 n (.slice at_ ts.length ct), vv N (.slice ab bs.length cb) (.slice au us.length cu) p] w fun e w' => e = .returned (.string ⟨(M.putV (.mk 8 n ts) (.mk N bs us p)).toArray⟩) ∧ Below w.heap.size w w' := by
  have hfp := M.fit_parts0 hf
  have ho := hfp.2.1
  rw [M.ofV_8] at ho
  simp only [Bool.and_eq_true, beq_iff_eq, decide_eq_true_eq] at ho
  obtain ⟨⟨⟨⟨rfl, hbl⟩, hul⟩, hp0⟩, hp1⟩ := ho
  obtain ⟨pk, rfl⟩ : ∃ pk : Nat, p = (pk : Int) := ⟨p.toNat, by omega⟩
  have hpk : pk < ts.length := by omega
  have htl : ts.length ≤ 8 := by
    have h3 := (M.chkT_ok.1 hc).2.1
    unfold M.formT at h3
    simp at h3
    omega
  obtain ⟨x, rfl⟩ : ∃ x, us = [x] := by
    cases us with
    | nil => simp at hul
    | cons x us => cases us with
      | nil => exact ⟨x, rfl⟩
      | cons y us => simp at hul
  obtain ⟨w0, hw0⟩ : ∃ w0, (w.alloc (.cells #[.int .i64 8, .int .i64 n, .slice at_ ts.length ct] 24)).alloc (.cells #[.int .u64 (M.pt 0 0), .int .u64 (M.pt 1 0), .int .u64 (M.pt 2 0), .int .u64 (M.pt 3 0), .slice ab bs.length cb, .slice au 1 cu, .int .i64 (pk : Int)] 31) = w0 := ⟨_, rfl⟩
  have hb0 : Below w.heap.size w w0 := by rw [← hw0]; exact two_boxesV _ _ _ _ _ _ _ _
  have hz0 : w0.heap.size = w.heap.size + 2 := by rw [← hw0]; simp
  have hB0 : BoxT w0 w.heap.size 8 n (.slice at_ ts.length ct) := by rw [← hw0]; exact ⟨by simp [go_sem], by simp [go_sem], by simp [go_sem]⟩
  have hA0 : Cells7 w0 (w.heap.size + 1) 0 0 (.slice ab bs.length cb) (.slice au 1 cu) (pk : Int) := by
    rw [← hw0]
    have := Cells7.new (w.alloc (.cells #[.int .i64 8, .int .i64 n, .slice at_ ts.length ct] 24)) 0 (.slice ab bs.length cb) (.slice au 1 cu) (pk : Int) 31
    rwa [World.size_alloc] at this
  have HW := Lib.hid hw0
  have HV0 := Lib.hid ((hV.from_ hb0).mono hb0.size)
  have HT0 := Lib.hid ((hT.from_ hb0).mono hb0.size)
  obtain ⟨b, o, k', n', us', ua, uc, rfl, hbn, hts, q0, q1, q2, hLt⟩ := HT0.out.at_ hpk
  obtain ⟨b2, o2, N2, bs2, vs2, p2, ab2, cb2, av2, cv2, rfl, hbn2, hxk, h7, hVl⟩ := HV0.out.v.at_ (i := 0) (by simp)
  obtain rfl : x = .mk N2 bs2 vs2 p2 := by simpa using hxk
  have hin : M.inT 8 ts (pk : Int) 0 = .mk k' n' us' := by simp [M.inT, hts]
  have hfx : M.fitV (.mk k' n' us') (.mk N2 bs2 vs2 p2) = 0 := by
    have := M.fitVs_at 8 ts (pk : Int) _ 0 0 _ hfp.2.2 (by rfl : [M.Va.mk N2 bs2 vs2 p2][0]? = some _)
    rw [Nat.zero_add, hin] at this
    exact this
  have hcx : M.chkT (d + 1) (.mk k' n' us') = 0 := M.chkTs_ok.1 (M.chkT_ok.1 hc).2.2.2 _ (List.mem_of_getElem? hts)
  rw [M.cntV, M.cntVs, M.cntVs] at h2
  have hsv : SizeOf.sizeOf vs2 ≤ z := by simp at hs; omega
  have HE : M.putV (.mk 8 n ts) (.mk 0 bs [.mk N2 bs2 vs2 p2] (pk : Int)) = [UInt8.ofNat pk] ++ M.putV (.mk k' n' us') (.mk N2 bs2 vs2 p2) := by
    rw [M.putV]
    simp [M.Ty.k, M.putVs, M.Ty.ins, hin]
  rw [HE]
  have HC : Hid (∀ X, Below w0.heap.size w0 X → Calls Tryz.prog 26 #[tv k' n' (.slice ua us'.length uc), vv N2 (.slice ab2 bs2.length cb2) (.slice av2 vs2.length cv2) p2] X fun e w' => e = .returned (.string ⟨(M.putV (.mk k' n' us') (.mk N2 bs2 vs2 p2)).toArray⟩) ∧ Below X.heap.size X w') := fun X h =>
    ih.out k' n' us' ua uc (d + 1) N2 bs2 vs2 p2 ab2 cb2 av2 cv2 X hsv ((hLt.from_ h).mono h.size) ((hVl.from_ h).mono h.size) hcx hfx (by omega)
  have HC7 := Lib.hid h7
  have hpl : (M.putV (.mk k' n' us') (.mk N2 bs2 vs2 p2)).length ≤ 300000 := by
    have := M.put_len _ (M.chk_small _ _ hcx) (.mk N2 bs2 vs2 p2)
    omega
  generalize M.putV (.mk k' n' us') (.mk N2 bs2 vs2 p2) = s at *
  have hpk8 : (pk : Int) < 8 := by omega
  have hw1 : w.heap.size + 1 < w0.heap.size := by omega
  have hw9 : w.heap.size < w0.heap.size := by omega
  have hwr : IntKind.u8.wrap (pk : Int) = pk := by
    simp only [IntKind.wrap, IntKind.bits, IntKind.signed]
    simp
    omega
  have mixed : Tryz.prog.follows .mixedOrders = true := by kernel_rfl
  have t0 := hB0.c0
  have t1 := hB0.c1
  have t2 := hB0.c2
  have a0 := hA0.c0
  have a1 := hA0.c1
  have a2 := hA0.c2
  have a3 := hA0.c3
  have a4 := hA0.c4
  have a5 := hA0.c5
  have a6 := hA0.c6
  simp only [Nat.zero_add] at a1 a2 a3 a4 a5 a6
  rw [← HW.out] at t0 t1 t2 a0 a1 a2 a3 a4 a5 a6
  clear hw0 hf hc HE hfp hfx hcx hsv hs h2 hin ih hp0 hp1 hbl hul hV hT hxk hz0
  go_enter Tryz.func26, Tryz.ntmps26
  go_wp2_with fail
  rw [HW.out]
  refine wp_region_held (S := fun Y => Below w0.heap.size w0 Y) mixed ?_
  have hS0 : (fun Y => Below w0.heap.size w0 Y) { w0 with drawn := w0.drawn + 1 } := Below.drew (Below.refl _ _)
  rw [show Array.replicate (Array.size _) false = #[false, false, false, false, false, false, false, false, false, false, false, false, false, false, false, false, false, false] from rfl, show Array.size (α := Oper) _ = 18 from rfl]
  refine wpAnyH_take (i := 0) (v := .pointer (some ⟨w.heap.size + 1, 6, none⟩)) rfl (by kernel_rfl) (by kernel_rfl) (by kernel_rfl) (fun _ _ _ h => h) (Or.inl ⟨by rfl, ?_⟩) hS0 ?_
  · intro Y hY
    skip
    go_simp
  simp only [Act.put, List.getElem_toArray, List.getElem_cons_zero, List.setIfInBounds_toArray, List.set_cons_zero, List.set_cons_succ]
  refine wpAnyH_take (i := 1) (v := .int .i64 (pk : Int)) rfl (by kernel_rfl) (by kernel_rfl) (by kernel_rfl) (fun _ _ _ h => h) (Or.inl ⟨by rfl, ?_⟩) hS0 ?_
  · intro Y hY
    have e6 := (hY.cell (p := ⟨w.heap.size + 1, 6, none⟩) hw1).trans hA0.c6
    go_simp
  simp only [Act.put, List.getElem_toArray, List.getElem_cons_succ, List.getElem_cons_zero, List.setIfInBounds_toArray, List.set_cons_zero, List.set_cons_succ]
  refine wpAnyH_take (i := 2) (v := .int .u8 (pk : Int)) rfl (by kernel_rfl) (by kernel_rfl) (by kernel_rfl) (fun _ _ _ h => h) (Or.inl ⟨by rfl, ?_⟩) hS0 ?_
  · intro Y hY
    skip
    go_simp
  simp only [Act.put, List.getElem_toArray, List.getElem_cons_succ, List.getElem_cons_zero, List.setIfInBounds_toArray, List.set_cons_zero, List.set_cons_succ]
  refine wpAnyH_take (i := 5) (v := .pointer (some ⟨w.heap.size, 2, none⟩)) rfl (by kernel_rfl) (by kernel_rfl) (by kernel_rfl) (fun _ _ _ h => h) (Or.inl ⟨by rfl, ?_⟩) hS0 ?_
  · intro Y hY
    skip
    go_simp
  simp only [Act.put, List.getElem_toArray, List.getElem_cons_succ, List.getElem_cons_zero, List.setIfInBounds_toArray, List.set_cons_zero, List.set_cons_succ]
  refine wpAnyH_take (i := 6) (v := .slice (some ⟨b, o, none⟩) ts.length ct) rfl (by kernel_rfl) (by kernel_rfl) (by kernel_rfl) (fun _ _ _ h => h) (Or.inl ⟨by rfl, ?_⟩) hS0 ?_
  · intro Y hY
    have e2 := (hY.cell (p := ⟨w.heap.size, 2, none⟩) hw9).trans hB0.c2
    go_simp
  simp only [Act.put, List.getElem_toArray, List.getElem_cons_succ, List.getElem_cons_zero, List.setIfInBounds_toArray, List.set_cons_zero, List.set_cons_succ]
  refine wpAnyH_take (i := 7) (v := .pointer (some ⟨w.heap.size + 1, 6, none⟩)) rfl (by kernel_rfl) (by kernel_rfl) (by kernel_rfl) (fun _ _ _ h => h) (Or.inl ⟨by rfl, ?_⟩) hS0 ?_
  · intro Y hY
    skip
    go_simp
  simp only [Act.put, List.getElem_toArray, List.getElem_cons_succ, List.getElem_cons_zero, List.setIfInBounds_toArray, List.set_cons_zero, List.set_cons_succ]
  refine wpAnyH_take (i := 8) (v := .int .i64 (pk : Int)) rfl (by kernel_rfl) (by kernel_rfl) (by kernel_rfl) (fun _ _ _ h => h) (Or.inl ⟨by rfl, ?_⟩) hS0 ?_
  · intro Y hY
    have e6 := (hY.cell (p := ⟨w.heap.size + 1, 6, none⟩) hw1).trans hA0.c6
    go_simp
  simp only [Act.put, List.getElem_toArray, List.getElem_cons_succ, List.getElem_cons_zero, List.setIfInBounds_toArray, List.set_cons_zero, List.set_cons_succ]
  refine wpAnyH_take (i := 9) (v := .pointer (some ⟨b, o + pk * 3, none⟩)) rfl (by kernel_rfl) (by kernel_rfl) (by kernel_rfl) (fun _ _ _ h => h) (Or.inl ⟨by rfl, ?_⟩) hS0 ?_
  · intro Y hY
    skip
    go_simp
  simp only [Act.put, List.getElem_toArray, List.getElem_cons_succ, List.getElem_cons_zero, List.setIfInBounds_toArray, List.set_cons_zero, List.set_cons_succ]
  refine wpAnyH_take (i := 10) (v := tv k' n' (.slice ua us'.length uc)) rfl (by kernel_rfl) (by kernel_rfl) (by kernel_rfl) (fun _ _ _ h => h) (Or.inl ⟨by rfl, ?_⟩) hS0 ?_
  · intro Y hY
    have f0 := (hY.cell (p := ⟨b, o + pk * 3, none⟩) hbn).trans q0; have f1 := (hY.cell (p := ⟨b, o + pk * 3 + 1, none⟩) hbn).trans q1; have f2 := (hY.cell (p := ⟨b, o + pk * 3 + 2, none⟩) hbn).trans q2
    go_simp
  simp only [Act.put, List.getElem_toArray, List.getElem_cons_succ, List.getElem_cons_zero, List.setIfInBounds_toArray, List.set_cons_zero, List.set_cons_succ]
  refine wpAnyH_take (i := 11) (v := .pointer (some ⟨w.heap.size + 1, 5, none⟩)) rfl (by kernel_rfl) (by kernel_rfl) (by kernel_rfl) (fun _ _ _ h => h) (Or.inl ⟨by rfl, ?_⟩) hS0 ?_
  · intro Y hY
    skip
    go_simp
  simp only [Act.put, List.getElem_toArray, List.getElem_cons_succ, List.getElem_cons_zero, List.setIfInBounds_toArray, List.set_cons_zero, List.set_cons_succ]
  refine wpAnyH_take (i := 12) (v := .slice (some ⟨b2, o2, none⟩) 1 cu) rfl (by kernel_rfl) (by kernel_rfl) (by kernel_rfl) (fun _ _ _ h => h) (Or.inl ⟨by rfl, ?_⟩) hS0 ?_
  · intro Y hY
    have e5 := (hY.cell (p := ⟨w.heap.size + 1, 5, none⟩) hw1).trans hA0.c5
    go_simp
  simp only [Act.put, List.getElem_toArray, List.getElem_cons_succ, List.getElem_cons_zero, List.setIfInBounds_toArray, List.set_cons_zero, List.set_cons_succ]
  refine wpAnyH_take (i := 13) (v := .pointer (some ⟨b2, o2, none⟩)) rfl (by kernel_rfl) (by kernel_rfl) (by kernel_rfl) (fun _ _ _ h => h) (Or.inl ⟨by rfl, ?_⟩) hS0 ?_
  · intro Y hY
    skip
    go_simp
  simp only [Act.put, List.getElem_toArray, List.getElem_cons_succ, List.getElem_cons_zero, List.setIfInBounds_toArray, List.set_cons_zero, List.set_cons_succ]
  refine wpAnyH_take (i := 14) (v := vv N2 (.slice ab2 bs2.length cb2) (.slice av2 vs2.length cv2) p2) rfl (by kernel_rfl) (by kernel_rfl) (by kernel_rfl) (fun _ _ _ h => h) (Or.inl ⟨by rfl, ?_⟩) hS0 ?_
  · intro Y hY
    have h7Y := HC7.out.from_ hY hbn2; have e0 := h7Y.c0; have e1 := h7Y.c1; have e2 := h7Y.c2; have e3 := h7Y.c3; have e4 := h7Y.c4; have e5 := h7Y.c5; have e6 := h7Y.c6; simp only [Nat.zero_mul, Nat.add_zero] at e0 e1 e2 e3 e4 e5 e6
    go_simp
  simp only [Act.put, List.getElem_toArray, List.getElem_cons_succ, List.getElem_cons_zero, List.setIfInBounds_toArray, List.set_cons_zero, List.set_cons_succ]
  obtain ⟨i0, hi, hz0', hz1, hz2⟩ := info_parts Tryz.ofU8
  have hu8 : Hid ((pk : Int) = ((UInt8.ofNat pk).toNat : Int)) := by
    show (pk : Int) = ((UInt8.ofNat pk).toNat : Int)
    simp
    omega
  have HCV : Hid (∀ (g : Nat) (Y : World), Y.cell? ⟨g, 0, none⟩ = some (.int .u8 (pk : Int)) → (convert 46 9 (.slice (some ⟨g, 0, none⟩) 1 1)).run Tryz.prog Y = .ok (.string ⟨[UInt8.ofNat pk].toArray⟩) Y) := fun g Y h =>
    run_convert_bytes_back Y 46 9 5 ⟨g, 0, none⟩ 1 [UInt8.ofNat pk] Tryz.underlying46 Tryz.underlying5 Tryz.underlying9 (fun j hj => by
      obtain rfl : j = 0 := by simpa using hj
      rw [show (⟨g, 0, none⟩ : Addr).add 0 = ⟨g, 0, none⟩ from rfl, h, hu8.out]
      rfl)
  have HJ : Hid (∀ c : Nat, c = 0 → (({ data := [UInt8.ofNat pk].toArray } : ByteArray) ++ { data := s.toArray }) = { data := ([UInt8.ofNat pk] ++ s).toArray }) := fun _ _ => str_join _ _
  refine wpAnyH_ready (rs := [3, 15]) (by kernel_rfl) (by simp) ?_
  refine AllReadyH.cons rfl (fun K hK => ?rA) (AllReadyH.cons rfl (fun K hK => ?rB) AllReadyH.nil)
  case' rA =>
    rw [if_pos (by rfl)]
    refine wp_build_one 46 5 (.tmp 45) (.int .u8 (pk : Int)) (.int .u8 0) i0 rfl rfl rfl Tryz.underlying46 hi hz0' hz1 rfl ?_
    obtain ⟨X1, hWX1⟩ : ∃ X1, World.alloc { w0 with drawn := w0.drawn + 1 } (.cells #[.int .u8 (pk : Int)] 5) = X1 := ⟨_, rfl⟩
    have hS1 : Below w0.heap.size w0 X1 := by rw [← hWX1]; exact Below.alloc hS0 (Below.size hS0) _
    have hnX1 : X1.cell? ⟨World.heap { w0 with drawn := w0.drawn + 1 } |>.size, 0, none⟩ = some (.int .u8 (pk : Int)) := by
      have : X1.heap[(World.heap { w0 with drawn := w0.drawn + 1 }).size]? = some (.cells #[.int .u8 (pk : Int)] 5 (0, 0)) := by rw [← hWX1]; exact World.alloc_heap_new _ _
      simp [World.cell?, this]
    have hlX1 : (World.heap { w0 with drawn := w0.drawn + 1 }).size < X1.heap.size := by rw [← hWX1]; simp
    rw [hWX1]
    refine hK.out _ _ hS1 (fun _ => ?_)
    clear hK K hWX1
    simp only [Act.put, List.getElem_toArray, List.getElem_cons_succ, List.getElem_cons_zero, List.setIfInBounds_toArray, List.set_cons_zero, List.set_cons_succ]
    refine wpAnyH_ready (rs := [4, 15]) (by kernel_rfl) (by simp) ?_
    refine AllReadyH.cons rfl (fun K hK => ?rA1) (AllReadyH.cons rfl (fun K hK => ?rA2) AllReadyH.nil)
    case' rA1 =>
      have hcv := HCV.out w0.heap.size X1 (hnX1)
      go_simp
      refine hK.out _ _ hS1 (fun _ => ?_)
      clear hK K hcv
      simp only [List.setIfInBounds_toArray, List.set_cons_zero, List.set_cons_succ]
      refine wpAnyH_ready (rs := [15]) (by kernel_rfl) (by simp) ?_
      refine AllReadyH.cons rfl (fun K hK => ?_) AllReadyH.nil
      go_simp
      refine (HC.out _ hS1).mono ?_
      rintro e X9 ⟨rfl, hbX9⟩
      have hS9 : Below w0.heap.size w0 X9 := Below.trans hS1 (Below.mono hbX9 (Below.size hS1))
      try go_wp2_with fail
      refine hK.out _ _ hS9 (fun _ => ?_)
      clear hK K
      simp only [List.setIfInBounds_toArray, List.set_cons_zero, List.set_cons_succ]
    case' rA2 =>
      go_simp
      refine (HC.out _ hS1).mono ?_
      rintro e X9 ⟨rfl, hbX9⟩
      have hS9 : Below w0.heap.size w0 X9 := Below.trans hS1 (Below.mono hbX9 (Below.size hS1))
      try go_wp2_with fail
      refine hK.out _ _ hS9 (fun _ => ?_)
      clear hK K
      simp only [List.setIfInBounds_toArray, List.set_cons_zero, List.set_cons_succ]
      refine wpAnyH_ready (rs := [4]) (by kernel_rfl) (by simp) ?_
      refine AllReadyH.cons rfl (fun K hK => ?_) AllReadyH.nil
      have hcv := HCV.out w0.heap.size X9 ((hbX9.cell (p := ⟨_, 0, none⟩) hlX1).trans hnX1)
      go_simp
      refine hK.out _ _ hS9 (fun _ => ?_)
      clear hK K hcv
      simp only [List.setIfInBounds_toArray, List.set_cons_zero, List.set_cons_succ]
  case' rB =>
    go_simp
    refine (HC.out _ hS0).mono ?_
    rintro e X1 ⟨rfl, hbX1⟩
    have hS1 : Below w0.heap.size w0 X1 := Below.trans hS0 (Below.mono hbX1 (Below.size hS0))
    try go_wp2_with fail
    refine hK.out _ _ hS1 (fun _ => ?_)
    clear hK K
    simp only [List.setIfInBounds_toArray, List.set_cons_zero, List.set_cons_succ]
    refine wpAnyH_ready (rs := [3]) (by kernel_rfl) (by simp) ?_
    refine AllReadyH.cons rfl (fun K hK => ?_) AllReadyH.nil
    rw [if_pos (by rfl)]
    refine wp_build_one 46 5 (.tmp 45) (.int .u8 (pk : Int)) (.int .u8 0) i0 rfl rfl rfl Tryz.underlying46 hi hz0' hz1 rfl ?_
    obtain ⟨X9, hWX9⟩ : ∃ X9, World.alloc X1 (.cells #[.int .u8 (pk : Int)] 5) = X9 := ⟨_, rfl⟩
    have hS9 : Below w0.heap.size w0 X9 := by rw [← hWX9]; exact Below.alloc hS1 (Below.size hS1) _
    have hnX9 : X9.cell? ⟨World.heap X1 |>.size, 0, none⟩ = some (.int .u8 (pk : Int)) := by
      have : X9.heap[(World.heap X1).size]? = some (.cells #[.int .u8 (pk : Int)] 5 (0, 0)) := by rw [← hWX9]; exact World.alloc_heap_new _ _
      simp [World.cell?, this]
    have hlX9 : (World.heap X1).size < X9.heap.size := by rw [← hWX9]; simp
    rw [hWX9]
    refine hK.out _ _ hS9 (fun _ => ?_)
    clear hK K hWX9
    simp only [Act.put, List.getElem_toArray, List.getElem_cons_succ, List.getElem_cons_zero, List.setIfInBounds_toArray, List.set_cons_zero, List.set_cons_succ]
    refine wpAnyH_ready (rs := [4]) (by kernel_rfl) (by simp) ?_
    refine AllReadyH.cons rfl (fun K hK => ?_) AllReadyH.nil
    have hcv := HCV.out X1.heap.size X9 (hnX9)
    go_simp
    refine hK.out _ _ hS9 (fun _ => ?_)
    clear hK K hcv
    simp only [List.setIfInBounds_toArray, List.set_cons_zero, List.set_cons_succ]
  all_goals
    refine wpAnyH_take (i := 16) (v := .string ⟨([UInt8.ofNat pk] ++ s).toArray⟩) rfl (by kernel_rfl) (by kernel_rfl) (by kernel_rfl) (fun _ _ _ h => h) (Or.inl ⟨by rfl, ?_⟩) hS9 ?_
    · intro Y hY
      skip
      go_simp
      try simp [str_join]
      try omega
    simp only [Act.put, List.getElem_toArray, List.getElem_cons_succ, List.getElem_cons_zero, List.setIfInBounds_toArray, List.set_cons_zero, List.set_cons_succ]
    refine wpAnyH_take (i := 17) (v := .string ⟨([UInt8.ofNat pk] ++ s).toArray⟩) rfl (by kernel_rfl) (by kernel_rfl) (by kernel_rfl) (fun _ _ _ h => h) (Or.inl ⟨by rfl, ?_⟩) hS9 ?_
    · intro Y hY
      skip
      go_simp
    simp only [Act.put, List.getElem_toArray, List.getElem_cons_succ, List.getElem_cons_zero, List.setIfInBounds_toArray, List.set_cons_zero, List.set_cons_succ]
    refine wpAnyH_done (by kernel_rfl) ?_ _
    go_wp2_with fail
    go_ret
    exact ⟨rfl, hb0.trans (Below.mono hS9 hb0.size)⟩
end Go.Proofs.YtemnjoiajmcpjaaGreatDoor
