/- The reference's Put. -/
import Derived.Test.YtemnjoiajmcpjaaGreatDoorZ4g
import Derived.Test.YtemnjoiajmcpjaaGreatDoorS7g
namespace Go.Proofs.YtemnjoiajmcpjaaGreatDoor
open Go Go.RowKit

set_option maxRecDepth 100000 in
set_option maxHeartbeats 4000000 in
theorem zput_any : RPutOk := by
  intro k n ts at_ ct N bs us p ab cb au cu w hT hV _ hv
  obtain ⟨w0, hw0⟩ : ∃ w0, (w.alloc (.cells #[.int .i64 k, .int .i64 n, .slice at_ ts.length ct] 24)).alloc (.cells #[.int .u64 (M.pt 0 N), .int .u64 (M.pt 1 N), .int .u64 (M.pt 2 N), .int .u64 (M.pt 3 N), .slice ab bs.length cb, .slice au us.length cu, .int .i64 p] 31) = w0 := ⟨_, rfl⟩
  have hb0 : Below w.heap.size w w0 := by rw [← hw0]; exact two_boxes _ _ _
  have hz0 : w0.heap.size = w.heap.size + 2 := by rw [← hw0]; simp
  have hB0 : BoxT w0 w.heap.size k n (.slice at_ ts.length ct) := by rw [← hw0]; exact ⟨by simp [go_sem], by simp [go_sem], by simp [go_sem]⟩
  have hA0 : Cells7 w0 (w.heap.size + 1) 0 N (.slice ab bs.length cb) (.slice au us.length cu) p := by
    rw [← hw0]
    have := Cells7.new (w.alloc (.cells #[.int .i64 k, .int .i64 n, .slice at_ ts.length ct] 24)) N (.slice ab bs.length cb) (.slice au us.length cu) p 31
    rwa [World.size_alloc] at this
  have HW := Lib.hid hw0
  have HF := Lib.hid (tfits_any k n ts at_ ct N bs us p ab cb au cu w0 ((hT.from_ hb0).mono hb0.size) ((hV.from_ hb0).mono hb0.size))
  have hb00 : Below w0.heap.size w0 w0 := Below.refl _ _
  have t0 := hB0.c0
  have t1 := hB0.c1
  have t2 := hB0.c2
  have a0 := hA0.c0
  have a1 := hA0.c1
  have a2 := hA0.c2
  have a3 := hA0.c3
  have a4 := hA0.c4
  have a5 := hA0.c5
  have a6 := hA0.c6
  simp only [Nat.zero_add] at a1 a2 a3 a4 a5 a6
  rw [← HW.out] at t0 t1 t2 a0 a1 a2 a3 a4 a5 a6
  by_cases hf : M.fitsV (.mk k n ts) (.mk N bs us p) = 0
  · have hc : M.chkT 0 (.mk k n ts) = 0 := by
      apply Classical.byContradiction
      intro hc
      rw [M.fitsV, if_neg hc] at hf
      exact hc hf
    have hf2 := hf
    rw [M.fitsV, if_pos hc] at hf2
    have HBY := Lib.hid (fun W (h : Below w0.heap.size w0 W) => zbytes_n _ k n ts at_ ct 0 N bs us p ab cb au cu W (Nat.le_refl _) ((hT.from_ (hb0.trans (h.mono hb0.size))).mono (Nat.le_trans hb0.size h.size)) ((hV.from_ (hb0.trans (h.mono hb0.size))).mono (Nat.le_trans hb0.size h.size)) hc hf2 (by omega))
    have HE := Lib.hid (show M.putT (.mk k n ts) (.mk N bs us p) = if 65536 < (M.putV (.mk k n ts) (.mk N bs us p)).length then ([], 5) else (M.putV (.mk k n ts) (.mk N bs us p), 0) by rw [M.putT, if_neg (by simp [hf])])
    rw [hf] at HF
    generalize M.putT (.mk k n ts) (.mk N bs us p) = r at *
    generalize M.putV (.mk k n ts) (.mk N bs us p) = q at *
    clear hw0 hT hV hv hf hf2 hc
    go_enter Tryz.func12, Tryz.ntmps12
    go_wp2_with fail
    rw [HW.out]
    refine HF.out.mono ?_
    rintro e w1 ⟨rfl, hb01⟩
    clear t0 t1 t2 a0 a1 a2 a3 a4 a5 a6 HF
    have hB1 := hB0.from_ hb01 (by omega)
    have t0 := hB1.c0
    have t1 := hB1.c1
    have t2 := hB1.c2
    have hA1 := hA0.from_ hb01 (by omega)
    have a0 := hA1.c0
    have a1 := hA1.c1
    have a2 := hA1.c2
    have a3 := hA1.c3
    have a4 := hA1.c4
    have a5 := hA1.c5
    have a6 := hA1.c6
    simp only [Nat.zero_add] at a1 a2 a3 a4 a5 a6
    go_wp2_with fail
    refine (HBY.out _ hb01).mono ?_
    rintro e w2 ⟨rfl, hb2⟩
    clear t0 t1 t2 a0 a1 a2 a3 a4 a5 a6 HBY
    have hbw := hb0.trans ((Below.trans hb01 (Below.mono hb2 (Below.size hb01))).mono hb0.size)
    by_cases hl : 65536 < q.length
    · have hl1 : (65536 : Int) < (q.length : Nat) := by omega
      have hr := HE.out
      rw [if_pos hl] at hr
      subst hr
      clear hl
      go_wp2_with fail
      go_ret2
      exact ⟨rfl, hbw⟩
    · have hl1 : ¬ (65536 : Int) < (q.length : Nat) := by omega
      have hr := HE.out
      rw [if_neg hl] at hr
      subst hr
      clear hl
      go_wp2_with fail
      go_ret2
      exact ⟨rfl, hbw⟩
  · have HE := Lib.hid (show M.putT (.mk k n ts) (.mk N bs us p) = ([], M.fitsV (.mk k n ts) (.mk N bs us p)) by rw [M.putT, if_pos hf])
    generalize M.putT (.mk k n ts) (.mk N bs us p) = r at *
    generalize M.fitsV (.mk k n ts) (.mk N bs us p) = x at *
    have hx : ((x : Nat) : Int) != 0 := by simp; omega
    have hr := HE.out
    subst hr
    clear hw0 hT hV hv hf
    go_enter Tryz.func12, Tryz.ntmps12
    go_wp2_with fail
    rw [HW.out]
    refine HF.out.mono ?_
    rintro e w1 ⟨rfl, hb01⟩
    go_wp2_with fail
    go_ret2
    exact ⟨rfl, hb0.trans (Below.mono hb01 hb0.size)⟩
end Go.Proofs.YtemnjoiajmcpjaaGreatDoor
