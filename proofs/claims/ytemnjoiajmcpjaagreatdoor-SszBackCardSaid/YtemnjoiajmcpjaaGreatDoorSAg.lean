/- SszBack. -/
import Derived.Test.YtemnjoiajmcpjaaGreatDoorK06
import Derived.Test.YtemnjoiajmcpjaaGreatDoorK11
import Derived.Test.YtemnjoiajmcpjaaGreatDoorK12
namespace Go.Proofs.YtemnjoiajmcpjaaGreatDoor
open Go Go.RowKit

theorem M.put_short {t : M.Ty} {v : M.Va} (h2 : M.cntV v ≤ 150) (h : (M.putT t v).2 = 0) : (M.putT t v).1.length ≤ 8000 := by
  unfold M.putT at h ⊢
  by_cases h1 : M.fitsV t v = 0
  · have hc := M.fitsV_fits h1
    have := M.put_len t (M.chk_small _ _ hc) v
    rw [if_neg (by simp [h1])] at h ⊢
    split
    · simp
    · simp only; omega
  · rw [if_pos h1] at h; exact absurd h h1
set_option maxRecDepth 100000 in
set_option maxHeartbeats 8000000 in
theorem zback_law (HK : Hid ZWorks) (HZ : Hid Sszs) (k n : Int) (ts : List M.Ty) (at_ : Option Addr) (ct : Nat) (N : Nat) (bs : List Bool) (us : List M.Va) (p : Int) (ab : Option Addr) (cb : Nat) (au : Option Addr) (cu : Nat) (w : World)
    (hT : LayT w w.heap.size ts (.slice at_ ts.length ct)) (hV : Vl w w.heap.size N bs us ab cb au cu) :
    Calls Tryz.prog 5 #[tv k n (.slice at_ ts.length ct), vv N (.slice ab bs.length cb) (.slice au us.length cu) p] w fun e w' => e = .returned (.bool true) ∧ Below w.heap.size w w' := by
  obtain ⟨w0, hw0⟩ : ∃ w0, (w.alloc (.cells #[.int .i64 k, .int .i64 n, .slice at_ ts.length ct] 24)).alloc (.cells #[.int .u64 (M.pt 0 N), .int .u64 (M.pt 1 N), .int .u64 (M.pt 2 N), .int .u64 (M.pt 3 N), .slice ab bs.length cb, .slice au us.length cu, .int .i64 p] 31) = w0 := ⟨_, rfl⟩
  have hb0 : Below w.heap.size w w0 := by rw [← hw0]; (repeat (first | exact Below.refl _ _ | refine Below.drew ?_ | refine Below.alloc ?_ (by first | omega | (simp; omega) | simp) _ | refine Below.setCell ?_ (by first | omega | (simp; omega) | simp) _))
  have hz0 : w0.heap.size = w.heap.size + 2 := by rw [← hw0]; simp
  have hB0 : BoxT w0 w.heap.size k n (.slice at_ ts.length ct) := by rw [← hw0]; exact ⟨by simp [go_sem], by simp [go_sem], by simp [go_sem]⟩
  have hA0 : Cells7 w0 (w.heap.size + 1) 0 N (.slice ab bs.length cb) (.slice au us.length cu) p := by
    rw [← hw0]
    exact Cells7.second _ _ _ _ _ _
  have hi1 := hV.inV (p := p)
  have HW := Lib.hid hw0
  clear hw0
  go_enter Tryz.func5, Tryz.ntmps5
  go_wp2_with fail
  rw [HW.out]
  refine (HK.out w0).mono ?_
  rintro e w1 ⟨rfl, hb1⟩
  have hb01 : Below w0.heap.size w0 w1 := hb1
  have hbw1 := hb0.trans (hb01.mono hb0.size)
  have hB1 := hB0.from_ hb01 (by omega)
  have t0 := hB1.c0
  have t1 := hB1.c1
  have t2 := hB1.c2
  have hA1 := hA0.from_ hb01 (by omega)
  have a0 := hA1.c0
  have a1 := hA1.c1
  have a2 := hA1.c2
  have a3 := hA1.c3
  have a4 := hA1.c4
  have a5 := hA1.c5
  have a6 := hA1.c6
  simp only [Nat.zero_add] at a1 a2 a3 a4 a5 a6
  go_wp2_with fail
  refine (few_any k n ts at_ ct N bs us p ab cb au cu w1 ((hT.from_ hbw1).mono hbw1.size) ((hV.from_ hbw1).mono hbw1.size)).mono ?_
  rintro e w2 ⟨⟨q1, rfl, hq1⟩, hb2⟩
  have hb02 : Below w0.heap.size w0 w2 := hb01.trans (hb2.mono hb01.size)
  have hbw2 := hb0.trans (hb02.mono hb0.size)
  have HQ1 := Lib.hid hq1
  clear hq1 t0 t1 t2 a0 a1 a2 a3 a4 a5 a6 hB1 hA1 hb1 hb2
  cases q1 with
  | false =>
    go_wp2_with fail
    go_ret
    exact ⟨rfl, hbw2⟩
  | true =>
    obtain ⟨g1, g2⟩ := HQ1.out rfl
    have HP1 := Lib.hid (HZ.out.put k n ts at_ ct N bs us p ab cb au cu w2 ((hT.from_ hbw2).mono hbw2.size) ((hV.from_ hbw2).mono hbw2.size) (by omega) (by omega))
    have HBK : Hid ((M.putT (.mk k n ts) (.mk N bs us p)).2 = 0 → (M.getT (.mk k n ts) (M.putT (.mk k n ts) (.mk N bs us p)).1 = (.mk N bs us p, 0) ∧ (M.fixedT (.mk k n ts) = true → (M.putT (.mk k n ts) (.mk N bs us p)).1.length = M.sizeT (.mk k n ts))) ∧ (M.putT (.mk k n ts) (.mk N bs us p)).1.length ≤ 8000) := fun h =>
      ⟨M.ssz_back hi1 h, M.put_short g2 h⟩
    have HER : Hid ((M.putT (.mk k n ts) (.mk N bs us p)).2 ≠ 0 → (M.putT (.mk k n ts) (.mk N bs us p)).1 = [] ∧ (M.fitsV (.mk k n ts) (.mk N bs us p) = (M.putT (.mk k n ts) (.mk N bs us p)).2 ∨ (M.putT (.mk k n ts) (.mk N bs us p)).2 = 5)) := M.put_error
    generalize M.putT (.mk k n ts) (.mk N bs us p) = r at *
    obtain ⟨s, x⟩ := r
    simp only at HP1 HBK HER
    have hB2 := hB0.from_ hb02 (by omega)
    have t0 := hB2.c0
    have t1 := hB2.c1
    have t2 := hB2.c2
    have hA2 := hA0.from_ hb02 (by omega)
    have a0 := hA2.c0
    have a1 := hA2.c1
    have a2 := hA2.c2
    have a3 := hA2.c3
    have a4 := hA2.c4
    have a5 := hA2.c5
    have a6 := hA2.c6
    simp only [Nat.zero_add] at a1 a2 a3 a4 a5 a6
    go_wp2_with fail
    refine HP1.out.mono ?_
    rintro e w3 ⟨rfl, hb3⟩
    have hb03 : Below w0.heap.size w0 w3 := hb02.trans (hb3.mono hb02.size)
    have hbw3 := hb0.trans (hb03.mono hb0.size)
    clear t0 t1 t2 a0 a1 a2 a3 a4 a5 a6 hB2 hA2 HP1
    have hB3 := hB0.from_ hb03 (by omega)
    have t0 := hB3.c0
    have t1 := hB3.c1
    have t2 := hB3.c2
    have hA3 := hA0.from_ hb03 (by omega)
    have a0 := hA3.c0
    have a1 := hA3.c1
    have a2 := hA3.c2
    have a3 := hA3.c3
    have a4 := hA3.c4
    have a5 := hA3.c5
    have a6 := hA3.c6
    simp only [Nat.zero_add] at a1 a2 a3 a4 a5 a6
    by_cases hx : x = 0
    case neg =>
      obtain ⟨rfl, hor⟩ := HER.out hx
      have HF := Lib.hid (shape_fits k n ts at_ ct N bs us p ab cb au cu w3 ((hT.from_ hbw3).mono hbw3.size) ((hV.from_ hbw3).mono hbw3.size) (by omega) (by omega))
      obtain ⟨y, hy⟩ : ∃ y, M.fitsV (.mk k n ts) (.mk N bs us p) = y := ⟨_, rfl⟩
      rw [hy] at HF hor
      have HOR := Lib.hid hor
      have hx1' : (((x : Nat) : Int) != 0) = true := by simp; omega
      clear hx hor hy
      go_wp2_with fail
      refine HF.out.mono ?_
      rintro e w4 ⟨rfl, hb4⟩
      have hbw4 := hbw3.trans (Below.mono hb4 hbw3.size)
      by_cases hyx : y = x
      · subst hyx
        clear HF HOR
        go_wp2_with fail
        go_ret
        exact ⟨rfl, hbw4⟩
      · have hx5 : x = 5 := HOR.out.resolve_left hyx
        subst hx5
        have hyx' : (((y : Nat) : Int) == 5) = false := by rw [beq_eq_false_iff_ne]; omega
        have hyx2 : ¬ ((y : Nat) : Int) = 5 := by omega
        clear HF HOR hyx
        go_wp2_with fail
        go_ret
        exact ⟨rfl, hbw4⟩
    subst hx
    obtain ⟨⟨hget, hsz⟩, hlen⟩ := HBK.out rfl
    have HG := HZ.out.get k n ts at_ ct s w3 ((hT.from_ hbw3).mono hbw3.size) (by omega) (.inl hlen)
    rw [hget] at HG
    have HG := Lib.hid HG
    have HSZ := Lib.hid hsz
    have hlen9 : s.length ≤ 8000 := hlen
    clear HBK HER hget hsz hlen
    go_wp2_with fail
    refine HG.out.mono ?_
    rintro e w4 ⟨⟨N2, bs2, us2, p2, ab2, cb2, au2, cu2, he, rfl, hV4⟩, hb4⟩
    cases (show M.Va.mk N bs us p = M.Va.mk N2 bs2 us2 p2 from he)
    obtain ⟨w5, hw5⟩ : ∃ w5, w4.alloc (.cells #[.int .u64 (M.pt 0 N), .int .u64 (M.pt 1 N), .int .u64 (M.pt 2 N), .int .u64 (M.pt 3 N), .slice ab2 bs.length cb2, .slice au2 us.length cu2, .int .i64 p] 31) = w5 := ⟨_, rfl⟩
    have hb5 : Below w4.heap.size w4 w5 := by rw [← hw5]; exact (Below.refl _ _).alloc (Nat.le_refl _) _
    have hC5 : Cells7 w5 w4.heap.size 0 N (.slice ab2 bs.length cb2) (.slice au2 us.length cu2) p := by rw [← hw5]; exact Cells7.new w4 N _ _ p _
    have hz5 : w5.heap.size = w4.heap.size + 1 := by rw [← hw5]; simp
    have hb35 : Below w3.heap.size w3 w5 := Below.trans hb4 (hb5.mono hb4.size)
    have hb05 : Below w0.heap.size w0 w5 := hb03.trans (hb35.mono hb03.size)
    have hbw5 := hb0.trans (hb05.mono hb0.size)
    have HS := Lib.hid (shape_same N bs us p ab cb au cu N bs us p ab2 cb2 au2 cu2 w5 ((hV.from_ hbw5).mono hbw5.size) ((hV4.from_ hb5).mono hb5.size) (by omega) (by omega))
    rw [(M.same_eq (.mk N bs us p) (.mk N bs us p)).2 rfl] at HS
    clear t0 t1 t2 a0 a1 a2 a3 a4 a5 a6 hB3 hA3
    have hA5 := hA0.from_ hb05 (by omega)
    have hB5 := hB0.from_ hb05 (by omega)
    have a0 := hA5.c0
    have a1 := hA5.c1
    have a2 := hA5.c2
    have a3 := hA5.c3
    have a4 := hA5.c4
    have a5 := hA5.c5
    have a6 := hA5.c6
    simp only [Nat.zero_add] at a1 a2 a3 a4 a5 a6
    have c0 := hC5.c0
    have c1 := hC5.c1
    have c2 := hC5.c2
    have c3 := hC5.c3
    have c4 := hC5.c4
    have c5 := hC5.c5
    have c6 := hC5.c6
    simp only [Nat.zero_add] at c1 c2 c3 c4 c5 c6
    have t0 := hB5.c0
    have t1 := hB5.c1
    have t2 := hB5.c2
    have HW5 := Lib.hid hw5
    rw [← HW5.out] at a0 a1 a2 a3 a4 a5 a6 c0 c1 c2 c3 c4 c5 c6 t0 t1 t2
    clear hw5 hz5
    go_wp2_with fail
    rw [HW5.out]
    refine HS.out.mono ?_
    rintro e w6 ⟨rfl, hb6⟩
    have hb06 : Below w0.heap.size w0 w6 := hb05.trans (Below.mono hb6 hb05.size)
    have hbw6 := hb0.trans (hb06.mono hb0.size)
    clear t0 t1 t2 a0 a1 a2 a3 a4 a5 a6 c0 c1 c2 c3 c4 c5 c6 hA5 hB5 hC5 HS
    have HFX := Lib.hid (shape_fixed k n ts at_ ct w6 ((hT.from_ hbw6).mono hbw6.size) (by omega))
    have hB6 := hB0.from_ hb06 (by omega)
    have t0 := hB6.c0
    have t1 := hB6.c1
    have t2 := hB6.c2
    generalize M.fixedT (.mk k n ts) = fx at *
    go_wp2_with fail
    refine HFX.out.mono ?_
    rintro e w7 ⟨rfl, hb7⟩
    have hb07 : Below w0.heap.size w0 w7 := hb06.trans (Below.mono hb7 hb06.size)
    have hbw7 := hb0.trans (hb07.mono hb0.size)
    clear t0 t1 t2 hB6 HFX
    cases fx with
    | false =>
      go_wp2_with fail
      go_ret
      exact ⟨rfl, hbw7⟩
    | true =>
      have hsz := HSZ.out rfl
      have HSI := Lib.hid (shape_size k n ts at_ ct w7 ((hT.from_ hbw7).mono hbw7.size) (by omega))
      generalize M.sizeT (.mk k n ts) = sz at *
      have hszi : (s.length : Int) = sz := by omega
      have hB7 := hB0.from_ hb07 (by omega)
      have t0 := hB7.c0
      have t1 := hB7.c1
      have t2 := hB7.c2
      go_wp2_with fail
      refine HSI.out.mono ?_
      rintro e w8 ⟨rfl, hb8⟩
      have hbw8 := hbw7.trans (Below.mono hb8 hbw7.size)
      go_wp2_with fail
      go_ret
      exact ⟨rfl, hbw8⟩
end Go.Proofs.YtemnjoiajmcpjaaGreatDoor
