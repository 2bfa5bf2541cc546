/- SszApart. -/
import Derived.Test.YtemnjoiajmcpjaaGreatDoorK06
namespace Go.Proofs.YtemnjoiajmcpjaaGreatDoor
open Go Go.RowKit

set_option maxRecDepth 100000 in
set_option maxHeartbeats 8000000 in
theorem zapart_law (HK : Hid ZWorks) (HZ : Hid Sszs) (HM : Hid SSame8Ok) (k n : Int) (ts : List M.Ty) (at_ : Option Addr) (ct : Nat) (N1 : Nat) (bs1 : List Bool) (us1 : List M.Va) (p1 : Int) (ab1 : Option Addr) (cb1 : Nat) (au1 : Option Addr) (cu1 : Nat) (N2 : Nat) (bs2 : List Bool) (us2 : List M.Va) (p2 : Int) (ab2 : Option Addr) (cb2 : Nat) (au2 : Option Addr) (cu2 : Nat) (w : World)
    (hT : LayT w w.heap.size ts (.slice at_ ts.length ct)) (hV1 : Vl w w.heap.size N1 bs1 us1 ab1 cb1 au1 cu1) (hV2 : Vl w w.heap.size N2 bs2 us2 ab2 cb2 au2 cu2) :
    Calls Tryz.prog 7 #[tv k n (.slice at_ ts.length ct), vv N1 (.slice ab1 bs1.length cb1) (.slice au1 us1.length cu1) p1, vv N2 (.slice ab2 bs2.length cb2) (.slice au2 us2.length cu2) p2] w fun e w' => e = .returned (.bool true) ∧ Below w.heap.size w w' := by
  obtain ⟨w0, hw0⟩ : ∃ w0, ((w.alloc (.cells #[.int .i64 k, .int .i64 n, .slice at_ ts.length ct] 24)).alloc (.cells #[.int .u64 (M.pt 0 N1), .int .u64 (M.pt 1 N1), .int .u64 (M.pt 2 N1), .int .u64 (M.pt 3 N1), .slice ab1 bs1.length cb1, .slice au1 us1.length cu1, .int .i64 p1] 31)).alloc (.cells #[.int .u64 (M.pt 0 N2), .int .u64 (M.pt 1 N2), .int .u64 (M.pt 2 N2), .int .u64 (M.pt 3 N2), .slice ab2 bs2.length cb2, .slice au2 us2.length cu2, .int .i64 p2] 31) = w0 := ⟨_, rfl⟩
  have hb0 : Below w.heap.size w w0 := by rw [← hw0]; (repeat (first | exact Below.refl _ _ | refine Below.drew ?_ | refine Below.alloc ?_ (by first | omega | (simp; omega) | simp) _ | refine Below.setCell ?_ (by first | omega | (simp; omega) | simp) _))
  have hz0 : w0.heap.size = w.heap.size + 3 := by rw [← hw0]; simp
  have hB0 : BoxT w0 w.heap.size k n (.slice at_ ts.length ct) := by rw [← hw0]; exact ⟨by simp [go_sem], by simp [go_sem], by simp [go_sem]⟩
  have hA0 : Cells7 w0 (w.heap.size + 1) 0 N1 (.slice ab1 bs1.length cb1) (.slice au1 us1.length cu1) p1 := by
    rw [← hw0]
    exact (Cells7.second _ _ _ _ _ _).from_ ((Below.refl _ _).alloc (Nat.le_refl _) _) (by simp)
  have hC0 : Cells7 w0 (w.heap.size + 1 + 1) 0 N2 (.slice ab2 bs2.length cb2) (.slice au2 us2.length cu2) p2 := by
    rw [← hw0]
    exact Cells7.third _ _ _ _ _ _ _
  have hi1 := hV1.inV (p := p1)
  have hi2 := hV2.inV (p := p2)
  have HW := Lib.hid hw0
  clear hw0
  go_enter Tryz.func7, Tryz.ntmps7
  go_wp2_with fail
  rw [HW.out]
  refine (HK.out w0).mono ?_
  rintro e w1 ⟨rfl, hb1⟩
  have hb01 : Below w0.heap.size w0 w1 := hb1
  have hbw1 := hb0.trans (hb01.mono hb0.size)
  have hB1 := hB0.from_ hb01 (by omega)
  have t0 := hB1.c0
  have t1 := hB1.c1
  have t2 := hB1.c2
  have hA1 := hA0.from_ hb01 (by omega)
  have a0 := hA1.c0
  have a1 := hA1.c1
  have a2 := hA1.c2
  have a3 := hA1.c3
  have a4 := hA1.c4
  have a5 := hA1.c5
  have a6 := hA1.c6
  simp only [Nat.zero_add] at a1 a2 a3 a4 a5 a6
  go_wp2_with fail
  refine (few_any k n ts at_ ct N1 bs1 us1 p1 ab1 cb1 au1 cu1 w1 ((hT.from_ hbw1).mono hbw1.size) ((hV1.from_ hbw1).mono hbw1.size)).mono ?_
  rintro e w2 ⟨⟨q1, rfl, hq1⟩, hb2⟩
  have hb02 : Below w0.heap.size w0 w2 := hb01.trans (hb2.mono hb01.size)
  have hbw2 := hb0.trans (hb02.mono hb0.size)
  have HQ1 := Lib.hid hq1
  clear hq1 t0 t1 t2 a0 a1 a2 a3 a4 a5 a6 hB1 hA1 hb1 hb2
  cases q1 with
  | false =>
    go_wp2_with fail
    go_ret
    exact ⟨rfl, hbw2⟩
  | true =>
    have hB2 := hB0.from_ hb02 (by omega)
    have t0 := hB2.c0
    have t1 := hB2.c1
    have t2 := hB2.c2
    have hC2 := hC0.from_ hb02 (by omega)
    have c0 := hC2.c0
    have c1 := hC2.c1
    have c2 := hC2.c2
    have c3 := hC2.c3
    have c4 := hC2.c4
    have c5 := hC2.c5
    have c6 := hC2.c6
    simp only [Nat.zero_add] at c1 c2 c3 c4 c5 c6
    go_wp2_with fail
    refine (few_any k n ts at_ ct N2 bs2 us2 p2 ab2 cb2 au2 cu2 w2 ((hT.from_ hbw2).mono hbw2.size) ((hV2.from_ hbw2).mono hbw2.size)).mono ?_
    rintro e w3 ⟨⟨q2, rfl, hq2⟩, hb3⟩
    have hb03 : Below w0.heap.size w0 w3 := hb02.trans (hb3.mono hb02.size)
    have hbw3 := hb0.trans (hb03.mono hb0.size)
    have HQ2 := Lib.hid hq2
    clear hq2 t0 t1 t2 c0 c1 c2 c3 c4 c5 c6 hB2 hC2 hb3
    cases q2 with
    | false =>
      go_wp2_with fail
      go_ret
      exact ⟨rfl, hbw3⟩
    | true =>
      obtain ⟨g1, g2⟩ := HQ1.out trivial
      obtain ⟨g3, g4⟩ := HQ2.out rfl
      have HP1 := Lib.hid (HZ.out.put k n ts at_ ct N1 bs1 us1 p1 ab1 cb1 au1 cu1 w3 ((hT.from_ hbw3).mono hbw3.size) ((hV1.from_ hbw3).mono hbw3.size) (by omega) (by omega))
      have HAP := Lib.hid (fun h1 h2 => M.ssz_apart (t := .mk k n ts) hi1 hi2 h1 h2)
      generalize hr1 : M.putT (.mk k n ts) (.mk N1 bs1 us1 p1) = r1 at *
      generalize hr2 : M.putT (.mk k n ts) (.mk N2 bs2 us2 p2) = r2 at *
      obtain ⟨s1, x1⟩ := r1
      obtain ⟨s2, x2⟩ := r2
      have HR2 := Lib.hid hr2
      clear hr1 hr2
      simp only at HP1 HAP
      have hB3 := hB0.from_ hb03 (by omega)
      have t0 := hB3.c0
      have t1 := hB3.c1
      have t2 := hB3.c2
      have hA3 := hA0.from_ hb03 (by omega)
      have a0 := hA3.c0
      have a1 := hA3.c1
      have a2 := hA3.c2
      have a3 := hA3.c3
      have a4 := hA3.c4
      have a5 := hA3.c5
      have a6 := hA3.c6
      simp only [Nat.zero_add] at a1 a2 a3 a4 a5 a6
      go_wp2_with fail
      refine HP1.out.mono ?_
      rintro e w4 ⟨rfl, hb4⟩
      have hb04 : Below w0.heap.size w0 w4 := hb03.trans (hb4.mono hb03.size)
      have hbw4 := hb0.trans (hb04.mono hb0.size)
      clear t0 t1 t2 a0 a1 a2 a3 a4 a5 a6 hB3 hA3 HP1
      have HP2 := HZ.out.put k n ts at_ ct N2 bs2 us2 p2 ab2 cb2 au2 cu2 w4 ((hT.from_ hbw4).mono hbw4.size) ((hV2.from_ hbw4).mono hbw4.size) (by omega) (by omega)
      rw [HR2.out] at HP2
      simp only at HP2
      have HP2 := Lib.hid HP2
      have hB4 := hB0.from_ hb04 (by omega)
      have t0 := hB4.c0
      have t1 := hB4.c1
      have t2 := hB4.c2
      have hC4 := hC0.from_ hb04 (by omega)
      have c0 := hC4.c0
      have c1 := hC4.c1
      have c2 := hC4.c2
      have c3 := hC4.c3
      have c4 := hC4.c4
      have c5 := hC4.c5
      have c6 := hC4.c6
      simp only [Nat.zero_add] at c1 c2 c3 c4 c5 c6
      go_wp2_with fail
      refine HP2.out.mono ?_
      rintro e w5 ⟨rfl, hb5⟩
      have hb05 : Below w0.heap.size w0 w5 := hb04.trans (hb5.mono hb04.size)
      have hbw5 := hb0.trans (hb05.mono hb0.size)
      clear t0 t1 t2 c0 c1 c2 c3 c4 c5 c6 hB4 hC4
      by_cases hx1 : x1 = 0
      · subst hx1
        by_cases hx2 : x2 = 0
        · subst hx2
          have hap := HAP.out rfl rfl
          have HM1 := Lib.hid (HM.out N1 bs1 us1 p1 ab1 cb1 au1 cu1 N2 bs2 us2 p2 ab2 cb2 au2 cu2 w5 ((hV1.from_ hbw5).mono hbw5.size) ((hV2.from_ hbw5).mono hbw5.size) (by omega) (by omega))
          generalize M.sameV (.mk N1 bs1 us1 p1) (.mk N2 bs2 us2 p2) = q at *
          have HAPP := Lib.hid hap
          clear hap
          have hA5 := hA0.from_ hb05 (by omega)
          have a0 := hA5.c0
          have a1 := hA5.c1
          have a2 := hA5.c2
          have a3 := hA5.c3
          have a4 := hA5.c4
          have a5 := hA5.c5
          have a6 := hA5.c6
          simp only [Nat.zero_add] at a1 a2 a3 a4 a5 a6
          have hC5 := hC0.from_ hb05 (by omega)
          have c0 := hC5.c0
          have c1 := hC5.c1
          have c2 := hC5.c2
          have c3 := hC5.c3
          have c4 := hC5.c4
          have c5 := hC5.c5
          have c6 := hC5.c6
          simp only [Nat.zero_add] at c1 c2 c3 c4 c5 c6
          go_wp2_with fail
          refine HM1.out.mono ?_
          rintro e w6 ⟨rfl, hb6⟩
          go_wp2_with fail
          go_ret
          refine ⟨?_, hbw5.trans (hb6.mono hbw5.size)⟩
          simp only [HAPP.out]
          simp
        · have hx2' : (((x2 : Nat) : Int) != 0) = true := by simp; omega
          clear hx2
          go_wp2_with fail
          go_ret
          exact ⟨rfl, hbw5⟩
      · have hx1' : (((x1 : Nat) : Int) != 0) = true := by simp; omega
        clear hx1
        go_wp2_with fail
        go_ret
        exact ⟨rfl, hbw5⟩
end Go.Proofs.YtemnjoiajmcpjaaGreatDoor
