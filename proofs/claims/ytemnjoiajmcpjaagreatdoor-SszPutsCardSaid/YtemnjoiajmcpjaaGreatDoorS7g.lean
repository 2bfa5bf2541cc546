/- SszPuts. -/
import Derived.Test.YtemnjoiajmcpjaaGreatDoorK06
namespace Go.Proofs.YtemnjoiajmcpjaaGreatDoor
open Go Go.RowKit

/-- What the reference must do. -/
def RPutOk : Prop := ∀ (k n : Int) (ts : List M.Ty) (a : Option Addr) (cap : Nat) (N : Nat) (bs : List Bool) (us : List M.Va) (p : Int) (ab : Option Addr) (cb : Nat) (au : Option Addr) (cu : Nat) (W : World), LayT W W.heap.size ts (.slice a ts.length cap) → Vl W W.heap.size N bs us ab cb au cu → M.cntT (.mk k n ts) ≤ 100 → M.cntV (.mk N bs us p) ≤ 200 →
  Calls Tryz.prog 12 #[tv k n (.slice a ts.length cap), vv N (.slice ab bs.length cb) (.slice au us.length cu) p] W fun e w' => e = .returned (.tuple #[.string ⟨(M.putT (.mk k n ts) (.mk N bs us p)).1.toArray⟩, .int .i64 ((M.putT (.mk k n ts) (.mk N bs us p)).2 : Nat)]) ∧ Below W.heap.size W w'
def RGetOk : Prop := ∀ (k n : Int) (ts : List M.Ty) (a : Option Addr) (cap : Nat) (s : List UInt8) (W : World), LayT W W.heap.size ts (.slice a ts.length cap) → M.cntT (.mk k n ts) ≤ 100 → (s.length ≤ 800 ∨ 65536 < s.length) →
  Calls Tryz.prog 14 #[tv k n (.slice a ts.length cap), .string ⟨s.toArray⟩] W fun e w' => GotP e w' (M.getT (.mk k n ts) s) ∧ Below W.heap.size W w'

set_option maxRecDepth 100000 in
set_option maxHeartbeats 8000000 in
theorem zputs_law (HK : Hid ZWorks) (HZ : Hid Sszs) (HR : Hid RPutOk) (k n : Int) (ts : List M.Ty) (at_ : Option Addr) (ct : Nat) (N : Nat) (bs : List Bool) (us : List M.Va) (p : Int) (ab : Option Addr) (cb : Nat) (au : Option Addr) (cu : Nat) (w : World)
    (hT : LayT w w.heap.size ts (.slice at_ ts.length ct)) (hV : Vl w w.heap.size N bs us ab cb au cu) :
    Calls Tryz.prog 3 #[tv k n (.slice at_ ts.length ct), vv N (.slice ab bs.length cb) (.slice au us.length cu) p] w fun e w' => e = .returned (.bool true) ∧ Below w.heap.size w w' := by
  obtain ⟨w0, hw0⟩ : ∃ w0, (w.alloc (.cells #[.int .i64 k, .int .i64 n, .slice at_ ts.length ct] 24)).alloc (.cells #[.int .u64 (M.pt 0 N), .int .u64 (M.pt 1 N), .int .u64 (M.pt 2 N), .int .u64 (M.pt 3 N), .slice ab bs.length cb, .slice au us.length cu, .int .i64 p] 31) = w0 := ⟨_, rfl⟩
  have hb0 : Below w.heap.size w w0 := by rw [← hw0]; exact two_boxes _ _ _
  have hz0 : w0.heap.size = w.heap.size + 2 := by rw [← hw0]; simp
  have hB0 : BoxT w0 w.heap.size k n (.slice at_ ts.length ct) := by rw [← hw0]; exact ⟨by simp [go_sem], by simp [go_sem], by simp [go_sem]⟩
  have hA0 : Cells7 w0 (w.heap.size + 1) 0 N (.slice ab bs.length cb) (.slice au us.length cu) p := by
    rw [← hw0]
    have := Cells7.new (w.alloc (.cells #[.int .i64 k, .int .i64 n, .slice at_ ts.length ct] 24)) N (.slice ab bs.length cb) (.slice au us.length cu) p 31
    rwa [World.size_alloc] at this
  have HW := Lib.hid hw0
  clear hw0
  go_enter Tryz.func3, Tryz.ntmps3
  go_wp2_with fail
  rw [HW.out]
  refine (HK.out w0).mono ?_
  rintro e w1 ⟨rfl, hb1⟩
  have hb01 : Below w0.heap.size w0 w1 := hb1
  have hbw1 := hb0.trans (hb01.mono hb0.size)
  have hB1 := hB0.from_ hb01 (by omega)
  have t0 := hB1.c0
  have t1 := hB1.c1
  have t2 := hB1.c2
  have hA1 := hA0.from_ hb01 (by omega)
  have a0 := hA1.c0
  have a1 := hA1.c1
  have a2 := hA1.c2
  have a3 := hA1.c3
  have a4 := hA1.c4
  have a5 := hA1.c5
  have a6 := hA1.c6
  simp only [Nat.zero_add] at a1 a2 a3 a4 a5 a6
  go_wp2_with fail
  refine (few_any k n ts at_ ct N bs us p ab cb au cu w1 ((hT.from_ hbw1).mono hbw1.size) ((hV.from_ hbw1).mono hbw1.size)).mono ?_
  rintro e w2 ⟨⟨q1, rfl, hq1⟩, hb2⟩
  have hb02 : Below w0.heap.size w0 w2 := hb01.trans (hb2.mono hb01.size)
  have hbw2 := hb0.trans (hb02.mono hb0.size)
  have HQ1 := Lib.hid hq1
  clear hq1 t0 t1 t2 a0 a1 a2 a3 a4 a5 a6 hB1 hA1 hb1 hb2
  cases q1 with
  | false =>
    go_wp2_with fail
    go_ret
    exact ⟨rfl, hbw2⟩
  | true =>
    obtain ⟨g1, g2⟩ := HQ1.out rfl
    have HP1 := Lib.hid (HZ.out.put k n ts at_ ct N bs us p ab cb au cu w2 ((hT.from_ hbw2).mono hbw2.size) ((hV.from_ hbw2).mono hbw2.size) (by omega) (by omega))
    have HP2 := Lib.hid (fun W (h : Below w.heap.size w W) => HR.out k n ts at_ ct N bs us p ab cb au cu W ((hT.from_ h).mono h.size) ((hV.from_ h).mono h.size) (by omega) (by omega))
    generalize M.putT (.mk k n ts) (.mk N bs us p) = r at *
    obtain ⟨s, x⟩ := r
    simp only at HP1 HP2
    have hB2 := hB0.from_ hb02 (by omega)
    have t0 := hB2.c0
    have t1 := hB2.c1
    have t2 := hB2.c2
    have hA2 := hA0.from_ hb02 (by omega)
    have a0 := hA2.c0
    have a1 := hA2.c1
    have a2 := hA2.c2
    have a3 := hA2.c3
    have a4 := hA2.c4
    have a5 := hA2.c5
    have a6 := hA2.c6
    simp only [Nat.zero_add] at a1 a2 a3 a4 a5 a6
    go_wp2_with fail
    refine HP1.out.mono ?_
    rintro e w3 ⟨rfl, hb3⟩
    have hb03 : Below w0.heap.size w0 w3 := hb02.trans (hb3.mono hb02.size)
    have hbw3 := hb0.trans (hb03.mono hb0.size)
    clear t0 t1 t2 a0 a1 a2 a3 a4 a5 a6 hB2 hA2 HP1
    have hB3 := hB0.from_ hb03 (by omega)
    have t0 := hB3.c0
    have t1 := hB3.c1
    have t2 := hB3.c2
    have hA3 := hA0.from_ hb03 (by omega)
    have a0 := hA3.c0
    have a1 := hA3.c1
    have a2 := hA3.c2
    have a3 := hA3.c3
    have a4 := hA3.c4
    have a5 := hA3.c5
    have a6 := hA3.c6
    simp only [Nat.zero_add] at a1 a2 a3 a4 a5 a6
    go_wp2_with fail
    refine (HP2.out _ hbw3).mono ?_
    rintro e w4 ⟨rfl, hb4⟩
    have hb04 : Below w0.heap.size w0 w4 := hb03.trans (hb4.mono hb03.size)
    have hbw4 := hb0.trans (hb04.mono hb0.size)
    go_wp2_with fail
    go_ret
    refine ⟨?_, hbw4⟩
    simp
end Go.Proofs.YtemnjoiajmcpjaaGreatDoor
