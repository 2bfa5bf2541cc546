/- SszGets. -/
import Derived.Test.YtemnjoiajmcpjaaGreatDoorS7g
namespace Go.Proofs.YtemnjoiajmcpjaaGreatDoor
open Go Go.RowKit

theorem few_none (k n : Int) (ts : List M.Ty) (at_ : Option Addr) (ct : Nat) (w : World) (hT : LayT w w.heap.size ts (.slice at_ ts.length ct)) :
    Calls Tryz.prog 10 #[tv k n (.slice at_ ts.length ct), .agg #[.int .u64 0, .int .u64 0, .int .u64 0, .int .u64 0, .slice none 0 0, .slice none 0 0, .int .i64 0]] w fun e w' => FewP e (.mk k n ts) M.noV ∧ Below w.heap.size w w' := by
  have := few_any k n ts at_ ct 0 [] [] 0 none 0 none 0 w hT ⟨by unfold M.In; omega, .nil_ (by decide), .nil_ (by decide)⟩
  rw [show vv 0 (.slice none ([] : List Bool).length 0) (.slice none ([] : List M.Va).length 0) 0 = .agg #[.int .u64 0, .int .u64 0, .int .u64 0, .int .u64 0, .slice none 0 0, .slice none 0 0, .int .i64 0] by
    show Value.agg _ = _
    rw [show M.pt 0 0 = 0 by decide +kernel, show M.pt 1 0 = 0 by decide +kernel, show M.pt 2 0 = 0 by decide +kernel, show M.pt 3 0 = 0 by decide +kernel]; rfl] at this
  exact this
theorem M.va_inj {a b : Nat} {c d : List Bool} {e f : List M.Va} {g h : Int} (x : M.Va.mk a c e g = .mk b d f h) : a = b ∧ c = d ∧ e = f ∧ g = h := by cases x; exact ⟨rfl, rfl, rfl, rfl⟩
set_option maxRecDepth 100000 in
set_option maxHeartbeats 8000000 in
theorem zgets_law (HK : Hid ZWorks) (HZ : Hid Sszs) (HR : Hid RGetOk) (k n : Int) (ts : List M.Ty) (at_ : Option Addr) (ct : Nat) (s : List UInt8) (w : World)
    (hT : LayT w w.heap.size ts (.slice at_ ts.length ct)) (_hs : s.length ≤ maxLen) :
    Calls Tryz.prog 4 #[tv k n (.slice at_ ts.length ct), .string ⟨s.toArray⟩] w fun e w' => e = .returned (.bool true) ∧ Below w.heap.size w w' := by
  obtain ⟨w0, hw0⟩ : ∃ w0, w.alloc (.cells #[.int .i64 k, .int .i64 n, .slice at_ ts.length ct] 24) = w0 := ⟨_, rfl⟩
  have hb0 : Below w.heap.size w w0 := by rw [← hw0]; exact (Below.refl _ _).alloc (Nat.le_refl _) _
  have hz0 : w0.heap.size = w.heap.size + 1 := by rw [← hw0]; simp
  have hB0 : BoxT w0 w.heap.size k n (.slice at_ ts.length ct) := by rw [← hw0]; exact BoxT.new _ _ _ _ _
  have HW := Lib.hid hw0
  clear hw0
  go_enter Tryz.func4, Tryz.ntmps4
  go_wp2_with fail
  rw [HW.out]
  refine (HK.out w0).mono ?_
  rintro e w1 ⟨rfl, hb1⟩
  have hb01 : Below w0.heap.size w0 w1 := hb1
  have hbw1 := hb0.trans (hb01.mono hb0.size)
  have hB1 := hB0.from_ hb01 (by omega)
  have t0 := hB1.c0
  have t1 := hB1.c1
  have t2 := hB1.c2
  go_wp2_with fail
  refine (few_none k n ts at_ ct w1 ((hT.from_ hbw1).mono hbw1.size)).mono ?_
  rintro e w2 ⟨⟨q1, rfl, hq1⟩, hb2⟩
  have hb02 : Below w0.heap.size w0 w2 := hb01.trans (hb2.mono hb01.size)
  have hbw2 := hb0.trans (hb02.mono hb0.size)
  have HQ1 := Lib.hid hq1
  clear hq1 t0 t1 t2 hB1 hb1 hb2
  cases q1 with
  | false =>
    go_wp2_with fail
    go_ret
    exact ⟨rfl, hbw2⟩
  | true =>
    obtain ⟨g1, g2⟩ := HQ1.out rfl
    have hB2 := hB0.from_ hb02 (by omega)
    have t0 := hB2.c0
    have t1 := hB2.c1
    have t2 := hB2.c2
    by_cases hl : s.length ≤ 800 ∨ 65536 < s.length
    · have HP1 := Lib.hid (HZ.out.get k n ts at_ ct s w2 ((hT.from_ hbw2).mono hbw2.size) (by omega) (by omega))
      have HP2 := Lib.hid (fun W (h : Below w.heap.size w W) => HR.out k n ts at_ ct s W ((hT.from_ h).mono h.size) (by omega) hl)
      generalize M.getT (.mk k n ts) s = r at *
      obtain ⟨v, x⟩ := r
      rcases hl with hl | hl
      · have hl1 : (s.length : Int) ≤ 800 := by omega
        go_wp2_with fail
        refine HP1.out.mono ?_
        rintro e w3 ⟨⟨N1, bs1, us1, p1, ab1, cb1, au1, cu1, hg1, rfl, hv1⟩, hb3⟩
        simp only at hg1
        subst hg1
        have hb03 : Below w0.heap.size w0 w3 := hb02.trans (hb3.mono hb02.size)
        obtain ⟨w4, hw4⟩ : ∃ w4, w3.alloc (.cells #[.int .u64 (M.pt 0 N1), .int .u64 (M.pt 1 N1), .int .u64 (M.pt 2 N1), .int .u64 (M.pt 3 N1), .slice ab1 bs1.length cb1, .slice au1 us1.length cu1, .int .i64 p1] 31) = w4 := ⟨_, rfl⟩
        have hz4 : w4.heap.size = w3.heap.size + 1 := by rw [← hw4]; simp
        have hb4 : Below w3.heap.size w3 w4 := by rw [← hw4]; exact (Below.refl _ _).alloc (Nat.le_refl _) _
        have hb04 : Below w0.heap.size w0 w4 := hb03.trans (hb4.mono hb03.size)
        have hbw4 := hb0.trans (hb04.mono hb0.size)
        have hA4 : Cells7 w4 w3.heap.size 0 N1 (.slice ab1 bs1.length cb1) (.slice au1 us1.length cu1) p1 := by rw [← hw4]; exact Cells7.new _ _ _ _ _ _
        have HW4 := Lib.hid hw4
        clear hw4 t0 t1 t2 HP1
        have hB4 := hB0.from_ hb04 (by omega)
        have t0 := hB4.c0
        have t1 := hB4.c1
        have t2 := hB4.c2
        rw [← HW4.out] at t0 t1 t2
        go_wp2_with fail
        rw [HW4.out]
        refine (HP2.out _ hbw4).mono ?_
        rintro e w5 ⟨⟨N2, bs2, us2, p2, ab2, cb2, au2, cu2, hg2, rfl, hv2⟩, hb5⟩
        simp only at hg2
        obtain ⟨e1, e2, e3, e4⟩ := M.va_inj hg2
        subst e1 e2 e3 e4
        obtain ⟨w6, hw6⟩ : ∃ w6, w5.alloc (.cells #[.int .u64 (M.pt 0 N1), .int .u64 (M.pt 1 N1), .int .u64 (M.pt 2 N1), .int .u64 (M.pt 3 N1), .slice ab2 bs1.length cb2, .slice au2 us1.length cu2, .int .i64 p1] 31) = w6 := ⟨_, rfl⟩
        have hb6 : Below w5.heap.size w5 w6 := by rw [← hw6]; exact (Below.refl _ _).alloc (Nat.le_refl _) _
        have hA6 : Cells7 w6 w5.heap.size 0 N1 (.slice ab2 bs1.length cb2) (.slice au2 us1.length cu2) p1 := by rw [← hw6]; exact Cells7.new _ _ _ _ _ _
        have hb46 : Below w4.heap.size w4 w6 := Below.trans hb5 (hb6.mono hb5.size)
        have hb36 : Below w3.heap.size w3 w6 := hb4.trans (hb46.mono hb4.size)
        have hbw6 := hbw4.trans (hb46.mono hbw4.size)
        have HW6 := Lib.hid hw6
        clear hw6 t0 t1 t2
        have hA5 := hA4.from_ hb46 (by omega)
        have a0 := hA5.c0
        have a1 := hA5.c1
        have a2 := hA5.c2
        have a3 := hA5.c3
        have a4 := hA5.c4
        have a5 := hA5.c5
        have a6 := hA5.c6
        have c0 := hA6.c0
        have c1 := hA6.c1
        have c2 := hA6.c2
        have c3 := hA6.c3
        have c4 := hA6.c4
        have c5 := hA6.c5
        have c6 := hA6.c6
        simp only [Nat.zero_add] at a1 a2 a3 a4 a5 a6 c1 c2 c3 c4 c5 c6
        rw [← HW6.out] at a0 a1 a2 a3 a4 a5 a6 c0 c1 c2 c3 c4 c5 c6
        go_wp2_with fail
        rw [HW6.out]
        refine (tsame_n _ N1 bs1 us1 p1 ab1 cb1 au1 cu1 N1 bs1 us1 p1 ab2 cb2 au2 cu2 w6 (Nat.le_refl _) ((hv1.from_ hb36).mono hb36.size) ((hv2.from_ hb6).mono hb6.size)).mono ?_
        rintro e w7 ⟨rfl, hb7⟩
        rw [(M.same_eq _ _).2 rfl]
        go_wp2_with fail
        go_ret
        exact ⟨rfl, hbw6.trans (hb7.mono hbw6.size)⟩
      · have hl1 : (800 : Int) < (s.length : Nat) := by omega
        have hl2 : ¬ (s.length : Int) ≤ 65536 := by omega
        go_wp2_with fail
        refine HP1.out.mono ?_
        rintro e w3 ⟨⟨N1, bs1, us1, p1, ab1, cb1, au1, cu1, hg1, rfl, hv1⟩, hb3⟩
        simp only at hg1
        subst hg1
        have hb03 : Below w0.heap.size w0 w3 := hb02.trans (hb3.mono hb02.size)
        obtain ⟨w4, hw4⟩ : ∃ w4, w3.alloc (.cells #[.int .u64 (M.pt 0 N1), .int .u64 (M.pt 1 N1), .int .u64 (M.pt 2 N1), .int .u64 (M.pt 3 N1), .slice ab1 bs1.length cb1, .slice au1 us1.length cu1, .int .i64 p1] 31) = w4 := ⟨_, rfl⟩
        have hz4 : w4.heap.size = w3.heap.size + 1 := by rw [← hw4]; simp
        have hb4 : Below w3.heap.size w3 w4 := by rw [← hw4]; exact (Below.refl _ _).alloc (Nat.le_refl _) _
        have hb04 : Below w0.heap.size w0 w4 := hb03.trans (hb4.mono hb03.size)
        have hbw4 := hb0.trans (hb04.mono hb0.size)
        have hA4 : Cells7 w4 w3.heap.size 0 N1 (.slice ab1 bs1.length cb1) (.slice au1 us1.length cu1) p1 := by rw [← hw4]; exact Cells7.new _ _ _ _ _ _
        have HW4 := Lib.hid hw4
        clear hw4 t0 t1 t2 HP1
        have hB4 := hB0.from_ hb04 (by omega)
        have t0 := hB4.c0
        have t1 := hB4.c1
        have t2 := hB4.c2
        rw [← HW4.out] at t0 t1 t2
        go_wp2_with fail
        rw [HW4.out]
        refine (HP2.out _ hbw4).mono ?_
        rintro e w5 ⟨⟨N2, bs2, us2, p2, ab2, cb2, au2, cu2, hg2, rfl, hv2⟩, hb5⟩
        simp only at hg2
        obtain ⟨e1, e2, e3, e4⟩ := M.va_inj hg2
        subst e1 e2 e3 e4
        obtain ⟨w6, hw6⟩ : ∃ w6, w5.alloc (.cells #[.int .u64 (M.pt 0 N1), .int .u64 (M.pt 1 N1), .int .u64 (M.pt 2 N1), .int .u64 (M.pt 3 N1), .slice ab2 bs1.length cb2, .slice au2 us1.length cu2, .int .i64 p1] 31) = w6 := ⟨_, rfl⟩
        have hb6 : Below w5.heap.size w5 w6 := by rw [← hw6]; exact (Below.refl _ _).alloc (Nat.le_refl _) _
        have hA6 : Cells7 w6 w5.heap.size 0 N1 (.slice ab2 bs1.length cb2) (.slice au2 us1.length cu2) p1 := by rw [← hw6]; exact Cells7.new _ _ _ _ _ _
        have hb46 : Below w4.heap.size w4 w6 := Below.trans hb5 (hb6.mono hb5.size)
        have hb36 : Below w3.heap.size w3 w6 := hb4.trans (hb46.mono hb4.size)
        have hbw6 := hbw4.trans (hb46.mono hbw4.size)
        have HW6 := Lib.hid hw6
        clear hw6 t0 t1 t2
        have hA5 := hA4.from_ hb46 (by omega)
        have a0 := hA5.c0
        have a1 := hA5.c1
        have a2 := hA5.c2
        have a3 := hA5.c3
        have a4 := hA5.c4
        have a5 := hA5.c5
        have a6 := hA5.c6
        have c0 := hA6.c0
        have c1 := hA6.c1
        have c2 := hA6.c2
        have c3 := hA6.c3
        have c4 := hA6.c4
        have c5 := hA6.c5
        have c6 := hA6.c6
        simp only [Nat.zero_add] at a1 a2 a3 a4 a5 a6 c1 c2 c3 c4 c5 c6
        rw [← HW6.out] at a0 a1 a2 a3 a4 a5 a6 c0 c1 c2 c3 c4 c5 c6
        go_wp2_with fail
        rw [HW6.out]
        refine (tsame_n _ N1 bs1 us1 p1 ab1 cb1 au1 cu1 N1 bs1 us1 p1 ab2 cb2 au2 cu2 w6 (Nat.le_refl _) ((hv1.from_ hb36).mono hb36.size) ((hv2.from_ hb6).mono hb6.size)).mono ?_
        rintro e w7 ⟨rfl, hb7⟩
        rw [(M.same_eq _ _).2 rfl]
        go_wp2_with fail
        go_ret
        exact ⟨rfl, hbw6.trans (hb7.mono hbw6.size)⟩
    · have hl1 : (800 : Int) < (s.length : Nat) := by omega
      have hl2 : (s.length : Int) ≤ 65536 := by omega
      go_wp2_with fail
      go_ret
      exact ⟨rfl, hbw2⟩
end Go.Proofs.YtemnjoiajmcpjaaGreatDoor
