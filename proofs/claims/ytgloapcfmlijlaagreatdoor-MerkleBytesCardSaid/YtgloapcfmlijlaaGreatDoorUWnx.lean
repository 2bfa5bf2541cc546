/- The law of values of the same bytes. -/
import Derived.Test.YtgloapcfmlijlaaGreatDoorUTnx
import Derived.Test.YtgloapcfmlijlaaGreatDoorEX
namespace Go.Proofs.YtgloapcfmlijlaaGreatDoor
open Go Go.RowKit Go.Shelf Go.Lib
attribute [local go_sem] Oper.semAt_some

theorem put_fits {t : M.Ty} {v : M.Va} (h : (M.putT t v).2 = 0) : M.fitsV t v = 0 := by
  by_cases hf : M.fitsV t v = 0
  · exact hf
  · unfold M.putT at h
    rw [if_pos hf] at h
    exact absurd h hf
theorem put_not {t : M.Ty} {v : M.Va} (hf : M.fitsV t v ≠ 0) : M.putT t v = ([], M.fitsV t v) := by
  unfold M.putT
  rw [if_pos hf]
theorem same_puts {t : M.Ty} {v w : M.Va} (hv : M.inV v) (hw : M.inV w) (h1 : (M.putT t v).2 = 0) (h2 : (M.putT t w).2 = 0) (h : (M.putT t v).1 = (M.putT t w).1) : v = w := by
  have := M.ssz_apart hv hw h1 h2
  rw [h] at this
  exact (M.same_eq v w).1 (by rw [← this]; simp)
set_option maxRecDepth 100000 in
set_option maxHeartbeats 8000000 in
theorem bytes9_law (k n : Int) (ts : List M.Ty) (at_ : Option Addr) (ct : Nat) (N : Nat) (bs : List Bool) (us : List M.Va) (p : Int) (ab : Option Addr) (cb : Nat) (au : Option Addr) (cu : Nat) (N2 : Nat) (bs2 : List Bool) (us2 : List M.Va) (p2 : Int) (ab2 : Option Addr) (cb2 : Nat) (au2 : Option Addr) (cu2 : Nat) (w : World) (hT : LayT w w.heap.size ts (.slice at_ ts.length ct)) (hV : Vl w w.heap.size N bs us ab cb au cu) (hU : Vl w w.heap.size N2 bs2 us2 ab2 cb2 au2 cu2) (hTab : Tab w) :
    Calls Tryz.prog 8 #[tv k n (.slice at_ ts.length ct), vv N (.slice ab bs.length cb) (.slice au us.length cu) p, vv N2 (.slice ab2 bs2.length cb2) (.slice au2 us2.length cu2) p2] w fun e w' => e = .returned (.bool true) ∧ Below w.heap.size w w' := by
  obtain ⟨w0, hw0⟩ : ∃ w0, ((w.alloc (.cells #[.int .i64 k, .int .i64 n, .slice at_ ts.length ct] 24)).alloc (.cells #[.int .u64 (M.pt 0 N), .int .u64 (M.pt 1 N), .int .u64 (M.pt 2 N), .int .u64 (M.pt 3 N), .slice ab bs.length cb, .slice au us.length cu, .int .i64 p] 33)).alloc (.cells #[.int .u64 (M.pt 0 N2), .int .u64 (M.pt 1 N2), .int .u64 (M.pt 2 N2), .int .u64 (M.pt 3 N2), .slice ab2 bs2.length cb2, .slice au2 us2.length cu2, .int .i64 p2] 33) = w0 := ⟨_, rfl⟩
  have hb0 : Below w.heap.size w w0 := by rw [← hw0]; exact (two_boxes w _ _).alloc (two_boxes w _ _).size _
  have hz0 : w0.heap.size = w.heap.size + 3 := by rw [← hw0]; simp
  have hB0 : BoxT w0 w.heap.size k n (.slice at_ ts.length ct) := by rw [← hw0]; exact ⟨by simp [go_sem], by simp [go_sem], by simp [go_sem]⟩
  have hA0 : Cells7 w0 (w.heap.size + 1) 0 N (.slice ab bs.length cb) (.slice au us.length cu) p := by
    rw [← hw0]
    have := Cells7.new (w.alloc (.cells #[.int .i64 k, .int .i64 n, .slice at_ ts.length ct] 24)) N (.slice ab bs.length cb) (.slice au us.length cu) p 33
    rw [World.size_alloc] at this
    exact this.from_ ((Below.refl _ _).alloc (Nat.le_refl _) _) (by simp)
  have hC0 : Cells7 w0 (w.heap.size + 1 + 1) 0 N2 (.slice ab2 bs2.length cb2) (.slice au2 us2.length cu2) p2 := by
    rw [← hw0]
    have := Cells7.new ((w.alloc (.cells #[.int .i64 k, .int .i64 n, .slice at_ ts.length ct] 24)).alloc (.cells #[.int .u64 (M.pt 0 N), .int .u64 (M.pt 1 N), .int .u64 (M.pt 2 N), .int .u64 (M.pt 3 N), .slice ab bs.length cb, .slice au us.length cu, .int .i64 p] 33)) N2 (.slice ab2 bs2.length cb2) (.slice au2 us2.length cu2) p2 33
    rwa [World.size_alloc, World.size_alloc] at this
  have hlt0 : w.heap.size < w0.heap.size := by omega
  have hlt1 : w.heap.size + 1 < w0.heap.size := by omega
  have hlt2 : w.heap.size + 1 + 1 < w0.heap.size := by omega
  have HW := Lib.hid hw0
  clear hw0 hz0
  have HX := Lib.hid (works9 w0 (hTab.from hb0))
  have hTX : ∀ X, Below w0.heap.size w0 X → LayT X X.heap.size ts (.slice at_ ts.length ct) := fun X h => (hT.from_ (hb0.trans (h.mono hb0.size))).mono (hb0.trans (h.mono hb0.size)).size
  have hVX : ∀ X, Below w0.heap.size w0 X → Vl X X.heap.size N bs us ab cb au cu := fun X h => (hV.from_ (hb0.trans (h.mono hb0.size))).mono (hb0.trans (h.mono hb0.size)).size
  have hUX : ∀ X, Below w0.heap.size w0 X → Vl X X.heap.size N2 bs2 us2 ab2 cb2 au2 cu2 := fun X h => (hU.from_ (hb0.trans (h.mono hb0.size))).mono (hb0.trans (h.mono hb0.size)).size
  have hTabX : ∀ X, Below w0.heap.size w0 X → Tab X := fun X h => hTab.from (hb0.trans (h.mono hb0.size))
  have hi1 := hV.inV (p := p)
  have hi2 := hU.inV (p := p2)
  have HF1 := Lib.hid (fun X (h : Below w0.heap.size w0 X) => few9_any k n ts at_ ct N bs us p ab cb au cu X (hTX X h) (hVX X h))
  have HF2 := Lib.hid (fun X (h : Below w0.heap.size w0 X) => few9_any k n ts at_ ct N2 bs2 us2 p2 ab2 cb2 au2 cu2 X (hTX X h) (hUX X h))
  have HFits := Lib.hid (fun X (h : Below w0.heap.size w0 X) h1 h2 => shape_fits k n ts at_ ct N bs us p ab cb au cu X (hTX X h) (hVX X h) h1 h2)
  have HR1 := Lib.hid (fun X (h : Below w0.heap.size w0 X) h1 h2 => root_any k n ts at_ ct N bs us p ab cb au cu X (hTX X h) (hVX X h) h1 h2 (hTabX X h))
  have HR2 := Lib.hid (fun X (h : Below w0.heap.size w0 X) h1 h2 => root_any k n ts at_ ct N2 bs2 us2 p2 ab2 cb2 au2 cu2 X (hTX X h) (hUX X h) h1 h2 (hTabX X h))
  have HP1 := Lib.hid (fun X (h : Below w0.heap.size w0 X) h1 h2 => ssz_put k n ts at_ ct N bs us p ab cb au cu X (hTX X h) (hVX X h) h1 h2)
  have HP2 := Lib.hid (fun X (h : Below w0.heap.size w0 X) h1 h2 => ssz_put k n ts at_ ct N2 bs2 us2 p2 ab2 cb2 au2 cu2 X (hTX X h) (hUX X h) h1 h2)
  clear hT hV hU hTX hVX hUX hTabX
  go_enter Tryz.func8, Tryz.ntmps8
  go_wp2_with fail
  rw [HW.out]
  refine HX.out.mono ?_
  rintro e w1 ⟨rfl, hb1⟩
  have hw1 : Below w0.heap.size w0 w1 := hb1
  have hB1 := hB0.from_ hw1 hlt0
  have hA1 := hA0.from_ hw1 hlt1
  have hC1 := hC0.from_ hw1 hlt2
  have t0 := hB1.c0
  have t1 := hB1.c1
  have t2 := hB1.c2
  have a0 := hA1.c0
  have a1 := hA1.c1
  have a2 := hA1.c2
  have a3 := hA1.c3
  have a4 := hA1.c4
  have a5 := hA1.c5
  have a6 := hA1.c6
  have c0 := hC1.c0
  have c1 := hC1.c1
  have c2 := hC1.c2
  have c3 := hC1.c3
  have c4 := hC1.c4
  have c5 := hC1.c5
  have c6 := hC1.c6
  simp only [Nat.zero_add] at a1 a2 a3 a4 a5 a6 c1 c2 c3 c4 c5 c6
  go_wp2_with fail
  refine (HF1.out _ hw1).mono ?_
  rintro e w2 ⟨⟨q1, rfl, hq1⟩, hb2⟩
  have hw2 : Below w0.heap.size w0 w2 := hw1.trans (Below.mono hb2 hw1.size)
  have HQ1 := Lib.hid hq1
  clear hq1
  clear t0 t1 t2 a0 a1 a2 a3 a4 a5 a6 c0 c1 c2 c3 c4 c5 c6
  have hB2 := hB0.from_ hw2 hlt0
  have hA2 := hA0.from_ hw2 hlt1
  have hC2 := hC0.from_ hw2 hlt2
  have t0 := hB2.c0
  have t1 := hB2.c1
  have t2 := hB2.c2
  have a0 := hA2.c0
  have a1 := hA2.c1
  have a2 := hA2.c2
  have a3 := hA2.c3
  have a4 := hA2.c4
  have a5 := hA2.c5
  have a6 := hA2.c6
  have c0 := hC2.c0
  have c1 := hC2.c1
  have c2 := hC2.c2
  have c3 := hC2.c3
  have c4 := hC2.c4
  have c5 := hC2.c5
  have c6 := hC2.c6
  simp only [Nat.zero_add] at a1 a2 a3 a4 a5 a6 c1 c2 c3 c4 c5 c6
  cases q1 with
  | false =>
    go_wp2_with fail
    go_ret
    exact ⟨rfl, hb0.trans (Below.mono hw2 hb0.size)⟩
  | true =>
    have HQS := Lib.hid (HQ1.out rfl)
    clear HQ1
    go_wp2_with fail
    refine (HF2.out _ hw2).mono ?_
    rintro e w3 ⟨⟨q2, rfl, hq2⟩, hb3⟩
    have hw3 : Below w0.heap.size w0 w3 := hw2.trans (Below.mono hb3 hw2.size)
    have HQ2 := Lib.hid hq2
    clear hq2
    have hq1s := HQS.out
    clear t0 t1 t2 a0 a1 a2 a3 a4 a5 a6 c0 c1 c2 c3 c4 c5 c6
    have hB3 := hB0.from_ hw3 hlt0
    have hA3 := hA0.from_ hw3 hlt1
    have hC3 := hC0.from_ hw3 hlt2
    have t0 := hB3.c0
    have t1 := hB3.c1
    have t2 := hB3.c2
    have a0 := hA3.c0
    have a1 := hA3.c1
    have a2 := hA3.c2
    have a3 := hA3.c3
    have a4 := hA3.c4
    have a5 := hA3.c5
    have a6 := hA3.c6
    have c0 := hC3.c0
    have c1 := hC3.c1
    have c2 := hC3.c2
    have c3 := hC3.c3
    have c4 := hC3.c4
    have c5 := hC3.c5
    have c6 := hC3.c6
    simp only [Nat.zero_add] at a1 a2 a3 a4 a5 a6 c1 c2 c3 c4 c5 c6
    cases q2 with
    | false =>
      go_wp2_with fail
      go_ret
      exact ⟨rfl, hb0.trans (Below.mono hw3 hb0.size)⟩
    | true =>
      have hq := hq1s
      have hr := HQ2.out rfl
      have hc1 : M.cntT (.mk k n ts) ≤ 1000 := by omega
      have hc2 : M.cntV (.mk N bs us p) ≤ 6000 := by omega
      have hc3 : M.cntV (.mk N2 bs2 us2 p2) ≤ 6000 := by omega
      have GF := Lib.hid (fun X h => HFits.out X h hc1 hc2)
      have GR1 := Lib.hid (fun X h => HR1.out X h hc1 hc2)
      have GR2 := Lib.hid (fun X h => HR2.out X h hc1 hc3)
      have GP1 := Lib.hid (fun X h => HP1.out X h (by omega) (by omega))
      have GP2 := Lib.hid (fun X h => HP2.out X h (by omega) (by omega))
      clear HFits HR1 HR2 HP1 HP2 hq hr HQ2 hq1s HQS HF1 HF2 hc1 hc2 hc3
      have hsame := fun h1 h2 h => same_puts (t := .mk k n ts) hi1 hi2 h1 h2 h
      have hpf := put_fits (t := .mk k n ts) (v := .mk N bs us p)
      have hpn := put_not (t := .mk k n ts) (v := .mk N bs us p)
      have hro : M.fitsV (.mk k n ts) (.mk N bs us p) = 0 → M.rootE (.mk k n ts) (.mk N bs us p) = (M.rootV (.mk k n ts) (.mk N bs us p), 0) := fun h => by unfold M.rootE; rw [if_neg (by simp [h])]
      have hrn : M.fitsV (.mk k n ts) (.mk N bs us p) ≠ 0 → M.rootE (.mk k n ts) (.mk N bs us p) = ([], M.fitsV (.mk k n ts) (.mk N bs us p)) := fun h => by unfold M.rootE; rw [if_pos h]
      have hrl := fun h => M.root_length (.mk k n ts) (.mk N bs us p) (fits_ok h).2
      have heq : M.Va.mk N bs us p = .mk N2 bs2 us2 p2 → M.rootE (.mk k n ts) (.mk N bs us p) = M.rootE (.mk k n ts) (.mk N2 bs2 us2 p2) := fun h => by rw [h]
      generalize M.rootE (.mk k n ts) (.mk N bs us p) = E1 at *
      generalize M.rootE (.mk k n ts) (.mk N2 bs2 us2 p2) = E2 at *
      generalize M.putT (.mk k n ts) (.mk N bs us p) = P1 at *
      generalize M.putT (.mk k n ts) (.mk N2 bs2 us2 p2) = P2 at *
      generalize M.rootV (.mk k n ts) (.mk N bs us p) = R at *
      generalize M.fitsV (.mk k n ts) (.mk N bs us p) = f at *
      have HEQ := Lib.hid (fun h1 h2 h => heq (hsame h1 h2 h))
      clear hsame heq hi1 hi2
      obtain ⟨x1, g1⟩ := P1
      obtain ⟨x2, g2⟩ := P2
      obtain ⟨y2, e2⟩ := E2
      by_cases h0 : f = 0
      · subst h0
        have hRl := hrl rfl
        obtain rfl := hro rfl
        have HRL := Lib.hid hRl
        clear hro hrn hrl hpf hpn
        go_wp2_with fail
        refine (GR1.out _ hw3).mono ?_
        rintro e w4 ⟨rfl, hb4⟩
        have hw4 : Below w0.heap.size w0 w4 := hw3.trans (Below.mono hb4 hw3.size)
        clear t0 t1 t2 a0 a1 a2 a3 a4 a5 a6 c0 c1 c2 c3 c4 c5 c6
        have hB4 := hB0.from_ hw4 hlt0
        have hA4 := hA0.from_ hw4 hlt1
        have hC4 := hC0.from_ hw4 hlt2
        have t0 := hB4.c0
        have t1 := hB4.c1
        have t2 := hB4.c2
        have a0 := hA4.c0
        have a1 := hA4.c1
        have a2 := hA4.c2
        have a3 := hA4.c3
        have a4 := hA4.c4
        have a5 := hA4.c5
        have a6 := hA4.c6
        have c0 := hC4.c0
        have c1 := hC4.c1
        have c2 := hC4.c2
        have c3 := hC4.c3
        have c4 := hC4.c4
        have c5 := hC4.c5
        have c6 := hC4.c6
        simp only [Nat.zero_add] at a1 a2 a3 a4 a5 a6 c1 c2 c3 c4 c5 c6
        go_wp2_with fail
        refine (GR2.out _ hw4).mono ?_
        rintro e w5 ⟨rfl, hb5⟩
        have hw5 : Below w0.heap.size w0 w5 := hw4.trans (Below.mono hb5 hw4.size)
        clear t0 t1 t2 a0 a1 a2 a3 a4 a5 a6 c0 c1 c2 c3 c4 c5 c6
        have hB5 := hB0.from_ hw5 hlt0
        have hA5 := hA0.from_ hw5 hlt1
        have hC5 := hC0.from_ hw5 hlt2
        have t0 := hB5.c0
        have t1 := hB5.c1
        have t2 := hB5.c2
        have a0 := hA5.c0
        have a1 := hA5.c1
        have a2 := hA5.c2
        have a3 := hA5.c3
        have a4 := hA5.c4
        have a5 := hA5.c5
        have a6 := hA5.c6
        have c0 := hC5.c0
        have c1 := hC5.c1
        have c2 := hC5.c2
        have c3 := hC5.c3
        have c4 := hC5.c4
        have c5 := hC5.c5
        have c6 := hC5.c6
        simp only [Nat.zero_add] at a1 a2 a3 a4 a5 a6 c1 c2 c3 c4 c5 c6
        go_wp2_with fail
        refine (GF.out _ hw5).mono ?_
        rintro e w6 ⟨rfl, hb6⟩
        have hw6 : Below w0.heap.size w0 w6 := hw5.trans (Below.mono hb6 hw5.size)
        clear t0 t1 t2 a0 a1 a2 a3 a4 a5 a6 c0 c1 c2 c3 c4 c5 c6
        have hB6 := hB0.from_ hw6 hlt0
        have hA6 := hA0.from_ hw6 hlt1
        have hC6 := hC0.from_ hw6 hlt2
        have t0 := hB6.c0
        have t1 := hB6.c1
        have t2 := hB6.c2
        have a0 := hA6.c0
        have a1 := hA6.c1
        have a2 := hA6.c2
        have a3 := hA6.c3
        have a4 := hA6.c4
        have a5 := hA6.c5
        have a6 := hA6.c6
        have c0 := hC6.c0
        have c1 := hC6.c1
        have c2 := hC6.c2
        have c3 := hC6.c3
        have c4 := hC6.c4
        have c5 := hC6.c5
        have c6 := hC6.c6
        simp only [Nat.zero_add] at a1 a2 a3 a4 a5 a6 c1 c2 c3 c4 c5 c6
        go_wp2_with fail
        refine (GP1.out _ hw6).mono ?_
        rintro e w7 ⟨rfl, hb7⟩
        have hw7 : Below w0.heap.size w0 w7 := hw6.trans (Below.mono hb7 hw6.size)
        clear t0 t1 t2 a0 a1 a2 a3 a4 a5 a6 c0 c1 c2 c3 c4 c5 c6
        have hB7 := hB0.from_ hw7 hlt0
        have hA7 := hA0.from_ hw7 hlt1
        have hC7 := hC0.from_ hw7 hlt2
        have t0 := hB7.c0
        have t1 := hB7.c1
        have t2 := hB7.c2
        have a0 := hA7.c0
        have a1 := hA7.c1
        have a2 := hA7.c2
        have a3 := hA7.c3
        have a4 := hA7.c4
        have a5 := hA7.c5
        have a6 := hA7.c6
        have c0 := hC7.c0
        have c1 := hC7.c1
        have c2 := hC7.c2
        have c3 := hC7.c3
        have c4 := hC7.c4
        have c5 := hC7.c5
        have c6 := hC7.c6
        simp only [Nat.zero_add] at a1 a2 a3 a4 a5 a6 c1 c2 c3 c4 c5 c6
        go_wp2_with fail
        refine (GP2.out _ hw7).mono ?_
        rintro e w8 ⟨rfl, hb8⟩
        have hw8 : Below w0.heap.size w0 w8 := hw7.trans (Below.mono hb8 hw7.size)
        clear t0 t1 t2 a0 a1 a2 a3 a4 a5 a6 c0 c1 c2 c3 c4 c5 c6
        by_cases hg : g1 = 0
        · subst hg
          by_cases hh : g2 = 0
          · subst hh
            by_cases hx : x1 = x2
            · subst hx
              have hE := HEQ.out rfl rfl rfl
              injection hE with hE1 hE2
              subst hE1 hE2
              go_wp2_with fail
              go_ret
              exact ⟨rfl, hb0.trans (Below.mono hw8 hb0.size)⟩
            · have hxb : (x1 == x2) = false := by simpa using hx
              have hxn : (x1 != x2) = true := by simp [hx]
              go_wp2_with fail
              go_ret
              exact ⟨rfl, hb0.trans (Below.mono hw8 hb0.size)⟩
          · have hhi : ¬ (g2 : Int) = 0 := by omega
            go_wp2_with fail
            go_ret
            exact ⟨rfl, hb0.trans (Below.mono hw8 hb0.size)⟩
        · have hgi : ¬ (g1 : Int) = 0 := by omega
          go_wp2_with fail
          go_ret
          exact ⟨rfl, hb0.trans (Below.mono hw8 hb0.size)⟩
      · have hfi : ¬ (f : Int) = 0 := by omega
        obtain rfl := hrn h0
        have hP := hpn h0
        injection hP with hP1 hP2
        subst hP1 hP2
        clear hro hrn hrl hpf hpn
        go_wp2_with fail
        refine (GR1.out _ hw3).mono ?_
        rintro e w4 ⟨rfl, hb4⟩
        have hw4 : Below w0.heap.size w0 w4 := hw3.trans (Below.mono hb4 hw3.size)
        clear t0 t1 t2 a0 a1 a2 a3 a4 a5 a6 c0 c1 c2 c3 c4 c5 c6
        have hB4 := hB0.from_ hw4 hlt0
        have hA4 := hA0.from_ hw4 hlt1
        have hC4 := hC0.from_ hw4 hlt2
        have t0 := hB4.c0
        have t1 := hB4.c1
        have t2 := hB4.c2
        have a0 := hA4.c0
        have a1 := hA4.c1
        have a2 := hA4.c2
        have a3 := hA4.c3
        have a4 := hA4.c4
        have a5 := hA4.c5
        have a6 := hA4.c6
        have c0 := hC4.c0
        have c1 := hC4.c1
        have c2 := hC4.c2
        have c3 := hC4.c3
        have c4 := hC4.c4
        have c5 := hC4.c5
        have c6 := hC4.c6
        simp only [Nat.zero_add] at a1 a2 a3 a4 a5 a6 c1 c2 c3 c4 c5 c6
        go_wp2_with fail
        refine (GR2.out _ hw4).mono ?_
        rintro e w5 ⟨rfl, hb5⟩
        have hw5 : Below w0.heap.size w0 w5 := hw4.trans (Below.mono hb5 hw4.size)
        clear t0 t1 t2 a0 a1 a2 a3 a4 a5 a6 c0 c1 c2 c3 c4 c5 c6
        have hB5 := hB0.from_ hw5 hlt0
        have hA5 := hA0.from_ hw5 hlt1
        have hC5 := hC0.from_ hw5 hlt2
        have t0 := hB5.c0
        have t1 := hB5.c1
        have t2 := hB5.c2
        have a0 := hA5.c0
        have a1 := hA5.c1
        have a2 := hA5.c2
        have a3 := hA5.c3
        have a4 := hA5.c4
        have a5 := hA5.c5
        have a6 := hA5.c6
        have c0 := hC5.c0
        have c1 := hC5.c1
        have c2 := hC5.c2
        have c3 := hC5.c3
        have c4 := hC5.c4
        have c5 := hC5.c5
        have c6 := hC5.c6
        simp only [Nat.zero_add] at a1 a2 a3 a4 a5 a6 c1 c2 c3 c4 c5 c6
        go_wp2_with fail
        refine (GF.out _ hw5).mono ?_
        rintro e w6 ⟨rfl, hb6⟩
        have hw6 : Below w0.heap.size w0 w6 := hw5.trans (Below.mono hb6 hw5.size)
        clear t0 t1 t2 a0 a1 a2 a3 a4 a5 a6 c0 c1 c2 c3 c4 c5 c6
        have hB6 := hB0.from_ hw6 hlt0
        have hA6 := hA0.from_ hw6 hlt1
        have hC6 := hC0.from_ hw6 hlt2
        have t0 := hB6.c0
        have t1 := hB6.c1
        have t2 := hB6.c2
        have a0 := hA6.c0
        have a1 := hA6.c1
        have a2 := hA6.c2
        have a3 := hA6.c3
        have a4 := hA6.c4
        have a5 := hA6.c5
        have a6 := hA6.c6
        have c0 := hC6.c0
        have c1 := hC6.c1
        have c2 := hC6.c2
        have c3 := hC6.c3
        have c4 := hC6.c4
        have c5 := hC6.c5
        have c6 := hC6.c6
        simp only [Nat.zero_add] at a1 a2 a3 a4 a5 a6 c1 c2 c3 c4 c5 c6
        go_wp2_with fail
        refine (GP1.out _ hw6).mono ?_
        rintro e w7 ⟨rfl, hb7⟩
        have hw7 : Below w0.heap.size w0 w7 := hw6.trans (Below.mono hb7 hw6.size)
        clear t0 t1 t2 a0 a1 a2 a3 a4 a5 a6 c0 c1 c2 c3 c4 c5 c6
        have hB7 := hB0.from_ hw7 hlt0
        have hA7 := hA0.from_ hw7 hlt1
        have hC7 := hC0.from_ hw7 hlt2
        have t0 := hB7.c0
        have t1 := hB7.c1
        have t2 := hB7.c2
        have a0 := hA7.c0
        have a1 := hA7.c1
        have a2 := hA7.c2
        have a3 := hA7.c3
        have a4 := hA7.c4
        have a5 := hA7.c5
        have a6 := hA7.c6
        have c0 := hC7.c0
        have c1 := hC7.c1
        have c2 := hC7.c2
        have c3 := hC7.c3
        have c4 := hC7.c4
        have c5 := hC7.c5
        have c6 := hC7.c6
        simp only [Nat.zero_add] at a1 a2 a3 a4 a5 a6 c1 c2 c3 c4 c5 c6
        go_wp2_with fail
        refine (GP2.out _ hw7).mono ?_
        rintro e w8 ⟨rfl, hb8⟩
        have hw8 : Below w0.heap.size w0 w8 := hw7.trans (Below.mono hb8 hw7.size)
        clear t0 t1 t2 a0 a1 a2 a3 a4 a5 a6 c0 c1 c2 c3 c4 c5 c6
        go_wp2_with fail
        go_ret
        exact ⟨rfl, hb0.trans (Below.mono hw8 hb0.size)⟩
end Go.Proofs.YtgloapcfmlijlaaGreatDoor
