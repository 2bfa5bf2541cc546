/- The law of lists. -/
import Derived.Test.YtgloapcfmlijlaaGreatDoorUTnx
import Derived.Test.YtgloapcfmlijlaaGreatDoorEX
namespace Go.Proofs.YtgloapcfmlijlaaGreatDoor
open Go Go.RowKit Go.Shelf Go.Lib
attribute [local go_sem] Oper.semAt_some

theorem full_three {n : Int} {ts : List M.Ty} {N : Nat} {bs : List Bool} {us : List M.Va} {p : Int} (h : M.fitsV (.mk 4 n ts) (.mk N bs us p) = 0) (hn : (us.length : Int) = n) : M.fitsV (.mk 3 n ts) (.mk N bs us p) = 0 := by
  obtain ⟨hc, hf⟩ := fits_ok h
  obtain ⟨_, hform, hd, hts⟩ := M.chkT_ok.1 hc
  have hc3 : M.chkT 0 (.mk 3 n ts) = 0 := M.chkT_ok.2 ⟨by omega, by unfold M.formT at *; simpa using hform, hd, hts⟩
  rw [M.fitsV_in hc3]
  obtain ⟨_, ho, hfs⟩ := M.of_fit hf
  rw [M.fitV_eq, if_neg (by omega)]
  have ho3 : M.ofV 3 n ts.length (.mk N bs us p) = true := by
    unfold M.ofV at *
    simp at ho ⊢
    simp [ho, hn]
  rw [if_neg (by simp [ho3])]
  exact (M.fitVs_kind (k := 3) (k' := 4) (by decide) (by decide) (by decide) (by decide) ts p p us 0).trans hfs
set_option maxRecDepth 100000 in
set_option maxHeartbeats 8000000 in
theorem lists9_law (k n : Int) (ts : List M.Ty) (at_ : Option Addr) (ct : Nat) (N : Nat) (bs : List Bool) (us : List M.Va) (p : Int) (ab : Option Addr) (cb : Nat) (au : Option Addr) (cu : Nat) (w : World) (hT : LayT w w.heap.size ts (.slice at_ ts.length ct)) (hV : Vl w w.heap.size N bs us ab cb au cu) (hTab : Tab w) :
    Calls Tryz.prog 9 #[tv k n (.slice at_ ts.length ct), vv N (.slice ab bs.length cb) (.slice au us.length cu) p] w fun e w' => e = .returned (.bool true) ∧ Below w.heap.size w w' := by
  obtain ⟨w0, hw0⟩ : ∃ w0, (w.alloc (.cells #[.int .i64 k, .int .i64 n, .slice at_ ts.length ct] 24)).alloc (.cells #[.int .u64 (M.pt 0 N), .int .u64 (M.pt 1 N), .int .u64 (M.pt 2 N), .int .u64 (M.pt 3 N), .slice ab bs.length cb, .slice au us.length cu, .int .i64 p] 33) = w0 := ⟨_, rfl⟩
  have hb0 : Below w.heap.size w w0 := by rw [← hw0]; exact two_boxes _ _ _
  have hz0 : w0.heap.size = w.heap.size + 2 := by rw [← hw0]; simp
  have hB0 : BoxT w0 w.heap.size k n (.slice at_ ts.length ct) := by rw [← hw0]; exact ⟨by simp [go_sem], by simp [go_sem], by simp [go_sem]⟩
  have hA0 : Cells7 w0 (w.heap.size + 1) 0 N (.slice ab bs.length cb) (.slice au us.length cu) p := by
    rw [← hw0]
    have := Cells7.new (w.alloc (.cells #[.int .i64 k, .int .i64 n, .slice at_ ts.length ct] 24)) N (.slice ab bs.length cb) (.slice au us.length cu) p 33
    rwa [World.size_alloc] at this
  have hlt0 : w.heap.size < w0.heap.size := by omega
  have hlt1 : w.heap.size + 1 < w0.heap.size := by omega
  have HW := Lib.hid hw0
  have HZ0 := Lib.hid hz0
  have mixed : Tryz.prog.follows .mixedOrders = true := by kernel_rfl
  clear hw0 hz0
  have HX := Lib.hid (works9 w0 (hTab.from hb0))
  have hTX : ∀ X, Below w0.heap.size w0 X → LayT X X.heap.size ts (.slice at_ ts.length ct) := fun X h => (hT.from_ (hb0.trans (h.mono hb0.size))).mono (hb0.trans (h.mono hb0.size)).size
  have hVX : ∀ X, Below w0.heap.size w0 X → Vl X X.heap.size N bs us ab cb au cu := fun X h => (hV.from_ (hb0.trans (h.mono hb0.size))).mono (hb0.trans (h.mono hb0.size)).size
  have hTabX : ∀ X, Below w0.heap.size w0 X → Tab X := fun X h => hTab.from (hb0.trans (h.mono hb0.size))
  have HF := Lib.hid (fun X (h : Below w0.heap.size w0 X) => few9_any k n ts at_ ct N bs us p ab cb au cu X (hTX X h) (hVX X h))
  have HFits := Lib.hid (fun X (h : Below w0.heap.size w0 X) h1 h2 => shape_fits k n ts at_ ct N bs us p ab cb au cu X (hTX X h) (hVX X h) h1 h2)
  have HR := Lib.hid (fun (kk : Int) X (h : Below w0.heap.size w0 X) h1 h2 => root_any kk n ts at_ ct N bs us p ab cb au cu X (hTX X h) (hVX X h) h1 h2 (hTabX X h))
  have HM := Lib.hid (fun r m X (h : Below w0.heap.size w0 X) hm => mix_any r m X hm (hTabX X h))
  clear hT hV hTX hVX hTabX
  go_enter Tryz.func9, Tryz.ntmps9
  go_wp2_with fail
  rw [HW.out]
  refine HX.out.mono ?_
  rintro e w1 ⟨rfl, hb1⟩
  have hB1 := hB0.from_ hb1 hlt0
  have hA1 := hA0.from_ hb1 hlt1
  have t0 := hB1.c0
  have t1 := hB1.c1
  have t2 := hB1.c2
  have a0 := hA1.c0
  have a1 := hA1.c1
  have a2 := hA1.c2
  have a3 := hA1.c3
  have a4 := hA1.c4
  have a5 := hA1.c5
  have a6 := hA1.c6
  simp only [Nat.zero_add] at a1 a2 a3 a4 a5 a6
  go_wp2_with fail
  refine (HF.out _ hb1).mono ?_
  rintro e w2 ⟨⟨q1, rfl, hq1⟩, hb2⟩
  have hw2 : Below w0.heap.size w0 w2 := hb1.trans (Below.mono hb2 hb1.size)
  have HQ := Lib.hid hq1
  clear hq1
  clear t0 t1 t2 a0 a1 a2 a3 a4 a5 a6
  have hB2 := hB0.from_ hw2 hlt0
  have hA2 := hA0.from_ hw2 hlt1
  have t0 := hB2.c0
  have t1 := hB2.c1
  have t2 := hB2.c2
  have a0 := hA2.c0
  have a1 := hA2.c1
  have a2 := hA2.c2
  have a3 := hA2.c3
  have a4 := hA2.c4
  have a5 := hA2.c5
  have a6 := hA2.c6
  simp only [Nat.zero_add] at a1 a2 a3 a4 a5 a6
  cases q1 with
  | false =>
    go_wp2_with fail
    go_ret
    exact ⟨rfl, hb0.trans (Below.mono hw2 hb0.size)⟩
  | true =>
    have hq := HQ.out rfl
    have hc1 : M.cntT (.mk k n ts) ≤ 1000 := by omega
    have hc2 : M.cntV (.mk N bs us p) ≤ 6000 := by omega
    have hlv : us.length ≤ 6000 := by rw [M.cntV] at hc2; have := M.length_cntV us; omega
    clear hq HQ
    by_cases hk : k = 4
    · subst hk
      by_cases hn : (us.length : Int) = n
      · have hnn : ((us.length : Int) == n) = true := by simpa using hn
        have hnb : ((us.length : Int) != n) = false := by simp [hn]
        have hf3 := full_three (n := n) (ts := ts) (N := N) (bs := bs) (us := us) (p := p)
        have hfull := M.root_full (n := n) (ins := ts) (num := N) (bits := bs) (items := us) (pick := p)
        have hlen3 := fun h => M.root_length (.mk 3 n ts) (.mk N bs us p) (fits_ok h).2
        have hFF := HFits.out w2 hw2 hc1 hc2
        have HR4 := Lib.hid (fun X h => HR.out 4 X h hc1 hc2)
        have HR3 := Lib.hid (fun X h => HR.out 3 X h (by rw [M.cntT] at hc1 ⊢; exact hc1) hc2)
        have he4 : M.fitsV (.mk 4 n ts) (.mk N bs us p) = 0 → M.rootE (.mk 4 n ts) (.mk N bs us p) = (M.rootV (.mk 4 n ts) (.mk N bs us p), 0) := fun h => by unfold M.rootE; rw [if_neg (by simp [h])]
        have he3 : M.fitsV (.mk 3 n ts) (.mk N bs us p) = 0 → M.rootE (.mk 3 n ts) (.mk N bs us p) = (M.rootV (.mk 3 n ts) (.mk N bs us p), 0) := fun h => by unfold M.rootE; rw [if_neg (by simp [h])]
        rw [hfull] at he4
        generalize M.fitsV (.mk 4 n ts) (.mk N bs us p) = f at *
        generalize M.fitsV (.mk 3 n ts) (.mk N bs us p) = g at *
        generalize M.rootE (.mk 4 n ts) (.mk N bs us p) = E4 at *
        generalize M.rootE (.mk 3 n ts) (.mk N bs us p) = E3 at *
        generalize M.rootV (.mk 3 n ts) (.mk N bs us p) = R at *
        clear hfull
        by_cases h0 : f = 0
        · subst h0
          have hg := hf3 rfl hn
          subst hg
          have hRl := hlen3 rfl
          obtain rfl := he4 rfl
          obtain rfl := he3 rfl
          have hMx := fun X h => HM.out R us.length X h (by omega)
          rw [show M.mixE R us.length = (M.mixT R us.length, 0) by unfold M.mixE; rw [if_neg (by omega)]] at hMx
          have HMX := Lib.hid hMx
          subst hn
          clear hf3 hlen3 he4 he3 hMx hRl
          go_wp2_with fail
          refine hFF.mono ?_
          rintro e w3 ⟨rfl, hb3⟩
          have hw3 : Below w0.heap.size w0 w3 := hw2.trans (Below.mono hb3 hw2.size)
          clear hFF
          clear t0 t1 t2 a0 a1 a2 a3 a4 a5 a6
          have hB3 := hB0.from_ hw3 hlt0
          have hA3 := hA0.from_ hw3 hlt1
          have t0 := hB3.c0
          have t1 := hB3.c1
          have t2 := hB3.c2
          have a0 := hA3.c0
          have a1 := hA3.c1
          have a2 := hA3.c2
          have a3 := hA3.c3
          have a4 := hA3.c4
          have a5 := hA3.c5
          have a6 := hA3.c6
          simp only [Nat.zero_add] at a1 a2 a3 a4 a5 a6
          go_wp2_with fail
          refine (HR4.out _ hw3).mono ?_
          rintro e w4 ⟨rfl, hb4⟩
          have hw4 : Below w0.heap.size w0 w4 := hw3.trans (Below.mono hb4 hw3.size)
          clear t0 t1 t2 a0 a1 a2 a3 a4 a5 a6
          have hB4 := hB0.from_ hw4 hlt0
          have hA4 := hA0.from_ hw4 hlt1
          have t0 := hB4.c0
          have t1 := hB4.c1
          have t2 := hB4.c2
          have a0 := hA4.c0
          have a1 := hA4.c1
          have a2 := hA4.c2
          have a3 := hA4.c3
          have a4 := hA4.c4
          have a5 := hA4.c5
          have a6 := hA4.c6
          simp only [Nat.zero_add] at a1 a2 a3 a4 a5 a6
          go_wp2_with fail
          refine (HR3.out _ hw4).mono ?_
          rintro e w5 ⟨rfl, hb5⟩
          have hw5 : Below w0.heap.size w0 w5 := hw4.trans (Below.mono hb5 hw4.size)
          clear t0 t1 t2 a0 a1 a2 a3 a4 a5 a6
          have hB5 := hB0.from_ hw5 hlt0
          have hA5 := hA0.from_ hw5 hlt1
          have t0 := hB5.c0
          have t1 := hB5.c1
          have t2 := hB5.c2
          have a0 := hA5.c0
          have a1 := hA5.c1
          have a2 := hA5.c2
          have a3 := hA5.c3
          have a4 := hA5.c4
          have a5 := hA5.c5
          have a6 := hA5.c6
          simp only [Nat.zero_add] at a1 a2 a3 a4 a5 a6
          go_wp2_with fail
          refine (HMX.out _ hw5).mono ?_
          rintro e w6 ⟨rfl, hb6⟩
          have hw6 : Below w0.heap.size w0 w6 := hw5.trans (Below.mono hb6 hw5.size)
          clear t0 t1 t2 a0 a1 a2 a3 a4 a5 a6
          go_wp2_with fail
          go_ret
          exact ⟨rfl, hb0.trans (Below.mono hw6 hb0.size)⟩
        · have hf0 : ¬ (f : Int) = 0 := by omega
          clear hf3 hlen3 he4 he3
          go_wp2_with fail
          refine hFF.mono ?_
          rintro e w3 ⟨rfl, hb3⟩
          have hw3 : Below w0.heap.size w0 w3 := hw2.trans (Below.mono hb3 hw2.size)
          clear hFF
          go_wp2_with fail
          go_ret
          exact ⟨rfl, hb0.trans (Below.mono hw3 hb0.size)⟩
      · have hnn : ((us.length : Int) == n) = false := by simpa using hn
        have hnb : ((us.length : Int) != n) = true := by simp [hn]
        go_wp2_with fail
        go_ret
        exact ⟨rfl, hb0.trans (Below.mono hw2 hb0.size)⟩
    · have hk4 : (k == 4) = false := by simpa using hk
      have hkb : (k != 4) = true := by simp [hk]
      go_wp2_with fail
      go_ret
      exact ⟨rfl, hb0.trans (Below.mono hw2 hb0.size)⟩
end Go.Proofs.YtgloapcfmlijlaaGreatDoor
