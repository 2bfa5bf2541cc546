/- The landed package shape: Same. -/
import Derived.Test.YtmlkccbhdhgoeaaDoorT20g
import Derived.Test.YtmlkccbhdhgoeaaDoorWEg
import Derived.Test.YtmlkccbhdhgoeaaDoorT13g
import Derived.Shelf.Abstract
namespace Go.Proofs.YtmlkccbhdhgoeaaDoor
open Go Go.RowKit Go.Shelf

theorem below_drewN {n q : Nat} {w W : World} (h : Below n w W) : Below n w (W.drewN q) := ⟨h.os, h.tape, h.output, h.size, h.block⟩

set_option maxRecDepth 100000 in
set_option maxHeartbeats 4000000 in
theorem equal_bits (bs bs2 : List Bool) (ab : Option Addr) (cb : Nat) (ab2 : Option Addr) (cb2 : Nat) (w : World) (hB : LayB w w.heap.size bs (.slice ab bs.length cb)) (hB2 : LayB w w.heap.size bs2 (.slice ab2 bs2.length cb2)) (hl : bs.length ≤ 4000) (_hl2 : bs2.length ≤ 4000) :
    Calls Tryd.prog 29 #[.slice ab bs.length cb, .slice ab2 bs2.length cb2] w fun e w' => e = .returned (.bool (bs == bs2)) ∧ Below w.heap.size w w' := by
  obtain ⟨R, hR⟩ : ∃ R, R = (bs == bs2) := ⟨_, rfl⟩
  rw [← hR]
  by_cases hlen : bs.length = bs2.length
  · have hne : ((bs.length : Int) != (bs2.length : Int)) = false := by simp; omega
    have HLen := Lib.hid hlen
    have HRR := Lib.hid hR
    clear hlen hR
    go_enter Tryd.func29, Tryd.ntmps29
    go_wp2_with fail
    clear hne
    go_loopw [13] (fun i wr => ∃ j : Nat, j ≤ bs.length ∧ i = .int .i64 j ∧ bs.take j = bs2.take j ∧ Below w.heap.size w wr) (fun i _ => bs.length - (intOf i).toNat)
    case atStart => exact ⟨0, by omega, rfl, by simp, Below.refl _ _⟩
    case round =>
      obtain ⟨j, hj, rfl, hq, hW⟩ := hrel
      by_cases hlt : j < bs.length
      · obtain ⟨b, o, x, rfl, hbn, hx, e0⟩ := hB.at_ hlt
        have hlt2 : j < bs2.length := by have := HLen.out; omega
        obtain ⟨b', o', y, rfl, hbn', hy, e0'⟩ := hB2.at_ hlt2
        have g0 := (hW.cell (p := ⟨b, o + j, none⟩) hbn).trans e0
        have g1 := (hW.cell (p := ⟨b', o' + j, none⟩) hbn').trans e0'
        have hj9 : j < 4000 := by omega
        have HQ := Lib.hid hq
        clear hq hB hB2 e0 e0' hl
        by_cases hxy : x = y
        · subst hxy
          have HT : Hid (bs.take (j + 1) = bs2.take (j + 1)) := by show _ = _; rw [List.take_add_one, List.take_add_one, HQ.out, hx, hy]
          clear hx hy
          cases x
          all_goals
            go_wp2_with fail
            go_quiet (fail)
            go_wp2_with fail
            go_roundw
            case rel => exact ⟨j + 1, by omega, by simp, HT.out, below_drewN hW⟩
            case measure => simp [intOf]; omega
        · have HR : Hid (R = false) := by
            show _ = _
            rw [HRR.out]
            exact M.bits_first hx hy hxy
          clear hx hy
          cases x <;> cases y
          all_goals first | exact absurd rfl hxy | skip
          all_goals
            go_wp2_with fail
            go_quiet (fail)
            go_wp2_with fail
            go_ret
            exact ⟨by rw [HR.out]; rfl, below_drewN hW⟩
      · obtain rfl : j = bs.length := by omega
        have HR : Hid (R = true) := by
          show _ = _
          rw [HRR.out]
          have h2 := HLen.out
          rw [List.take_length, h2, List.take_length] at hq
          rw [hq]
          simp
        clear hq
        go_wp2_with fail
        go_ret
        exact ⟨by rw [HR.out]; rfl, hW⟩
  · have hne : ((bs.length : Int) != (bs2.length : Int)) = true := by simp; omega
    have HR : Hid (R = false) := by
      show _ = _
      rw [hR, beq_eq_false_iff_ne]
      intro e
      exact hlen (by rw [e])
    clear hlen hR
    go_enter Tryd.func29, Tryd.ntmps29
    go_wp2_with fail
    go_ret
    exact ⟨by rw [HR.out]; rfl, Below.refl _ _⟩

def SameK (z : Nat) : Prop := ∀ (N : Nat) (bs : List Bool) (us : List M.Va) (p : Int) (ab : Option Addr) (cb : Nat) (au : Option Addr) (cu : Nat) (N2 : Nat) (bs2 : List Bool) (us2 : List M.Va) (p2 : Int) (ab2 : Option Addr) (cb2 : Nat) (au2 : Option Addr) (cu2 : Nat) (w : World),
  SizeOf.sizeOf us ≤ z → Vl w w.heap.size N bs us ab cb au cu → Vl w w.heap.size N2 bs2 us2 ab2 cb2 au2 cu2 → (M.cntVs us ≤ 200 ∧ bs.length ≤ 4000) → (M.cntVs us2 ≤ 200 ∧ bs2.length ≤ 4000) →
  Calls Tryd.prog 17 #[vv N (.slice ab bs.length cb) (.slice au us.length cu) p, vv N2 (.slice ab2 bs2.length cb2) (.slice au2 us2.length cu2) p2] w fun e w' => e = .returned (.bool (M.sameV (.mk N bs us p) (.mk N2 bs2 us2 p2))) ∧ Below w.heap.size w w'

set_option maxRecDepth 100000 in
set_option maxHeartbeats 8000000 in
theorem vequal_n (z : Nat) (ih : SameK z) (us us2 : List M.Va) (au : Option Addr) (cu : Nat) (au2 : Option Addr) (cu2 : Nat) (w : World) (hs : SizeOf.sizeOf us ≤ z + 1) (hV : LayV w w.heap.size us (.slice au us.length cu)) (hV2 : LayV w w.heap.size us2 (.slice au2 us2.length cu2)) (hc : M.cntVs us ≤ 200) (hc2 : M.cntVs us2 ≤ 200) :
    Calls Tryd.prog 30 #[.slice au us.length cu, .slice au2 us2.length cu2, .func (.func 17) #[] #[]] w fun e w' => e = .returned (.bool (us.length == us2.length && M.sameVs us us2)) ∧ Below w.heap.size w w' := by
  have g1 := M.length_cntV us
  have g2 := M.length_cntV us2
  have E1 : ∀ args w, (callFunc 17 args).run Tryd.prog w = .ok (.enter 17 args) w := enters_of Tryd.func17 (by kernel_rfl) rfl
  obtain ⟨R, hR⟩ : ∃ R, R = (us.length == us2.length && M.sameVs us us2) := ⟨_, rfl⟩
  rw [← hR]
  have IH := Lib.hid ih
  clear ih
  by_cases hlen : us.length = us2.length
  · have hne : ((us.length : Int) != (us2.length : Int)) = false := by simp; omega
    have HLen := Lib.hid hlen
    have HRR : Hid (R = M.sameVs us us2) := by show _ = _; rw [hR, hlen]; simp
    clear hlen hR
    go_enter Tryd.func30, Tryd.ntmps30
    go_wp2_with fail
    clear hne
    go_loopw [17] (fun i wr => ∃ j : Nat, j ≤ us.length ∧ i = .int .i64 j ∧ M.sameVs (us.take j) (us2.take j) = true ∧ Below w.heap.size w wr) (fun i _ => us.length - (intOf i).toNat)
    case atStart => exact ⟨0, by omega, rfl, rfl, Below.refl _ _⟩
    case round =>
      obtain ⟨j, hj, rfl, hq, hW⟩ := hrel
      by_cases hlt : j < us.length
      · have hlt2 : j < us2.length := by have := HLen.out; omega
        obtain ⟨b, o, N, bs, vs, p, ab, cb, av, cv, rfl, hbn, hxk, h7, hVl⟩ := hV.at_ hlt
        obtain ⟨b', o', N2, bs2, vs2, p2, ab2, cb2, av2, cv2, rfl, hbn', hyk, h7', hVl'⟩ := hV2.at_ hlt2
        have h7r := h7.from_ hW hbn
        have h7r' := h7'.from_ hW hbn'
        have e0 := h7r.c0
        have e1 := h7r.c1
        have e2 := h7r.c2
        have e3 := h7r.c3
        have e4 := h7r.c4
        have e5 := h7r.c5
        have e6 := h7r.c6
        have d0 := h7r'.c0
        have d1 := h7r'.c1
        have d2 := h7r'.c2
        have d3 := h7r'.c3
        have d4 := h7r'.c4
        have d5 := h7r'.c5
        have d6 := h7r'.c6
        have hj9 : j < 4000 := by omega
        have hsx := size_va hxk
        rw [M.Va.mk.sizeOf_spec] at hsx
        have k1 := M.cntV_part (List.mem_of_getElem? hxk)
        rw [M.cntV] at k1
        have k2 := M.cntV_part (List.mem_of_getElem? hyk)
        rw [M.cntV] at k2
        have hsz := hW.size
        have IH1 : Hid (∀ W, Below wr.heap.size wr W → Calls Tryd.prog 17 #[vv N (.slice ab bs.length cb) (.slice av vs.length cv) p, vv N2 (.slice ab2 bs2.length cb2) (.slice av2 vs2.length cv2) p2] W fun e w' => e = .returned (.bool (M.sameV (.mk N bs vs p) (.mk N2 bs2 vs2 p2))) ∧ Below W.heap.size W w') := fun W hb => by
          have hbw := hW.trans (hb.mono hsz)
          exact IH.out N bs vs p ab cb av cv N2 bs2 vs2 p2 ab2 cb2 av2 cv2 W (by omega) ((hVl.from_ hbw).mono hbw.size) ((hVl'.from_ hbw).mono hbw.size) ⟨by omega, by omega⟩ ⟨by omega, by omega⟩
        have HN : Hid (M.sameVs (us.take (j + 1)) (us2.take (j + 1)) = M.sameV (.mk N bs vs p) (.mk N2 bs2 vs2 p2)) := by show _ = _; rw [M.sameVs_next hxk hyk, hq, Bool.true_and]
        have HF : Hid (M.sameV (.mk N bs vs p) (.mk N2 bs2 vs2 p2) = false → M.sameVs us us2 = false) := M.sameVs_first hxk hyk
        have hbn1 : Below wr.heap.size wr ((wr.alloc (.cells #[.int .u64 (M.pt 0 N), .int .u64 (M.pt 1 N), .int .u64 (M.pt 2 N), .int .u64 (M.pt 3 N), .slice ab bs.length cb, .slice av vs.length cv, .int .i64 p] 31)).alloc (.cells #[.int .u64 (M.pt 0 N2), .int .u64 (M.pt 1 N2), .int .u64 (M.pt 2 N2), .int .u64 (M.pt 3 N2), .slice ab2 bs2.length cb2, .slice av2 vs2.length cv2, .int .i64 p2] 31)) := by (repeat (first | exact Below.refl _ _ | refine Below.drew ?_ | refine Below.alloc ?_ (by first | omega | (simp; omega) | simp) _ | refine Below.setCell ?_ (by first | omega | (simp; omega) | simp) _))
        generalize M.sameV (.mk N bs vs p) (.mk N2 bs2 vs2 p2) = q at *
        have HB1 := Lib.hid hbn1
        have hbw : b < wr.heap.size := by omega
        have hbw' : b' < wr.heap.size := by omega
        clear hq hV hV2 h7 h7' h7r h7r' hVl hVl' hxk hyk hsx k1 k2 hbn1 IH hc hc2 g1 g2
        go_wp2_with fail
        refine (IH1.out _ HB1.out).mono ?_
        rintro e w1 ⟨rfl, hb1⟩
        have hw1 : Below wr.heap.size wr w1 := HB1.out.trans (hb1.mono (by simp; omega))
        cases q with
        | true =>
          go_wp2_with fail
          go_roundw
          case rel => exact ⟨j + 1, by omega, by simp, HN.out, hW.trans (hw1.mono hsz)⟩
          case measure => simp [intOf]; omega
        | false =>
          go_wp2_with fail
          go_ret
          exact ⟨by rw [HRR.out, HF.out trivial]; rfl, hW.trans (hw1.mono hsz)⟩
      · obtain rfl : j = us.length := by omega
        have h2 := HLen.out
        rw [List.take_length, h2, List.take_length] at hq
        have HT := Lib.hid hq
        have hk2 : us.length ≤ 4000 := by omega
        clear hq hc hc2 h2
        go_wp2_with fail
        go_ret
        exact ⟨by rw [HRR.out, HT.out]; rfl, hW⟩
  · have hne : ((us.length : Int) != (us2.length : Int)) = true := by simp; omega
    have HR : Hid (R = false) := by show _ = _; rw [hR, beq_eq_false_iff_ne.2 hlen, Bool.false_and]
    clear hlen hR
    go_enter Tryd.func30, Tryd.ntmps30
    go_wp2_with fail
    go_ret
    exact ⟨by rw [HR.out]; rfl, Below.refl _ _⟩

set_option maxRecDepth 100000 in
set_option maxHeartbeats 8000000 in
theorem ksame_n (z : Nat) : SameK z := by
  induction z with
  | zero => intro N bs us p ab cb au cu N2 bs2 us2 p2 ab2 cb2 au2 cu2 w h; cases us <;> simp at h
  | succ z ih =>
    intro N bs us p ab cb au cu N2 bs2 us2 p2 ab2 cb2 au2 cu2 w hs hV hV2 hc hc2
    have hbb : ∀ o o', Below w.heap.size w ((w.alloc o).alloc o') := fun o o' => ((Below.refl _ w).alloc (Nat.le_refl _) o).alloc (by simp) o'
    have he := fun W => eqN hV.hN hV2.hN W
    obtain ⟨R, hR⟩ : ∃ R, R = M.sameV (.mk N bs us p) (.mk N2 bs2 us2 p2) := ⟨_, rfl⟩
    rw [← hR]
    rw [M.sameV_eq] at hR
    have HQ : Hid (∀ W, Below w.heap.size w W → Calls Tryd.prog 29 #[.slice ab bs.length cb, .slice ab2 bs2.length cb2] W fun e w' => e = .returned (.bool (bs == bs2)) ∧ Below W.heap.size W w') := fun W h => equal_bits bs bs2 ab cb ab2 cb2 W ((hV.b.from_ h).mono h.size) ((hV2.b.from_ h).mono h.size) hc.2 hc2.2
    have HV : Hid (∀ W, Below w.heap.size w W → Calls Tryd.prog 30 #[.slice au us.length cu, .slice au2 us2.length cu2, .func (.func 17) #[] #[]] W fun e w' => e = .returned (.bool (us.length == us2.length && M.sameVs us us2)) ∧ Below W.heap.size W w') := fun W h => vequal_n z ih us us2 au cu au2 cu2 W hs ((hV.v.from_ h).mono h.size) ((hV2.v.from_ h).mono h.size) hc.1 hc2.1
    generalize (us.length == us2.length && M.sameVs us us2) = q2 at *
    generalize (bs == bs2) = q1 at *
    obtain ⟨w0, hw0⟩ : ∃ w0, (w.alloc (.cells #[.int .u64 (M.pt 0 N), .int .u64 (M.pt 1 N), .int .u64 (M.pt 2 N), .int .u64 (M.pt 3 N), .slice ab bs.length cb, .slice au us.length cu, .int .i64 p] 31)).alloc (.cells #[.int .u64 (M.pt 0 N2), .int .u64 (M.pt 1 N2), .int .u64 (M.pt 2 N2), .int .u64 (M.pt 3 N2), .slice ab2 bs2.length cb2, .slice au2 us2.length cu2, .int .i64 p2] 31) = w0 := ⟨_, rfl⟩
    have hb0 : Below w.heap.size w w0 := by rw [← hw0]; exact hbb _ _
    have hz0 : w0.heap.size = w.heap.size + 2 := by rw [← hw0]; simp
    have hA : Cells7 w0 w.heap.size 0 N (.slice ab bs.length cb) (.slice au us.length cu) p := by
      rw [← hw0]
      exact (Cells7.new w N (.slice ab bs.length cb) (.slice au us.length cu) p 31).from_ ((Below.refl _ _).alloc (Nat.le_refl _) _) (by simp)
    have hB : Cells7 w0 (w.heap.size + 1) 0 N2 (.slice ab2 bs2.length cb2) (.slice au2 us2.length cu2) p2 := by
      rw [← hw0]
      exact ⟨by simp [go_sem], by simp [go_sem], by simp [go_sem], by simp [go_sem], by simp [go_sem], by simp [go_sem], by simp [go_sem]⟩
    have HW := Lib.hid hw0
    have a0 := hA.c0
    have a1 := hA.c1
    have a2 := hA.c2
    have a3 := hA.c3
    have a4 := hA.c4
    have a5 := hA.c5
    have a6 := hA.c6
    have b0 := hB.c0
    have b1 := hB.c1
    have b2 := hB.c2
    have b3 := hB.c3
    have b4 := hB.c4
    have b5 := hB.c5
    have b6 := hB.c6
    simp only [Nat.zero_add] at a1 a2 a3 a4 a5 a6 b1 b2 b3 b4 b5 b6
    clear hw0 ih hs hV hV2 hc hc2
    by_cases hN : N = N2
    · have hd : decide (N = N2) = true := decide_eq_true hN
      rw [hd] at he
      have hR1 : R = (p == p2 && q1 && q2) := by rw [hR, hN]; simp
      have HR1 := Lib.hid hR1
      clear hR hR1 hd hN
      by_cases hp : p = p2
      · subst hp
        have HR2 : Hid (R = (q1 && q2)) := by show _ = _; rw [HR1.out]; simp
        clear HR1
        cases q1 with
        | false =>
          go_enter Tryd.func17, Tryd.ntmps17
          go_wp2_with fail
          rw [HW.out]
          refine (HQ.out _ hb0).mono ?_
          rintro e w1 ⟨rfl, hb1⟩
          go_wp2_with fail
          go_ret
          exact ⟨by rw [HR2.out]; rfl, hb0.trans (hb1.mono hb0.size)⟩
        | true =>
          go_enter Tryd.func17, Tryd.ntmps17
          go_wp2_with fail
          rw [HW.out]
          refine (HQ.out _ hb0).mono ?_
          rintro e w1 ⟨rfl, hb1⟩
          have hbw1 := hb0.trans (hb1.mono hb0.size)
          have c5 := (hA.from_ hb1 (by omega)).c5
          have d5 := (hB.from_ hb1 (by omega)).c5
          simp only [Nat.zero_add] at c5 d5
          go_wp2_with fail
          refine (HV.out _ hbw1).mono ?_
          rintro e w2 ⟨rfl, hb2⟩
          go_wp2_with fail
          go_ret
          exact ⟨by rw [HR2.out]; rfl, hbw1.trans (hb2.mono hbw1.size)⟩
      · have HR2 : Hid (R = false) := by show _ = _; rw [HR1.out, beq_eq_false_iff_ne.2 hp]; simp
        have hp' : (p == p2) = false := by simpa using hp
        clear HR1 hp
        go_enter Tryd.func17, Tryd.ntmps17
        go_wp2_with fail
        go_ret
        exact ⟨by rw [HR2.out]; rfl, hbb _ _⟩
    · have hd : decide (N = N2) = false := decide_eq_false hN
      rw [hd] at he
      have HR2 : Hid (R = false) := by show _ = _; rw [hR, beq_eq_false_iff_ne.2 hN]; simp
      clear hR hN hd
      go_enter Tryd.func17, Tryd.ntmps17
      go_wp2_with fail
      go_ret
      exact ⟨by rw [HR2.out]; rfl, hbb _ _⟩

theorem shape_same : SSameOk := fun N bs us p ab cb au cu N2 bs2 us2 p2 ab2 cb2 au2 cu2 w hV hV2 hc hc2 => by
  rw [M.cntV] at hc hc2
  exact ksame_n _ N bs us p ab cb au cu N2 bs2 us2 p2 ab2 cb2 au2 cu2 w (Nat.le_refl _) hV hV2 ⟨by omega, by omega⟩ ⟨by omega, by omega⟩
end Go.Proofs.YtmlkccbhdhgoeaaDoor
