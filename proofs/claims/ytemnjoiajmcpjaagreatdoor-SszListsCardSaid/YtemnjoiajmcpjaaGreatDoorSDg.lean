/- SszLists. -/
import Derived.Test.YtemnjoiajmcpjaaGreatDoorSCg
import Derived.Test.YtemnjoiajmcpjaaGreatDoorK06
import Derived.Test.YtemnjoiajmcpjaaGreatDoorK11
import Derived.Test.YtemnjoiajmcpjaaGreatDoorK12
namespace Go.Proofs.YtemnjoiajmcpjaaGreatDoor
open Go Go.RowKit Go.Lib
attribute [local go_sem] Oper.semAt_some

theorem M.cntTs_rep (t : M.Ty) : ∀ m, M.cntTs (List.replicate m t) = m * M.cntT t
  | 0 => by rw [List.replicate_zero, M.cntTs, Nat.zero_mul]
  | m + 1 => by rw [List.replicate_succ, M.cntTs, M.cntTs_rep t m, Nat.add_mul]; omega
theorem Cells7.blk {w W : World} {b o N : Nat} {u v : Value} {p : Int} (h : Cells7 w b o N u v p) (hb : W.heap[b]? = w.heap[b]?) : Cells7 W b o N u v p :=
  ⟨(World.cell?_of_block hb).trans h.c0, (World.cell?_of_block hb).trans h.c1, (World.cell?_of_block hb).trans h.c2, (World.cell?_of_block hb).trans h.c3, (World.cell?_of_block hb).trans h.c4, (World.cell?_of_block hb).trans h.c5, (World.cell?_of_block hb).trans h.c6⟩
set_option maxRecDepth 100000 in
set_option maxHeartbeats 8000000 in
theorem zlists_law (HK : Hid ZWorks) (HZ : Hid Sszs) (k n : Int) (ts : List M.Ty) (at_ : Option Addr) (ct : Nat) (N : Nat) (bs : List Bool) (us : List M.Va) (p : Int) (ab : Option Addr) (cb : Nat) (au : Option Addr) (cu : Nat) (w : World)
    (hT : LayT w w.heap.size ts (.slice at_ ts.length ct)) (hV : Vl w w.heap.size N bs us ab cb au cu) :
    Calls Tryz.prog 8 #[tv k n (.slice at_ ts.length ct), vv N (.slice ab bs.length cb) (.slice au us.length cu) p] w fun e w' => e = .returned (.bool true) ∧ Below w.heap.size w w' := by
  obtain ⟨w0, hw0⟩ : ∃ w0, (w.alloc (.cells #[.int .i64 k, .int .i64 n, .slice at_ ts.length ct] 24)).alloc (.cells #[.int .u64 (M.pt 0 N), .int .u64 (M.pt 1 N), .int .u64 (M.pt 2 N), .int .u64 (M.pt 3 N), .slice ab bs.length cb, .slice au us.length cu, .int .i64 p] 31) = w0 := ⟨_, rfl⟩
  have hb0 : Below w.heap.size w w0 := by rw [← hw0]; (repeat (first | exact Below.refl _ _ | refine Below.drew ?_ | refine Below.alloc ?_ (by first | omega | (simp; omega) | simp) _ | refine Below.setCell ?_ (by first | omega | (simp; omega) | simp) _))
  have hz0 : w0.heap.size = w.heap.size + 2 := by rw [← hw0]; simp
  have hB0 : BoxT w0 w.heap.size k n (.slice at_ ts.length ct) := by rw [← hw0]; exact ⟨by simp [go_sem], by simp [go_sem], by simp [go_sem]⟩
  have hA0 : Cells7 w0 (w.heap.size + 1) 0 N (.slice ab bs.length cb) (.slice au us.length cu) p := by
    rw [← hw0]
    exact Cells7.second _ _ _ _ _ _
  have HW := Lib.hid hw0
  clear hw0
  go_enter Tryz.func8, Tryz.ntmps8
  go_wp2_with fail
  rw [HW.out]
  refine (HK.out w0).mono ?_
  rintro e w1 ⟨rfl, hb1⟩
  have hb01 : Below w0.heap.size w0 w1 := hb1
  have hbw1 := hb0.trans (hb01.mono hb0.size)
  have hB1 := hB0.from_ hb01 (by omega)
  have t0 := hB1.c0
  have t1 := hB1.c1
  have t2 := hB1.c2
  have hA1 := hA0.from_ hb01 (by omega)
  have a0 := hA1.c0
  have a1 := hA1.c1
  have a2 := hA1.c2
  have a3 := hA1.c3
  have a4 := hA1.c4
  have a5 := hA1.c5
  have a6 := hA1.c6
  simp only [Nat.zero_add] at a1 a2 a3 a4 a5 a6
  go_wp2_with fail
  refine (few_any k n ts at_ ct N bs us p ab cb au cu w1 ((hT.from_ hbw1).mono hbw1.size) ((hV.from_ hbw1).mono hbw1.size)).mono ?_
  rintro e w2 ⟨⟨q1, rfl, hq1⟩, hb2⟩
  have hb02 : Below w0.heap.size w0 w2 := hb01.trans (hb2.mono hb01.size)
  have hbw2 := hb0.trans (hb02.mono hb0.size)
  have HQ1 := Lib.hid hq1
  clear hq1 t0 t1 t2 a0 a1 a2 a3 a4 a5 a6 hB1 hA1 hb1 hb2
  cases q1 with
  | false =>
    go_wp2_with fail
    go_ret
    exact ⟨rfl, hbw2⟩
  | true =>
    obtain ⟨g1, g2⟩ := HQ1.out rfl
    have hB2 := hB0.from_ hb02 (by omega)
    have t0 := hB2.c0
    have t1 := hB2.c1
    have t2 := hB2.c2
    have hA2 := hA0.from_ hb02 (by omega)
    have a0 := hA2.c0
    have a1 := hA2.c1
    have a2 := hA2.c2
    have a3 := hA2.c3
    have a4 := hA2.c4
    have a5 := hA2.c5
    have a6 := hA2.c6
    simp only [Nat.zero_add] at a1 a2 a3 a4 a5 a6
    by_cases hk4 : k = 4
    case neg =>
      have hk' : (k != 4) = true := by simpa using hk4
      clear hk4
      go_wp2_with fail
      go_ret
      exact ⟨rfl, hbw2⟩
    subst hk4
    by_cases hnn : (us.length : Int) = n
    case neg =>
      have hk' : (((us.length : Nat) : Int) != n) = true := by simpa using hnn
      clear hnn
      go_wp2_with fail
      go_ret
      exact ⟨rfl, hbw2⟩
    subst hnn
    have HF := Lib.hid (shape_fits 4 (us.length : Int) ts at_ ct N bs us p ab cb au cu w2 ((hT.from_ hbw2).mono hbw2.size) ((hV.from_ hbw2).mono hbw2.size) (by omega) (by omega))
    obtain ⟨y, hy⟩ : ∃ y, M.fitsV (.mk 4 (us.length : Int) ts) (.mk N bs us p) = y := ⟨_, rfl⟩
    rw [hy] at HF
    have HY := Lib.hid hy
    clear hy
    go_wp2_with fail
    refine HF.out.mono ?_
    rintro e w3 ⟨rfl, hb3⟩
    have hb03 : Below w0.heap.size w0 w3 := hb02.trans (Below.mono hb3 hb02.size)
    have hbw3 := hb0.trans (hb03.mono hb0.size)
    clear t0 t1 t2 a0 a1 a2 a3 a4 a5 a6 hB2 hA2 HF
    by_cases hy0 : y = 0
    case neg =>
      have hk' : (((y : Nat) : Int) != 0) = true := by simp; omega
      clear hy0
      go_wp2_with fail
      go_ret
      exact ⟨rfl, hbw3⟩
    subst hy0
    have hc0 := M.fitsV_fits HY.out
    obtain ⟨⟨t, rfl⟩, hm1, hm2⟩ : (∃ t, ts = [t]) ∧ 1 ≤ us.length ∧ us.length ≤ 512 := by
      have h2 := (M.chkT_ok.1 hc0).2.1
      unfold M.formT at h2
      simp at h2
      exact ⟨List.length_eq_one_iff.1 h2.1.1, by omega, by omega⟩
    have HP1 := Lib.hid (fun W (h : Below w.heap.size w W) => HZ.out.put 4 (us.length : Int) [t] at_ ct N bs us p ab cb au cu W ((hT.from_ h).mono h.size) ((hV.from_ h).mono h.size) (by omega) (by omega))
    have HP2 := Lib.hid (fun W (h : Below w.heap.size w W) => HZ.out.put 3 (us.length : Int) [t] at_ ct N bs us p ab cb au cu W ((hT.from_ h).mono h.size) ((hV.from_ h).mono h.size) (by rw [M.cntT] at g1 ⊢; omega) (by omega))
    have HP3 : Hid (us.length ≤ 16 → ∀ (a : Option Addr) (c : Nat) (W : World), LayT W W.heap.size (List.replicate us.length t) (.slice a (List.replicate us.length t).length c) → Below w.heap.size w W → Calls Tryz.prog 11 #[tv 7 0 (.slice a (List.replicate us.length t).length c), vv N (.slice ab bs.length cb) (.slice au us.length cu) p] W fun e w' => e = .returned (.tuple #[.string ⟨(M.putT (.mk 4 (us.length : Int) [t]) (.mk N bs us p)).1.toArray⟩, .int .i64 ((M.putT (.mk 4 (us.length : Int) [t]) (.mk N bs us p)).2 : Nat)]) ∧ Below W.heap.size W w') := by
      intro h16 a c W hLr hb
      have := HZ.out.put 7 0 (List.replicate us.length t) a c N bs us p ab cb au cu W hLr ((hV.from_ hb).mono hb.size) (by
        rw [M.cntT, M.cntTs, M.cntTs] at g1
        rw [M.cntT, M.cntTs_rep]
        have := Nat.mul_le_mul h16 (show M.cntT t ≤ 59 by omega)
        omega) (by omega)
      rw [M.full_container HY.out rfl hm1 h16] at this
      exact this
    rw [M.full_vector HY.out rfl] at HP2
    generalize M.putT (.mk 4 (us.length : Int) [t]) (.mk N bs us p) = r at *
    obtain ⟨s, x⟩ := r
    simp only at HP1 HP2 HP3
    have hB3 := hB0.from_ hb03 (by omega)
    have t0 := hB3.c0
    have t1 := hB3.c1
    have t2 := hB3.c2
    have hA3 := hA0.from_ hb03 (by omega)
    have a0 := hA3.c0
    have a1 := hA3.c1
    have a2 := hA3.c2
    have a3 := hA3.c3
    have a4 := hA3.c4
    have a5 := hA3.c5
    have a6 := hA3.c6
    simp only [Nat.zero_add] at a1 a2 a3 a4 a5 a6
    go_wp2_with fail
    refine (HP1.out _ hbw3).mono ?_
    rintro e w4 ⟨rfl, hb4⟩
    have hb04 : Below w0.heap.size w0 w4 := hb03.trans (Below.mono hb4 hb03.size)
    have hbw4 := hb0.trans (hb04.mono hb0.size)
    clear t0 t1 t2 a0 a1 a2 a3 a4 a5 a6 hB3 hA3
    have hB4 := hB0.from_ hb04 (by omega)
    have t0 := hB4.c0
    have t1 := hB4.c1
    have t2 := hB4.c2
    have hA4 := hA0.from_ hb04 (by omega)
    have a0 := hA4.c0
    have a1 := hA4.c1
    have a2 := hA4.c2
    have a3 := hA4.c3
    have a4 := hA4.c4
    have a5 := hA4.c5
    have a6 := hA4.c6
    simp only [Nat.zero_add] at a1 a2 a3 a4 a5 a6
    go_wp2_with fail
    refine (HP2.out _ hbw4).mono ?_
    rintro e w5 ⟨rfl, hb5⟩
    have hb05 : Below w0.heap.size w0 w5 := hb04.trans (Below.mono hb5 hb04.size)
    have hbw5 := hb0.trans (hb05.mono hb0.size)
    clear t0 t1 t2 a0 a1 a2 a3 a4 a5 a6 hB4 hA4
    have hB5 := hB0.from_ hb05 (by omega)
    have t0 := hB5.c0
    have t1 := hB5.c1
    have t2 := hB5.c2
    have hA5 := hA0.from_ hb05 (by omega)
    have a0 := hA5.c0
    have a1 := hA5.c1
    have a2 := hA5.c2
    have a3 := hA5.c3
    have a4 := hA5.c4
    have a5 := hA5.c5
    have a6 := hA5.c6
    simp only [Nat.zero_add] at a1 a2 a3 a4 a5 a6
    by_cases h16 : us.length ≤ 16
    case neg =>
      have h16' : (16 : Int) < (us.length : Nat) := by omega
      clear h16
      go_wp2_with fail
      go_ret
      exact ⟨rfl, hbw5⟩
    have h16' : ¬ (16 : Int) < (us.length : Nat) := by omega
    have HP4 := Lib.hid (HP3.out h16)
    obtain ⟨b, o, k', n', us', ua, uc, rfl, hbn, hxk, e0, e1, e2, hLt⟩ := hT.at_ (i := 0) (by simp)
    obtain rfl : t = .mk k' n' us' := by simpa using hxk
    simp only [Nat.zero_mul, Nat.add_zero] at e0 e1 e2
    obtain ⟨A, hA⟩ : ∃ A, w5.alloc (.cells #[.int .i64 7, .int .i64 0, .slice none 0 0] 24) = A := ⟨_, rfl⟩
    have hb5A : Below w5.heap.size w5 A := by rw [← hA]; exact (Below.refl _ _).alloc (Nat.le_refl _) _
    have hzA : A.heap.size = w5.heap.size + 1 := by rw [← hA]; simp
    have hAb : A.heap[w5.heap.size]? = some (.cells #[.int .i64 7, .int .i64 0, .slice none 0 0] 24 (0, 0)) := by rw [← hA]; exact World.alloc_heap_new _ _
    have hb0A : Below w0.heap.size w0 A := hb05.trans (hb5A.mono hb05.size)
    have hbwA : Below w.heap.size w A := hb0.trans (hb0A.mono hb0.size)
    have hBA := hB0.from_ hb0A (by omega)
    have hAA := hA0.from_ hb0A (by omega)
    have hz5 := hb05.size
    have hbn1 : b ≠ w5.heap.size := by omega
    have hbnA : b < A.heap.size := by omega
    have hwA : w.heap.size < A.heap.size := by omega
    have hwv : w.heap.size + 1 < A.heap.size := by omega
    have hwne : w.heap.size ≠ w5.heap.size := by omega
    have hwne1 : w.heap.size + 1 ≠ w5.heap.size := by omega
    have d0 := (hbwA.cell (p := ⟨b, o, none⟩) hbn).trans e0
    have d1 := (hbwA.cell (p := ⟨b, o + 1, none⟩) hbn).trans e1
    have d2 := (hbwA.cell (p := ⟨b, o + 2, none⟩) hbn).trans e2
    have hLA := hLt
    have hAl : w5.heap.size < A.heap.size := by omega
    have mixed : Tryz.prog.follows .mixedOrders = true := by kernel_rfl
    have HAA := Lib.hid hA
    have HBA := Lib.hid hBA
    have HAV := Lib.hid hAA
    have HZA := Lib.hid hzA
    clear hA hBA hAA hzA e0 e1 e2 hxk HP1 HP2 HP3 HQ1 g1 g2 hc0 hT hB5 hA5 HY
    go_wp2_with fail
    rw [HAA.out]
    clear t0 t1 t2 a0 a1 a2 a3 a4 a5 a6
    go_loopw [12] (fun i wr => ∃ (j : Nat) (x : Value), j ≤ us.length ∧ i = .int .i64 (j : Nat) ∧ Gr A wr (fun b => b = w5.heap.size) ∧ wr.heap[w5.heap.size]? = some (.cells #[.int .i64 7, .int .i64 0, x] 24 (0, 0)) ∧ OwT A.heap.size j k' n' (.slice ua us'.length uc) x wr)
      (fun i _ => us.length - (RowKit.intOf i).toNat)
    case atStart => exact ⟨0, .slice none 0 0, by omega, rfl, Gr.refl _ _, hAb, OwT.nil _ _ _ _ _⟩
    case round =>
      obtain ⟨j, xv, hj, rfl, hGr, hbc, hOw⟩ := hrel
      obtain ⟨xa, xc, rfl⟩ := hOw.slice
      have t0 := (hGr.cell (p := ⟨w.heap.size, 0, none⟩) hwA hwne).trans HBA.out.c0
      have t1 := (hGr.cell (p := ⟨w.heap.size, 1, none⟩) hwA hwne).trans HBA.out.c1
      have t2 := (hGr.cell (p := ⟨w.heap.size, 2, none⟩) hwA hwne).trans HBA.out.c2
      have hzr := hGr.size
      by_cases hlt : j < us.length
      · have hj9 : j < 16 := by omega
        have hlt' : (j : Int) < us.length := by omega
        have hs5 := HZA.out
        obtain ⟨hxlo, hxhi⟩ : (∀ g, (Value.slice xa j xc).ownBlock = some g → A.heap.size ≤ g) ∧ (∀ g, (Value.slice xa j xc).ownBlock = some g → g < wr.heap.size) := ⟨fun g hg => (hOw.lt g hg).1, fun g hg => (hOw.lt g hg).2⟩
        have bc2 : wr.cell? ⟨w5.heap.size, 2, none⟩ = some (.slice xa j xc) := by simp [World.cell?, hbc]
        go_wp2_with fail
        refine wp_region_held (S := fun Y => Gr A Y (fun b => b = w5.heap.size)) mixed ?_
        have hG0 : (fun Y => Gr A Y (fun b => b = w5.heap.size)) { wr with drawn := wr.drawn + 1 } := hGr.drew
        have hb0r : Below wr.heap.size wr { wr with drawn := wr.drawn + 1 } := Below.drew (Below.refl _ _)
        rw [show Array.replicate (Array.size _) false = #[false, false, false, false, false, false, false, false, false, false] from rfl, show Array.size (α := Oper) _ = 10 from rfl]
        refine wpAnyH_take (i := 0) (v := .pointer (some ⟨w5.heap.size, 2, none⟩)) rfl (by kernel_rfl) (by kernel_rfl) (by kernel_rfl) (fun _ _ _ h => h) (Or.inl ⟨by rfl, ?_⟩) hG0 ?_
        · intro Y hY
          skip
          go_simp
        simp only [Act.put, List.getElem_toArray, List.getElem_cons_zero, List.setIfInBounds_toArray, List.set_cons_zero, List.set_cons_succ]
        refine wpAnyH_take (i := 2) (v := .pointer (some ⟨w.heap.size, 2, none⟩)) rfl (by kernel_rfl) (by kernel_rfl) (by kernel_rfl) (fun _ _ _ h => h) (Or.inl ⟨by rfl, ?_⟩) hG0 ?_
        · intro Y hY
          skip
          go_simp
        simp only [Act.put, List.getElem_toArray, List.getElem_cons_succ, List.getElem_cons_zero, List.setIfInBounds_toArray, List.set_cons_zero, List.set_cons_succ]
        refine wpAnyH_take (i := 3) (v := .slice (some ⟨b, o, none⟩) 1 ct) rfl (by kernel_rfl) (by kernel_rfl) (by kernel_rfl) (fun _ _ _ h => h) (Or.inl ⟨by rfl, ?_⟩) hG0 ?_
        · intro Y hY
          have f2 := (hY.cell (p := ⟨w.heap.size, 2, none⟩) hwA hwne).trans HBA.out.c2; simp only [List.length_singleton] at f2
          go_simp
        simp only [Act.put, List.getElem_toArray, List.getElem_cons_succ, List.getElem_cons_zero, List.setIfInBounds_toArray, List.set_cons_zero, List.set_cons_succ]
        refine wpAnyH_take (i := 4) (v := .pointer (some ⟨b, o, none⟩)) rfl (by kernel_rfl) (by kernel_rfl) (by kernel_rfl) (fun _ _ _ h => h) (Or.inl ⟨by rfl, ?_⟩) hG0 ?_
        · intro Y hY
          skip
          go_simp
        simp only [Act.put, List.getElem_toArray, List.getElem_cons_succ, List.getElem_cons_zero, List.setIfInBounds_toArray, List.set_cons_zero, List.set_cons_succ]
        refine wpAnyH_take (i := 5) (v := tv k' n' (.slice ua us'.length uc)) rfl (by kernel_rfl) (by kernel_rfl) (by kernel_rfl) (fun _ _ _ h => h) (Or.inl ⟨by rfl, ?_⟩) hG0 ?_
        · intro Y hY
          have f0 := (hY.cell (p := ⟨b, o, none⟩) hbnA hbn1).trans d0; have f1 := (hY.cell (p := ⟨b, o + 1, none⟩) hbnA hbn1).trans d1; have f2 := (hY.cell (p := ⟨b, o + 2, none⟩) hbnA hbn1).trans d2
          go_simp
        simp only [Act.put, List.getElem_toArray, List.getElem_cons_succ, List.getElem_cons_zero, List.setIfInBounds_toArray, List.set_cons_zero, List.set_cons_succ]
        refine wpAnyH_ready (rs := [1, 6]) (by kernel_rfl) (by simp) ?_
        refine AllReadyH.cons rfl (fun K hK => ?rA) (AllReadyH.cons rfl (fun K hK => ?rB) AllReadyH.nil)
        case' rA =>
          go_simp
          refine hK.out _ _ hG0 (fun _ => ?_)
          clear hK K
          simp only [List.setIfInBounds_toArray, List.set_cons_zero, List.set_cons_succ]
          refine wpAnyH_ready (rs := [6]) (by kernel_rfl) (by simp) ?_
          refine AllReadyH.cons rfl (fun K hK => ?_) AllReadyH.nil
          rw [if_pos (by rfl)]
          refine wp_build_type (.tmp 83) _ _ _ rfl rfl ?_
          obtain ⟨W1, hW1⟩ : ∃ W1, World.alloc wr.drew (.cells #[.int .i64 k', .int .i64 n', .slice ua us'.length uc] 24) = W1 := ⟨_, rfl⟩
          first | rw [hW1] | rw [show World.alloc { wr with drawn := wr.drawn + 1 } (.cells #[.int .i64 k', .int .i64 n', .slice ua us'.length uc] 24) = W1 from hW1]
          have hb1 : Below wr.heap.size wr W1 := by rw [← hW1]; exact hb0r.alloc (Nat.le_refl _) _
          have hn1 : W1.heap[wr.heap.size]? = some (.cells #[.int .i64 k', .int .i64 n', .slice ua us'.length uc] 24 (0, 0)) := by rw [← hW1]; exact World.alloc_heap_new wr.drew _
          refine hK.out _ _ (hGr.below hb1) (fun _ => ?_)
          clear hK K hW1
          simp only [Act.put, List.getElem_toArray, List.getElem_cons_succ, List.getElem_cons_zero, List.setIfInBounds_toArray, List.set_cons_zero, List.set_cons_succ]
          skip
        case' rB =>
          rw [if_pos (by rfl)]
          refine wp_build_type (.tmp 83) _ _ _ rfl rfl ?_
          obtain ⟨W1, hW1⟩ : ∃ W1, World.alloc wr.drew (.cells #[.int .i64 k', .int .i64 n', .slice ua us'.length uc] 24) = W1 := ⟨_, rfl⟩
          first | rw [hW1] | rw [show World.alloc { wr with drawn := wr.drawn + 1 } (.cells #[.int .i64 k', .int .i64 n', .slice ua us'.length uc] 24) = W1 from hW1]
          have hb1 : Below wr.heap.size wr W1 := by rw [← hW1]; exact hb0r.alloc (Nat.le_refl _) _
          have hn1 : W1.heap[wr.heap.size]? = some (.cells #[.int .i64 k', .int .i64 n', .slice ua us'.length uc] 24 (0, 0)) := by rw [← hW1]; exact World.alloc_heap_new wr.drew _
          have bc3 : W1.cell? ⟨w5.heap.size, 2, none⟩ = some (.slice xa j xc) := (hb1.cell (p := ⟨w5.heap.size, 2, none⟩) (by show w5.heap.size < wr.heap.size; omega)).trans bc2
          refine hK.out _ _ (hGr.below hb1) (fun _ => ?_)
          clear hK K hW1
          simp only [Act.put, List.getElem_toArray, List.getElem_cons_succ, List.getElem_cons_zero, List.setIfInBounds_toArray, List.set_cons_zero, List.set_cons_succ]
          refine wpAnyH_ready (rs := [1]) (by kernel_rfl) (by simp) ?_
          refine AllReadyH.cons rfl (fun K hK => ?_) AllReadyH.nil
          go_simp
          refine hK.out _ _ (hGr.below hb1) (fun _ => ?_)
          clear hK K bc3
          simp only [List.setIfInBounds_toArray, List.set_cons_zero, List.set_cons_succ]
          skip
        all_goals
          have hO1 := hOw.grown (row := none) (W := W1) ⟨hb1.os, hb1.tape, hb1.output, hb1.size, fun i hi _ => hb1.block i hi⟩ (fun _ _ e => by cases e)
          refine wpAnyH_ready (rs := [7]) (by kernel_rfl) (by simp) ?_
          refine AllReadyH.cons rfl (fun K hK => ?_) AllReadyH.nil
          rw [if_pos (by rfl)]
          refine wp_append_type W1 _ _ rfl A.heap.size j k' n' (.slice ua us'.length uc) (.slice xa j xc) wr.heap.size rfl rfl hO1 rfl hn1 (by omega) (by have := hb1.size; omega) ?_
          intro v' W2 hA2
          have hbc2 := (hA2.grown.block w5.heap.size (by have := hb1.size; omega) (fun e => by have := hxlo _ e.symm; omega)).trans ((hb1.block w5.heap.size (by omega)).trans hbc)
          have hG2 : Gr A W2 (fun b => b = w5.heap.size) := (hGr.below hb1).grow hA2.grown (fun g e => .inl (hxlo g e))
          obtain ⟨ya, yc, hy⟩ := hA2.own.slice
          subst hy
          have z2 : ∃ v, W2.cell? ⟨w5.heap.size, 2, none⟩ = some v := by simp [World.cell?, hbc2]
          obtain ⟨_, z2⟩ := z2
          have z3 : W2.frozen? ⟨w5.heap.size, 2, none⟩ = false := by simp [World.frozen?, hbc2]
          refine hK.out _ _ hG2 (fun _ => ?_)
          clear hK K
          simp only [Act.put, List.getElem_toArray, List.getElem_cons_succ, List.getElem_cons_zero, List.setIfInBounds_toArray, List.set_cons_zero, List.set_cons_succ]
          refine wpAnyH_take (i := 8) (v := .pointer (some ⟨w5.heap.size, 2, none⟩)) rfl (by kernel_rfl) (by kernel_rfl) (by kernel_rfl) (fun _ _ _ h => h) (Or.inl ⟨by rfl, ?_⟩) hG2 ?_
          · intro Y hY
            skip
            go_simp
          simp only [Act.put, List.getElem_toArray, List.getElem_cons_succ, List.getElem_cons_zero, List.setIfInBounds_toArray, List.set_cons_zero, List.set_cons_succ]
          refine wpAnyH_ready (rs := [9]) (by kernel_rfl) (by simp) ?_
          refine AllReadyH.cons rfl (fun K hK => ?_) AllReadyH.nil
          go_simp
          obtain ⟨W3, hW3⟩ : ∃ W3, W2.setCell ⟨w5.heap.size, 2, none⟩ (.slice ya (j + 1) yc) = W3 := ⟨_, rfl⟩
          have hG3 : Gr A W3 (fun b => b = w5.heap.size) := by rw [← hW3]; exact hG2.set _ _ (.inr rfl)
          have hbc3 : W3.heap[w5.heap.size]? = some (.cells #[.int .i64 7, .int .i64 0, .slice ya (j + 1) yc] 24 (0, 0)) := by
            rw [← hW3, setCell_eq_setRow W2 w5.heap.size 2 _ _ (0, 0) _ hbc2]
            exact setRow_heap _ _ _ _ _ _ hbc2
          have hO3 : OwT A.heap.size (j + 1) k' n' (.slice ua us'.length uc) (.slice ya (j + 1) yc) W3 := by
            rw [← hW3]
            exact hA2.own.grown (row := some w5.heap.size) ⟨rfl, rfl, rfl, by simp [World.setCell], fun i _ hn => Below.heap_setCell _ _ _ _ (fun e => hn (by rw [e]))⟩ (fun g hg e => by cases e; have := (hA2.own.lt _ hg).1; omega)
          refine hK.out _ _ (hG2.set _ _ (.inr rfl)) (fun _ => ?_)
          clear hK K
          simp only [List.setIfInBounds_toArray, List.set_cons_zero, List.set_cons_succ]
          refine wpAnyH_done (by kernel_rfl) ?_ _
          rw [hW3]
          clear hW3 bc2 z2 z3 t0 t1 t2
          have hjj : ((j : Int) + 1) = ((j + 1 : Nat) : Int) := by omega
          have HJJ := Lib.hid hjj
          clear hjj
          go_wp2_with fail
          exact ⟨⟨j + 1, _, by omega, by first | rfl | (rw [HJJ.out]), hG3, hbc3, hO3⟩, by simp [RowKit.intOf]; omega⟩
      · obtain rfl : j = us.length := by omega
        have hbwr : Below w.heap.size w wr := Gr.low hbwA hGr (by omega) (fun b e => by omega)
        obtain ⟨a2, c2, he2, hLr⟩ := hOw.lay hm1 ((hLt.from_ hbwr).mono hbwr.size)
        cases he2
        have HPC := HP4.out xa xc wr hLr hbwr
        rw [List.length_replicate] at HPC
        have hAr := HAV.out.blk (hGr.block _ hwv hwne1)
        have a0 := hAr.c0
        have a1 := hAr.c1
        have a2 := hAr.c2
        have a3 := hAr.c3
        have a4 := hAr.c4
        have a5 := hAr.c5
        have a6 := hAr.c6
        simp only [Nat.zero_add] at a1 a2 a3 a4 a5 a6
        have c0 : wr.cell? ⟨w5.heap.size, 0, none⟩ = some (.int .i64 7) := by simp [World.cell?, hbc]
        have c1 : wr.cell? ⟨w5.heap.size, 1, none⟩ = some (.int .i64 0) := by simp [World.cell?, hbc]
        have c2 : wr.cell? ⟨w5.heap.size, 2, none⟩ = some (.slice xa us.length xc) := by simp [World.cell?, hbc]
        have HPC := Lib.hid HPC
        clear HP4
        go_wp2_with fail
        refine HPC.out.mono ?_
        rintro e w6 ⟨rfl, hb6⟩
        go_wp2_with fail
        go_ret
        exact ⟨rfl, hbwr.trans (Below.mono hb6 hbwr.size)⟩
end Go.Proofs.YtemnjoiajmcpjaaGreatDoor
