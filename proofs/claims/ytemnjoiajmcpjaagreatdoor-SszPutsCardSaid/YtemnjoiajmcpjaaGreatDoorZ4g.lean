/- The reference's Bytes, Put. -/
import Derived.Test.YtemnjoiajmcpjaaGreatDoorZ3g
import Derived.Test.YtemnjoiajmcpjaaGreatDoorZ6g
import Derived.Test.YtemnjoiajmcpjaaGreatDoorK12
import Derived.Test.YtemnjoiajmcpjaaGreatDoorK06
namespace Go.Proofs.YtemnjoiajmcpjaaGreatDoor
open Go Go.RowKit

theorem str_add (a b : List UInt8) : (({ data := a.toArray } : ByteArray) ++ { data := b.toArray }) = { data := (a ++ b).toArray } := by
  apply ByteArray.ext
  simp
theorem M.form_row {k n : Int} {m : Nat} (h : M.formT k n m = true) (hk : k = 3 ∨ k = 4 ∨ k = 7) : 0 < m := by
  unfold M.formT at h
  rcases hk with rfl | rfl | rfl
  · simp at h; omega
  · simp at h; omega
  · simp at h; omega
theorem M.items_place {k n : Int} {ts : List M.Ty} {N : Nat} {bs : List Bool} {us : List M.Va} {p : Int} {d : Nat} (hc : M.chkT d (.mk k n ts) = 0) (hf : M.fitV (.mk k n ts) (.mk N bs us p) = 0) (hk : k = 3 ∨ k = 4 ∨ k = 7) : ∀ i, i < us.length → M.place k ts.length p i := fun i hi => by
  obtain ⟨_, h2, _⟩ := M.fit_parts0 hf
  obtain ⟨_, hform, _, _⟩ := M.chkT_ok.1 hc
  have := M.form_row hform hk
  rcases hk with rfl | rfl | rfl
  · exact .inr (.inr ⟨by omega, by omega, this⟩)
  · exact .inr (.inr ⟨by omega, by omega, this⟩)
  · rw [M.ofV_7] at h2
    simp at h2
    exact .inl ⟨rfl, by omega⟩
theorem M.place_chk {k n : Int} {ts : List M.Ty} {p : Int} {d i : Nat} (hc : M.chkT d (.mk k n ts) = 0) (hp : M.place k ts.length p i) : M.chkT (d + 1) (M.inT k ts p i) = 0 := by
  have key : ∀ j, j < ts.length → M.chkT (d + 1) (ts[j]?.getD default) = 0 := fun j hj => by
    rw [List.getElem?_eq_getElem hj]
    exact M.chkTs_ok.1 (M.chkT_ok.1 hc).2.2.2 _ (List.getElem_mem hj)
  rcases hp with ⟨h, hi⟩ | ⟨h, h0, h1⟩ | ⟨h7, h8, h0⟩
  · unfold M.inT; rw [if_pos h]; exact key i hi
  · unfold M.inT; rw [if_neg (by omega), if_pos h]; exact key _ (by omega)
  · unfold M.inT; rw [if_neg h7, if_neg h8]; exact key 0 h0

theorem Tryz.infoBool : (Tryz.prog.info? 4).map (fun i => (i.zero, i.size, i.bytes)) = some (some (.bool false), 1, 1) := by kernel_rfl
theorem own_bools {w : World} {B : Nat} {v : Value} {l : List Bool} (h : w.ownsRow B 4 1 v l.length (l.map Value.bool)) (hn : 0 < l.length) :
    ∃ g cap, v = .slice (some ⟨g, 0, none⟩) l.length cap ∧ LayB w w.heap.size l (.slice (some ⟨g, 0, none⟩) l.length cap) := by
  rcases id h.2 with ⟨_, h0⟩ | ⟨g, cap, cur, rfl, hb, hg, hnc, hcm, hcs, htake⟩
  · omega
  · refine ⟨g, cap, rfl, .row (Array.getElem?_eq_some_iff.1 hg).1 hnc hcm fun i x e => ?_⟩
    have hi := (List.getElem?_eq_some_iff.1 e).1
    rw [Nat.zero_add, h.cellAt i (by omega), List.getElem?_map, e]
    rfl
theorem LayB.cells {w : World} {n b o cap : Nat} {bs : List Bool} (h : LayB w n bs (.slice (some ⟨b, o, none⟩) bs.length cap)) : ∀ (j : Nat) (u : Value), (bs.map Value.bool)[j]? = some u → w.cell? ((⟨b, o, none⟩ : Addr).add j) = some u := by
  intro j u hj
  rw [List.getElem?_map] at hj
  cases hx : bs[j]? with
  | none => rw [hx] at hj; cases hj
  | some x =>
    rw [hx] at hj
    cases hj
    have hl := (List.getElem?_eq_some_iff.1 hx).1
    obtain ⟨b', o', x', e, _, hx', hc⟩ := h.at_ hl
    cases e
    rw [hx] at hx'
    cases hx'
    have e : (⟨b, o, none⟩ : Addr).add j = ⟨b, o + j, none⟩ := by unfold Addr.add; split <;> simp_all
    rw [e]
    exact hc

set_option maxRecDepth 100000 in
set_option maxHeartbeats 16000000 in
theorem zbytes_n (z : Nat) : ∀ (k n : Int) (ts : List M.Ty) (at_ : Option Addr) (ct : Nat) (d : Nat) (N : Nat) (bs : List Bool) (us : List M.Va) (p : Int) (ab : Option Addr) (cb : Nat) (au : Option Addr) (cu : Nat) (w : World), SizeOf.sizeOf us ≤ z → LayT w w.heap.size ts (.slice at_ ts.length ct) → Vl w w.heap.size N bs us ab cb au cu → M.chkT d (.mk k n ts) = 0 → M.fitV (.mk k n ts) (.mk N bs us p) = 0 → M.cntV (.mk N bs us p) ≤ 800 →
    Calls Tryz.prog 26 #[tv k n (.slice at_ ts.length ct), vv N (.slice ab bs.length cb) (.slice au us.length cu) p] w fun e w' => e = .returned (.string ⟨(M.putV (.mk k n ts) (.mk N bs us p)).toArray⟩) ∧ Below w.heap.size w w' := by
  induction z with
  | zero => intro k n ts at_ ct d N bs us p ab cb au cu w h; cases us <;> simp at h
  | succ z ih =>
    intro k n ts at_ ct d N bs us p ab cb au cu w hsz hT hV hc hf hcnt
    have hc0 := M.chkT_mono _ _ 0 hc (Nat.zero_le _)
    obtain ⟨w0, hw0⟩ : ∃ w0, (w.alloc (.cells #[.int .i64 k, .int .i64 n, .slice at_ ts.length ct] 24)).alloc (.cells #[.int .u64 (M.pt 0 N), .int .u64 (M.pt 1 N), .int .u64 (M.pt 2 N), .int .u64 (M.pt 3 N), .slice ab bs.length cb, .slice au us.length cu, .int .i64 p] 31) = w0 := ⟨_, rfl⟩
    have hb0 : Below w.heap.size w w0 := by rw [← hw0]; exact two_boxes _ _ _
    have hz0 : w0.heap.size = w.heap.size + 2 := by rw [← hw0]; simp
    have hB0 : BoxT w0 w.heap.size k n (.slice at_ ts.length ct) := by rw [← hw0]; exact ⟨by simp [go_sem], by simp [go_sem], by simp [go_sem]⟩
    have hA0 : Cells7 w0 (w.heap.size + 1) 0 N (.slice ab bs.length cb) (.slice au us.length cu) p := by
      rw [← hw0]
      have := Cells7.new (w.alloc (.cells #[.int .i64 k, .int .i64 n, .slice at_ ts.length ct] 24)) N (.slice ab bs.length cb) (.slice au us.length cu) p 31
      rwa [World.size_alloc] at this
    have HW := Lib.hid hw0
    by_cases hk : k = 3 ∨ k = 4 ∨ k = 7
    · have HPL := Lib.hid (M.items_place hc hf hk)
      have HF := Lib.hid hf
      have hfv := (M.fit_parts0 hf).2.2
      have hcu : M.cntVs us ≤ 800 := by rw [M.cntV] at hcnt; omega
      have hul : us.length ≤ 800 := Nat.le_trans (M.length_cntV us) hcu
      obtain ⟨off, hoff⟩ : ∃ off, M.hdLen (M.kds k ts p us.length) = off := ⟨_, rfl⟩
      have hsum := M.puts_len k ts (M.chk_small _ d hc).2 p us 0
      have hoff2 : off ≤ 32000 := by
        have := M.hd_sum k ts p us 0 hfv hV.v.inVs fun j _ hj => ⟨d + 1, M.place_chk hc (HPL.out j (by omega))⟩
        rw [M.putVs_fst] at this
        simp only [Nat.zero_add] at this
        have e : M.hdLen ((List.range us.length).map fun j => M.kindOf (M.inT k ts p j)) = off := hoff
        rw [e] at this
        omega
      have HE := Lib.hid (M.row_eq (n := n) (num := N) (bits := bs) hk (items := us) (pick := p) hoff)
      have HBG := zbegin_any k n ts at_ ct N (.slice ab bs.length cb) (.slice au us.length cu) p us.length w0 ((hT.from_ hb0).mono hb0.size) hc0 (by omega) HPL.out
      rw [hoff] at HBG
      have HBG := Lib.hid HBG
      have b1 : (k == 1) = false := by simp; omega
      have b2 : (k == 2) = false := by simp; omega
      have b5 : (k == 5) = false := by simp; omega
      have b6 : (k == 6) = false := by simp; omega
      have b8 : (k == 8) = false := by simp; omega
      have HK := Lib.hid hk
      have t0 := hB0.c0
      have t1 := hB0.c1
      have t2 := hB0.c2
      have a0 := hA0.c0
      have a1 := hA0.c1
      have a2 := hA0.c2
      have a3 := hA0.c3
      have a4 := hA0.c4
      have a5 := hA0.c5
      have a6 := hA0.c6
      simp only [Nat.zero_add] at a1 a2 a3 a4 a5 a6
      rw [← HW.out] at t0 t1 t2 a0 a1 a2 a3 a4 a5 a6
      clear hw0 hcnt hf hc0 hk
      go_enter Tryz.func26, Tryz.ntmps26
      go_wp2_with fail
      rw [HW.out]
      refine HBG.out.mono ?_
      rintro e w1 ⟨rfl, hb1⟩
      clear t0 t1 t2 a0 a1 a2 a3 a4 a5 a6 HBG
      have hB1 := hB0.from_ hb1 (by omega)
      have hA1 := hA0.from_ hb1 (by omega)
      have hb01 : Below w.heap.size w w1 := hb0.trans (Below.mono hb1 hb0.size)
      have hz1 : w.heap.size + 2 ≤ w1.heap.size := by have := Below.size hb1; omega
      clear hb1
      go_wp2_with fail
      go_loopw [6, 7, 9] (fun ff tt i wr => ∃ (j : Nat) (f t : List UInt8), j ≤ us.length ∧ i = .int .i64 j ∧ ff = .string ⟨f.toArray⟩ ∧ tt = .string ⟨t.toArray⟩ ∧ M.rowH off (M.putVs k ts p 0 (us.take j)) = f ∧ M.rowL (M.putVs k ts p 0 (us.take j)) = t ∧ Below w1.heap.size w1 wr)
        (fun _ _ i _ => us.length - (intOf i).toNat)
      case atStart => exact ⟨0, [], [], by omega, rfl, rfl, rfl, by rw [List.take_zero, M.putVs, M.rowH], by rw [List.take_zero, M.putVs, M.rowL], Below.refl _ _⟩
      case round =>
        obtain ⟨j, f, t, hj, rfl, rfl, rfl, hff, htt, LW⟩ := hrel
        have hbW : Below w.heap.size w wr := hb01.trans (LW.mono hb01.size)
        have hB2 := hB1.from_ LW (by omega)
        have hA2 := hA1.from_ LW (by omega)
        have t0 := hB2.c0
        have t1 := hB2.c1
        have t2 := hB2.c2
        have a0 := hA2.c0
        have a1 := hA2.c1
        have a2 := hA2.c2
        have a3 := hA2.c3
        have a4 := hA2.c4
        have a5 := hA2.c5
        have a6 := hA2.c6
        simp only [Nat.zero_add] at a1 a2 a3 a4 a5 a6
        by_cases hlt : j < us.length
        · obtain ⟨bv, ov, N', bs', us', p', ab', cb', av', cv', rfl, hbv0, hxk, hE, hV'⟩ := (hV.from_ hbW).v.at_ hlt
          obtain ⟨k', m', ts', at', ct', hin, hc1, _, hT', HI⟩ := zin_at ((hT.from_ hbW).mono hbW.size) hc (HPL.out j hlt)
          have hfj := M.fitVs_at k ts p us 0 j _ hfv hxk
          rw [Nat.zero_add, hin] at hfj
          have hsx := size_va hxk
          rw [M.Va.mk.sizeOf_spec] at hsx
          have hcj := M.cntV_part (List.mem_of_getElem? hxk)
          have hj9 : (j : Int) < 9223372036854775807 := by omega
          have hbv : bv < wr.heap.size := by have := hbW.size; omega
          have IH := Lib.hid (fun W (h : Below wr.heap.size wr W) => ih k' m' ts' at' ct' (d + 1) N' bs' us' p' ab' cb' av' cv' W (by omega) ((hT'.from_ h).mono h.size) ((hV'.from_ (h.mono hbW.size)).mono (Nat.le_trans hbW.size h.size)) hc1 hfj (by omega))
          have HI := Lib.hid HI
          have HFX := Lib.hid (fun W (h : Below wr.heap.size wr W) => tfixed_any k' m' ts' at' ct' W ((hT'.from_ h).mono h.size))
          have HN := M.putVs_next k ts p hxk
          rw [hin] at HN
          have hkd : M.kindOf (.mk k' m' ts') = if M.fixedT (.mk k' m' ts') = true then some (M.szT (.mk k' m' ts')) else none := by
            rw [M.fixedT, if_pos (M.chkT_mono _ (d + 1) 0 hc1 (by omega))]; rfl
          have htl : t.length ≤ 32000 := by
            have h1 := M.row_sum (M.putVs k ts p 0 (us.take j)) off
            have h2 := M.puts_len k ts (M.chk_small _ d hc).2 p (us.take j) 0
            have h3 := M.cntVs_take us j
            rw [htt] at h1
            omega
          have hfl : f.length ≤ 32000 := by
            have h1 := M.row_sum (M.putVs k ts p 0 (us.take j)) off
            have h2 := M.puts_len k ts (M.chk_small _ d hc).2 p (us.take j) 0
            have h3 := M.cntVs_take us j
            rw [hff] at h1
            omega
          have hql := M.put_len (.mk k' m' ts') (M.chk_small _ _ hc1) (.mk N' bs' us' p')
          have hlen4 := M.le_length 4 (off + t.length)
          have HOF := Lib.hid (fun W => zoffset_any (off + t.length) W (by omega))
          simp only [Int.natCast_add] at HOF
          generalize M.putV (.mk k' m' ts') (.mk N' bs' us' p') = q at *
          generalize M.fixedT (.mk k' m' ts') = fx at *
          generalize M.szT (.mk k' m' ts') = sz at *
          have HN := Lib.hid HN
          have HKD := Lib.hid hkd
          have HFF := Lib.hid hff
          have HTT := Lib.hid htt
          have hql2 : q.length ≤ 32000 := by omega
          clear hql
          clear hff htt hkd hfj hsx hcj hin hc1 hT' hV' hxk ih hsum hoff hfv hcu hT hV hc
          go_wp2_with fail
          refine (HI.out wr (Below.refl _ _) N (.slice ab bs.length cb) (.slice (some ⟨bv, ov, none⟩) us.length cu) ).mono ?_
          rintro e w2 ⟨rfl, hb2⟩
          clear t0 t1 t2 a0 a1 a2 a3 a4 a5 a6
          obtain ⟨w3, hw3⟩ : ∃ w3, w2.alloc (.cells #[.int .i64 k', .int .i64 m', .slice at' ts'.length ct'] 24) = w3 := ⟨_, rfl⟩
          have hz3 : w3.heap.size = w2.heap.size + 1 := by rw [← hw3]; simp
          have hb3 : Below w2.heap.size w2 w3 := by rw [← hw3]; exact (Below.refl _ _).alloc (Nat.le_refl _) _
          have hB3 : BoxT w3 w2.heap.size k' m' (.slice at' ts'.length ct') := by rw [← hw3]; exact BoxT.new _ _ _ _ _
          have hbr3 : Below wr.heap.size wr w3 := Below.trans hb2 (hb3.mono hb2.size)
          have hs23 := hbr3.size
          have hs12 := LW.size
          have hA3 := hA2.from_ hbr3 (by omega)
          have hE3 := hE.from_ hbr3 hbv
          have HW3 := Lib.hid hw3
          clear hw3
          go_wp2_with fail
          rw [HW3.out]
          have hbv3 : bv < w3.heap.size := by omega
          have hs3 : w.heap.size + 1 < w3.heap.size := by omega
          have hs2 : w2.heap.size < w3.heap.size := by omega
          have mixed : Tryz.prog.follows .mixedOrders = true := by kernel_rfl
          refine region_quiet (C := fun W => Below w3.heap.size w3 W) mixed (by kernel_rfl) (Below.drew (Below.refl _ _)) ?_
          refine quiet_val (tv k' m' (.slice at' ts'.length ct')) (by rfl) (fun W hC => by have z := hB3.from_ hC hs2; have c0 := z.c0; have c1 := z.c1; have c2 := z.c2; go_simp) ?_
          simp only [Act.put, List.setIfInBounds_toArray, List.set_cons_zero, List.set_cons_succ]
          refine quiet_val (.pointer (some ⟨w.heap.size + 1, 5, none⟩)) (by rfl) (fun W hC => by go_simp) ?_
          simp only [Act.put, List.setIfInBounds_toArray, List.set_cons_zero, List.set_cons_succ]
          refine quiet_val (.slice (some ⟨bv, ov, none⟩) us.length cu) (by rfl) (fun W hC => by have z := hA3.from_ hC hs3; have c5 := z.c5; simp only [Nat.zero_add] at c5; go_simp) ?_
          simp only [Act.put, List.setIfInBounds_toArray, List.set_cons_zero, List.set_cons_succ]
          refine quiet_val (.int .i64 j) (by rfl) (fun W hC => by go_simp) ?_
          simp only [Act.put, List.setIfInBounds_toArray, List.set_cons_zero, List.set_cons_succ]
          refine quiet_val (.pointer (some ⟨bv, ov + j * 7, none⟩)) (by rfl) (fun W hC => by go_simp) ?_
          simp only [Act.put, List.setIfInBounds_toArray, List.set_cons_zero, List.set_cons_succ]
          refine quiet_val (vv N' (.slice ab' bs'.length cb') (.slice av' us'.length cv') p') (by rfl) (fun W hC => by have z := hE3.from_ hC hbv3; have c0 := z.c0; have c1 := z.c1; have c2 := z.c2; have c3 := z.c3; have c4 := z.c4; have c5 := z.c5; have c6 := z.c6; go_simp) ?_
          simp only [Act.put, List.setIfInBounds_toArray, List.set_cons_zero, List.set_cons_succ]
          refine quiet_call (.string ⟨q.toArray⟩) 26 #[tv k' m' (.slice at' ts'.length ct'), vv N' (.slice ab' bs'.length cb') (.slice av' us'.length cv') p'] (by rfl) (fun W hC => by go_simp) (fun W hC => (IH.out W (hbr3.trans (Below.mono hC hbr3.size))).mono fun _ _ h => ⟨h.1, Below.trans hC (Below.mono h.2 (Below.size hC))⟩) ?_
          simp only [Act.put, List.setIfInBounds_toArray, List.set_cons_zero, List.set_cons_succ]
          refine quiet_val (.string ⟨q.toArray⟩) (by rfl) (fun W hC => by go_simp) ?_
          simp only [Act.put, List.setIfInBounds_toArray, List.set_cons_zero, List.set_cons_succ]
          refine wpQuiet_nil ?_
          intro w4 hb4
          have hbr4 : Below wr.heap.size wr w4 := hbr3.trans (Below.mono hb4 hbr3.size)
          have hB4 := hB3.from_ hb4 hs2
          have t0 := hB4.c0
          have t1 := hB4.c1
          have t2 := hB4.c2
          clear IH HI hE hE3 hB3 hA3 hA2 hj9
          go_wp2_with fail
          refine (HFX.out _ hbr4).mono ?_
          rintro e w5 ⟨rfl, hb5⟩
          have hbr5 : Below wr.heap.size wr w5 := hbr4.trans (Below.mono hb5 hbr4.size)
          clear t0 t1 t2 HFX
          cases fx with
          | true =>
            go_wp2_with fail
            refine ⟨⟨j + 1, f ++ q, t, by omega, by simp, by rw [str_add], rfl, ?_, ?_, LW.trans (hbr5.mono LW.size)⟩, by simp [intOf]; omega⟩
            · rw [HN.out, HKD.out]; simp only [if_true]; rw [M.rowH_fix, HFF.out]
            · rw [HN.out, HKD.out]; simp only [if_true]; rw [M.rowL_fix, HTT.out]
          | false =>
            go_wp2_with fail
            refine (HOF.out _).mono ?_
            rintro e w6 ⟨rfl, hb6⟩
            have hbr6 : Below wr.heap.size wr w6 := hbr5.trans (Below.mono hb6 hbr5.size)
            go_wp2_with fail
            refine ⟨⟨j + 1, f ++ M.le 4 (off + t.length), t ++ q, by omega, by simp, by rw [str_add], by rw [str_add], ?_, ?_, LW.trans (hbr6.mono LW.size)⟩, by simp [intOf]; omega⟩
            · rw [HN.out, HKD.out]; simp only [if_false, Bool.false_eq_true]; rw [M.rowH_off, HFF.out, HTT.out]
            · rw [HN.out, HKD.out]; simp only [if_false, Bool.false_eq_true]; rw [M.rowL_off, HTT.out]
        · obtain rfl : j = us.length := by omega
          rw [List.take_length] at hff htt
          have hft : f.length + t.length ≤ 32000 := by
            have h1 := M.row_sum (M.putVs k ts p 0 us) off
            rw [hff, htt] at h1
            omega
          have HE2 := HE.out
          rw [hff, htt] at HE2
          have HE2 := Lib.hid HE2
          clear HE hff htt hsum hoff hoff2 hfv hcu ih
          go_wp2_with fail
          go_ret
          refine ⟨?_, hbW⟩
          rw [HE2.out, ← str_add]
          rfl
    by_cases e1 : k = 1
    · subst e1
      obtain ⟨m, rfl, hm1, hm2⟩ : ∃ m : Nat, n = (m : Int) ∧ 1 ≤ m ∧ m ≤ 32 := by
        have h2 := (M.chkT_ok.1 hc).2.1
        unfold M.formT at h2
        simp at h2
        exact ⟨n.toNat, by omega, by omega, by omega⟩
      have HL := Lib.hid (zlow_any N m w0 hm1 hm2)
      rw [show M.putV (.mk 1 (m : Int) ts) (.mk N bs us p) = M.le m N by rw [M.putV]; simp [M.Ty.k, M.Ty.n]]
      have t0 := hB0.c0
      have t1 := hB0.c1
      have t2 := hB0.c2
      have a0 := hA0.c0
      have a1 := hA0.c1
      have a2 := hA0.c2
      have a3 := hA0.c3
      have a4 := hA0.c4
      have a5 := hA0.c5
      have a6 := hA0.c6
      simp only [Nat.zero_add] at a1 a2 a3 a4 a5 a6
      rw [← HW.out] at t0 t1 t2 a0 a1 a2 a3 a4 a5 a6
      clear hw0 hcnt hf hc hc0 ih
      go_enter Tryz.func26, Tryz.ntmps26
      go_wp2_with fail
      rw [HW.out]
      refine (HL.out).mono ?_
      rintro e w1 ⟨rfl, hb1⟩
      go_wp2_with fail
      go_ret
      exact ⟨rfl, hb0.trans (Below.mono hb1 hb0.size)⟩
    by_cases e2 : k = 2
    · subst e2
      have HL := Lib.hid (zlow_any N 1 w0 (by omega) (by omega))
      rw [show M.putV (.mk 2 n ts) (.mk N bs us p) = M.le 1 N by rw [M.putV]; simp [M.Ty.k]]
      have t0 := hB0.c0
      have t1 := hB0.c1
      have t2 := hB0.c2
      have a0 := hA0.c0
      have a1 := hA0.c1
      have a2 := hA0.c2
      have a3 := hA0.c3
      have a4 := hA0.c4
      have a5 := hA0.c5
      have a6 := hA0.c6
      simp only [Nat.zero_add] at a1 a2 a3 a4 a5 a6
      rw [← HW.out] at t0 t1 t2 a0 a1 a2 a3 a4 a5 a6
      clear hw0 hcnt hf hc hc0 ih
      go_enter Tryz.func26, Tryz.ntmps26
      go_wp2_with fail
      rw [HW.out]
      refine (HL.out).mono ?_
      rintro e w1 ⟨rfl, hb1⟩
      go_wp2_with fail
      go_ret
      exact ⟨rfl, hb0.trans (Below.mono hb1 hb0.size)⟩
    by_cases e5 : k = 5
    · subst e5
      have hbl : 1 ≤ bs.length ∧ bs.length ≤ 1000000 := by
        have h2 := (M.chkT_ok.1 hc).2.1
        have h3 := (M.fit_parts0 hf).2.1
        rw [M.ofV_5] at h3
        unfold M.formT at h2
        simp at h2 h3
        omega
      have HL := Lib.hid (zpack_any bs ab cb w0 ((hV.b.from_ hb0).mono hb0.size) hbl.1 hbl.2)
      rw [show M.putV (.mk 5 n ts) (.mk N bs us p) = M.packB bs by rw [M.putV]; simp [M.Ty.k]]
      have t0 := hB0.c0
      have t1 := hB0.c1
      have t2 := hB0.c2
      have a0 := hA0.c0
      have a1 := hA0.c1
      have a2 := hA0.c2
      have a3 := hA0.c3
      have a4 := hA0.c4
      have a5 := hA0.c5
      have a6 := hA0.c6
      simp only [Nat.zero_add] at a1 a2 a3 a4 a5 a6
      rw [← HW.out] at t0 t1 t2 a0 a1 a2 a3 a4 a5 a6
      clear hw0 hcnt hf hc hc0 ih
      go_enter Tryz.func26, Tryz.ntmps26
      go_wp2_with fail
      rw [HW.out]
      refine (HL.out).mono ?_
      rintro e w1 ⟨rfl, hb1⟩
      go_wp2_with fail
      go_ret
      exact ⟨rfl, hb0.trans (Below.mono hb1 hb0.size)⟩
    by_cases e6 : k = 6
    · subst e6
      have hbl : bs.length ≤ 1000 := by
        have h1 := (M.fit_parts0 hf).1
        have h2 := (M.chkT_ok.1 hc).2.1
        unfold M.formT at h2
        simp at h1 h2
        omega
      have HE : Hid (M.putV (.mk 6 n ts) (.mk N bs us p) = M.packB (bs ++ [true])) := by show _ = _; rw [M.putV]; simp [M.Ty.k, M.listB]
      have HP := Lib.hid (fun (ab : Option Addr) (cb : Nat) (W : World) (h : LayB W W.heap.size (bs ++ [true]) (.slice ab (bs ++ [true]).length cb)) => zpack_any (bs ++ [true]) ab cb W h (by simp) (by simp; omega))
      obtain ⟨i0, hi, hz0', hz1', hz2'⟩ := info_parts Tryz.infoBool
      by_cases hnil : bs = []
      · subst hnil
        clear hbl
        rw [List.nil_append] at HP
        have t0 := hB0.c0
        have t1 := hB0.c1
        have t2 := hB0.c2
        have a0 := hA0.c0
        have a1 := hA0.c1
        have a2 := hA0.c2
        have a3 := hA0.c3
        have a4 := hA0.c4
        have a5 := hA0.c5
        have a6 := hA0.c6
        simp only [Nat.zero_add] at a1 a2 a3 a4 a5 a6
        have hlw : w0.heap.size ≤ ((w.alloc (.cells #[.int .i64 6, .int .i64 n, .slice at_ ts.length ct] 24)).alloc (.cells #[.int .u64 (M.pt 0 N), .int .u64 (M.pt 1 N), .int .u64 (M.pt 2 N), .int .u64 (M.pt 3 N), .slice ab ([] : List Bool).length cb, .slice au us.length cu, .int .i64 p] 31)).heap.size := by rw [HW.out]; exact Nat.le_refl _
        rw [← HW.out] at t0 t1 t2 a0 a1 a2 a3 a4 a5 a6
        clear hw0 hcnt hf hc hc0 ih hT hV
        cases ab with
        | none =>
          have HNEW : ∀ j u, [Value.bool true][j]? = some u → (((w.alloc (.cells #[.int .i64 6, .int .i64 n, .slice at_ ts.length ct] 24)).alloc (.cells #[.int .u64 (M.pt 0 N), .int .u64 (M.pt 1 N), .int .u64 (M.pt 2 N), .int .u64 (M.pt 3 N), .slice none 0 cb, .slice au us.length cu, .int .i64 p] 31)).alloc (.cells #[.bool true] 4)).cell? ((⟨w.heap.size + 1 + 1, 0, none⟩ : Addr).add j) = some u := by
            have := cell_one_new ((w.alloc (.cells #[.int .i64 6, .int .i64 n, .slice at_ ts.length ct] 24)).alloc (.cells #[.int .u64 (M.pt 0 N), .int .u64 (M.pt 1 N), .int .u64 (M.pt 2 N), .int .u64 (M.pt 3 N), .slice none 0 cb, .slice au us.length cu, .int .i64 p] 31)) (.bool true) 4
            rwa [World.size_alloc, World.size_alloc] at this
          go_enter Tryz.func26, Tryz.ntmps26
          go_wp2_with (at_builtin; refine wpList_append_own _ rfl _ _ 28 rfl w0.heap.size 4 i0 (.bool false) 1 1 Tryz.underlying28 hi hz0' hz1' hz2' rfl (by decide) _ _ _ rfl (World.ownsRow_nil _ _ _ _) ⟨w.heap.size + 1 + 1, 0, none⟩ 1 1 [.bool true] rfl rfl HNEW (by simp [Value.oneCell']) (by unfold maxLen; omega) (by omega) (by simp; omega) ?_; intro v2 w4 hown2 hgrow2 _)
          have e0 : ((w.alloc (.cells #[.int .i64 6, .int .i64 n, .slice at_ ts.length ct] 24)).alloc (.cells #[.int .u64 (M.pt 0 N), .int .u64 (M.pt 1 N), .int .u64 (M.pt 2 N), .int .u64 (M.pt 3 N), .slice none 0 cb, .slice au us.length cu, .int .i64 p] 31)) = w0 := HW.out
          rw [e0] at hgrow2
          have hbB : Below w.heap.size w w4 := (hb0.alloc hb0.size _).grown hgrow2 (by simp; omega) (fun q e => by cases e)
          obtain ⟨g, cap, rfl, hLB⟩ := own_bools (l := [true]) hown2 (by simp)
          clear hown2 hgrow2 HNEW
          refine (HP.out _ _ w4 hLB).mono ?_
          rintro e w5 ⟨rfl, hb5⟩
          go_wp2_with fail
          go_ret
          refine ⟨?_, hbB.trans (Below.mono hb5 hbB.size)⟩
          rw [HE.out]
          rfl
        | some a =>
          have HNEW : ∀ j u, [Value.bool true][j]? = some u → (((w.alloc (.cells #[.int .i64 6, .int .i64 n, .slice at_ ts.length ct] 24)).alloc (.cells #[.int .u64 (M.pt 0 N), .int .u64 (M.pt 1 N), .int .u64 (M.pt 2 N), .int .u64 (M.pt 3 N), .slice (some a) 0 cb, .slice au us.length cu, .int .i64 p] 31)).alloc (.cells #[.bool true] 4)).cell? ((⟨w.heap.size + 1 + 1, 0, none⟩ : Addr).add j) = some u := by
            have := cell_one_new ((w.alloc (.cells #[.int .i64 6, .int .i64 n, .slice at_ ts.length ct] 24)).alloc (.cells #[.int .u64 (M.pt 0 N), .int .u64 (M.pt 1 N), .int .u64 (M.pt 2 N), .int .u64 (M.pt 3 N), .slice (some a) 0 cb, .slice au us.length cu, .int .i64 p] 31)) (.bool true) 4
            rwa [World.size_alloc, World.size_alloc] at this
          go_enter Tryz.func26, Tryz.ntmps26
          go_wp2_with (at_builtin; refine wpList_append_own _ rfl _ _ 28 rfl w0.heap.size 4 i0 (.bool false) 1 1 Tryz.underlying28 hi hz0' hz1' hz2' rfl (by decide) _ _ _ rfl (World.ownsRow_nil _ _ _ _) ⟨w.heap.size + 1 + 1, 0, none⟩ 1 1 [.bool true] rfl rfl HNEW (by simp [Value.oneCell']) (by unfold maxLen; omega) (by omega) (by simp; omega) ?_; intro v2 w4 hown2 hgrow2 _)
          have e0 : ((w.alloc (.cells #[.int .i64 6, .int .i64 n, .slice at_ ts.length ct] 24)).alloc (.cells #[.int .u64 (M.pt 0 N), .int .u64 (M.pt 1 N), .int .u64 (M.pt 2 N), .int .u64 (M.pt 3 N), .slice (some a) 0 cb, .slice au us.length cu, .int .i64 p] 31)) = w0 := HW.out
          rw [e0] at hgrow2
          have hbB : Below w.heap.size w w4 := (hb0.alloc hb0.size _).grown hgrow2 (by simp; omega) (fun q e => by cases e)
          obtain ⟨g, cap, rfl, hLB⟩ := own_bools (l := [true]) hown2 (by simp)
          clear hown2 hgrow2 HNEW
          refine (HP.out _ _ w4 hLB).mono ?_
          rintro e w5 ⟨rfl, hb5⟩
          go_wp2_with fail
          go_ret
          refine ⟨?_, hbB.trans (Below.mono hb5 hbB.size)⟩
          rw [HE.out]
          rfl
      obtain ⟨b, o, _, rfl, _, _, _⟩ := hV.b.at_ (i := 0) (List.length_pos_iff.2 hnil)
      have HC := (hV.b.from_ hb0).cells
      have t0 := hB0.c0
      have t1 := hB0.c1
      have t2 := hB0.c2
      have a0 := hA0.c0
      have a1 := hA0.c1
      have a2 := hA0.c2
      have a3 := hA0.c3
      have a4 := hA0.c4
      have a5 := hA0.c5
      have a6 := hA0.c6
      simp only [Nat.zero_add] at a1 a2 a3 a4 a5 a6
      have hlw : w0.heap.size ≤ ((w.alloc (.cells #[.int .i64 6, .int .i64 n, .slice at_ ts.length ct] 24)).alloc (.cells #[.int .u64 (M.pt 0 N), .int .u64 (M.pt 1 N), .int .u64 (M.pt 2 N), .int .u64 (M.pt 3 N), .slice (some ⟨b, o, none⟩) bs.length cb, .slice au us.length cu, .int .i64 p] 31)).heap.size := by rw [HW.out]; exact Nat.le_refl _
      rw [← HW.out] at t0 t1 t2 a0 a1 a2 a3 a4 a5 a6 HC
      clear hw0 hcnt hf hc hc0 ih hnil
      go_enter Tryz.func26, Tryz.ntmps26
      go_wp2_with (first | (at_builtin; refine wpList_append_own _ rfl _ _ 28 rfl w0.heap.size 4 i0 (.bool false) 1 1 Tryz.underlying28 hi hz0' hz1' hz2' rfl (by decide) (.slice none 0 0) 0 [] rfl (World.ownsRow_nil _ _ _ _) ⟨b, o, none⟩ bs.length cb (bs.map Value.bool) rfl (by simp) HC (fun u hu => by obtain ⟨x, _, rfl⟩ := List.mem_map.1 hu; rfl) (by unfold maxLen; omega) (by omega) hlw ?_; intro v1 w2 hown1 hgrow1 _) | (at_builtin; refine wpList_append_own _ rfl _ _ 28 rfl w0.heap.size 4 i0 (.bool false) 1 1 Tryz.underlying28 hi hz0' hz1' hz2' rfl (by decide) _ _ _ rfl (hown1.alloc _) ⟨w2.heap.size, 0, none⟩ 1 1 [.bool true] rfl rfl (cell_one_new _ _ _) (by simp [Value.oneCell']) (by unfold maxLen; omega) (by omega) (by have := hgrow1.size; rw [HW.out] at this; simp; omega) ?_; intro v2 w4 hown2 hgrow2 _))
      rw [HW.out] at hgrow1
      have hbA : Below w.heap.size w w2 := hb0.grown hgrow1 hb0.size (fun q e => by cases e)
      have hs2 := hgrow1.size
      have hbB : Below w.heap.size w w4 := (hbA.alloc hbA.size _).grown hgrow2 (by simp; omega) (fun q e => by have := (hown1.lt q e).1; omega)
      have hown3 : w4.ownsRow w0.heap.size 4 1 v2 (bs ++ [true]).length ((bs ++ [true]).map Value.bool) := by
        have := hown2
        rw [List.nil_append, Nat.zero_add] at this
        rw [List.length_append, List.length_singleton, List.map_append]
        exact this
      obtain ⟨g, cap, rfl, hLB⟩ := own_bools hown3 (by simp)
      clear hown1 hown2 hown3 hgrow1 hgrow2
      refine (HP.out _ _ w4 hLB).mono ?_
      rintro e w5 ⟨rfl, hb5⟩
      go_wp2_with fail
      go_ret
      refine ⟨?_, hbB.trans (Below.mono hb5 hbB.size)⟩
      rw [HE.out]
      rfl
    obtain rfl : k = 8 := by have := (M.chkT_ok.1 hc).1; omega
    exact zunion_step z (Lib.hid ih) n ts at_ ct d N bs us p ab cb au cu w hsz hT hV hc hf hcnt
end Go.Proofs.YtemnjoiajmcpjaaGreatDoor
