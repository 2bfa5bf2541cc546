/- The reference's Sum. -/
import Derived.Test.YtdfcfpbofomdcaaDoorQ7
import Derived.Test.YtdfcfpbofomdcaaDoorQ16
import Derived.Test.YtdfcfpbofomdcaaDoorQ20
import Derived.Test.YtdfcfpbofomdcaaDoorQ21
namespace Go.Proofs.YtdfcfpbofomdcaaDoor
open Go Go.RowKit

theorem byte_at (T : ByteArray) (z : Nat) (h : z < T.size) : (T[z]).toNat = (T.data.toList.getD z 0).toNat := by
  have : T.data.toList.getD z 0 = T[z] := by
    rw [List.getD_eq_getElem?_getD, List.getElem?_eq_getElem (by simpa using h), Option.getD_some]
    rfl
  rw [this]

set_option maxRecDepth 100000 in
set_option maxHeartbeats 8000000 in
theorem rsum (b : ByteArray) (w : World) (hs : b.size ≤ 1000) :
    Calls Tryd.prog 11 #[.string b] w fun e w' => e = .returned (.string ⟨(M.sumL b.data.toList).toArray⟩) ∧ Below w.heap.size w w' := by
  obtain ⟨i0, hi, hz0, hz1, hz2⟩ := info_parts Tryd.infoU8
  have HI := Lib.hid hi
  clear hi
  have mixed : Tryd.prog.follows .mixedOrders = true := by kernel_rfl
  obtain ⟨p, hp⟩ : ∃ p : ByteArray, p = ⟨(M.padL b.size).toArray⟩ := ⟨_, rfl⟩
  have hpz : p.size = (M.padL b.size).length := by rw [hp]; exact List.size_toArray
  have hpl : p.size ≤ 136 := by rw [hpz, M.padL_length]; omega
  have hkp : ∀ W, Calls Tryd.prog 13 #[.int .i64 (b.size : Int)] W fun e w' => e = .returned (.tuple #[.string p, .int .i64 0]) ∧ Below W.heap.size W w' := fun W => by rw [hp]; exact rpad b.size W (by omega)
  obtain ⟨T, hT⟩ : ∃ T : ByteArray, T = b ++ p := ⟨_, rfl⟩
  obtain ⟨t, ht⟩ : ∃ t, t = b.data.toList ++ M.padL b.size := ⟨_, rfl⟩
  have hTt : T.data.toList = t := by rw [hT, ht, hp]; simp
  have hTl : T.size = b.size + p.size := by rw [hT]; simp
  have hmul : (b.size + p.size) % 136 = 0 := by rw [hpz]; exact M.padL_mul b.size
  obtain ⟨K, hK⟩ : ∃ K, K = (b.size + p.size) / 136 := ⟨_, rfl⟩
  have hlen : T.size = 136 * K := by omega
  have hK9 : T.size ≤ 2000 := by omega
  have hbl : b.size = b.data.toList.length := by rw [Array.length_toList]; rfl
  have HS : Hid (M.sumL b.data.toList = M.outL (M.blocksL K z25 t)) := by
    show _ = _
    unfold M.sumL
    rw [← hbl, ← hpz, ← hK, ← ht]
    rfl
  have htl : t.length = T.size := by rw [ht, List.length_append, ← hpz, ← hbl, hTl]
  have HT := Lib.hid hT
  have HTt := Lib.hid hTt
  have Htl := Lib.hid htl
  have HL := Lib.hid hlen
  clear hp hpz hT ht hTt hTl hmul hK hlen hbl htl
  go_enter Tryd.func11, Tryd.ntmps11
  go_wp2_with (go_at_call 13; refine (hkp _).mono ?_; rintro e w1 ⟨rfl, hb1⟩)
  rw [← HT.out, lv_zero]
  obtain ⟨S, hS⟩ : ∃ S, S = w1.heap.size := ⟨_, rfl⟩
  have jR : Rw (w1.alloc (Obj.cells (lv z25) 23)) S 23 z25 := Rw.at_ _ _ _ hS.symm
  have hs1 := hb1.size
  have jW : Below w.heap.size w (w1.alloc (Obj.cells (lv z25) 23)) := hb1.alloc hs1 _
  have hwS : w.heap.size ≤ S := by omega
  rw [← hS]
  clear hS hs1 hb1 hkp hpl hs
  generalize w1.alloc (Obj.cells (lv z25) 23) = w2 at *
  go_loopw [7] (fun v wr => ∃ j : Nat, j ≤ K ∧ v = .int .i64 ((136 * j : Nat) : Int) ∧ Rw wr S 23 (stP z25 t j) ∧ Below w.heap.size w wr) (fun v _ => 136 * K - (intOf v).toNat)
  case atStart => exact ⟨0, Nat.zero_le _, rfl, jR, jW⟩
  case round =>
    clear jR jW
    obtain ⟨j, hj, rfl, hR, hW⟩ := hrel
    obtain ⟨A, hA⟩ : ∃ A, A = 136 * j := ⟨_, rfl⟩
    rw [← hA]
    by_cases hlt : j < K
    · have hAT : (A : Int) < (T.size : Int) := by have := HL.out; omega
      have hAT2 : A + 136 ≤ T.size := by have := HL.out; omega
      have HLn := Lib.hid (stP_lanes z25_lanes t j)
      have HN := Lib.hid (stP_succ z25 t j)
      have Hb : Hid (((t.drop (136 * j)).take 136).length = 136) := by
        show _ = _
        have h4 := Htl.out
        rw [List.length_take, List.length_drop]
        omega
      have Hbk : Hid (∀ i, i < 136 → ((t.drop (136 * j)).take 136).getD i 0 = t.getD (A + i) 0) := fun i hi => by
        rw [hA]
        simp [List.getD_eq_getElem?_getD, hi]
      have HA := Lib.hid hA
      clear hA
      generalize stP z25 t j = a at *
      generalize (t.drop (136 * j)).take 136 = blk at *
      go_wp2_with fail
      go_loopw [8] (fun v wq => ∃ i : Nat, i ≤ 136 ∧ v = .int .i64 (i : Int) ∧ Rw wq S 23 (M.absP a blk i) ∧ Below w.heap.size w wq) (fun v _ => 136 - (intOf v).toNat)
      case atStart => exact ⟨0, Nat.zero_le _, rfl, by rw [M.absP_zero HLn.out.1]; exact hR, hW⟩
      case round =>
        clear hR hW
        obtain ⟨i, hi, rfl, hR, hW⟩ := hrel
        by_cases hlti : i < 136
        · obtain ⟨z, hz⟩ : ∃ z, z = A + i := ⟨_, rfl⟩
          have hzT : z < T.size := by omega
          have hzT2 : (z : Int) < (T.size : Int) := by omega
          have HC : Hid ((blk.getD i 0).toNat = (T[z]).toNat) := by
            show _ = _
            rw [Hbk.out i hlti, byte_at T z hzT, HTt.out, hz]
          obtain ⟨c, hc⟩ : ∃ c, c = (T[z]).toNat := ⟨_, rfl⟩
          have hc5 : c < 256 := by rw [hc]; exact UInt8.toNat_lt _
          rw [← hc] at HC
          have hc2 := hc.symm
          clear hc
          have wz : IntKind.i64.wrap ((A : Int) + (i : Int)) = (z : Int) := by rw [IntWalk.i64_in _ (by omega)]; omega
          obtain ⟨q, hq⟩ : ∃ q, q = i / 8 := ⟨_, rfl⟩
          obtain ⟨d, hd⟩ : ∃ d, d = i % 8 := ⟨_, rfl⟩
          obtain ⟨s, hs⟩ : ∃ s, s = 8 * d := ⟨_, rfl⟩
          have t1 : ((i : Int)).tdiv 8 = (q : Int) := by rw [Int.tdiv_eq_ediv_of_nonneg (by omega)]; omega
          have t2 : ((i : Int)).tmod 8 = (d : Int) := by rw [Int.tmod_eq_emod_of_nonneg (by omega)]; omega
          have t3 : IntKind.i64.wrap ((d : Int) * 8) = (s : Int) := by rw [IntWalk.i64_in _ (by omega)]; omega
          have t0 : IntKind.i64.wrap (q : Int) = (q : Int) := IntWalk.i64_in _ (by omega)
          have tc : IntKind.u64.wrap (c : Int) = (c : Int) := by rw [IntKind.wrap_u64]; omega
          have ts : IntKind.u64.wrap (s : Int) = (s : Int) := by rw [IntKind.wrap_u64]; omega
          have hq5 : (q : Int) < 25 := by omega
          have hs5 : (s : Int) < 64 := by omega
          have hs0 : (0 : Int) ≤ (s : Int) := by omega
          have hLP := M.absP_lanes HLn.out blk i
          have ca := hR.cell (i := q) (by rw [hLP.1]; omega)
          have fa := hR.frozen q
          obtain ⟨u1, u2⟩ := shl_byte c d hc5 (by omega)
          have x1 := bits_xor_u64_nat _ _ (hLP.2 q) u2
          have HS2 := Lib.hid (abs_step (a := a) (b := blk) hlti (by rw [Hb.out]; exact hlti))
          rw [HC.out, ← hd, ← hq] at HS2
          rw [← hs] at u1 x1 HS2
          have hii : (i : Int) < 136 := by omega
          clear hq hd hs u2 hLP hc5 hz
          obtain ⟨v, hv⟩ : ∃ v, v = c * 2 ^ s := ⟨_, rfl⟩
          rw [← hv] at u1 x1 HS2
          clear hv
          go_wp2_with fail
          go_still_tail 19, mixed
          change wpList _ _ _ _ _ wr.drew
          go_wp2_with fail
          go_roundw
          case rel =>
            refine ⟨i + 1, by omega, by go_num, ?_, ?_⟩
            · rw [← HS2.out]; exact (hR.set_ _ _).drew
            · exact (hW.setCell hwS _).drew
          case measure => simp [intOf]; omega
        · obtain rfl : i = 136 := by omega
          rw [M.absP_all] at hR
          have HAb := Lib.hid (abs_lanes HLn.out blk)
          rw [show ((136 : Nat) : Int) = 136 from rfl]
          go_wp2_with (refine wpList_load_st rfl _ _ rfl _ rfl _ _ 25 22 hR Tryd.array25 Tryd.size25 HAb.out.1 ?_)
          refine (rperm _ _ HAb.out).mono ?_
          rintro e w5 ⟨rfl, hb5⟩
          have h25 := (M.perm_lanes HAb.out).1
          replace hR := hR.keep hb5
          replace hW := hW.trans (hb5.mono hW.size)
          go_wp2_with (refine wpList_store_st rfl _ _ _ rfl _ _ rfl rfl _ _ 25 hR Tryd.size25 h25 HAb.out.1 ?_)
          go_roundw
          case rel =>
            refine ⟨j + 1, by omega, ?_, ?_, ?_⟩
            · have := HA.out; congr 1; omega
            · rw [HN.out]; exact hR.row _
            · exact below_setRow hW hwS _
          case measure => have := HA.out; have := HL.out; simp [intOf]; omega
    · obtain rfl : j = K := by omega
      have hAT : (A : Int) = (T.size : Int) := by have := HL.out; omega
      obtain rfl : A = T.size := by have := HL.out; omega
      have HLs := Lib.hid (stP_lanes z25_lanes t j)
      rw [stP_all] at hR HLs
      clear hAT hA
      generalize M.blocksL j z25 t = a at *
      go_wp2_with fail
      have hSW := hR.lt
      go_loopw [9, 10] (fun v q wr => ∃ k : Nat, k ≤ 32 ∧ q = .int .i64 (k : Int) ∧ wr.ownsRow (S + 1) 5 1 v k (bc ((M.outL a).take k)) ∧ Rw wr S 23 a ∧ Below w.heap.size w wr) (fun _ q _ => 32 - (intOf q).toNat)
      case atStart => exact ⟨0, by omega, rfl, World.ownsRow_nil _ _ _ _, hR, hW⟩
      case round =>
        clear hR hW hSW
        obtain ⟨k, hk, rfl, hown, hR, hW⟩ := hrel
        have hSW := hR.lt
        have hwW := hW.size
        by_cases hlt : k < 32
        · obtain ⟨c, hc⟩ : ∃ c, c = k / 8 := ⟨_, rfl⟩
          obtain ⟨d, hd⟩ : ∃ d, d = k % 8 := ⟨_, rfl⟩
          obtain ⟨s, hs⟩ : ∃ s, s = d * 8 := ⟨_, rfl⟩
          have t1 : (k : Int) / 8 = (c : Int) := by omega
          have t2 : (k : Int) % 8 = (d : Int) := by omega
          have t3 : (d : Int) * 8 = (s : Int) := by omega
          have hc5 : (c : Int) < 25 := by omega
          have hs5 : (s : Int) < 64 := by omega
          have hk5 : (k : Int) < 32 := by omega
          have ca := hR.cell (i := c) (by rw [HLs.out.1]; omega)
          have hob := ob_is a k s (by omega)
          rw [← hc] at hob
          obtain ⟨o, ho⟩ : ∃ o, o = (obF a k).toNat := ⟨_, rfl⟩
          have ho6 : o < 256 := by rw [ho]; exact UInt8.toNat_lt _
          have to1 : ((((M.gl a c : Nat) : Int)) / 2 ^ s).tmod 256 = (o : Int) := by
            rw [Int.tmod_eq_emod_of_nonneg (Int.ediv_nonneg (by omega) (Int.pow_nonneg (by omega))), hob, ho]
          have to2 : (o : Int) % 256 = (o : Int) := by omega
          have HO := Lib.hid ho
          have hset : bc ((M.outL a).take (k + 1)) = bc ((M.outL a).take k) ++ [.int .u8 ((obF a k).toNat : Int)] := by
            have hl : k < (M.outL a).length := by rw [← outP_all, outP_length]; exact hlt
            have hg : (M.outL a)[k] = obF a k := by
              simp only [M.outL, List.getElem_map, List.getElem_range]
              rfl
            rw [List.take_succ_eq_append_getElem hl, hg]
            simp [bc]
          have HSet := Lib.hid hset
          clear hc hd hs hob ho hset
          go_wp2_with (at_builtin; refine wpList_append_own _ rfl _ _ 38 rfl (S + 1) 5 i0 (.int .u8 0) 1 1 Tryd.underlying38 HI.out hz0 hz1 hz2 rfl (by decide) _ _ _ rfl (hown.alloc _) ⟨wr.heap.size, 0, none⟩ 1 1 [.int .u8 (o : Int)] rfl rfl (cell_one_new _ _ _) (by simp [Value.oneCell']) (by unfold maxLen; omega) (by omega) (by simp; omega) ?_; intro v' w6 hown' hgrow _)
          have hown2 : w6.ownsRow (S + 1) 5 1 v' (k + 1) (bc ((M.outL a).take (k + 1))) := by
            rw [HSet.out, ← HO.out]
            exact hown'
          have hlt2 := hown.lt
          have hb2 : Below w.heap.size w w6 := (hW.alloc hwW _).grown hgrow (by simp; omega) (fun q e => by have := (hlt2 q e).1; omega)
          have hR2 : Rw w6 S 23 a := (hR.alloc _).grown hgrow (fun e => by have := (hlt2 S e.symm).1; omega)
          go_roundw
          case rel => exact ⟨k + 1, by omega, by go_num, hown2, hR2, hb2⟩
          case measure => simp [intOf]; omega
        · obtain rfl : k = 32 := by omega
          obtain ⟨g, cap, rfl, hgB, hgl, hBs, hfr⟩ := own_bytes hown (by omega)
          have e32 : (M.outL a).take 32 = M.outL a := List.take_of_length_le (by rw [← outP_all, outP_length]; exact Nat.le_refl _)
          rw [e32] at hBs
          have hcv := hBs.conv (n := 32) (by rw [← outP_all, outP_length]) cap
          clear hfr hBs e32 hown
          go_wp2_with fail
          go_ret
          rw [HS.out]
          exact ⟨rfl, hW⟩
end Go.Proofs.YtdfcfpbofomdcaaDoor
