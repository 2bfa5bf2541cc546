/- The reference's Permute. -/
import Derived.Test.YtdfcfpbofomdcaaDoorQ3
import Derived.Test.YtdfcfpbofomdcaaDoorQ6
namespace Go.Proofs.YtdfcfpbofomdcaaDoor
open Go Go.RowKit

def chiF (b : List Nat) (k : Nat) : Nat := M.gl b k ^^^ ((M.gl b (k - k % 5 + (k % 5 + 1) % 5) ^^^ 18446744073709551615) &&& M.gl b (k - k % 5 + (k % 5 + 2) % 5))
theorem chi_all (b a : List Nat) : upto (chiF b) a 25 = M.chiL b := upto_all _ _
/-- The state behind i rounds. -/
def permP (a : List Nat) (i : Nat) : List Nat := (M.rcs.take i).foldl (fun a n => M.rndL n a) a
theorem rcs_length : M.rcs.length = 24 := rfl
theorem permP_succ (a : List Nat) {i : Nat} (hi : i < 24) : permP a (i + 1) = M.rndL (M.gl M.rcs i) (permP a i) := by
  unfold permP
  rw [List.take_succ_eq_append_getElem (by rw [rcs_length]; exact hi), List.foldl_append]
  have : M.rcs[i]'(by rw [rcs_length]; exact hi) = M.gl M.rcs i := by unfold M.gl; rw [List.getD_eq_getElem?_getD, List.getElem?_eq_getElem (by rw [rcs_length]; exact hi), Option.getD_some]
  rw [this]
  rfl
theorem permP_all (a : List Nat) : permP a 24 = M.permL a := rfl
theorem rc_lt (i : Nat) : M.gl M.rcs i < 18446744073709551616 := by
  rcases Nat.lt_or_ge i 24 with h | h
  · have : M.gl M.rcs i = M.rcs[i]'(by rw [rcs_length]; exact h) := by unfold M.gl; rw [List.getD_eq_getElem?_getD, List.getElem?_eq_getElem (by rw [rcs_length]; exact h), Option.getD_some]
    rw [this]
    exact M.rcs_lt _ (List.getElem_mem _)
  · have : M.gl M.rcs i = 0 := by unfold M.gl; rw [List.getD_eq_getElem?_getD, List.getElem?_eq_none (by rw [rcs_length]; exact h)]; rfl
    rw [this]; omega
theorem permP_lanes {a : List Nat} (ha : M.Lanes a) : ∀ i, i ≤ 24 → M.Lanes (permP a i)
  | 0, _ => ha
  | i + 1, h => by rw [permP_succ a (by omega)]; exact M.rnd_lanes _ (rc_lt i)
theorem iota_set {b : List Nat} (hb : b.length = 25) (n : Nat) : b.set 0 (M.gl b 0 ^^^ n) = M.iotaL n b := by
  refine M.lanes_ext (by rw [List.length_set]; exact hb) (M.of_length _) fun i hi => ?_
  rw [gl_set i (by omega)]
  unfold M.iotaL
  rw [M.gl_of _ hi]

set_option maxRecDepth 100000 in
set_option maxHeartbeats 8000000 in
theorem rperm (a : List Nat) (w : World) (ha : M.Lanes a) :
    Calls Tryd.prog 9 #[st a] w fun e w' => e = .returned (st (M.permL a)) ∧ Below w.heap.size w w' := by
  have HA := Lib.hid ha
  clear ha
  have mixed : Tryd.prog.follows .mixedOrders = true := by kernel_rfl
  go_enter Tryd.func9, Tryd.ntmps9
  go_wp2_with fail
  go_loopw [3] (fun i wr => ∃ k : Nat, k ≤ 24 ∧ i = .int .i64 (k : Int) ∧ Rw wr w.heap.size 23 (permP a k) ∧ Rw wr (w.heap.size + 1) 23 z25 ∧ Below w.heap.size w wr)
    (fun i _ => 24 - (intOf i).toNat)
  case atStart =>
    rw [lv_zero]
    refine ⟨0, by omega, rfl, (Rw.new _ _ _).alloc _, Rw.at_ _ _ _ (by simp), ?_⟩
    (repeat (first | exact Below.refl _ _ | refine Below.drew ?_ | refine Below.alloc ?_ (by first | omega | (simp; omega) | simp) _ | refine Below.setCell ?_ (by first | omega | (simp; omega) | simp) _))
  case round =>
    obtain ⟨i, hk, rfl, hA, hR, hW⟩ := hrel
    have HL := permP_lanes HA.out i hk
    by_cases hlt : i < 24
    · have L := Lib.hid HL
      have Ls := Lib.hid HL.1
      have HN := Lib.hid (permP_succ a hlt)
      have HI := Lib.hid hlt
      have hlt' : (i : Int) < 24 := by omega
      generalize permP a i = s at *
      clear HL
      go_wp2_with (first | (refine wpList_load_st rfl _ _ rfl _ rfl _ _ 25 22 hA Tryd.array25 Tryd.size25 Ls.out ?_))
      refine (rmix s _ L.out).mono ?_
      rintro e w1 ⟨rfl, hb1⟩
      go_wp2_with fail
      refine (rturn _ _ (M.mix_lanes L.out)).mono ?_
      rintro e w2 ⟨rfl, hb2⟩
      go_wp2_with fail
      refine (rmove _ _ (M.turn_lanes _).1).mono ?_
      rintro e w3 ⟨rfl, hb3⟩
      replace hA := ((hA.keep hb1).keep hb2).keep hb3
      replace hR := ((hR.keep hb1).keep hb2).keep hb3
      replace hW := ((hW.trans (hb1.mono hW.size)).trans (hb2.mono (Nat.le_trans hW.size hb1.size))).trans (hb3.mono (Nat.le_trans (Nat.le_trans hW.size hb1.size) hb2.size))
      clear hb1 hb2 hb3
      have LB := Lib.hid (M.move_lanes (M.turn_lanes (M.mixL s)))
      have HB : Hid (M.rndL (M.gl M.rcs i) s = M.iotaL (M.gl M.rcs i) (M.chiL (M.moveL (M.turnL (M.mixL s))))) := rfl
      generalize M.moveL (M.turnL (M.mixL s)) = b at *
      have hsA := hA.lt
      have hsR := hR.lt
      have hW0 := hW.size
      go_wp2_with (refine wpList_store_st rfl _ _ _ rfl _ _ rfl rfl _ _ 25 (Rw.new _ 23 z25) Tryd.size25 LB.out.1 z25_length ?_; rw [World.setRow_alloc_new])
      have hB := Rw.new w3 23 b
      replace hA := hA.alloc (Obj.cells (lv b) 23)
      replace hR := hR.alloc (Obj.cells (lv b) 23)
      replace hW := hW.alloc hW0 (Obj.cells (lv b) 23)
      obtain ⟨Bb, hBb⟩ : ∃ Bb, Bb = w3.heap.size := ⟨_, rfl⟩
      rw [← hBb] at hB hsA hsR hW0
      rw [← hBb]
      clear hBb
      generalize w3.alloc (Obj.cells (lv b) 23) = w4 at *
      go_loopw [5] (fun q wq => ∃ k : Nat, k ≤ 25 ∧ q = .int .i64 (k : Int) ∧ Rw wq w.heap.size 23 (upto (chiF b) s k) ∧ Rw wq (w.heap.size + 1) 23 z25 ∧ Rw wq Bb 23 b ∧ Below w.heap.size w wq)
        (fun q _ => 25 - (intOf q).toNat)
      case atStart => exact ⟨0, by omega, rfl, by rw [upto_zero _ Ls.out]; exact hA, hR, hB, hW⟩
      case round =>
        clear hA hR hB hW
        obtain ⟨k, hk, rfl, hA, hR, hB, hW⟩ := hrel
        by_cases hlt : k < 25
        · have hltk : (k : Int) < 25 := by omega
          have hk0 : k - k % 5 + (k % 5 + 1) % 5 < 25 := by omega
          have hk1 : k - k % 5 + (k % 5 + 2) % 5 < 25 := by omega
          have ca := hA.cell (i := k) (by rw [upto_length]; exact hlt)
          have fa := hA.frozen k
          have cb := hB.cell (i := k) (by rw [LB.out.1]; exact hlt)
          have c1 := hB.cell (i := k - k % 5 + (k % 5 + 1) % 5) (by rw [LB.out.1]; exact hk0)
          have c2 := hB.cell (i := k - k % 5 + (k % 5 + 2) % 5) (by rw [LB.out.1]; exact hk1)
          have x0 := bits_xor_u64_nat _ 18446744073709551615 (LB.out.2 (k - k % 5 + (k % 5 + 1) % 5)) (by omega)
          have x1 := bits_and_u64_nat _ _ (M.xor_lt64 (LB.out.2 (k - k % 5 + (k % 5 + 1) % 5)) (show 18446744073709551615 < 18446744073709551616 by omega)) (LB.out.2 (k - k % 5 + (k % 5 + 2) % 5))
          have x2 := bits_xor_u64_nat _ _ (LB.out.2 k) (M.and_lt64 (a := M.gl b (k - k % 5 + (k % 5 + 1) % 5) ^^^ 18446744073709551615) (LB.out.2 (k - k % 5 + (k % 5 + 2) % 5)))
          have HC : Hid (M.gl b k ^^^ ((M.gl b (k - k % 5 + (k % 5 + 1) % 5) ^^^ 18446744073709551615) &&& M.gl b (k - k % 5 + (k % 5 + 2) % 5)) = chiF b k) := rfl
          rw [show (((18446744073709551615 : Nat)) : Int) = 18446744073709551615 from rfl] at x0
          obtain ⟨c, hc⟩ : ∃ c, c = k % 5 := ⟨_, rfl⟩
          obtain ⟨r, hr⟩ : ∃ r, r = k - k % 5 := ⟨_, rfl⟩
          obtain ⟨d, hd⟩ : ∃ d, d = (k % 5 + 1) % 5 := ⟨_, rfl⟩
          obtain ⟨e, he⟩ : ∃ e, e = (k % 5 + 2) % 5 := ⟨_, rfl⟩
          obtain ⟨p, hp⟩ : ∃ p, p = k - k % 5 + (k % 5 + 1) % 5 := ⟨_, rfl⟩
          obtain ⟨q, hq⟩ : ∃ q, q = k - k % 5 + (k % 5 + 2) % 5 := ⟨_, rfl⟩
          rw [← hp] at c1 x0 x1 x2 HC
          rw [← hq] at c2 x1 x2 HC
          have tp0 : (p : Int) < 25 := by omega
          have tq0 : (q : Int) < 25 := by omega
          have hm : (k : Int) % 5 = (c : Int) := by omega
          have hs : (k : Int) - (c : Int) = (r : Int) := by omega
          have w1 : IntKind.i64.wrap ((c : Int) + 1) = (c : Int) + 1 := IntWalk.i64_in _ (by omega)
          have w2 : IntKind.i64.wrap ((c : Int) + 2) = (c : Int) + 2 := IntWalk.i64_in _ (by omega)
          have m1 : ((c : Int) + 1).tmod 5 = (d : Int) := by rw [Int.tmod_eq_emod_of_nonneg (by omega)]; omega
          have m2 : ((c : Int) + 2).tmod 5 = (e : Int) := by rw [Int.tmod_eq_emod_of_nonneg (by omega)]; omega
          have w3 : IntKind.i64.wrap ((r : Int) + (d : Int)) = (p : Int) := by rw [IntWalk.i64_in _ (by omega)]; omega
          have w4 : IntKind.i64.wrap ((r : Int) + (e : Int)) = (q : Int) := by rw [IntWalk.i64_in _ (by omega)]; omega
          clear hc hr hd he hp hq hk0 hk1
          generalize M.gl b p ^^^ 18446744073709551615 = n1 at *
          generalize n1 &&& M.gl b q = n2 at *
          go_wp2_with fail
          go_still_tail 22, mixed
          change wpList _ _ _ _ _ wr.drew
          go_wp2_with fail
          go_roundw
          case rel =>
            rw [HC.out]
            refine ⟨k + 1, by omega, by go_num, ?_, ?_, ?_, ?_⟩
            · rw [← upto_succ _ _ hlt]; exact (hA.set_ _ _).drew
            · exact (hR.far (by simp) _).drew
            · exact (hB.far (by simp; omega) _).drew
            · exact (hW.setCell (by simp) _).drew
          case measure => simp [intOf]; omega
        · obtain rfl : k = 25 := by omega
          rw [chi_all] at hA
          clear hlt hk
          have LC := Lib.hid (M.chi_lanes LB.out)
          have HS := Lib.hid (iota_set (M.chi_lanes LB.out).1 (M.gl M.rcs i))
          generalize M.chiL b = c at *
          have ca := hA.cell (i := 0) (by rw [LC.out.1]; omega)
          have fa := hA.frozen 0
          have x0 := bits_xor_u64_nat _ _ (LC.out.2 0) (rc_lt i)
          rw [show ((25 : Nat) : Int) = 25 from rfl]
          go_wp2_with fail
          go_still_tail 6, mixed
          still_call ((rnum i _ HI.out).mono (fun _ _ h => ⟨h.1, h.2.symm⟩))
          repeat still_step
          refine wpStill_nil ?_
          change wpList _ _ _ _ _ wr.drew
          go_wp2_with fail
          go_roundw
          case rel =>
            refine ⟨i + 1, by omega, by go_num, ?_, ?_, ?_⟩
            · rw [HN.out, HB.out, ← HS.out]; exact (hA.set_ _ _).drew
            · exact (hR.far (by simp) _).drew
            · exact (hW.setCell (by simp) _).drew
          case measure => simp [intOf]; omega
    · obtain rfl : i = 24 := by omega
      rw [permP_all] at hA
      have L25 := (M.perm_lanes HA.out).1
      go_wp2_with (first | (refine wpList_load_st rfl _ _ rfl _ rfl _ _ 25 22 hA Tryd.array25 Tryd.size25 L25 ?_) | (refine wpList_store_st rfl _ _ _ rfl _ _ rfl rfl _ _ 25 hR Tryd.size25 L25 z25_length ?_))
      exact bodyPost_ret (v := st (M.permL a)) (res_row rfl _ _ _ _ _ rfl (hR.row _) L25) rfl ⟨rfl, below_setRow hW (by omega) _⟩
end Go.Proofs.YtdfcfpbofomdcaaDoor
