/- The reference's Permute. keccak.mixRows. keccak.mixColumns. keccak.Permute. Rows of bytes as blocks of memory; a string of them. keccak.Pad. keccak.firstBytes. keccak.takeIn. A string's bytes as a new row, and another string appended to it. -/
import Derived.Test.YtaajkbclojmbeaaGreatDoorI15
import Derived.Deep.OwnRows
import Derived.Laws.BytesArg
import Derived.Laws.IdiomStrings
import Derived.Deep.Cut
import Derived.StillTailTactics
import Derived.Lib.ConvBytes
import Derived.Lib.AppendStr
import Derived.Laws.CopyRow
namespace Go.Proofs.YtaajkbclojmbeaaGreatDoor
open Go Go.RowKit

def chiF (b : List Nat) (k : Nat) : Nat := M.gl b k ^^^ ((M.gl b (k - k % 5 + (k % 5 + 1) % 5) ^^^ 18446744073709551615) &&& M.gl b (k - k % 5 + (k % 5 + 2) % 5))
theorem chi_all (b a : List Nat) : upto (chiF b) a 25 = M.chiL b := upto_all _ _
/-- The state behind i rounds. -/
def permP (a : List Nat) (i : Nat) : List Nat := (M.rcs.take i).foldl (fun a n => M.rndL n a) a
theorem rcs_length : M.rcs.length = 24 := rfl
theorem permP_succ (a : List Nat) {i : Nat} (hi : i < 24) : permP a (i + 1) = M.rndL (M.gl M.rcs i) (permP a i) := by
  unfold permP
  rw [List.take_succ_eq_append_getElem (by rw [rcs_length]; exact hi), List.foldl_append]
  have : M.rcs[i]'(by rw [rcs_length]; exact hi) = M.gl M.rcs i := by unfold M.gl; rw [List.getD_eq_getElem?_getD, List.getElem?_eq_getElem (by rw [rcs_length]; exact hi), Option.getD_some]
  rw [this]
  rfl
theorem permP_all (a : List Nat) : permP a 24 = M.permL a := rfl
theorem rc_lt (i : Nat) : M.gl M.rcs i < 18446744073709551616 := by
  rcases Nat.lt_or_ge i 24 with h | h
  · have : M.gl M.rcs i = M.rcs[i]'(by rw [rcs_length]; exact h) := by unfold M.gl; rw [List.getD_eq_getElem?_getD, List.getElem?_eq_getElem (by rw [rcs_length]; exact h), Option.getD_some]
    rw [this]
    exact M.rcs_lt _ (List.getElem_mem _)
  · have : M.gl M.rcs i = 0 := by unfold M.gl; rw [List.getD_eq_getElem?_getD, List.getElem?_eq_none (by rw [rcs_length]; exact h)]; rfl
    rw [this]; omega
theorem permP_lanes {a : List Nat} (ha : M.Lanes a) : ∀ i, i ≤ 24 → M.Lanes (permP a i)
  | 0, _ => ha
  | i + 1, h => by rw [permP_succ a (by omega)]; exact M.rnd_lanes _ (rc_lt i)
theorem iota_set {b : List Nat} (hb : b.length = 25) (n : Nat) : b.set 0 (M.gl b 0 ^^^ n) = M.iotaL n b := by
  refine M.lanes_ext (by rw [List.length_set]; exact hb) (M.of_length _) fun i hi => ?_
  rw [gl_set i (by omega)]
  unfold M.iotaL
  rw [M.gl_of _ hi]

set_option maxRecDepth 100000 in
set_option maxHeartbeats 8000000 in
theorem rperm (a : List Nat) (w : World) (ha : M.Lanes a) :
    Calls Tryz.prog 70 #[st a] w fun e w' => e = .returned (st (M.permL a)) ∧ Below w.heap.size w w' := by
  have HA := Lib.hid ha
  clear ha
  have mixed : Tryz.prog.follows .mixedOrders = true := by kernel_rfl
  go_enter Tryz.func70, Tryz.ntmps70
  go_wp2_with fail
  go_loopw [3] (fun i wr => ∃ k : Nat, k ≤ 24 ∧ i = .int .i64 (k : Int) ∧ Rw wr w.heap.size 54 (permP a k) ∧ Rw wr (w.heap.size + 1) 54 z25 ∧ Below w.heap.size w wr)
    (fun i _ => 24 - (intOf i).toNat)
  case atStart =>
    rw [lv_zero]
    refine ⟨0, by omega, rfl, (Rw.new _ _ _).alloc _, Rw.at_ _ _ _ (by simp), ?_⟩
    (repeat (first | exact Below.refl _ _ | refine Below.drew ?_ | refine Below.alloc ?_ (by first | omega | (simp; omega) | simp) _ | refine Below.setCell ?_ (by first | omega | (simp; omega) | simp) _))
  case round =>
    obtain ⟨i, hk, rfl, hA, hR, hW⟩ := hrel
    have HL := permP_lanes HA.out i hk
    by_cases hlt : i < 24
    · have L := Lib.hid HL
      have Ls := Lib.hid HL.1
      have HN := Lib.hid (permP_succ a hlt)
      have HI := Lib.hid hlt
      have hlt' : (i : Int) < 24 := by omega
      generalize permP a i = s at *
      clear HL
      go_wp2_with (first | (refine wpList_load_st rfl _ _ rfl _ rfl _ _ 25 23 hA Tryz.array25 Tryz.size25 Ls.out ?_))
      refine (rmix s _ L.out).mono ?_
      rintro e w1 ⟨rfl, hb1⟩
      go_wp2_with fail
      refine (rturn _ _ (M.mix_lanes L.out)).mono ?_
      rintro e w2 ⟨rfl, hb2⟩
      go_wp2_with fail
      refine (rmove _ _ (M.turn_lanes _).1).mono ?_
      rintro e w3 ⟨rfl, hb3⟩
      replace hA := ((hA.keep hb1).keep hb2).keep hb3
      replace hR := ((hR.keep hb1).keep hb2).keep hb3
      replace hW := ((hW.trans (hb1.mono hW.size)).trans (hb2.mono (Nat.le_trans hW.size hb1.size))).trans (hb3.mono (Nat.le_trans (Nat.le_trans hW.size hb1.size) hb2.size))
      clear hb1 hb2 hb3
      have LB := Lib.hid (M.move_lanes (M.turn_lanes (M.mixL s)))
      have HB : Hid (M.rndL (M.gl M.rcs i) s = M.iotaL (M.gl M.rcs i) (M.chiL (M.moveL (M.turnL (M.mixL s))))) := rfl
      generalize M.moveL (M.turnL (M.mixL s)) = b at *
      have hsA := hA.lt
      have hsR := hR.lt
      have hW0 := hW.size
      go_wp2_with (refine wpList_store_st rfl _ _ _ rfl _ _ rfl rfl _ _ 25 (Rw.new _ 54 z25) Tryz.size25 LB.out.1 z25_length ?_; rw [World.setRow_alloc_new])
      have hB := Rw.new w3 54 b
      replace hA := hA.alloc (Obj.cells (lv b) 54)
      replace hR := hR.alloc (Obj.cells (lv b) 54)
      replace hW := hW.alloc hW0 (Obj.cells (lv b) 54)
      obtain ⟨Bb, hBb⟩ : ∃ Bb, Bb = w3.heap.size := ⟨_, rfl⟩
      rw [← hBb] at hB hsA hsR hW0
      rw [← hBb]
      clear hBb
      generalize w3.alloc (Obj.cells (lv b) 54) = w4 at *
      go_loopw [5] (fun q wq => ∃ k : Nat, k ≤ 25 ∧ q = .int .i64 (k : Int) ∧ Rw wq w.heap.size 54 (upto (chiF b) s k) ∧ Rw wq (w.heap.size + 1) 54 z25 ∧ Rw wq Bb 54 b ∧ Below w.heap.size w wq)
        (fun q _ => 25 - (intOf q).toNat)
      case atStart => exact ⟨0, by omega, rfl, by rw [upto_zero _ Ls.out]; exact hA, hR, hB, hW⟩
      case round =>
        clear hA hR hB hW
        obtain ⟨k, hk, rfl, hA, hR, hB, hW⟩ := hrel
        by_cases hlt : k < 25
        · have hltk : (k : Int) < 25 := by omega
          have hk0 : k - k % 5 + (k % 5 + 1) % 5 < 25 := by omega
          have hk1 : k - k % 5 + (k % 5 + 2) % 5 < 25 := by omega
          have ca := hA.cell (i := k) (by rw [upto_length]; exact hlt)
          have fa := hA.frozen k
          have cb := hB.cell (i := k) (by rw [LB.out.1]; exact hlt)
          have c1 := hB.cell (i := k - k % 5 + (k % 5 + 1) % 5) (by rw [LB.out.1]; exact hk0)
          have c2 := hB.cell (i := k - k % 5 + (k % 5 + 2) % 5) (by rw [LB.out.1]; exact hk1)
          have x0 := bits_xor_u64_nat _ 18446744073709551615 (LB.out.2 (k - k % 5 + (k % 5 + 1) % 5)) (by omega)
          have x1 := bits_and_u64_nat _ _ (M.xor_lt64 (LB.out.2 (k - k % 5 + (k % 5 + 1) % 5)) (show 18446744073709551615 < 18446744073709551616 by omega)) (LB.out.2 (k - k % 5 + (k % 5 + 2) % 5))
          have x2 := bits_xor_u64_nat _ _ (LB.out.2 k) (M.and_lt64 (a := M.gl b (k - k % 5 + (k % 5 + 1) % 5) ^^^ 18446744073709551615) (LB.out.2 (k - k % 5 + (k % 5 + 2) % 5)))
          have HC : Hid (M.gl b k ^^^ ((M.gl b (k - k % 5 + (k % 5 + 1) % 5) ^^^ 18446744073709551615) &&& M.gl b (k - k % 5 + (k % 5 + 2) % 5)) = chiF b k) := rfl
          rw [show (((18446744073709551615 : Nat)) : Int) = 18446744073709551615 from rfl] at x0
          obtain ⟨c, hc⟩ : ∃ c, c = k % 5 := ⟨_, rfl⟩
          obtain ⟨r, hr⟩ : ∃ r, r = k - k % 5 := ⟨_, rfl⟩
          obtain ⟨d, hd⟩ : ∃ d, d = (k % 5 + 1) % 5 := ⟨_, rfl⟩
          obtain ⟨e, he⟩ : ∃ e, e = (k % 5 + 2) % 5 := ⟨_, rfl⟩
          obtain ⟨p, hp⟩ : ∃ p, p = k - k % 5 + (k % 5 + 1) % 5 := ⟨_, rfl⟩
          obtain ⟨q, hq⟩ : ∃ q, q = k - k % 5 + (k % 5 + 2) % 5 := ⟨_, rfl⟩
          rw [← hp] at c1 x0 x1 x2 HC
          rw [← hq] at c2 x1 x2 HC
          have tp0 : (p : Int) < 25 := by omega
          have tq0 : (q : Int) < 25 := by omega
          have hm : (k : Int) % 5 = (c : Int) := by omega
          have hs : (k : Int) - (c : Int) = (r : Int) := by omega
          have w1 : IntKind.i64.wrap ((c : Int) + 1) = (c : Int) + 1 := IntWalk.i64_in _ (by omega)
          have w2 : IntKind.i64.wrap ((c : Int) + 2) = (c : Int) + 2 := IntWalk.i64_in _ (by omega)
          have m1 : ((c : Int) + 1).tmod 5 = (d : Int) := by rw [Int.tmod_eq_emod_of_nonneg (by omega)]; omega
          have m2 : ((c : Int) + 2).tmod 5 = (e : Int) := by rw [Int.tmod_eq_emod_of_nonneg (by omega)]; omega
          have w3 : IntKind.i64.wrap ((r : Int) + (d : Int)) = (p : Int) := by rw [IntWalk.i64_in _ (by omega)]; omega
          have w4 : IntKind.i64.wrap ((r : Int) + (e : Int)) = (q : Int) := by rw [IntWalk.i64_in _ (by omega)]; omega
          clear hc hr hd he hp hq hk0 hk1
          generalize M.gl b p ^^^ 18446744073709551615 = n1 at *
          generalize n1 &&& M.gl b q = n2 at *
          go_wp2_with fail
          go_still_tail 22, mixed
          change wpList _ _ _ _ _ wr.drew
          go_wp2_with fail
          go_roundw
          case rel =>
            rw [HC.out]
            refine ⟨k + 1, by omega, by go_num, ?_, ?_, ?_, ?_⟩
            · rw [← upto_succ _ _ hlt]; exact (hA.set_ _ _).drew
            · exact (hR.far (by simp) _).drew
            · exact (hB.far (by simp; omega) _).drew
            · exact (hW.setCell (by simp) _).drew
          case measure => simp [intOf]; omega
        · obtain rfl : k = 25 := by omega
          rw [chi_all] at hA
          clear hlt hk
          have LC := Lib.hid (M.chi_lanes LB.out)
          have HS := Lib.hid (iota_set (M.chi_lanes LB.out).1 (M.gl M.rcs i))
          generalize M.chiL b = c at *
          have ca := hA.cell (i := 0) (by rw [LC.out.1]; omega)
          have fa := hA.frozen 0
          have x0 := bits_xor_u64_nat _ _ (LC.out.2 0) (rc_lt i)
          rw [show ((25 : Nat) : Int) = 25 from rfl]
          go_wp2_with fail
          go_still_tail 6, mixed
          still_call ((rnum i _ HI.out).mono (fun _ _ h => ⟨h.1, h.2.symm⟩))
          repeat still_step
          refine wpStill_nil ?_
          change wpList _ _ _ _ _ wr.drew
          go_wp2_with fail
          go_roundw
          case rel =>
            refine ⟨i + 1, by omega, by go_num, ?_, ?_, ?_⟩
            · rw [HN.out, HB.out, ← HS.out]; exact (hA.set_ _ _).drew
            · exact (hR.far (by simp) _).drew
            · exact (hW.setCell (by simp) _).drew
          case measure => simp [intOf]; omega
    · obtain rfl : i = 24 := by omega
      rw [permP_all] at hA
      have L25 := (M.perm_lanes HA.out).1
      go_wp2_with (first | (refine wpList_load_st rfl _ _ rfl _ rfl _ _ 25 23 hA Tryz.array25 Tryz.size25 L25 ?_) | (refine wpList_store_st rfl _ _ _ rfl _ _ rfl rfl _ _ 25 hR Tryz.size25 L25 z25_length ?_))
      exact bodyPost_ret (v := st (M.permL a)) (res_row rfl _ _ _ _ _ rfl (hR.row _) L25) rfl ⟨rfl, below_setRow hW (by omega) _⟩
end Go.Proofs.YtaajkbclojmbeaaGreatDoor
namespace Go.Proofs.YtaajkbclojmbeaaGreatDoor
open Go Go.RowKit Go.Shelf
attribute [local go_sem] Oper.semAt_some

set_option maxRecDepth 100000 in
set_option maxHeartbeats 4000000 in
theorem rows_in (a : List Nat) (w : World) (ha : M.Lanes a) :
    CallsIn Fence.wide 4 Tryz.prog 64 #[st a] w fun e w' => e = .returned (st (M.chiL a)) ∧ Below w.heap.size w w' := by
  have HA := Lib.hid ha
  have HL := Lib.hid ha.1
  clear ha
  have hro : Fence.wide.round = none := rfl
  refine callsIn_of_wp_marks Tryz.func64 rfl trivial ?_ hro
  simp only [Tryz.ntmps64, List.size_toArray, List.length_cons, List.length_nil, Nat.reduceAdd, Nat.reduceSub, Array.replicate_succ, Array.replicate_zero, List.push_toArray, List.append_toArray, List.nil_append, List.cons_append]
  gi_wp2_with (first | (refine wpListIn_load_st rfl _ _ rfl _ rfl _ _ 25 23 (((Rw.new w 54 a).alloc _).alloc _) Tryz.array25 Tryz.size25 HL.out ?_) | (refine ⟨trivial, ?_⟩; refine (lane_in _ _ _).mono ?_; rintro e w' ⟨rfl, rfl⟩))
  rw [lv_zero]
  have mixed : Tryz.prog.follows .mixedOrders = true := by kernel_rfl
  obtain ⟨h, hh⟩ : ∃ h, h = w.heap.size := ⟨_, rfl⟩
  obtain ⟨W0, hW0⟩ : ∃ W0, ((((w.alloc (Obj.cells (lv a) 54)).alloc (Obj.cells (lv z25) 54)).alloc (Obj.cells (lv z25) 54)).alloc (Obj.cells (lv a) 54)) = W0 := ⟨_, rfl⟩
  have hA : Rw W0 (h + 1 + 1 + 1) 54 a := by rw [← hW0, hh]; exact Rw.at_ _ _ _ (by simp)
  have hO : Rw W0 (h + 1 + 1) 54 z25 := by rw [← hW0, hh]; exact (Rw.at_ _ _ _ (by simp)).alloc _
  have hR : Rw W0 (h + 1) 54 z25 := by rw [← hW0, hh]; exact ((Rw.at_ _ _ _ (by simp)).alloc _).alloc _
  have hP0 : Rw W0 h 54 a := by rw [← hW0, hh]; exact (((Rw.at_ _ _ _ (by simp)).alloc _).alloc _).alloc _
  have hW : Below w.heap.size w W0 := by rw [← hW0]; (repeat (first | exact Below.refl _ _ | refine Below.drew ?_ | refine Below.alloc ?_ (by first | omega | (simp; omega) | simp) _ | refine Below.setCell ?_ (by first | omega | (simp; omega) | simp) _))
  have hsz : W0.heap.size = h + 4 := by rw [← hW0, hh]; simp
  rw [hW0, ← hh]
  have HH := Lib.hid hh
  clear hW0 hh
  refine range_lanes (b := h + 1 + 1 + 1) HL.out rfl rfl
    (fun i W => Rw W (h + 1 + 1 + 1) 54 a ∧ Rw W (h + 1 + 1) 54 (upto (chiF a) z25 i) ∧ Rw W (h + 1) 54 z25 ∧ Below w.heap.size w W ∧ Rw W h 54 a ∧ W0.heap.size ≤ W.heap.size)
    ?own ?get ⟨hA, by rw [upto_zero _ z25_length]; exact hO, hR, hW, hP0, Nat.le_refl _⟩ (fun B i t => (((t.setIfInBounds 8 (.agg (plc i))).setIfInBounds 9 (.int .u64 ((M.gl a i : Nat) : Int))).setIfInBounds 4 (.pointer (some ⟨B, 0, none⟩))).setIfInBounds 5 (.int .u64 ((M.gl a i : Nat) : Int))) ?assign ?body ?done
  case own =>
    exact ((rw_own _ _ (fun _ => a)).from _).and (((rw_own _ _ (fun i => upto (chiF a) z25 i)).from _).and (((rw_own _ _ (fun _ => z25)).from _).and ((ownFrom_below (Nat.le_refl _) hW.size).and (((rw_own _ _ (fun _ => a)).from _).and (fun _ _ _ _ hs hg _ => Nat.le_trans hs hg.size)))))
  case get =>
    exact fun i W hi => ⟨hi.1, hi.2.2.2.2.2⟩
  case assign =>
    intro l i W K hi hK
    clear hA hO hR hW hP0 hsz
    simp only [List.setIfInBounds_toArray, List.set_cons_zero, List.set_cons_succ] at hK
    gi_wp2
    exact hK
  case body =>
    intro l i B W hi hI hP hB
    obtain ⟨iA, iO, iR, iW, iP, i0⟩ := hI
    have cx := hP.x
    have cy := hP.y
    have hlP := hP.lt
    clear hA hO hR hW hP0 hsz
    obtain ⟨cb, hcb⟩ : ∃ v, W.cell? ⟨h + 1 + 1, i, none⟩ = some v := ⟨_, iO.cell (by rw [upto_length]; exact hi)⟩
    have fb := iO.frozen i
    have hx : px i < 5 := Nat.mod_lt _ (by omega)
    have hy : py i < 5 := by unfold py; omega
    have hp1 : px i % 5 + 5 * (py i % 5) = i := by unfold px py; omega
    have e1 : i - i % 5 + (i % 5 + 1) % 5 = (px i + 1) % 5 + 5 * (py i % 5) := by unfold px py; omega
    have e2 : i - i % 5 + (i % 5 + 2) % 5 = (px i + 2) % 5 + 5 * (py i % 5) := by unfold px py; omega
    have hu := upto_succ (chiF a) z25 hi
    have L0 := HA.out.2 i
    have L1 := HA.out.2 (i - i % 5 + (i % 5 + 1) % 5)
    have L2 := HA.out.2 (i - i % 5 + (i % 5 + 2) % 5)
    have HC : Hid (M.gl a i ^^^ ((M.gl a (i - i % 5 + (i % 5 + 1) % 5) ^^^ 18446744073709551615) &&& M.gl a (i - i % 5 + (i % 5 + 2) % 5)) = chiF a i) := rfl
    obtain ⟨p, hp⟩ : ∃ p, p = i - i % 5 + (i % 5 + 1) % 5 := ⟨_, rfl⟩
    obtain ⟨q, hq⟩ : ∃ q, q = i - i % 5 + (i % 5 + 2) % 5 := ⟨_, rfl⟩
    rw [← hp] at e1 L1 HC
    rw [← hq] at e2 L2 HC
    have tp0 : (p : Int) < 25 := by omega
    have tq0 : (q : Int) < 25 := by omega
    have c1 := iP.cell (i := p) (by rw [HL.out]; omega)
    have c2 := iP.cell (i := q) (by rw [HL.out]; omega)
    have hsg : IntKind.u64.signed = false := rfl
    have hmx : IntKind.u64.max = 18446744073709551615 := rfl
    have x0 := bits_xor_u64_nat 18446744073709551615 (M.gl a p) (by omega) L1
    rw [Nat.xor_comm] at x0
    have x1 := bits_and_u64_nat _ _ (M.xor_lt64 L1 (show 18446744073709551615 < 18446744073709551616 by omega)) L2
    have x2 := bits_xor_u64_nat _ _ L0 (M.and_lt64 (a := M.gl a p ^^^ 18446744073709551615) L2)
    rw [show (((18446744073709551615 : Nat)) : Int) = 18446744073709551615 from rfl] at x0
    generalize px i = X at *
    generalize py i = Y at *
    obtain ⟨X1, hX1⟩ : ∃ q, q = X + 1 := ⟨_, rfl⟩
    obtain ⟨X2, hX2⟩ : ∃ q, q = X + 2 := ⟨_, rfl⟩
    have w1 : IntKind.i64.wrap ((X : Int) + 1) = (X1 : Int) := by rw [IntWalk.i64_in _ (by omega)]; omega
    have w2 : IntKind.i64.wrap ((X : Int) + 2) = (X2 : Int) := by rw [IntWalk.i64_in _ (by omega)]; omega
    have a1 := fun W => at_any X Y i W (by omega) (by omega) hp1
    have a2 := fun W => at_any X1 Y p W (by omega) (by omega) (by rw [hX1, e1])
    have a3 := fun W => at_any X2 Y q W (by omega) (by omega) (by rw [hX2, e2])
    have hii : (i : Int) < 25 := by omega
    have HS := Lib.hid hu
    have HL0 := Lib.hid L0
    have HL1 := Lib.hid L1
    have HL2 := Lib.hid L2
    clear hx hy hp1 hX1 hX2 hp hq e1 e2 hu L0 L1 L2
    generalize M.gl a p ^^^ 18446744073709551615 = n1 at *
    generalize n1 &&& M.gl a q = n2 at *
    simp only [List.setIfInBounds_toArray, List.set_cons_zero, List.set_cons_succ]
    gi_wp2
    refine round_still_tailq 26 mixed (by kernel_rfl) (by kernel_rfl) ?_
    simp only [List.take_succ_cons, List.take_zero, List.drop_succ_cons, List.drop_zero]
    repeat still_step
    still_call ((a1 _).mono (fun _ _ h => ⟨h.1, h.2.symm⟩))
    repeat still_step
    still_call ((a2 _).mono (fun _ _ h => ⟨h.1, h.2.symm⟩))
    repeat still_step
    still_call ((a3 _).mono (fun _ _ h => ⟨h.1, h.2.symm⟩))
    repeat still_step
    refine wpStill_nil ?_
    change wpList _ _ _ _ _ W.drew
    go_wp2_with fail
    refine ⟨rfl, (KeepsOthers.setCell _ _ _).trans (KeepsOthers.drew _), (iA.far (by simp) _).drew, ?_, (iR.far (by simp) _).drew, (iW.setCell (by have := HH.out; simp; omega) _).drew, (iP.far (by simp; omega) _).drew, ?_⟩
    · rw [HC.out, ← HS.out]; exact (iO.set_ _ _).drew
    · simpa using i0
  case done =>
    intro D W hD hI hK
    obtain ⟨iA, iO, iR, iW, iP, i0⟩ := hI
    clear hA hO hR hW hP0
    rw [chi_all] at iO
    have hDR : D ≠ h + 1 := by omega
    gi_wp2_with (first | (refine wpListIn_load_st rfl _ _ rfl _ rfl _ _ 25 23 iO Tryz.array25 Tryz.size25 (M.of_length _) ?_) | (refine wpListIn_store_st rfl _ _ _ rfl _ _ rfl rfl _ _ 25 iR Tryz.size25 (M.of_length _) z25_length ?_))
    have hK2 : (W.setRow (h + 1) (lv (M.chiL a))).heap[D]? = some (.deferred (some [])) := (setRow_other W _ D _ hDR).trans hK
    have hh := HH.out
    refine ⟨by simp, .inl ⟨_, _, rfl, run_takeDeferred hK2, ?_⟩⟩
    exact ⟨st (M.chiL a), res_row rfl _ _ _ _ _ rfl ((iR.row _).put (by omega) _) (M.of_length _), rfl, (below_setRow iW (by omega) _).trans (belowK_b (w := w) (Nat.le_refl _) _ D _ _ (by omega) hK2 rfl rfl)⟩
end Go.Proofs.YtaajkbclojmbeaaGreatDoor
namespace Go.Proofs.YtaajkbclojmbeaaGreatDoor
open Go Go.RowKit Go.Shelf
attribute [local go_sem] Oper.semAt_some

theorem obj_own {β : Type} (D B : Nat) (o : Obj) (h : D < B) : OwnFrom B (fun (_ : β) W => W.heap[D]? = some o) := fun s X Y row hs hg hrow =>
  (hg.block D (Array.getElem?_eq_some_iff.1 hs).1 (fun e => by have := (hrow D e.symm).1; omega)).trans hs
theorem size_own {β : Type} (B n : Nat) : OwnFrom B (fun (_ : β) W => n ≤ W.heap.size) := fun _ _ _ _ hs hg _ => Nat.le_trans hs hg.size
theorem obj_far {W : World} {D : Nat} {o : Obj} (h : W.heap[D]? = some o) {p : Addr} (hp : D ≠ p.block) (u : Value) : (W.setCell p u).heap[D]? = some o := (Below.heap_setCell W p u D hp).trans h

set_option maxRecDepth 100000 in
set_option maxHeartbeats 8000000 in
theorem cols_in (a : List Nat) (w : World) (ha : M.Lanes a) :
    CallsIn Fence.wide 4 Tryz.prog 66 #[st a] w fun e w' => e = .returned (st (M.mixL a)) ∧ Below w.heap.size w w' := by
  have HA := Lib.hid ha
  have HL := Lib.hid ha.1
  clear ha
  have mixed : Tryz.prog.follows .mixedOrders = true := by kernel_rfl
  have hro : Fence.wide.round = none := rfl
  refine callsIn_of_wp_marks Tryz.func66 rfl trivial ?_ hro
  simp only [Tryz.ntmps66, List.size_toArray, List.length_cons, List.length_nil, Nat.reduceAdd, Nat.reduceSub, Array.replicate_succ, Array.replicate_zero, List.push_toArray, List.append_toArray, List.nil_append, List.cons_append]
  gi_wp2_with (first | (refine wpListIn_load_st rfl _ _ rfl _ rfl _ _ 25 23 (((Rw.new w 54 a).alloc _).alloc _) Tryz.array25 Tryz.size25 HL.out ?_) | (refine ⟨trivial, ?_⟩; refine (lane_in _ _ _).mono ?_; rintro e w' ⟨rfl, rfl⟩))
  rw [lv_zero, lv_zero5]
  obtain ⟨h, hh⟩ : ∃ h, h = w.heap.size := ⟨_, rfl⟩
  obtain ⟨W0, hW0⟩ : ∃ W0, ((((w.alloc (Obj.cells (lv a) 54)).alloc (Obj.cells (lv z25) 54)).alloc (Obj.cells (lv z5) 119)).alloc (Obj.cells (lv a) 54)) = W0 := ⟨_, rfl⟩
  have hA : Rw W0 (h + 1 + 1 + 1) 54 a := by rw [← hW0, hh]; exact Rw.at_ _ _ _ (by simp)
  have hC : Rw W0 (h + 1 + 1) 119 z5 := by rw [← hW0, hh]; exact (Rw.at_ _ _ _ (by simp)).alloc _
  have hR : Rw W0 (h + 1) 54 z25 := by rw [← hW0, hh]; exact ((Rw.at_ _ _ _ (by simp)).alloc _).alloc _
  have hP0 : Rw W0 h 54 a := by rw [← hW0, hh]; exact (((Rw.at_ _ _ _ (by simp)).alloc _).alloc _).alloc _
  have hW : Below w.heap.size w W0 := by rw [← hW0]; (repeat (first | exact Below.refl _ _ | refine Below.drew ?_ | refine Below.alloc ?_ (by first | omega | (simp; omega) | simp) _ | refine Below.setCell ?_ (by first | omega | (simp; omega) | simp) _))
  have hsz : W0.heap.size = h + 4 := by rw [← hW0, hh]; simp
  rw [hW0, ← hh]
  have HH := Lib.hid hh
  clear hW0 hh
  refine range_lanes (b := h + 1 + 1 + 1) HL.out rfl rfl
    (fun i W => Rw W (h + 1 + 1 + 1) 54 a ∧ Rw W (h + 1 + 1) 119 (colP a i) ∧ Rw W (h + 1) 54 z25 ∧ Below w.heap.size w W ∧ Rw W h 54 a ∧ W0.heap.size ≤ W.heap.size)
    ?own ?get ⟨hA, hC, hR, hW, hP0, Nat.le_refl _⟩ (fun B i t => (((t.setIfInBounds 13 (.agg (plc i))).setIfInBounds 14 (.int .u64 ((M.gl a i : Nat) : Int))).setIfInBounds 4 (.pointer (some ⟨B, 0, none⟩))).setIfInBounds 5 (.int .u64 ((M.gl a i : Nat) : Int))) ?assign ?body ?done
  case own =>
    exact ((rw_own _ _ (fun _ => a)).from _).and (((rw_own _ _ (fun i => colP a i)).from _).and (((rw_own _ _ (fun _ => z25)).from _).and ((ownFrom_below (Nat.le_refl _) hW.size).and (((rw_own _ _ (fun _ => a)).from _).and (size_own _ _)))))
  case get =>
    exact fun i W hi => ⟨hi.1, hi.2.2.2.2.2⟩
  case assign =>
    intro l i W K hi hK
    clear hA hC hR hW hP0 hsz
    simp only [List.setIfInBounds_toArray, List.set_cons_zero, List.set_cons_succ] at hK
    gi_wp2
    exact hK
  case body =>
    intro l i B W hi hI hP hB
    obtain ⟨iA, iC, iR, iW, iP, i0⟩ := hI
    have cx := hP.x
    have hlP := hP.lt
    clear hA hC hR hW hP0 hsz
    have hx : px i < 5 := Nat.mod_lt _ (by omega)
    have cc := iC.cell (i := px i) (by rw [colP_length]; exact hx)
    have fc := iC.frozen (px i)
    have x1 := bits_xor_u64_nat _ _ (colP_lt HA.out i (px i)) (HA.out.2 i)
    have HS : Hid (colP a (i + 1) = (colP a i).set (px i) (M.gl (colP a i) (px i) ^^^ M.gl a i)) := colP_succ a i
    generalize px i = X at *
    have hX : (X : Int) < 5 := by omega
    simp only [List.setIfInBounds_toArray, List.set_cons_zero, List.set_cons_succ]
    gi_wp2
    have h2 := HH.out
    refine ⟨KeepsOthers.setCell _ _ _, iA.far (by simp) _, ?_, iR.far (by simp) _, iW.setCell (by simp; omega) _, iP.far (by simp; omega) _⟩
    rw [HS.out]; exact iC.set_ _ _
  case done =>
    intro D W hD hI hK
    obtain ⟨iA, iC, iR, iW, iP, i0⟩ := hI
    clear hA hC hR hW hP0
    gi_wp2_with (first | (refine wpListIn_load_st rfl _ _ rfl _ rfl _ _ 25 23 (iP.alloc _) Tryz.array25 Tryz.size25 HL.out ?_) | (refine ⟨trivial, ?_⟩; refine (lane_in _ _ _).mono ?_; rintro e w' ⟨rfl, rfl⟩))
    rw [lv_zero]
    obtain ⟨O, hO⟩ : ∃ O, O = W.heap.size := ⟨_, rfl⟩
    obtain ⟨W1, hW1⟩ : ∃ W1, (W.alloc (Obj.cells (lv z25) 54)).alloc (Obj.cells (lv a) 54) = W1 := ⟨_, rfl⟩
    have jA : Rw W1 (O + 1) 54 a := by rw [← hW1, hO]; exact Rw.at_ _ _ _ (by simp)
    have jO : Rw W1 O 54 z25 := by rw [← hW1, hO]; exact (Rw.at_ _ _ _ rfl).alloc _
    have jC : Rw W1 (h + 1 + 1) 119 (colP a 25) := by rw [← hW1]; exact (iC.alloc _).alloc _
    have jR : Rw W1 (h + 1) 54 z25 := by rw [← hW1]; exact (iR.alloc _).alloc _
    have jW : Below w.heap.size w W1 := by rw [← hW1]; exact (iW.alloc iW.size _).alloc (by have := iW.size; simp; omega) _
    have jD : W1.heap[D]? = some (.deferred (some [])) := by
      have hDl := (Array.getElem?_eq_some_iff.1 hK).1
      rw [← hW1]; exact (Below.heap_alloc _ _ _ (by simp; omega)).trans ((Below.heap_alloc _ _ _ hDl).trans hK)
    have jDl : D < O := by have := (Array.getElem?_eq_some_iff.1 hK).1; omega
    have jsz : W1.heap.size = O + 2 := by rw [← hW1, hO]; simp
    have hhO : h + 4 ≤ O := by omega
    rw [hW1, ← hO]
    clear hW1 hO iA iC iR iW iP i0 hK
    refine range_lanes (b := O + 1) HL.out rfl rfl
      (fun i W => Rw W (O + 1) 54 a ∧ Rw W O 54 (upto (mixF a) z25 i) ∧ Rw W (h + 1 + 1) 119 (colP a 25) ∧ Rw W (h + 1) 54 z25 ∧ Below w.heap.size w W ∧ W.heap[D]? = some (.deferred (some [])) ∧ W1.heap.size ≤ W.heap.size)
      ?own2 ?get2 ⟨jA, by rw [upto_zero _ z25_length]; exact jO, jC, jR, jW, jD, Nat.le_refl _⟩ (fun B i t => (((t.setIfInBounds 24 (.agg (plc i))).setIfInBounds 25 (.int .u64 ((M.gl a i : Nat) : Int))).setIfInBounds 7 (.pointer (some ⟨B, 0, none⟩))).setIfInBounds 8 (.int .u64 ((M.gl a i : Nat) : Int))) ?assign2 ?body2 ?done2
    case own2 =>
      exact ((rw_own _ _ (fun _ => a)).from _).and (((rw_own _ _ (fun i => upto (mixF a) z25 i)).from _).and (((rw_own _ _ (fun _ => colP a 25)).from _).and (((rw_own _ _ (fun _ => z25)).from _).and ((ownFrom_below (Nat.le_refl _) jW.size).and ((obj_own D _ _ (by omega)).and (size_own _ _))))))
    case get2 =>
      exact fun i W hi => ⟨hi.1, hi.2.2.2.2.2.2⟩
    case assign2 =>
      intro l i W K hi hK
      clear jA jO jC jR jW jD jDl jsz
      simp only [List.setIfInBounds_toArray, List.set_cons_zero, List.set_cons_succ] at hK
      gi_wp2
      exact hK
    case body2 =>
      intro l i B W hi hI hP hB
      obtain ⟨iA, iO, iC, iR, iW, iD, i0⟩ := hI
      have cx := hP.x
      have cy := hP.y
      have hlP := hP.lt
      have HJD := Lib.hid jDl
      clear jA jO jC jR jW jD jDl jsz
      have hx : px i < 5 := Nat.mod_lt _ (by omega)
      have hy : py i < 5 := by unfold py; omega
      have hp1 : px i % 5 + 5 * (py i % 5) = i := by unfold px py; omega
      have HX : px i = i % 5 := rfl
      obtain ⟨cb, hcb⟩ : ∃ v, W.cell? ⟨O, i, none⟩ = some v := ⟨_, iO.cell (by rw [upto_length]; exact hi)⟩
      have fb := iO.frozen i
      have hu := upto_succ (mixF a) z25 hi
      obtain ⟨d, hd⟩ : ∃ d, d = (i % 5 + 4) % 5 := ⟨_, rfl⟩
      obtain ⟨e, he⟩ : ∃ e, e = (i % 5 + 1) % 5 := ⟨_, rfl⟩
      have cd := iC.cell (i := d) (by rw [colP_length]; omega)
      have ce := iC.cell (i := e) (by rw [colP_length]; omega)
      rw [colP_all _ (by omega)] at cd ce
      have x1 := bits_xor_u64_nat _ _ (HA.out.2 i) (M.col_lt HA.out d)
      have x2 := bits_xor_u64_nat _ _ (M.xor_lt64 (HA.out.2 i) (M.col_lt HA.out d)) (M.rot_lt (M.col a e) 1)
      have HC : Hid (M.gl a i ^^^ M.col a d ^^^ M.rotN (M.col a e) 1 = mixF a i) := by
        show _ = mixF a i
        unfold mixF
        rw [hd, he]
      rw [← HX] at hd he
      generalize px i = X at *
      generalize py i = Y at *
      obtain ⟨X5, hX5⟩ : ∃ q, q = X + 5 := ⟨_, rfl⟩
      obtain ⟨X4, hX4⟩ : ∃ q, q = X + 4 := ⟨_, rfl⟩
      obtain ⟨X1, hX1⟩ : ∃ q, q = X + 1 := ⟨_, rfl⟩
      have w5 : IntKind.i64.wrap ((X : Int) + 5) = (X5 : Int) := by rw [IntWalk.i64_in _ (by omega)]; omega
      have w4 : IntKind.i64.wrap ((X5 : Int) - 1) = (X4 : Int) := by rw [IntWalk.i64_in _ (by omega)]; omega
      have w1 : IntKind.i64.wrap ((X : Int) + 1) = (X1 : Int) := by rw [IntWalk.i64_in _ (by omega)]; omega
      have m4 : ((X4 : Int)).tmod 5 = (d : Int) := by rw [Int.tmod_eq_emod_of_nonneg (by omega)]; omega
      have m1 : ((X1 : Int)).tmod 5 = (e : Int) := by rw [Int.tmod_eq_emod_of_nonneg (by omega)]; omega
      have hd5 : (d : Int) < 5 := by omega
      have he5 : (e : Int) < 5 := by omega
      have hii : (i : Int) < 25 := by omega
      have a1 := fun W => at_any X Y i W (by omega) (by omega) hp1
      have a2 : ∀ W, Calls Tryz.prog 122 #[.int .u64 ((M.col a e : Nat) : Int), .int .i64 1] W fun e' w' => e' = .returned (.int .u64 ((M.rotN (M.col a e) 1 : Nat) : Int)) ∧ W = w' := fun W => rotl (M.col a e) 1 W (M.col_lt HA.out e) (by omega)
      have HS := Lib.hid hu
      clear hx hy hp1 hX5 hX4 hX1 hd he HX hu
      simp only [List.setIfInBounds_toArray, List.set_cons_zero, List.set_cons_succ]
      gi_wp2
      refine round_stillq mixed (by kernel_rfl) (by kernel_rfl) ?_
      repeat still_step
      refine wpStill_nil ?_
      change Exit.then _ _ _ _ W.drew
      gi_wp2_with (first | (refine ⟨trivial, ?_⟩; (with_reducible refine (CallsIn.inRound l (callsIn_wide.2 (a1 _))).mono ?_); rintro e w' ⟨rfl, rfl⟩) | (refine ⟨trivial, ?_⟩; (with_reducible refine (CallsIn.inRound l (callsIn_wide.2 (a2 _))).mono ?_); rintro e w' ⟨rfl, rfl⟩))
      have h1 := HJD.out
      have h2 := HH.out
      have h3 := iW.size
      rw [HC.out]
      refine ⟨(KeepsOthers.setCell _ _ _).trans (KeepsOthers.drew _), (iA.far (by simp) _).drew, ?_, (iC.far (by simp; omega) _).drew, (iR.far (by simp; omega) _).drew, (iW.setCell (by simp; omega) _).drew, obj_far iD (by simp; omega) _⟩
      rw [← HS.out]; exact (iO.set_ _ _).drew
    case done2 =>
      intro D2 W hD2 hI hK
      obtain ⟨iA, iO, iC, iR, iW, iD, i0⟩ := hI
      clear jA jO jC jR jW jD
      rw [upto_all] at iO
      replace iO : Rw W O 54 (M.mixL a) := iO
      have hDR : D ≠ h + 1 := by omega
      have hDR2 : D2 ≠ h + 1 := by omega
      have hDD : D ≠ D2 := by omega
      have hsD : w.heap.size ≤ D := by have := HH.out; omega
      have hsD2 : w.heap.size ≤ D2 := by have := HH.out; omega
      have hh := HH.out
      have hr1 : h + 1 ≠ D := by omega
      have hr2 : h + 1 ≠ D2 := by omega
      have HH2 := Lib.hid hh
      clear hh hD2 hD jDl jsz i0 hhO hsz
      gi_wp2_with (first | (refine wpListIn_load_st rfl _ _ rfl _ rfl _ _ 25 23 iO Tryz.array25 Tryz.size25 (M.of_length _) ?_) | (refine wpListIn_store_st rfl _ _ _ rfl _ _ rfl rfl _ _ 25 iR Tryz.size25 (M.of_length _) z25_length ?_))
      have hK2 : (W.setRow (h + 1) (lv (M.mixL a))).heap[D2]? = some (.deferred (some [])) := (setRow_other W _ D2 _ hDR2).trans hK
      have hK1 : ((W.setRow (h + 1) (lv (M.mixL a))).putObj D2 (.deferred none)).heap[D]? = some (.deferred (some [])) := (World.putObj_heap_other hDD).trans ((setRow_other W _ D _ hDR).trans iD)
      refine ⟨by simp, .inl ⟨_, _, rfl, run_takeDeferred hK2, by simp, .inl ⟨_, _, rfl, run_takeDeferred hK1, ?_⟩⟩⟩
      exact ⟨st (M.mixL a), res_row rfl _ _ _ _ _ rfl (((iR.row _).put hr2 _).put hr1 _) (M.of_length _), rfl, ((below_setRow iW (by have := HH2.out; omega) _).trans (belowK_b (w := w) (Nat.le_refl _) _ D2 _ _ hsD2 hK2 rfl rfl)).trans (belowK_b (w := w) (Nat.le_refl _) _ D _ _ hsD hK1 rfl rfl)⟩
end Go.Proofs.YtaajkbclojmbeaaGreatDoor
namespace Go.Proofs.YtaajkbclojmbeaaGreatDoor
open Go Go.RowKit

set_option maxRecDepth 100000 in
set_option maxHeartbeats 8000000 in
theorem kperm (a : List Nat) (w : World) (ha : M.Lanes a) (hT : Tab w) :
    Calls Tryz.prog 30 #[st a] w fun e w' => e = .returned (st (M.permL a)) ∧ Below w.heap.size w w' := by
  have HA := Lib.hid ha
  have HT := Lib.hid hT
  clear ha hT
  have mixed : Tryz.prog.follows .mixedOrders = true := by kernel_rfl
  go_enter Tryz.func30, Tryz.ntmps30
  go_wp2_with fail
  go_loopw [4] (fun i wr => ∃ k : Nat, k ≤ 24 ∧ i = .int .i64 (k : Int) ∧ Rw wr w.heap.size 54 (permP a k) ∧ Rw wr (w.heap.size + 1) 54 z25 ∧ Below w.heap.size w wr)
    (fun i _ => 24 - (intOf i).toNat)
  case atStart =>
    rw [lv_zero]
    refine ⟨0, by omega, rfl, (Rw.new _ _ _).alloc _, Rw.at_ _ _ _ (by simp), ?_⟩
    (repeat (first | exact Below.refl _ _ | refine Below.drew ?_ | refine Below.alloc ?_ (by first | omega | (simp; omega) | simp) _ | refine Below.setCell ?_ (by first | omega | (simp; omega) | simp) _))
  case round =>
    obtain ⟨i, hk, rfl, hA, hR, hW⟩ := hrel
    have HL := permP_lanes HA.out i hk
    by_cases hlt : i < 24
    · have L := Lib.hid HL
      have Ls := Lib.hid HL.1
      have HN := Lib.hid (permP_succ a hlt)
      have HI := Lib.hid hlt
      have hlt' : (i : Int) < 24 := by omega
      generalize permP a i = s at *
      clear HL
      go_wp2_with (first | (refine wpList_load_st rfl _ _ rfl _ rfl _ _ 25 23 hA Tryz.array25 Tryz.size25 Ls.out ?_))
      refine (callsIn_wide.1 (cols_in s _ L.out)).mono ?_
      rintro e w1 ⟨rfl, hb1⟩
      go_wp2_with fail
      have hT1 := HT.out.from (hW.trans (hb1.mono hW.size))
      refine (callsIn_wide.1 (move_in _ _ (M.mix_lanes L.out) hT1)).mono ?_
      rintro e w2 ⟨rfl, hb2⟩
      clear hT1
      go_wp2_with fail
      refine (callsIn_wide.1 (rows_in _ _ (M.move_lanes (M.turn_lanes _)))).mono ?_
      rintro e w3 ⟨rfl, hb3⟩
      replace hA := ((hA.keep hb1).keep hb2).keep hb3
      replace hR := ((hR.keep hb1).keep hb2).keep hb3
      replace hW := ((hW.trans (hb1.mono hW.size)).trans (hb2.mono (Nat.le_trans hW.size hb1.size))).trans (hb3.mono (Nat.le_trans (Nat.le_trans hW.size hb1.size) hb2.size))
      clear hb1 hb2 hb3
      have LC := Lib.hid (M.chi_lanes (M.move_lanes (M.turn_lanes (M.mixL s))))
      have HB : Hid (M.rndL (M.gl M.rcs i) s = M.iotaL (M.gl M.rcs i) (M.chiL (M.moveL (M.turnL (M.mixL s))))) := rfl
      have HS := Lib.hid (iota_set (M.chi_lanes (M.move_lanes (M.turn_lanes (M.mixL s)))).1 (M.gl M.rcs i))
      generalize M.chiL (M.moveL (M.turnL (M.mixL s))) = c at *
      go_wp2_with (refine wpList_store_st rfl _ _ _ rfl _ _ rfl rfl _ _ 25 hA Tryz.size25 LC.out.1 Ls.out ?_)
      have hT2 := HT.out.from hW
      replace hA := hA.row c
      replace hR := hR.rowFar (show w.heap.size + 1 ≠ w.heap.size by omega) (lv c)
      replace hW := below_setRow hW (Nat.le_refl w.heap.size) (lv c)
      have hT3 := HT.out.from hW
      have cn := hT3.rc i HI.out
      clear hT2 hT3
      generalize w3.setRow w.heap.size (lv c) = w4 at *
      have ca := hA.cell (i := 0) (by rw [LC.out.1]; omega)
      have fa := hA.frozen 0
      have x0 := bits_xor_u64_nat _ _ (LC.out.2 0) (rc_lt i)
      go_wp2_with fail
      simp only [Act.put]
      go_still_tail 7, mixed
      change wpList _ _ _ _ _ w4.drew
      go_wp2_with fail
      go_roundw
      case rel =>
        refine ⟨i + 1, by omega, by go_num, ?_, ?_, ?_⟩
        · rw [HN.out, HB.out, ← HS.out]; exact (hA.set_ _ _).drew
        · exact (hR.far (by simp) _).drew
        · exact (hW.setCell (by simp) _).drew
      case measure => simp [intOf]; omega
    · obtain rfl : i = 24 := by omega
      rw [permP_all] at hA
      have L25 := (M.perm_lanes HA.out).1
      go_wp2_with (first | (refine wpList_load_st rfl _ _ rfl _ rfl _ _ 25 23 hA Tryz.array25 Tryz.size25 L25 ?_) | (refine wpList_store_st rfl _ _ _ rfl _ _ rfl rfl _ _ 25 hR Tryz.size25 L25 z25_length ?_))
      exact bodyPost_ret (v := st (M.permL a)) (res_row rfl _ _ _ _ _ rfl (hR.row _) L25) rfl ⟨rfl, below_setRow hW (by omega) _⟩
end Go.Proofs.YtaajkbclojmbeaaGreatDoor
namespace Go.Proofs.YtaajkbclojmbeaaGreatDoor
open Go Go.RowKit

theorem Tryz.infoByteq : (Tryz.prog.info? 5).map (fun i => (i.zero, i.size, i.bytes)) = some (some (.int .u8 0), 1, 1) := by kernel_rfl

/-- Bytes as cells. -/
def bv (l : List UInt8) : Array Value := (l.map fun (c : UInt8) => Value.int .u8 (c.toNat : Int)).toArray
theorem bv_get {l : List UInt8} {i : Nat} (h : i < l.length) : (bv l)[i]? = some (.int .u8 (((l.getD i 0).toNat : Nat) : Int)) := by
  simp [bv, h]
theorem bv_set (l : List UInt8) (i : Nat) (c : UInt8) : (bv l).setIfInBounds i (.int .u8 (c.toNat : Int)) = bv (l.set i c) := by
  simp [bv, List.map_set]
/-- A block that is just these bytes. -/
def Br (W : World) (b : Nat) (l : List UInt8) : Prop := W.heap[b]? = some (.cells (bv l) 5 (0, 0))
section
variable {W W' : World} {b : Nat} {l : List UInt8}
theorem Br.lt (h : Br W b l) : b < W.heap.size := (Array.getElem?_eq_some_iff.1 h).1
theorem Br.cell (h : Br W b l) {i : Nat} (hi : i < l.length) : W.cell? ⟨b, i, none⟩ = some (.int .u8 (((l.getD i 0).toNat : Nat) : Int)) := (cell_of_row W b i _ _ (0, 0) h).trans (bv_get hi)
theorem Br.frozen (h : Br W b l) (i : Nat) : W.frozen? ⟨b, i, none⟩ = false := frozen_of_row W b i _ _ h
theorem Br.at_ (W : World) (l : List UInt8) {k : Nat} (h : W.heap.size = k) : Br (W.alloc (.cells (bv l) 5)) k l := h ▸ heap_alloc_new W _
theorem Br.alloc (h : Br W b l) (o : Obj) : Br (W.alloc o) b l := (Below.heap_alloc W o b h.lt).trans h
theorem Br.drew (h : Br W b l) : Br W.drew b l := h
theorem Br.set_ (h : Br W b l) (i : Nat) (c : UInt8) : Br (W.setCell ⟨b, i, none⟩ (.int .u8 (c.toNat : Int))) b (l.set i c) := by
  have := heap_setCell_same W b i _ 5 (.int .u8 (c.toNat : Int)) h
  rw [bv_set] at this
  exact this
theorem Br.far (h : Br W b l) {p : Addr} (hp : b ≠ p.block) (u : Value) : Br (W.setCell p u) b l := (Below.heap_setCell W p u b hp).trans h
theorem Br.below {B : Nat} (h : Br W b l) (hb : Below B W W') (hl : b < B) : Br W' b l := (hb.block b hl).trans h
theorem Br.keep (h : Br W b l) (hb : Below W.heap.size W W') : Br W' b l := h.below hb h.lt
theorem Br.rowFar (h : Br W b l) {g : Nat} (hp : b ≠ g) (c : Array Value) : Br (W.setRow g c) b l := (setRow_other W g b c hp).trans h
theorem Br.conv (h : Br W b l) {n : Nat} (hn : n = l.length) (cap : Nat) : (convert 41 9 (.slice (some ⟨b, 0, none⟩) n cap)).run Tryz.prog W = .ok (.string ⟨l.toArray⟩) W := by
  subst hn
  refine run_convert_bytes_back W 41 9 5 ⟨b, 0, none⟩ cap l Tryz.underlying41 Tryz.underlying5 Tryz.underlying9 ?_
  intro j hj
  have := h.cell hj
  rw [List.getD_eq_getElem?_getD, List.getElem?_eq_getElem hj, Option.getD_some] at this
  by_cases h0 : j = 0
  · subst h0
    simpa [Addr.add] using this
  · simpa [Addr.add, h0] using this
end
/-- Zeros, m of them. -/
def zb (m : Nat) : List UInt8 := List.replicate m 0
theorem zb_length (m : Nat) : (zb m).length = m := by simp [zb]
theorem made_zb (m : Nat) : madeCells #[.int .u8 0] m = bv (zb m) := by
  apply Array.ext_getElem?
  intro i
  rcases Nat.lt_or_ge i m with h | h
  · rw [bv_get (by rw [zb_length]; exact h)]
    simp [madeCells, h, Nat.mod_one, zb]
  · simp [madeCells, bv, zb, h]
theorem make_zb (m : Nat) (hm : m ≤ 1000) (w : World) : (Instr.makeSlice 41 (.int .i64 (m : Int)) (.int .i64 (m : Int))).run Tryz.prog w = .ok (.slice (some ⟨w.heap.size, 0, none⟩) m m) (w.alloc (.cells (bv (zb m)) 5)) := by
  rw [← made_zb]
  exact run_make_row' (P := Tryz.prog) 41 5 (.int .u8 0) 1 Tryz.underlying41 Tryz.infoByteq rfl .i64 .i64 m (by omega) (by omega) w
end Go.Proofs.YtaajkbclojmbeaaGreatDoor
namespace Go.Proofs.YtaajkbclojmbeaaGreatDoor
open Go Go.RowKit

theorem pad_one {n : Nat} (h : 136 - n % 136 = 1) : M.padL n = ((zb 1).set 0 1).set 0 129 := by
  unfold M.padL
  rw [if_pos (by omega)]
  rfl
theorem pad_more {n m : Nat} (hm : m = 136 - n % 136) (h : 1 < m) : M.padL n = ((zb m).set 0 1).set (m - 1) 128 := by
  unfold M.padL
  rw [if_neg (by omega)]
  have e : 134 - n % 136 = m - 2 := by omega
  rw [e]
  obtain ⟨q, rfl⟩ : ∃ q, m = q + 2 := ⟨m - 2, by omega⟩
  apply List.ext_getElem
  · simp [zb]
  · intro i h1 h2
    simp only [zb, List.length_set, List.length_replicate] at h2
    rw [List.getElem_set]
    by_cases hi : q + 2 - 1 = i
    · subst hi
      rw [if_pos rfl]
      simp
    · rw [if_neg hi]
      by_cases h0 : i = 0
      · subst h0
        simp [zb]
      · obtain ⟨j, rfl⟩ : ∃ j, i = j + 1 := ⟨i - 1, by omega⟩
        simp only [List.getElem_cons_succ, zb]
        rw [List.getElem_append_left (by simp; omega)]
        simp

set_option maxRecDepth 100000 in
set_option maxHeartbeats 2000000 in
theorem kpad (n : Nat) (w : World) (h : n ≤ 1099511627776) :
    Calls Tryz.prog 28 #[.int .i64 (n : Int)] w fun e w' => e = .returned (.tuple #[.string ⟨(M.padL n).toArray⟩, .int .i64 0]) ∧ Below w.heap.size w w' := by
  obtain ⟨m, hm⟩ : ∃ m, m = 136 - n % 136 := ⟨_, rfl⟩
  have h1 : 1 ≤ m := by omega
  have h2 : m ≤ 136 := by omega
  have e1 : (136 : Int) - (n : Int) % 136 = (m : Int) := by omega
  have hmk := make_zb m (by omega)
  have HM := Lib.hid hm
  clear hm
  go_enter Tryz.func28, Tryz.ntmps28
  go_upto_region 4 with fail
  clear hmk
  have hB : Br (w.alloc (.cells (bv (zb m)) 5)) w.heap.size (zb m) := Br.at_ _ _ rfl
  have hW : Below w.heap.size w (w.alloc (.cells (bv (zb m)) 5)) := (Below.refl _ _).alloc (Nat.le_refl _) _
  generalize w.alloc (.cells (bv (zb m)) 5) = w1 at *
  have c0 := hB.cell (i := 0) (by rw [zb_length]; omega)
  have f0 := hB.frozen 0
  replace hB : Br (w1.setCell ⟨w.heap.size, 0, none⟩ (.int .u8 1)) w.heap.size ((zb m).set 0 1) := hB.set_ 0 1
  replace hW := hW.setCell (p := ⟨w.heap.size, 0, none⟩) (Nat.le_refl _) (.int .u8 1)
  go_upto_region 5 with fail
  generalize w1.setCell ⟨w.heap.size, 0, none⟩ (.int .u8 1) = w2 at *
  obtain ⟨q, hq⟩ : ∃ q, q = m - 1 := ⟨_, rfl⟩
  have e2 : (m : Int) - 1 = (q : Int) := by omega
  have hqm : (q : Int) < m := by omega
  have c5 := hB.cell (i := q) (by rw [List.length_set, zb_length]; omega)
  have f5 := hB.frozen q
  have HQ := Lib.hid hq
  clear hq
  by_cases hone : m = 1
  · have h0 : ((zb m).set 0 1).getD q 0 = 1 := by
      have := HQ.out
      subst hone
      rw [this]
      rfl
    rw [h0] at c5
    rw [show (((1 : UInt8).toNat : Nat) : Int) = 1 from rfl] at c5
    have HO := Lib.hid hone
    replace hB : Br (w2.setCell ⟨w.heap.size, q, none⟩ (.int .u8 129)) w.heap.size (((zb m).set 0 1).set q 129) := hB.set_ q 129
    replace hW := hW.setCell (p := ⟨w.heap.size, q, none⟩) (Nat.le_refl _) (.int .u8 129)
    have hcv := hB.conv (n := m) (by rw [List.length_set, List.length_set, zb_length]) m
    have e : ((zb m).set 0 1).set q 129 = M.padL n := by
      rw [pad_one (by rw [← HM.out]; exact hone), HQ.out, hone]
    rw [e] at hcv
    clear hone h0 hB
    go_wp2_with fail
    go_ret2
    exact ⟨rfl, hW⟩
  · have h0 : ((zb m).set 0 1).getD q 0 = 0 := by
      rw [List.getD_eq_getElem?_getD, List.getElem?_set]
      have : ¬ 0 = q := by have := HQ.out; omega
      rw [if_neg this]
      unfold zb
      rw [List.getElem?_replicate]
      split <;> rfl
    rw [h0] at c5
    rw [show (((0 : UInt8).toNat : Nat) : Int) = 0 from rfl] at c5
    replace hB : Br (w2.setCell ⟨w.heap.size, q, none⟩ (.int .u8 128)) w.heap.size (((zb m).set 0 1).set q 128) := hB.set_ q 128
    replace hW := hW.setCell (p := ⟨w.heap.size, q, none⟩) (Nat.le_refl _) (.int .u8 128)
    have hcv := hB.conv (n := m) (by rw [List.length_set, List.length_set, zb_length]) m
    have e : ((zb m).set 0 1).set q 128 = M.padL n := by
      rw [pad_more HM.out (by omega), HQ.out]
    rw [e] at hcv
    clear hone h0 hB
    go_wp2_with fail
    go_ret2
    exact ⟨rfl, hW⟩
end Go.Proofs.YtaajkbclojmbeaaGreatDoor
namespace Go.Proofs.YtaajkbclojmbeaaGreatDoor
open Go Go.RowKit

/-- Byte i of a state. -/
def obF (a : List Nat) (i : Nat) : UInt8 := UInt8.ofNat (M.gl a (i / 8) / 256 ^ (i % 8) % 256)
def outP (a : List Nat) (k : Nat) : List UInt8 := (List.range 32).map fun i => if i < k then obF a i else 0
theorem outP_length (a : List Nat) (k : Nat) : (outP a k).length = 32 := by simp [outP]
theorem outP_zero (a : List Nat) : outP a 0 = zb 32 := by kernel_rfl
theorem outP_succ (a : List Nat) (k : Nat) : (outP a k).set k (obF a k) = outP a (k + 1) := by
  apply List.ext_getElem
  · simp [outP]
  · intro i h1 h2
    rw [List.getElem_set]
    simp only [outP, List.getElem_map, List.getElem_range]
    by_cases h : k = i
    · subst h; rw [if_pos rfl, if_pos (by omega)]
    · rw [if_neg h]
      by_cases h3 : i < k
      · rw [if_pos h3, if_pos (by omega)]
      · rw [if_neg h3, if_neg (by omega)]
theorem outP_all (a : List Nat) : outP a 32 = M.outL a := by
  unfold outP M.outL
  apply List.map_congr_left
  intro i hi
  rw [if_pos (by simpa using hi)]
  rfl
theorem obF_nat (a : List Nat) (i : Nat) : (obF a i).toNat = M.gl a (i / 8) / 256 ^ (i % 8) % 256 := by
  unfold obF
  rw [UInt8.toNat_ofNat']
  omega
theorem ob_is (a : List Nat) (k s : Nat) (hs : s = 8 * (k % 8)) : ((M.gl a (k / 8) : Nat) : Int) / 2 ^ s % 256 = (((obF a k).toNat : Nat) : Int) := by
  rw [obF_nat, hs, show (256 : Nat) = 2 ^ 8 from rfl, ← Nat.pow_mul]
  have e : ((M.gl a (k / 8) : Nat) : Int) / 2 ^ (8 * (k % 8)) = ((M.gl a (k / 8) / 2 ^ (8 * (k % 8)) : Nat) : Int) := by simp
  rw [e]
  generalize M.gl a (k / 8) / 2 ^ (8 * (k % 8)) = x
  simp

set_option maxRecDepth 100000 in
set_option maxHeartbeats 2000000 in
theorem kfirst (a : List Nat) (w : World) (ha : M.Lanes a) :
    Calls Tryz.prog 32 #[st a] w fun e w' => e = .returned (.string ⟨(M.outL a).toArray⟩) ∧ Below w.heap.size w w' := by
  have HA := Lib.hid ha
  have HL := Lib.hid ha.1
  clear ha
  have hmk : ∀ w, (Instr.makeSlice 41 (.int .i64 32) (.int .i64 32)).run Tryz.prog w = .ok (.slice (some ⟨w.heap.size, 0, none⟩) 32 32) (w.alloc (.cells (bv (zb 32)) 5)) := make_zb 32 (by omega)
  go_enter Tryz.func32, Tryz.ntmps32
  go_wp2_with fail
  clear hmk
  go_loopw [8] (fun i wr => ∃ k : Nat, k ≤ 32 ∧ i = .int .i64 (k : Int) ∧ Rw wr w.heap.size 54 a ∧ Br wr (w.heap.size + 1) (outP a k) ∧ Below w.heap.size w wr)
    (fun i _ => 32 - (intOf i).toNat)
  case atStart =>
    refine ⟨0, by omega, rfl, (Rw.new _ _ _).alloc _, ?_, ?_⟩
    · rw [outP_zero]; exact Br.at_ _ _ (by simp)
    · (repeat (first | exact Below.refl _ _ | refine Below.drew ?_ | refine Below.alloc ?_ (by first | omega | (simp; omega) | simp) _ | refine Below.setCell ?_ (by first | omega | (simp; omega) | simp) _))
  case round =>
    obtain ⟨k, hk, rfl, hA, hB, hW⟩ := hrel
    by_cases hlt : k < 32
    · obtain ⟨c, hc⟩ : ∃ c, c = k / 8 := ⟨_, rfl⟩
      obtain ⟨d, hd⟩ : ∃ d, d = k % 8 := ⟨_, rfl⟩
      obtain ⟨s, hs⟩ : ∃ s, s = 8 * d := ⟨_, rfl⟩
      have t1 : (k : Int) / 8 = (c : Int) := by omega
      have t2 : (k : Int) % 8 = (d : Int) := by omega
      have t3 : 8 * (d : Int) = (s : Int) := by omega
      have hc5 : (c : Int) < 5 := by omega
      have hs5 : (s : Int) < 64 := by omega
      have hk5 : (k : Int) < 32 := by omega
      have ca := hA.cell (i := c) (by rw [HL.out]; omega)
      have cb := hB.cell (i := k) (by rw [outP_length]; exact hlt)
      have fb := hB.frozen k
      have HO := Lib.hid (ob_is a k s (by omega))
      rw [← hc] at HO
      clear hc hd hs
      go_wp2_with fail
      go_roundw
      case rel =>
        rw [HO.out]
        exact ⟨k + 1, by omega, by go_num, hA.far (by simp) _, by rw [← outP_succ]; exact hB.set_ _ _, hW.setCell (by simp) _⟩
      case measure => simp [intOf]; omega
    · obtain rfl : k = 32 := by omega
      rw [outP_all] at hB
      have hcv := hB.conv (n := 32) rfl 32
      clear hA
      go_wp2_with fail
      go_ret
      exact ⟨rfl, hW⟩
end Go.Proofs.YtaajkbclojmbeaaGreatDoor
namespace Go.Proofs.YtaajkbclojmbeaaGreatDoor
open Go Go.RowKit

theorem absB_set {a : List Nat} (ha : a.length = 25) {i : Nat} (hi : i < 136) (c : Nat) : a.set (i / 8) (M.gl a (i / 8) ^^^ c * 2 ^ (8 * (i % 8))) = M.absB a i c := by
  refine M.lanes_ext (by rw [List.length_set]; exact ha) (M.of_length _) fun j hj => ?_
  rw [gl_set j (by omega)]
  unfold M.absB
  rw [M.gl_of _ hj]
  by_cases h : j = i / 8
  · subst h; simp
  · rw [if_neg h, if_neg h]
theorem abs_step {a : List Nat} {b : List UInt8} {m : Nat} (hm : m < 136) (hb : m < b.length) : (M.absP a b m).set (m / 8) (M.gl (M.absP a b m) (m / 8) ^^^ (b.getD m 0).toNat * 2 ^ (8 * (m % 8))) = M.absP a b (m + 1) := by
  rw [absB_set (a := M.absP a b m) (M.of_length _) hm, M.absP_succ a b m hm hb]
theorem shl_byte (c d : Nat) (hc : c < 256) (hd : d < 8) : IntKind.u64.wrap ((c : Int) * 2 ^ (8 * d)) = ((c * 2 ^ (8 * d) : Nat) : Int) ∧ c * 2 ^ (8 * d) < 18446744073709551616 := by
  have h : c * 2 ^ (8 * d) < 18446744073709551616 := by
    have h1 : 2 ^ (8 * d) ≤ 2 ^ 56 := Nat.pow_le_pow_right (by omega) (by omega)
    have h2 : c * 2 ^ (8 * d) ≤ 255 * 2 ^ 56 := Nat.mul_le_mul (by omega) h1
    omega
  refine ⟨?_, h⟩
  rw [show (c : Int) * 2 ^ (8 * d) = ((c * 2 ^ (8 * d) : Nat) : Int) by simp, IntKind.wrap_u64]
  omega

/-- From a place on a block has these bytes. -/
def Bs (W : World) (g off : Nat) (b : List UInt8) : Prop := ∀ j, j < b.length → W.cell? ⟨g, off + j, none⟩ = some (.int .u8 (((b.getD j 0).toNat : Nat) : Int))
theorem Bs.below {W W' : World} {g off B : Nat} {b : List UInt8} (h : Bs W g off b) (hb : Below B W W') (hg : g < B) : Bs W' g off b := fun j hj => (hb.cell (p := ⟨g, off + j, none⟩) hg).trans (h j hj)
theorem Bs.part {W : World} {g : Nat} {t : List UInt8} (h : Bs W g 0 t) (off n : Nat) : Bs W g off ((t.drop off).take n) := fun j hj => by
  have hl : j < n ∧ off + j < t.length := by simp at hj; omega
  have := h (off + j) hl.2
  rw [Nat.zero_add] at this
  rw [this]
  simp [List.getD_eq_getElem?_getD, hl.1]

set_option maxRecDepth 100000 in
set_option maxHeartbeats 2000000 in
theorem ktake (a : List Nat) (b : List UInt8) (g off cap : Nat) (w : World) (ha : M.Lanes a) (hg : Bs w g off b) (hglt : g < w.heap.size) (hl : b.length = 136) :
    Calls Tryz.prog 31 #[st a, .slice (some ⟨g, off, none⟩) 136 cap] w fun e w' => e = .returned (st (M.absL a b)) ∧ Below w.heap.size w w' := by
  have HA := Lib.hid ha
  have HL := Lib.hid ha.1
  have HBL := Lib.hid hl
  have HG := Lib.hid hg
  clear ha hl hg
  have mixed : Tryz.prog.follows .mixedOrders = true := by kernel_rfl
  go_enter Tryz.func31, Tryz.ntmps31
  go_wp2_with fail
  go_loopw [9] (fun i wr => ∃ k : Nat, k ≤ 136 ∧ i = .int .i64 (k : Int) ∧ Rw wr w.heap.size 54 (M.absP a b k) ∧ Rw wr (w.heap.size + 1) 54 z25 ∧ Below w.heap.size w wr)
    (fun i _ => 136 - (intOf i).toNat)
  case atStart =>
    rw [lv_zero]
    refine ⟨0, by omega, rfl, ?_, Rw.at_ _ _ _ (by simp), ?_⟩
    · rw [M.absP_zero HL.out]; exact (Rw.new _ _ _).alloc _
    · (repeat (first | exact Below.refl _ _ | refine Below.drew ?_ | refine Below.alloc ?_ (by first | omega | (simp; omega) | simp) _ | refine Below.setCell ?_ (by first | omega | (simp; omega) | simp) _))
  case round =>
    obtain ⟨k, hk, rfl, hA, hR, hW⟩ := hrel
    by_cases hlt : k < 136
    · have hk5 : (k : Int) < 136 := by omega
      have cg := HG.out.below hW hglt k (by rw [HBL.out]; exact hlt)
      obtain ⟨c, hc⟩ : ∃ c, c = (b.getD k 0).toNat := ⟨_, rfl⟩
      have hc5 : c < 256 := by rw [hc]; exact UInt8.toNat_lt _
      have HC : Hid ((b.getD k 0).toNat = c) := hc.symm
      rw [← hc] at cg
      clear hc
      obtain ⟨q, hq⟩ : ∃ q, q = k / 8 := ⟨_, rfl⟩
      obtain ⟨d, hd⟩ : ∃ d, d = k % 8 := ⟨_, rfl⟩
      obtain ⟨s, hs⟩ : ∃ s, s = 8 * d := ⟨_, rfl⟩
      have t1 : ((k : Int)).tdiv 8 = (q : Int) := by rw [Int.tdiv_eq_ediv_of_nonneg (by omega)]; omega
      have t2 : ((k : Int)).tmod 8 = (d : Int) := by rw [Int.tmod_eq_emod_of_nonneg (by omega)]; omega
      have t3 : IntKind.i64.wrap (8 * (d : Int)) = (s : Int) := by rw [IntWalk.i64_in _ (by omega)]; omega
      have t0 : IntKind.i64.wrap (q : Int) = (q : Int) := IntWalk.i64_in _ (by omega)
      have tc : IntKind.u64.wrap (c : Int) = (c : Int) := by rw [IntKind.wrap_u64]; omega
      have hq5 : (q : Int) < 25 := by omega
      have hs5 : (s : Int) < 64 := by omega
      have hs0 : (0 : Int) ≤ (s : Int) := by omega
      have hLP := M.absP_lanes HA.out b k
      have ca := hA.cell (i := q) (by rw [hLP.1]; omega)
      have fa := hA.frozen q
      obtain ⟨u1, u2⟩ := shl_byte c d hc5 (by omega)
      have x1 := bits_xor_u64_nat _ _ (hLP.2 q) u2
      have HS := Lib.hid (abs_step (a := a) (b := b) hlt (by rw [HBL.out]; exact hlt))
      rw [HC.out, ← hd, ← hq] at HS
      rw [← hs] at u1 x1 HS
      clear hq hd hs u2 hLP hc5
      obtain ⟨v, hv⟩ : ∃ v, v = c * 2 ^ s := ⟨_, rfl⟩
      rw [← hv] at u1 x1 HS
      clear hv
      go_wp2_with fail
      go_still_tail 12, mixed
      change wpList _ _ _ _ _ wr.drew
      go_wp2_with fail
      go_roundw
      case rel =>
        refine ⟨k + 1, by omega, by go_num, ?_, ?_, ?_⟩
        · rw [← HS.out]; exact (hA.set_ _ _).drew
        · exact (hR.far (by simp) _).drew
        · exact (hW.setCell (by simp) _).drew
      case measure => simp [intOf]; omega
    · obtain rfl : k = 136 := by omega
      rw [M.absP_all] at hA
      clear hglt
      go_wp2_with (first | (refine wpList_load_st rfl _ _ rfl _ rfl _ _ 25 23 hA Tryz.array25 Tryz.size25 (M.of_length _) ?_) | (refine wpList_store_st rfl _ _ _ rfl _ _ rfl rfl _ _ 25 hR Tryz.size25 (M.of_length _) z25_length ?_))
      exact bodyPost_ret (v := st (M.absL a b)) (res_row rfl _ _ _ _ _ rfl (hR.row _) (M.of_length _)) rfl ⟨rfl, below_setRow hW (by omega) _⟩
end Go.Proofs.YtaajkbclojmbeaaGreatDoor
namespace Go.Proofs.YtaajkbclojmbeaaGreatDoor
open Go Go.RowKit Go.Lib

theorem sealed_store (P : Program) (g o : Nat) (t : TypeId) (fz : Nat × Nat) : ∀ (vs : List Value) (i : Nat) (cur : Array Value) (w : World), w.heap[g]? = some (.cells cur t fz) → cur.size ≤ fz.1 → o + i + vs.length ≤ cur.size → (∀ v ∈ vs, v.oneCell' = true) →
    (storeCells ⟨g, o, none⟩ vs i).run P w = .ok () (w.setRow g (cur.toList.take (o + i) ++ vs ++ cur.toList.drop (o + i + vs.length)).toArray)
  | [], i, cur, w, hg, _, _, _ => by
    simp only [storeCells, List.append_nil, List.length_nil, Nat.add_zero, List.take_append_drop, Array.toArray_toList]
    rw [setRow_self w g cur t fz hg]
    rfl
  | v :: rest, i, cur, w, hg, hfz, hl, h1 => by
    have hi : o + i < cur.size := by simp at hl; omega
    have hadd : (⟨g, o, none⟩ : Addr).add i = ⟨g, o + i, none⟩ := by unfold Addr.add; split <;> simp_all
    have hcell : w.cell? ⟨g, o + i, none⟩ = some cur[o + i] := by simp [World.cell?, hg, hi]
    have hfro : w.frozen? ⟨g, o + i, none⟩ = false := by
      obtain ⟨lo, hi'⟩ := fz
      simp only [World.frozen?, hg, Bool.and_eq_false_iff, decide_eq_false_iff_not]
      left
      simp only at hfz
      omega
    have hst : (store ((⟨g, o, none⟩ : Addr).add i) v).run P w = .ok () (w.setRow g (cur.setIfInBounds (o + i) v)) := by
      rw [hadd, run_store P w _ v _ (h1 v (by simp)), hcell]
      simp [hfro, setCell_eq_setRow w g (o + i) cur t fz v hg]
    have ih := sealed_store P g o t fz rest (i + 1) (cur.setIfInBounds (o + i) v) (w.setRow g (cur.setIfInBounds (o + i) v)) (setRow_heap w g cur _ t _ hg) (by simpa using hfz) (by simp at hl ⊢; omega) (fun x hx => h1 x (by simp [hx]))
    simp only [storeCells, Sem.run_bind, hst, Result.andThen_ok, ih, setRow_setRow]
    congr 3
    have e := list_seg_step cur.toList (o + i) v rest (by simp at hl ⊢; omega)
    simpa [Array.toList_setIfInBounds, Nat.add_assoc] using e

/-- What an append of a string to a row that a conversion has made leaves. -/
structure Grew (w w' : World) (base : Nat) (e : TypeId) (row : Nat) (g' n cap' : Nat) (xs : List Value) : Prop where
  cap : n ≤ cap'
  max : cap' ≤ maxLen
  own : base ≤ g'
  lt : g' < w'.heap.size
  cells : ∀ j u, xs[j]? = some u → w'.cell? ⟨g', j, none⟩ = some u
  kept : w.grownBy w' (some row)

theorem append_sealed {P : Program} (w : World) (base : Nat) (t u ty e : TypeId) (i : TypeInfo) (ht : P.underlying t = some (.slice e)) (hu : P.underlying u = some .string) (hi : P.info? e = some i) (hz : i.zero = some (.int .u8 0))
    (hsize : i.size = 1) (hby : i.bytes = 1) (g n cap : Nat) (cur : Array Value) (hg : w.heap[g]? = some (.cells cur e (cur.size, cur.size + 1))) (hcs : cur.size = cap) (hn : n ≤ cap) (hcm : cap ≤ maxLen) (hb : base ≤ g) (s : ByteArray)
    (h63 : n + s.size ≤ maxLen) (hbytes : n + s.size ≤ 140737488355328) (hbase : base ≤ w.heap.size) :
    ∃ g' cap' w', (Builtin.append_ #[t, u] ty #[.slice (some ⟨g, 0, none⟩) n cap, .string s]).run P w = .ok (.slice (some ⟨g', 0, none⟩) (n + s.size) cap') w' ∧ Grew w w' base e g g' (n + s.size) cap' (cur.toList.take n ++ strCells s) := by
  have hsmall : n + s.size ≤ 9223372036854775807 := by simp only [maxLen] at h63; omega
  by_cases hroom : n + s.size ≤ cap
  · have hf := run_firstCells_string (P := P) w 1 s
    have hst := sealed_store P g n e _ (strCells s) 0 cur w hg (Nat.le_refl _) (by rw [strCells_length]; omega) (strCells_oneCell s)
    simp only [Nat.add_zero, strCells_length] at hst
    refine ⟨g, cap, w.setRow g (cur.toList.take n ++ strCells s ++ cur.toList.drop (n + s.size)).toArray, ?_, hroom, hcm, hb, ?_, ?_, ⟨rfl, rfl, rfl, by simp, fun k _ hk => setRow_other w g k _ (fun e => hk (by simp [e]))⟩⟩
    · simp [Builtin.append_, run_underlying ht, run_underlying hu, Go.sizeOf, typeInfo, hi, hsize, Builtin.lenOf, hroom, hf, Addr.add_lit, hst]
    · have := (Array.getElem?_eq_some_iff.1 hg).1
      simpa using this
    · intro j v hj
      rw [cell_setRow_same w g j cur _ e _ hg]
      have hjl := (List.getElem?_eq_some_iff.1 hj).1
      rw [List.getElem?_toArray, List.getElem?_append_left hjl]
      exact hj
  · have holds : ∀ j u, (cur.toList.take n)[j]? = some u → w.cell? ((⟨g, 0, none⟩ : Addr).add j) = some u := by
      intro j v hj
      have hadd : (⟨g, 0, none⟩ : Addr).add j = ⟨g, j, none⟩ := by unfold Addr.add; split <;> simp_all
      rw [hadd, cell_of_row w g j cur e _ hg]
      rw [List.getElem?_take] at hj
      split at hj
      · simpa using hj
      · cases hj
    have hr := run_append_grow_string (P := P) w t u ty e i (.int .u8 0) ht hu hi hz ⟨g, 0, none⟩ n cap (cur.toList.take n) (by rw [hsize, List.length_take]; simp; omega) holds s (by omega) (by omega) (by rw [hby]; exact growslice_fits (by omega) (by omega))
    refine ⟨w.heap.size, _, _, hr, grownCap_ge w (n + s.size) cap e, grownCap_le_maxLen w (n + s.size) cap e h63, hbase, by simp, ?_, ⟨rfl, rfl, rfl, by simp, fun k hk _ => Below.heap_alloc w.drew _ k hk⟩⟩
    intro j v hj
    have hh : (w.drew.alloc (.cells ((cur.toList.take n).toArray ++ (strCells s).toArray ++ Builtin.zeroCells (Value.int .u8 0).cells (grownCap w (n + s.size) cap e - (n + s.size))) e)).heap[w.heap.size]? = _ := Go.heap_alloc_new w.drew (.cells ((cur.toList.take n).toArray ++ (strCells s).toArray ++ Builtin.zeroCells (Value.int .u8 0).cells (grownCap w (n + s.size) cap e - (n + s.size))) e)
    rw [cell_of_row _ _ j _ e (0, 0) hh]
    have hjl := (List.getElem?_eq_some_iff.1 hj).1
    rw [Array.getElem?_append_left (by simpa using hjl)]
    simpa using hj

theorem wpListIn_append_sealed {F : Fence} {m : Nat} {P : Program} {ops : Array Oper} {rest : List Oper} {o : Oper} {a : Act} {Q : Exit → Act → World → Prop} (w : World) (hgd : o.guard = none) (sl x : Operand) (t u : TypeId)
    (ho : o.op = .call { callee := .builtin .append, args := #[sl, x], argTypes := #[t, u] })
    (base : Nat) (e : TypeId) (i : TypeInfo) (ht : P.underlying t = some (.slice e)) (hu : P.underlying u = some .string) (hi : P.info? e = some i) (hz : i.zero = some (.int .u8 0))
    (hsize : i.size = 1) (hby : i.bytes = 1) (g n cap : Nat) (cur : Array Value) (hs : a.eval sl = .slice (some ⟨g, 0, none⟩) n cap) (hg : w.heap[g]? = some (.cells cur e (cur.size, cur.size + 1))) (hcs : cur.size = cap) (hn : n ≤ cap) (hcm : cap ≤ maxLen) (hb : base ≤ g) (s : ByteArray) (hx : a.eval x = .string s)
    (h63 : n + s.size ≤ maxLen) (hbytes : n + s.size ≤ 140737488355328) (hbase : base ≤ w.heap.size)
    (h : ∀ g' cap' w', Grew w w' base e g g' (n + s.size) cap' (cur.toList.take n ++ strCells s) → wpListIn F m P ops Q rest (a.put o.dst (.slice (some ⟨g', 0, none⟩) (n + s.size) cap')) w') : wpListIn F m P ops Q (o :: rest) a w := by
  refine wpListIn_plain hgd fun K hK => ?_
  obtain ⟨g', cap', w', hr, h2⟩ := append_sealed (P := P) w base t u o.type e i ht hu hi hz hsize hby g n cap cur hg hcs hn hcm hb s h63 hbytes hbase
  unfold Oper.wpIn
  refine ⟨?_, ?_⟩
  · simp [Oper.about, ho, resolve, Target.leads, Sem.run_pure]
  · rw [Oper.semAt_plain F _ _ (by rw [ho]; intro c hc'; cases hc')]
    simp [execOp, ho, resolve, invoke, builtin, hs, hx, hr, Result.andThen]
    exact hK _ _ (h g' cap' w' h2)

/-- What a conversion of a string to bytes leaves. -/
structure Sealq (w w' : World) (e : TypeId) (b : ByteArray) (cap : Nat) (cur : Array Value) : Prop where
  row : w'.heap[w.heap.size]? = some (.cells cur e (cur.size, cur.size + 1))
  size : cur.size = cap
  len : b.size ≤ cap
  max : cap ≤ maxLen
  take : cur.toList.take b.size = strCells b
  low : Below w.heap.size w w'
  new : w'.heap.size = w.heap.size + 1

theorem seal_isq (w : World) (e : TypeId) (b : ByteArray) (hb : b.size ≤ maxLen) : Sealq w (bytesWorld w e b) e b (grownCap w b.size 0 e) (bytesCells w e b) := by
  have hge := grownCap_ge w b.size 0 e
  have hcm := grownCap_le_maxLen w b.size 0 e hb
  have hsz : (bytesCells w e b).size = grownCap w b.size 0 e := by
    have : b.data.size = b.size := rfl
    simp [bytesCells, this]
    omega
  refine ⟨bytesWorld_at_new w e b, hsz, hge, hcm, ?_, ⟨rfl, rfl, rfl, by rw [bytesWorld_size]; omega, fun k hk => bytesWorld_at_old w e b k hk⟩, bytesWorld_size w e b⟩
  have hl : b.size = (b.data.toList.map fun x : UInt8 => Value.int .u8 x.toNat).length := by
    rw [List.length_map, Array.length_toList]; rfl
  unfold bytesCells strCells
  rw [Array.toList_append, Array.toList_map, hl, List.take_left]

theorem wpListIn_seal {F : Fence} {m : Nat} {P : Program} {ops : Array Oper} {rest : List Oper} {o : Oper} {a : Act} {Q : Exit → Act → World → Prop} (w : World) (hgd : o.guard = none) (src dst e : TypeId) (x : Operand)
    (ho : o.op = .convert src dst x) (b : ByteArray) (hx : a.eval x = .string b) (hs : P.underlying src = some .string) (hd : P.underlying dst = some (.slice e)) (he : P.underlying e = some (.int .u8)) (hb : b.size ≤ maxLen)
    (h : ∀ cap cur w', Sealq w w' e b cap cur → wpListIn F m P ops Q rest (a.put o.dst (.slice (some ⟨w.heap.size, 0, none⟩) b.size cap)) w') : wpListIn F m P ops Q (o :: rest) a w := by
  refine wpListIn_plain hgd fun K hK => ?_
  have hr := Go.Lib.run_convert_string_bytes (P := P) w src dst e b hs hd he
  unfold Oper.wpIn
  rw [Oper.semAt_plain F _ _ (by intro c; rw [ho]; exact fun h => nomatch h)]
  refine ⟨by intro f hf; simp [Oper.about, ho] at hf, ?_⟩
  unfold execOp
  simp only [ho, hx, Sem.run_bind, Sem.run_pure]
  rw [hr]
  exact hK _ _ (h _ _ _ (seal_isq w e b hb))
end Go.Proofs.YtaajkbclojmbeaaGreatDoor
