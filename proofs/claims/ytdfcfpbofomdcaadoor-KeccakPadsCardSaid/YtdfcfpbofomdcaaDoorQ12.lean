/- keccak.mixRows. -/
import Derived.Test.YtdfcfpbofomdcaaDoorQ11
import Derived.Test.YtdfcfpbofomdcaaDoorQ7
namespace Go.Proofs.YtdfcfpbofomdcaaDoor
open Go Go.RowKit Go.Shelf
attribute [local go_sem] Oper.semAt_some

set_option maxRecDepth 100000 in
set_option maxHeartbeats 4000000 in
theorem rows_in (a : List Nat) (w : World) (ha : M.Lanes a) :
    CallsIn Fence.wide 4 Tryd.prog 19 #[st a] w fun e w' => e = .returned (st (M.chiL a)) ∧ Below w.heap.size w w' := by
  have HA := Lib.hid ha
  have HL := Lib.hid ha.1
  clear ha
  have hro : Fence.wide.round = none := rfl
  refine callsIn_of_wp_marks Tryd.func19 rfl trivial ?_ hro
  simp only [Tryd.ntmps19, List.size_toArray, List.length_cons, List.length_nil, Nat.reduceAdd, Nat.reduceSub, Array.replicate_succ, Array.replicate_zero, List.push_toArray, List.append_toArray, List.nil_append, List.cons_append]
  gi_wp2_with (first | (refine wpListIn_load_st rfl _ _ rfl _ rfl _ _ 25 22 (((Rw.new w 23 a).alloc _).alloc _) Tryd.array25 Tryd.size25 HL.out ?_) | (refine ⟨trivial, ?_⟩; refine (lane_in _ _ _).mono ?_; rintro e w' ⟨rfl, rfl⟩))
  rw [lv_zero]
  have mixed : Tryd.prog.follows .mixedOrders = true := by kernel_rfl
  obtain ⟨h, hh⟩ : ∃ h, h = w.heap.size := ⟨_, rfl⟩
  obtain ⟨W0, hW0⟩ : ∃ W0, ((((w.alloc (Obj.cells (lv a) 23)).alloc (Obj.cells (lv z25) 23)).alloc (Obj.cells (lv z25) 23)).alloc (Obj.cells (lv a) 23)) = W0 := ⟨_, rfl⟩
  have hA : Rw W0 (h + 1 + 1 + 1) 23 a := by rw [← hW0, hh]; exact Rw.at_ _ _ _ (by simp)
  have hO : Rw W0 (h + 1 + 1) 23 z25 := by rw [← hW0, hh]; exact (Rw.at_ _ _ _ (by simp)).alloc _
  have hR : Rw W0 (h + 1) 23 z25 := by rw [← hW0, hh]; exact ((Rw.at_ _ _ _ (by simp)).alloc _).alloc _
  have hP0 : Rw W0 h 23 a := by rw [← hW0, hh]; exact (((Rw.at_ _ _ _ (by simp)).alloc _).alloc _).alloc _
  have hW : Below w.heap.size w W0 := by rw [← hW0]; (repeat (first | exact Below.refl _ _ | refine Below.drew ?_ | refine Below.alloc ?_ (by first | omega | (simp; omega) | simp) _ | refine Below.setCell ?_ (by first | omega | (simp; omega) | simp) _))
  have hsz : W0.heap.size = h + 4 := by rw [← hW0, hh]; simp
  rw [hW0, ← hh]
  have HH := Lib.hid hh
  clear hW0 hh
  refine range_lanes (b := h + 1 + 1 + 1) HL.out rfl rfl
    (fun i W => Rw W (h + 1 + 1 + 1) 23 a ∧ Rw W (h + 1 + 1) 23 (upto (chiF a) z25 i) ∧ Rw W (h + 1) 23 z25 ∧ Below w.heap.size w W ∧ Rw W h 23 a ∧ W0.heap.size ≤ W.heap.size)
    ?own ?get ⟨hA, by rw [upto_zero _ z25_length]; exact hO, hR, hW, hP0, Nat.le_refl _⟩ (fun B i t => (((t.setIfInBounds 8 (.agg (plc i))).setIfInBounds 9 (.int .u64 ((M.gl a i : Nat) : Int))).setIfInBounds 4 (.pointer (some ⟨B, 0, none⟩))).setIfInBounds 5 (.int .u64 ((M.gl a i : Nat) : Int))) ?assign ?body ?done
  case own =>
    exact ((rw_own _ _ (fun _ => a)).from _).and (((rw_own _ _ (fun i => upto (chiF a) z25 i)).from _).and (((rw_own _ _ (fun _ => z25)).from _).and ((ownFrom_below (Nat.le_refl _) hW.size).and (((rw_own _ _ (fun _ => a)).from _).and (fun _ _ _ _ hs hg _ => Nat.le_trans hs hg.size)))))
  case get =>
    exact fun i W hi => ⟨hi.1, hi.2.2.2.2.2⟩
  case assign =>
    intro l i W K hi hK
    clear hA hO hR hW hP0 hsz
    simp only [List.setIfInBounds_toArray, List.set_cons_zero, List.set_cons_succ] at hK
    gi_wp2
    exact hK
  case body =>
    intro l i B W hi hI hP hB
    obtain ⟨iA, iO, iR, iW, iP, i0⟩ := hI
    have cx := hP.x
    have cy := hP.y
    have hlP := hP.lt
    clear hA hO hR hW hP0 hsz
    obtain ⟨cb, hcb⟩ : ∃ v, W.cell? ⟨h + 1 + 1, i, none⟩ = some v := ⟨_, iO.cell (by rw [upto_length]; exact hi)⟩
    have fb := iO.frozen i
    have hx : px i < 5 := Nat.mod_lt _ (by omega)
    have hy : py i < 5 := by unfold py; omega
    have hp1 : px i % 5 + 5 * (py i % 5) = i := by unfold px py; omega
    have e1 : i - i % 5 + (i % 5 + 1) % 5 = (px i + 1) % 5 + 5 * (py i % 5) := by unfold px py; omega
    have e2 : i - i % 5 + (i % 5 + 2) % 5 = (px i + 2) % 5 + 5 * (py i % 5) := by unfold px py; omega
    have hu := upto_succ (chiF a) z25 hi
    have L0 := HA.out.2 i
    have L1 := HA.out.2 (i - i % 5 + (i % 5 + 1) % 5)
    have L2 := HA.out.2 (i - i % 5 + (i % 5 + 2) % 5)
    have HC : Hid (M.gl a i ^^^ ((M.gl a (i - i % 5 + (i % 5 + 1) % 5) ^^^ 18446744073709551615) &&& M.gl a (i - i % 5 + (i % 5 + 2) % 5)) = chiF a i) := rfl
    obtain ⟨p, hp⟩ : ∃ p, p = i - i % 5 + (i % 5 + 1) % 5 := ⟨_, rfl⟩
    obtain ⟨q, hq⟩ : ∃ q, q = i - i % 5 + (i % 5 + 2) % 5 := ⟨_, rfl⟩
    rw [← hp] at e1 L1 HC
    rw [← hq] at e2 L2 HC
    have tp0 : (p : Int) < 25 := by omega
    have tq0 : (q : Int) < 25 := by omega
    have c1 := iP.cell (i := p) (by rw [HL.out]; omega)
    have c2 := iP.cell (i := q) (by rw [HL.out]; omega)
    have hsg : IntKind.u64.signed = false := rfl
    have hmx : IntKind.u64.max = 18446744073709551615 := rfl
    have x0 := bits_xor_u64_nat 18446744073709551615 (M.gl a p) (by omega) L1
    rw [Nat.xor_comm] at x0
    have x1 := bits_and_u64_nat _ _ (M.xor_lt64 L1 (show 18446744073709551615 < 18446744073709551616 by omega)) L2
    have x2 := bits_xor_u64_nat _ _ L0 (M.and_lt64 (a := M.gl a p ^^^ 18446744073709551615) L2)
    rw [show (((18446744073709551615 : Nat)) : Int) = 18446744073709551615 from rfl] at x0
    generalize px i = X at *
    generalize py i = Y at *
    obtain ⟨X1, hX1⟩ : ∃ q, q = X + 1 := ⟨_, rfl⟩
    obtain ⟨X2, hX2⟩ : ∃ q, q = X + 2 := ⟨_, rfl⟩
    have w1 : IntKind.i64.wrap ((X : Int) + 1) = (X1 : Int) := by rw [IntWalk.i64_in _ (by omega)]; omega
    have w2 : IntKind.i64.wrap ((X : Int) + 2) = (X2 : Int) := by rw [IntWalk.i64_in _ (by omega)]; omega
    have a1 := fun W => at_any X Y i W (by omega) (by omega) hp1
    have a2 := fun W => at_any X1 Y p W (by omega) (by omega) (by rw [hX1, e1])
    have a3 := fun W => at_any X2 Y q W (by omega) (by omega) (by rw [hX2, e2])
    have hii : (i : Int) < 25 := by omega
    have HS := Lib.hid hu
    have HL0 := Lib.hid L0
    have HL1 := Lib.hid L1
    have HL2 := Lib.hid L2
    clear hx hy hp1 hX1 hX2 hp hq e1 e2 hu L0 L1 L2
    generalize M.gl a p ^^^ 18446744073709551615 = n1 at *
    generalize n1 &&& M.gl a q = n2 at *
    simp only [List.setIfInBounds_toArray, List.set_cons_zero, List.set_cons_succ]
    gi_wp2
    refine round_still_tail 26 mixed (by kernel_rfl) (by kernel_rfl) ?_
    simp only [List.take_succ_cons, List.take_zero, List.drop_succ_cons, List.drop_zero]
    repeat still_step
    still_call ((a1 _).mono (fun _ _ h => ⟨h.1, h.2.symm⟩))
    repeat still_step
    still_call ((a2 _).mono (fun _ _ h => ⟨h.1, h.2.symm⟩))
    repeat still_step
    still_call ((a3 _).mono (fun _ _ h => ⟨h.1, h.2.symm⟩))
    repeat still_step
    refine wpStill_nil ?_
    change wpList _ _ _ _ _ W.drew
    go_wp2_with fail
    refine ⟨rfl, (KeepsOthers.setCell _ _ _).trans (KeepsOthers.drew _), (iA.far (by simp) _).drew, ?_, (iR.far (by simp) _).drew, (iW.setCell (by have := HH.out; simp; omega) _).drew, (iP.far (by simp; omega) _).drew, ?_⟩
    · rw [HC.out, ← HS.out]; exact (iO.set_ _ _).drew
    · simpa using i0
  case done =>
    intro D W hD hI hK
    obtain ⟨iA, iO, iR, iW, iP, i0⟩ := hI
    clear hA hO hR hW hP0
    rw [chi_all] at iO
    have hDR : D ≠ h + 1 := by omega
    gi_wp2_with (first | (refine wpListIn_load_st rfl _ _ rfl _ rfl _ _ 25 22 iO Tryd.array25 Tryd.size25 (M.of_length _) ?_) | (refine wpListIn_store_st rfl _ _ _ rfl _ _ rfl rfl _ _ 25 iR Tryd.size25 (M.of_length _) z25_length ?_))
    have hK2 : (W.setRow (h + 1) (lv (M.chiL a))).heap[D]? = some (.deferred (some [])) := (setRow_other W _ D _ hDR).trans hK
    have hh := HH.out
    refine ⟨by simp, .inl ⟨_, _, rfl, run_takeDeferred hK2, ?_⟩⟩
    exact ⟨st (M.chiL a), res_row rfl _ _ _ _ _ rfl ((iR.row _).put (by omega) _) (M.of_length _), rfl, (below_setRow iW (by omega) _).trans (belowK_b (w := w) (Nat.le_refl _) _ D _ _ (by omega) hK2 rfl rfl)⟩
end Go.Proofs.YtdfcfpbofomdcaaDoor
