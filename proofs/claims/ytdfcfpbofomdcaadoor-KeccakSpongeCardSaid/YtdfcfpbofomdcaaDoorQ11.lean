/- keccak.moveLanes. -/
import Derived.Test.YtdfcfpbofomdcaaDoorQ10
import Derived.Test.YtdfcfpbofomdcaaDoorQ3
namespace Go.Proofs.YtdfcfpbofomdcaaDoor
open Go Go.RowKit Go.Shelf
attribute [local go_sem] Oper.semAt_some

theorem rw_own {β : Type} (B : Nat) (t : TypeId) (f : β → List Nat) : Own (fun s W => Rw W B t (f s)) := fun s X Y row hs hg hrow => by
  refine (hg.block B hs.lt ?_).trans hs
  intro e
  obtain ⟨o, ho, hc⟩ := hrow B e.symm
  rw [show X.heap[B]? = _ from hs] at ho
  cases ho
  cases hc

theorem Rw.put {W : World} {b l : Nat} {t : TypeId} {a : List Nat} (h : Rw W b t a) (hne : b ≠ l) (o : Obj) : Rw (W.putObj l o) b t a := (World.putObj_heap_other hne).trans h
theorem offs_lt : ∀ i : Fin 25, M.gl M.offs i.val < 64 := by decide

set_option maxRecDepth 100000 in
set_option maxHeartbeats 4000000 in
theorem move_in (a : List Nat) (w : World) (ha : M.Lanes a) (hT : Tab w) :
    CallsIn Fence.wide 4 Tryd.prog 20 #[st a] w fun e w' => e = .returned (st (M.moveL (M.turnL a))) ∧ Below w.heap.size w w' := by
  have HA := Lib.hid ha
  have HT := Lib.hid hT
  have HL := Lib.hid ha.1
  clear ha hT
  have hro : Fence.wide.round = none := rfl
  refine callsIn_of_wp_marks Tryd.func20 rfl trivial ?_ hro
  simp only [Tryd.ntmps20, List.size_toArray, List.length_cons, List.length_nil, Nat.reduceAdd, Nat.reduceSub, Array.replicate_succ, Array.replicate_zero, List.push_toArray, List.append_toArray, List.nil_append, List.cons_append]
  gi_wp2_with (first | (refine wpListIn_load_st rfl _ _ rfl _ rfl _ _ 25 22 (((Rw.new w 23 a).alloc _).alloc _) Tryd.array25 Tryd.size25 HL.out ?_) | (refine ⟨trivial, ?_⟩; refine (lane_in _ _ _).mono ?_; rintro e w' ⟨rfl, rfl⟩))
  rw [lv_zero]
  have mixed : Tryd.prog.follows .mixedOrders = true := by kernel_rfl
  obtain ⟨h, hh⟩ : ∃ h, h = w.heap.size := ⟨_, rfl⟩
  obtain ⟨W0, hW0⟩ : ∃ W0, ((((w.alloc (Obj.cells (lv a) 23)).alloc (Obj.cells (lv z25) 23)).alloc (Obj.cells (lv z25) 23)).alloc (Obj.cells (lv a) 23)) = W0 := ⟨_, rfl⟩
  have hA : Rw W0 (h + 1 + 1 + 1) 23 a := by rw [← hW0, hh]; exact Rw.at_ _ _ _ (by simp)
  have hO : Rw W0 (h + 1 + 1) 23 z25 := by rw [← hW0, hh]; exact (Rw.at_ _ _ _ (by simp)).alloc _
  have hR : Rw W0 (h + 1) 23 z25 := by rw [← hW0, hh]; exact ((Rw.at_ _ _ _ (by simp)).alloc _).alloc _
  have hW : Below w.heap.size w W0 := by rw [← hW0]; (repeat (first | exact Below.refl _ _ | refine Below.drew ?_ | refine Below.alloc ?_ (by first | omega | (simp; omega) | simp) _ | refine Below.setCell ?_ (by first | omega | (simp; omega) | simp) _))
  have hsz : W0.heap.size = h + 4 := by rw [← hW0, hh]; simp
  rw [hW0, ← hh]
  have HH := Lib.hid hh
  clear hW0 hh
  refine range_lanes (b := h + 1 + 1 + 1) HL.out rfl rfl
    (fun i W => Rw W (h + 1 + 1 + 1) 23 a ∧ Rw W (h + 1 + 1) 23 (mvP (M.turnL a) i) ∧ Rw W (h + 1) 23 z25 ∧ Below w.heap.size w W ∧ W0.heap.size ≤ W.heap.size)
    ?own ?get ⟨hA, hO, hR, hW, Nat.le_refl _⟩ (fun B i t => (((t.setIfInBounds 8 (.agg (plc i))).setIfInBounds 9 (.int .u64 ((M.gl a i : Nat) : Int))).setIfInBounds 4 (.pointer (some ⟨B, 0, none⟩))).setIfInBounds 5 (.int .u64 ((M.gl a i : Nat) : Int))) ?assign ?body ?done
  case own =>
    exact ((rw_own _ _ (fun _ => a)).from _).and (((rw_own _ _ (fun i => mvP (M.turnL a) i)).from _).and (((rw_own _ _ (fun _ => z25)).from _).and ((ownFrom_below (Nat.le_refl _) hW.size).and (fun _ _ _ _ hs hg _ => Nat.le_trans hs hg.size))))
  case get =>
    exact fun i W hi => ⟨hi.1, hi.2.2.2.2⟩
  case assign =>
    intro l i W K hi hK
    clear hA hO hR hW hsz
    simp only [List.setIfInBounds_toArray, List.set_cons_zero, List.set_cons_succ] at hK
    gi_wp2
    exact hK
  case body =>
    intro l i B W hi hI hP hB
    obtain ⟨iA, iO, iR, iW, i0⟩ := hI
    have cx := hP.x
    have cy := hP.y
    have hlP := hP.lt
    clear hA hO hR hW hsz
    have hT2 := HT.out.from iW
    have co := hT2.off i hi
    obtain ⟨cb, hcb⟩ : ∃ v, W.cell? ⟨h + 1 + 1, mvI i, none⟩ = some v := ⟨_, iO.cell (by rw [mvP_length]; unfold mvI; omega)⟩
    have fb := iO.frozen (mvI i)
    have hl := HA.out.2 i
    have ho := offs_lt ⟨i, hi⟩
    simp only at ho
    have hx : px i < 5 := Nat.mod_lt _ (by omega)
    have hy : py i < 5 := by unfold py; omega
    have hp1 : px i % 5 + 5 * (py i % 5) = i := by unfold px py; omega
    have hmv : mvI i = py i % 5 + 5 * ((2 * px i + 3 * py i) % 5) := by unfold mvI px py; omega
    have hmv2 : mvI i < 25 := by unfold mvI; omega
    have HS := Lib.hid (mvP_succ (M.turnL a) i)
    have HG : Hid (M.gl (M.turnL a) i = M.rotN (M.gl a i) (M.gl M.offs i)) := by
      show _ = _
      unfold M.turnL
      rw [M.gl_of _ hi]
    generalize px i = X at *
    generalize py i = Y at *
    generalize mvI i = p at *
    obtain ⟨X2, hX2⟩ : ∃ q, q = 2 * X := ⟨_, rfl⟩
    obtain ⟨Y3, hY3⟩ : ∃ q, q = 3 * Y := ⟨_, rfl⟩
    obtain ⟨S, hS⟩ : ∃ q, q = X2 + Y3 := ⟨_, rfl⟩
    have w1 : IntKind.i64.wrap (2 * (X : Int)) = (X2 : Int) := by rw [IntWalk.i64_in _ (by omega)]; omega
    have w2 : IntKind.i64.wrap (3 * (Y : Int)) = (Y3 : Int) := by rw [IntWalk.i64_in _ (by omega)]; omega
    have w3 : IntKind.i64.wrap ((X2 : Int) + (Y3 : Int)) = (S : Int) := by rw [IntWalk.i64_in _ (by omega)]; omega
    have a1 := fun W => at_any Y S p W (by omega) (by omega) (by rw [hmv, hS, hX2, hY3])
    have a2 := fun W => at_any X Y i W (by omega) (by omega) hp1
    have a3 := fun W => rotl (M.gl a i) (M.gl M.offs i) W hl ho
    have hpi : (p : Int) < 25 := by omega
    have hii : (i : Int) < 25 := by omega
    have L := Lib.hid hl
    clear hl ho hx hy hp1 hmv hX2 hY3 hS
    simp only [List.setIfInBounds_toArray, List.set_cons_zero, List.set_cons_succ]
    gi_wp2
    refine round_still_tail 20 mixed (by kernel_rfl) (by kernel_rfl) ?_
    simp only [List.take_succ_cons, List.take_zero, List.drop_succ_cons, List.drop_zero]
    repeat still_step
    still_call ((a1 _).mono (fun _ _ h => ⟨h.1, h.2.symm⟩))
    repeat still_step
    still_call ((a2 _).mono (fun _ _ h => ⟨h.1, h.2.symm⟩))
    repeat still_step
    still_call ((a3 _).mono (fun _ _ h => ⟨h.1, h.2.symm⟩))
    repeat still_step
    refine wpStill_nil ?_
    change wpList _ _ _ _ _ W.drew
    go_wp2_with fail
    refine ⟨rfl, (KeepsOthers.setCell _ _ _).trans (KeepsOthers.drew _), (iA.far (by simp) _).drew, ?_, (iR.far (by simp) _).drew, (iW.setCell (by have := HH.out; simp; omega) _).drew, ?_⟩
    · rw [HS.out, HG.out]; exact (iO.set_ _ _).drew
    · simpa using i0
  case done =>
    intro D W hD hI hK
    obtain ⟨iA, iO, iR, iW, i0⟩ := hI
    clear hA hO hR hW
    rw [mvP_all] at iO
    have hDR : D ≠ h + 1 := by omega
    gi_wp2_with (first | (refine wpListIn_load_st rfl _ _ rfl _ rfl _ _ 25 22 iO Tryd.array25 Tryd.size25 (M.of_length _) ?_) | (refine wpListIn_store_st rfl _ _ _ rfl _ _ rfl rfl _ _ 25 iR Tryd.size25 (M.of_length _) z25_length ?_))
    have hK2 : (W.setRow (h + 1) (lv (M.moveL (M.turnL a)))).heap[D]? = some (.deferred (some [])) := (setRow_other W _ D _ hDR).trans hK
    have hh := HH.out
    refine ⟨by simp, .inl ⟨_, _, rfl, run_takeDeferred hK2, ?_⟩⟩
    exact ⟨st (M.moveL (M.turnL a)), res_row rfl _ _ _ _ _ rfl ((iR.row _).put (by omega) _) (M.of_length _), rfl, (below_setRow iW (by omega) _).trans (belowK_b (w := w) (Nat.le_refl _) _ D _ _ (by omega) hK2 rfl rfl)⟩
end Go.Proofs.YtdfcfpbofomdcaaDoor
