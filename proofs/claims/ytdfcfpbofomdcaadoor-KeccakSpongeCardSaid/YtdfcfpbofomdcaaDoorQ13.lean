/- keccak.mixColumns. -/
import Derived.Test.YtdfcfpbofomdcaaDoorQ11
namespace Go.Proofs.YtdfcfpbofomdcaaDoor
open Go Go.RowKit Go.Shelf
attribute [local go_sem] Oper.semAt_some

theorem obj_own {β : Type} (D B : Nat) (o : Obj) (h : D < B) : OwnFrom B (fun (_ : β) W => W.heap[D]? = some o) := fun s X Y row hs hg hrow =>
  (hg.block D (Array.getElem?_eq_some_iff.1 hs).1 (fun e => by have := (hrow D e.symm).1; omega)).trans hs
theorem size_own {β : Type} (B n : Nat) : OwnFrom B (fun (_ : β) W => n ≤ W.heap.size) := fun _ _ _ _ hs hg _ => Nat.le_trans hs hg.size
theorem obj_far {W : World} {D : Nat} {o : Obj} (h : W.heap[D]? = some o) {p : Addr} (hp : D ≠ p.block) (u : Value) : (W.setCell p u).heap[D]? = some o := (Below.heap_setCell W p u D hp).trans h

set_option maxRecDepth 100000 in
set_option maxHeartbeats 8000000 in
theorem cols_in (a : List Nat) (w : World) (ha : M.Lanes a) :
    CallsIn Fence.wide 4 Tryd.prog 21 #[st a] w fun e w' => e = .returned (st (M.mixL a)) ∧ Below w.heap.size w w' := by
  have HA := Lib.hid ha
  have HL := Lib.hid ha.1
  clear ha
  have mixed : Tryd.prog.follows .mixedOrders = true := by kernel_rfl
  have hro : Fence.wide.round = none := rfl
  refine callsIn_of_wp_marks Tryd.func21 rfl trivial ?_ hro
  simp only [Tryd.ntmps21, List.size_toArray, List.length_cons, List.length_nil, Nat.reduceAdd, Nat.reduceSub, Array.replicate_succ, Array.replicate_zero, List.push_toArray, List.append_toArray, List.nil_append, List.cons_append]
  gi_wp2_with (first | (refine wpListIn_load_st rfl _ _ rfl _ rfl _ _ 25 22 (((Rw.new w 23 a).alloc _).alloc _) Tryd.array25 Tryd.size25 HL.out ?_) | (refine ⟨trivial, ?_⟩; refine (lane_in _ _ _).mono ?_; rintro e w' ⟨rfl, rfl⟩))
  rw [lv_zero, lv_zero5]
  obtain ⟨h, hh⟩ : ∃ h, h = w.heap.size := ⟨_, rfl⟩
  obtain ⟨W0, hW0⟩ : ∃ W0, ((((w.alloc (Obj.cells (lv a) 23)).alloc (Obj.cells (lv z25) 23)).alloc (Obj.cells (lv z5) 45)).alloc (Obj.cells (lv a) 23)) = W0 := ⟨_, rfl⟩
  have hA : Rw W0 (h + 1 + 1 + 1) 23 a := by rw [← hW0, hh]; exact Rw.at_ _ _ _ (by simp)
  have hC : Rw W0 (h + 1 + 1) 45 z5 := by rw [← hW0, hh]; exact (Rw.at_ _ _ _ (by simp)).alloc _
  have hR : Rw W0 (h + 1) 23 z25 := by rw [← hW0, hh]; exact ((Rw.at_ _ _ _ (by simp)).alloc _).alloc _
  have hP0 : Rw W0 h 23 a := by rw [← hW0, hh]; exact (((Rw.at_ _ _ _ (by simp)).alloc _).alloc _).alloc _
  have hW : Below w.heap.size w W0 := by rw [← hW0]; (repeat (first | exact Below.refl _ _ | refine Below.drew ?_ | refine Below.alloc ?_ (by first | omega | (simp; omega) | simp) _ | refine Below.setCell ?_ (by first | omega | (simp; omega) | simp) _))
  have hsz : W0.heap.size = h + 4 := by rw [← hW0, hh]; simp
  rw [hW0, ← hh]
  have HH := Lib.hid hh
  clear hW0 hh
  refine range_lanes (b := h + 1 + 1 + 1) HL.out rfl rfl
    (fun i W => Rw W (h + 1 + 1 + 1) 23 a ∧ Rw W (h + 1 + 1) 45 (colP a i) ∧ Rw W (h + 1) 23 z25 ∧ Below w.heap.size w W ∧ Rw W h 23 a ∧ W0.heap.size ≤ W.heap.size)
    ?own ?get ⟨hA, hC, hR, hW, hP0, Nat.le_refl _⟩ (fun B i t => (((t.setIfInBounds 13 (.agg (plc i))).setIfInBounds 14 (.int .u64 ((M.gl a i : Nat) : Int))).setIfInBounds 4 (.pointer (some ⟨B, 0, none⟩))).setIfInBounds 5 (.int .u64 ((M.gl a i : Nat) : Int))) ?assign ?body ?done
  case own =>
    exact ((rw_own _ _ (fun _ => a)).from _).and (((rw_own _ _ (fun i => colP a i)).from _).and (((rw_own _ _ (fun _ => z25)).from _).and ((ownFrom_below (Nat.le_refl _) hW.size).and (((rw_own _ _ (fun _ => a)).from _).and (size_own _ _)))))
  case get =>
    exact fun i W hi => ⟨hi.1, hi.2.2.2.2.2⟩
  case assign =>
    intro l i W K hi hK
    clear hA hC hR hW hP0 hsz
    simp only [List.setIfInBounds_toArray, List.set_cons_zero, List.set_cons_succ] at hK
    gi_wp2
    exact hK
  case body =>
    intro l i B W hi hI hP hB
    obtain ⟨iA, iC, iR, iW, iP, i0⟩ := hI
    have cx := hP.x
    have hlP := hP.lt
    clear hA hC hR hW hP0 hsz
    have hx : px i < 5 := Nat.mod_lt _ (by omega)
    have cc := iC.cell (i := px i) (by rw [colP_length]; exact hx)
    have fc := iC.frozen (px i)
    have x1 := bits_xor_u64_nat _ _ (colP_lt HA.out i (px i)) (HA.out.2 i)
    have HS : Hid (colP a (i + 1) = (colP a i).set (px i) (M.gl (colP a i) (px i) ^^^ M.gl a i)) := colP_succ a i
    generalize px i = X at *
    have hX : (X : Int) < 5 := by omega
    simp only [List.setIfInBounds_toArray, List.set_cons_zero, List.set_cons_succ]
    gi_wp2
    have h2 := HH.out
    refine ⟨KeepsOthers.setCell _ _ _, iA.far (by simp) _, ?_, iR.far (by simp) _, iW.setCell (by simp; omega) _, iP.far (by simp; omega) _⟩
    rw [HS.out]; exact iC.set_ _ _
  case done =>
    intro D W hD hI hK
    obtain ⟨iA, iC, iR, iW, iP, i0⟩ := hI
    clear hA hC hR hW hP0
    gi_wp2_with (first | (refine wpListIn_load_st rfl _ _ rfl _ rfl _ _ 25 22 (iP.alloc _) Tryd.array25 Tryd.size25 HL.out ?_) | (refine ⟨trivial, ?_⟩; refine (lane_in _ _ _).mono ?_; rintro e w' ⟨rfl, rfl⟩))
    rw [lv_zero]
    obtain ⟨O, hO⟩ : ∃ O, O = W.heap.size := ⟨_, rfl⟩
    obtain ⟨W1, hW1⟩ : ∃ W1, (W.alloc (Obj.cells (lv z25) 23)).alloc (Obj.cells (lv a) 23) = W1 := ⟨_, rfl⟩
    have jA : Rw W1 (O + 1) 23 a := by rw [← hW1, hO]; exact Rw.at_ _ _ _ (by simp)
    have jO : Rw W1 O 23 z25 := by rw [← hW1, hO]; exact (Rw.at_ _ _ _ rfl).alloc _
    have jC : Rw W1 (h + 1 + 1) 45 (colP a 25) := by rw [← hW1]; exact (iC.alloc _).alloc _
    have jR : Rw W1 (h + 1) 23 z25 := by rw [← hW1]; exact (iR.alloc _).alloc _
    have jW : Below w.heap.size w W1 := by rw [← hW1]; exact (iW.alloc iW.size _).alloc (by have := iW.size; simp; omega) _
    have jD : W1.heap[D]? = some (.deferred (some [])) := by
      have hDl := (Array.getElem?_eq_some_iff.1 hK).1
      rw [← hW1]; exact (Below.heap_alloc _ _ _ (by simp; omega)).trans ((Below.heap_alloc _ _ _ hDl).trans hK)
    have jDl : D < O := by have := (Array.getElem?_eq_some_iff.1 hK).1; omega
    have jsz : W1.heap.size = O + 2 := by rw [← hW1, hO]; simp
    have hhO : h + 4 ≤ O := by omega
    rw [hW1, ← hO]
    clear hW1 hO iA iC iR iW iP i0 hK
    refine range_lanes (b := O + 1) HL.out rfl rfl
      (fun i W => Rw W (O + 1) 23 a ∧ Rw W O 23 (upto (mixF a) z25 i) ∧ Rw W (h + 1 + 1) 45 (colP a 25) ∧ Rw W (h + 1) 23 z25 ∧ Below w.heap.size w W ∧ W.heap[D]? = some (.deferred (some [])) ∧ W1.heap.size ≤ W.heap.size)
      ?own2 ?get2 ⟨jA, by rw [upto_zero _ z25_length]; exact jO, jC, jR, jW, jD, Nat.le_refl _⟩ (fun B i t => (((t.setIfInBounds 24 (.agg (plc i))).setIfInBounds 25 (.int .u64 ((M.gl a i : Nat) : Int))).setIfInBounds 7 (.pointer (some ⟨B, 0, none⟩))).setIfInBounds 8 (.int .u64 ((M.gl a i : Nat) : Int))) ?assign2 ?body2 ?done2
    case own2 =>
      exact ((rw_own _ _ (fun _ => a)).from _).and (((rw_own _ _ (fun i => upto (mixF a) z25 i)).from _).and (((rw_own _ _ (fun _ => colP a 25)).from _).and (((rw_own _ _ (fun _ => z25)).from _).and ((ownFrom_below (Nat.le_refl _) jW.size).and ((obj_own D _ _ (by omega)).and (size_own _ _))))))
    case get2 =>
      exact fun i W hi => ⟨hi.1, hi.2.2.2.2.2.2⟩
    case assign2 =>
      intro l i W K hi hK
      clear jA jO jC jR jW jD jDl jsz
      simp only [List.setIfInBounds_toArray, List.set_cons_zero, List.set_cons_succ] at hK
      gi_wp2
      exact hK
    case body2 =>
      intro l i B W hi hI hP hB
      obtain ⟨iA, iO, iC, iR, iW, iD, i0⟩ := hI
      have cx := hP.x
      have cy := hP.y
      have hlP := hP.lt
      have HJD := Lib.hid jDl
      clear jA jO jC jR jW jD jDl jsz
      have hx : px i < 5 := Nat.mod_lt _ (by omega)
      have hy : py i < 5 := by unfold py; omega
      have hp1 : px i % 5 + 5 * (py i % 5) = i := by unfold px py; omega
      have HX : px i = i % 5 := rfl
      obtain ⟨cb, hcb⟩ : ∃ v, W.cell? ⟨O, i, none⟩ = some v := ⟨_, iO.cell (by rw [upto_length]; exact hi)⟩
      have fb := iO.frozen i
      have hu := upto_succ (mixF a) z25 hi
      obtain ⟨d, hd⟩ : ∃ d, d = (i % 5 + 4) % 5 := ⟨_, rfl⟩
      obtain ⟨e, he⟩ : ∃ e, e = (i % 5 + 1) % 5 := ⟨_, rfl⟩
      have cd := iC.cell (i := d) (by rw [colP_length]; omega)
      have ce := iC.cell (i := e) (by rw [colP_length]; omega)
      rw [colP_all _ (by omega)] at cd ce
      have x1 := bits_xor_u64_nat _ _ (HA.out.2 i) (M.col_lt HA.out d)
      have x2 := bits_xor_u64_nat _ _ (M.xor_lt64 (HA.out.2 i) (M.col_lt HA.out d)) (M.rot_lt (M.col a e) 1)
      have HC : Hid (M.gl a i ^^^ M.col a d ^^^ M.rotN (M.col a e) 1 = mixF a i) := by
        show _ = mixF a i
        unfold mixF
        rw [hd, he]
      rw [← HX] at hd he
      generalize px i = X at *
      generalize py i = Y at *
      obtain ⟨X5, hX5⟩ : ∃ q, q = X + 5 := ⟨_, rfl⟩
      obtain ⟨X4, hX4⟩ : ∃ q, q = X + 4 := ⟨_, rfl⟩
      obtain ⟨X1, hX1⟩ : ∃ q, q = X + 1 := ⟨_, rfl⟩
      have w5 : IntKind.i64.wrap ((X : Int) + 5) = (X5 : Int) := by rw [IntWalk.i64_in _ (by omega)]; omega
      have w4 : IntKind.i64.wrap ((X5 : Int) - 1) = (X4 : Int) := by rw [IntWalk.i64_in _ (by omega)]; omega
      have w1 : IntKind.i64.wrap ((X : Int) + 1) = (X1 : Int) := by rw [IntWalk.i64_in _ (by omega)]; omega
      have m4 : ((X4 : Int)).tmod 5 = (d : Int) := by rw [Int.tmod_eq_emod_of_nonneg (by omega)]; omega
      have m1 : ((X1 : Int)).tmod 5 = (e : Int) := by rw [Int.tmod_eq_emod_of_nonneg (by omega)]; omega
      have hd5 : (d : Int) < 5 := by omega
      have he5 : (e : Int) < 5 := by omega
      have hii : (i : Int) < 25 := by omega
      have a1 := fun W => at_any X Y i W (by omega) (by omega) hp1
      have a2 : ∀ W, Calls Tryd.prog 29 #[.int .u64 ((M.col a e : Nat) : Int), .int .i64 1] W fun e' w' => e' = .returned (.int .u64 ((M.rotN (M.col a e) 1 : Nat) : Int)) ∧ W = w' := fun W => rotl (M.col a e) 1 W (M.col_lt HA.out e) (by omega)
      have HS := Lib.hid hu
      clear hx hy hp1 hX5 hX4 hX1 hd he HX hu
      simp only [List.setIfInBounds_toArray, List.set_cons_zero, List.set_cons_succ]
      gi_wp2
      refine round_still mixed (by kernel_rfl) (by kernel_rfl) ?_
      repeat still_step
      refine wpStill_nil ?_
      change Exit.then _ _ _ _ W.drew
      gi_wp2_with (first | (refine ⟨trivial, ?_⟩; (with_reducible refine (CallsIn.inRound l (callsIn_wide.2 (a1 _))).mono ?_); rintro e w' ⟨rfl, rfl⟩) | (refine ⟨trivial, ?_⟩; (with_reducible refine (CallsIn.inRound l (callsIn_wide.2 (a2 _))).mono ?_); rintro e w' ⟨rfl, rfl⟩))
      have h1 := HJD.out
      have h2 := HH.out
      have h3 := iW.size
      rw [HC.out]
      refine ⟨(KeepsOthers.setCell _ _ _).trans (KeepsOthers.drew _), (iA.far (by simp) _).drew, ?_, (iC.far (by simp; omega) _).drew, (iR.far (by simp; omega) _).drew, (iW.setCell (by simp; omega) _).drew, obj_far iD (by simp; omega) _⟩
      rw [← HS.out]; exact (iO.set_ _ _).drew
    case done2 =>
      intro D2 W hD2 hI hK
      obtain ⟨iA, iO, iC, iR, iW, iD, i0⟩ := hI
      clear jA jO jC jR jW jD
      rw [upto_all] at iO
      replace iO : Rw W O 23 (M.mixL a) := iO
      have hDR : D ≠ h + 1 := by omega
      have hDR2 : D2 ≠ h + 1 := by omega
      have hDD : D ≠ D2 := by omega
      have hsD : w.heap.size ≤ D := by have := HH.out; omega
      have hsD2 : w.heap.size ≤ D2 := by have := HH.out; omega
      have hh := HH.out
      have hr1 : h + 1 ≠ D := by omega
      have hr2 : h + 1 ≠ D2 := by omega
      have HH2 := Lib.hid hh
      clear hh hD2 hD jDl jsz i0 hhO hsz
      gi_wp2_with (first | (refine wpListIn_load_st rfl _ _ rfl _ rfl _ _ 25 22 iO Tryd.array25 Tryd.size25 (M.of_length _) ?_) | (refine wpListIn_store_st rfl _ _ _ rfl _ _ rfl rfl _ _ 25 iR Tryd.size25 (M.of_length _) z25_length ?_))
      have hK2 : (W.setRow (h + 1) (lv (M.mixL a))).heap[D2]? = some (.deferred (some [])) := (setRow_other W _ D2 _ hDR2).trans hK
      have hK1 : ((W.setRow (h + 1) (lv (M.mixL a))).putObj D2 (.deferred none)).heap[D]? = some (.deferred (some [])) := (World.putObj_heap_other hDD).trans ((setRow_other W _ D _ hDR).trans iD)
      refine ⟨by simp, .inl ⟨_, _, rfl, run_takeDeferred hK2, by simp, .inl ⟨_, _, rfl, run_takeDeferred hK1, ?_⟩⟩⟩
      exact ⟨st (M.mixL a), res_row rfl _ _ _ _ _ rfl (((iR.row _).put hr2 _).put hr1 _) (M.of_length _), rfl, ((below_setRow iW (by have := HH2.out; omega) _).trans (belowK_b (w := w) (Nat.le_refl _) _ D2 _ _ hsD2 hK2 rfl rfl)).trans (belowK_b (w := w) (Nat.le_refl _) _ D _ _ hsD hK1 rfl rfl)⟩
end Go.Proofs.YtdfcfpbofomdcaaDoor
