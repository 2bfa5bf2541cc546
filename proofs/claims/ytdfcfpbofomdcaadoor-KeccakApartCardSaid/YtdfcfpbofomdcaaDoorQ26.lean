/- The walk of KeccakApart. -/
import Derived.Test.YtdfcfpbofomdcaaDoorQ25
namespace Go.Proofs.YtdfcfpbofomdcaaDoor
open Go Go.RowKit

set_option maxRecDepth 100000 in
set_option maxHeartbeats 4000000 in
theorem kapart (a b : List Nat) (w : World) (ha : M.Lanes a) (hb : M.Lanes b) (hT : Tab w) :
    Calls Tryd.prog 5 #[st a, st b] w fun e w' => e = .returned (.bool true) ∧ Below w.heap.size w w' := by
  obtain ⟨q, hq⟩ : ∃ q, q = decide (a = b) := ⟨_, rfl⟩
  have hq2 : decide (M.permL a = M.permL b) = q := by
    rw [hq]
    by_cases h : a = b
    · subst h; simp
    · have : ¬ M.permL a = M.permL b := fun h' => h (M.perm_inj ha hb h')
      simp [h, this]
  have he1 : ∀ w, (Op.equalIn 10000 23 (st (M.permL a)) (st (M.permL b))).run Tryd.prog w = .ok q w := fun w => by rw [eq_lanes (M.perm_lanes ha).1 (M.perm_lanes hb).1, hq2]
  have he2 : ∀ w, (Op.equalIn 10000 23 (st a) (st b)).run Tryd.prog w = .ok q w := fun w => by rw [eq_lanes ha.1 hb.1, hq]
  have HA := Lib.hid ha
  have HB := Lib.hid hb
  have HT := Lib.hid hT
  clear ha hb hT hq hq2
  go_enter Tryd.func5, Tryd.ntmps5
  go_wp2_with fail
  have hR := (Rw.new w 23 a).alloc (Obj.cells (lv b) 23)
  have hB : Rw ((w.alloc (Obj.cells (lv a) 23)).alloc (Obj.cells (lv b) 23)) (w.heap.size + 1) 23 b := Rw.at_ _ _ _ (by simp)
  have hW : Below w.heap.size w ((w.alloc (Obj.cells (lv a) 23)).alloc (Obj.cells (lv b) 23)) := ((Below.refl _ _).alloc (Nat.le_refl _) _).alloc (by simp) _
  generalize (w.alloc (Obj.cells (lv a) 23)).alloc (Obj.cells (lv b) 23) = w1 at *
  refine (works_true _ (HT.out.from hW)).mono ?_
  rintro e w2 ⟨rfl, hb2⟩
  replace hR := hR.keep hb2
  replace hB := hB.keep hb2
  replace hW := hW.trans (hb2.mono hW.size)
  clear hb2
  go_wp2_with fail
  have mixed : Tryd.prog.follows .mixedOrders = true := by kernel_rfl
  refine region_quiet (C := CL w w.heap.size a (w.heap.size + 1) b) mixed (by kernel_rfl) ⟨hR.drew, hB.drew, hW.drew⟩ ?_
  refine quiet_val (.bool true) (by rfl) (fun W _ => by go_simp) ?_
  simp only [Act.put, List.setIfInBounds_toArray, List.set_cons_zero, List.set_cons_succ]
  refine quiet_val (.bool true) (by rfl) (fun W _ => by go_simp) ?_
  simp only [Act.put, List.setIfInBounds_toArray, List.set_cons_zero, List.set_cons_succ]
  refine quiet_val (st a) (by rfl) (fun W hC => exec_load_st _ _ rfl _ rfl _ _ 25 22 hC.ra Tryd.array25 Tryd.size25 HA.out.1) ?_
  simp only [Act.put, List.setIfInBounds_toArray, List.set_cons_zero, List.set_cons_succ]
  refine quiet_call (st (M.permL a)) 10 #[st a] (by rfl) (fun W _ => by go_simp) (fun W hC => (kperm _ W HA.out (HT.out.from hC.low)).mono fun _ _ h => ⟨h.1, hC.keep h.2⟩) ?_
  simp only [Act.put, List.setIfInBounds_toArray, List.set_cons_zero, List.set_cons_succ]
  refine quiet_val (st b) (by rfl) (fun W hC => exec_load_st _ _ rfl _ rfl _ _ 25 22 hC.rb Tryd.array25 Tryd.size25 HB.out.1) ?_
  simp only [Act.put, List.setIfInBounds_toArray, List.set_cons_zero, List.set_cons_succ]
  refine quiet_call (st (M.permL b)) 10 #[st b] (by rfl) (fun W _ => by go_simp) (fun W hC => (kperm _ W HB.out (HT.out.from hC.low)).mono fun _ _ h => ⟨h.1, hC.keep h.2⟩) ?_
  simp only [Act.put, List.setIfInBounds_toArray, List.set_cons_zero, List.set_cons_succ]
  refine quiet_val (.bool q) (by rfl) (fun W _ => by go_simp) ?_
  simp only [Act.put, List.setIfInBounds_toArray, List.set_cons_zero, List.set_cons_succ]
  refine quiet_val (st a) (by rfl) (fun W hC => exec_load_st _ _ rfl _ rfl _ _ 25 22 hC.ra Tryd.array25 Tryd.size25 HA.out.1) ?_
  simp only [Act.put, List.setIfInBounds_toArray, List.set_cons_zero, List.set_cons_succ]
  refine quiet_val (st b) (by rfl) (fun W hC => exec_load_st _ _ rfl _ rfl _ _ 25 22 hC.rb Tryd.array25 Tryd.size25 HB.out.1) ?_
  simp only [Act.put, List.setIfInBounds_toArray, List.set_cons_zero, List.set_cons_succ]
  refine quiet_val (.bool q) (by rfl) (fun W _ => by go_simp) ?_
  simp only [Act.put, List.setIfInBounds_toArray, List.set_cons_zero, List.set_cons_succ]
  refine quiet_val (.bool true) (by rfl) (fun W _ => by go_simp) ?_
  simp only [Act.put, List.setIfInBounds_toArray, List.set_cons_zero, List.set_cons_succ]
  refine quiet_val (.bool true) (by rfl) (fun W _ => by go_simp) ?_
  simp only [Act.put, List.setIfInBounds_toArray, List.set_cons_zero, List.set_cons_succ]
  refine quiet_val (.bool true) (by rfl) (fun W _ => by go_simp) ?_
  simp only [Act.put, List.setIfInBounds_toArray, List.set_cons_zero, List.set_cons_succ]
  refine wpQuiet_nil ?_
  intro w5 hC
  replace hW := hC.low
  clear hC hR hB he1 he2
  go_wp2_with fail
  go_ret
  exact ⟨rfl, hW⟩
end Go.Proofs.YtdfcfpbofomdcaaDoor
