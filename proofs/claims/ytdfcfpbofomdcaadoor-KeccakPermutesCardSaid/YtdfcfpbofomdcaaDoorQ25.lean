/- The walk of KeccakPermutes. -/
import Derived.Test.YtdfcfpbofomdcaaDoorQ7
import Derived.Test.YtdfcfpbofomdcaaDoorQ23
import Derived.Test.YtdfcfpbofomdcaaDoorQ24
namespace Go.Proofs.YtdfcfpbofomdcaaDoor
open Go Go.RowKit

/-- What every operation of such a region keeps. -/
structure CL (w : World) (A : Nat) (a : List Nat) (B : Nat) (b : List Nat) (W : World) : Prop where
  ra : Rw W A 23 a
  rb : Rw W B 23 b
  low : Below w.heap.size w W
theorem CL.keep {w : World} {A B : Nat} {a b : List Nat} {W W' : World} (h : CL w A a B b W) (hb : Below W.heap.size W W') : CL w A a B b W' :=
  ⟨h.ra.keep hb, h.rb.keep hb, h.low.trans (hb.mono h.low.size)⟩

set_option maxRecDepth 100000 in
set_option maxHeartbeats 4000000 in
theorem permutes (a : List Nat) (w : World) (ha : M.Lanes a) (hT : Tab w) :
    Calls Tryd.prog 3 #[st a] w fun e w' => e = .returned (.bool true) ∧ Below w.heap.size w w' := by
  have HA := Lib.hid ha
  have HT := Lib.hid hT
  have HL := Lib.hid ha.1
  have HP := Lib.hid (M.perm_lanes ha).1
  clear ha hT
  go_enter Tryd.func3, Tryd.ntmps3
  go_wp2_with fail
  have hR := Rw.new w 23 a
  have hW : Below w.heap.size w (w.alloc (Obj.cells (lv a) 23)) := (Below.refl _ _).alloc (Nat.le_refl _) _
  generalize w.alloc (Obj.cells (lv a) 23) = w1 at *
  refine (works_true _ (HT.out.from hW)).mono ?_
  rintro e w2 ⟨rfl, hb2⟩
  replace hR := hR.keep hb2
  replace hW := hW.trans (hb2.mono hW.size)
  clear hb2
  go_wp2_with (refine wpList_load_st rfl _ _ rfl _ rfl _ _ 25 22 hR Tryd.array25 Tryd.size25 HL.out ?_)
  refine (rperm a _ HA.out).mono ?_
  rintro e w3 ⟨rfl, hb3⟩
  replace hR := hR.keep hb3
  replace hW := hW.trans (hb3.mono hW.size)
  clear hb3
  go_wp2_with (refine wpList_store_st rfl _ _ _ rfl _ _ rfl rfl _ _ 25 (Rw.new _ 23 z25) Tryd.size25 HP.out z25_length ?_; rw [World.setRow_alloc_new])
  have hB := Rw.new w3 23 (M.permL a)
  replace hR := hR.alloc (Obj.cells (lv (M.permL a)) 23)
  replace hW := hW.alloc hW.size (Obj.cells (lv (M.permL a)) 23)
  generalize w3.alloc (Obj.cells (lv (M.permL a)) 23) = w4 at *
  generalize w3.heap.size = B at *
  have mixed : Tryd.prog.follows .mixedOrders = true := by kernel_rfl
  have he : ∀ w, (Op.equalIn 10000 23 (st (M.permL a)) (st (M.permL a))).run Tryd.prog w = .ok true w := fun w => by rw [eq_lanes HP.out HP.out, decide_eq_true rfl]
  simp only [Act.put]
  refine region_quiet (C := CL w w.heap.size a B (M.permL a)) mixed (by kernel_rfl) ⟨hR.drew, hB.drew, hW.drew⟩ ?_
  refine quiet_val (.bool true) (by rfl) (fun W _ => by go_simp) ?_
  simp only [Act.put, List.setIfInBounds_toArray, List.set_cons_zero, List.set_cons_succ]
  refine quiet_val (.bool true) (by rfl) (fun W _ => by go_simp) ?_
  simp only [Act.put, List.setIfInBounds_toArray, List.set_cons_zero, List.set_cons_succ]
  refine quiet_val (st a) (by rfl) (fun W hC => exec_load_st _ _ rfl _ rfl _ _ 25 22 hC.ra Tryd.array25 Tryd.size25 HL.out) ?_
  simp only [Act.put, List.setIfInBounds_toArray, List.set_cons_zero, List.set_cons_succ]
  refine quiet_call (st (M.permL a)) 10 #[st a] (by rfl) (fun W _ => by go_simp) (fun W hC => (kperm a W HA.out (HT.out.from hC.low)).mono fun _ _ h => ⟨h.1, hC.keep h.2⟩) ?_
  simp only [Act.put, List.setIfInBounds_toArray, List.set_cons_zero, List.set_cons_succ]
  refine quiet_val (st (M.permL a)) (by rfl) (fun W hC => exec_load_st _ _ rfl _ rfl _ _ 25 22 hC.rb Tryd.array25 Tryd.size25 HP.out) ?_
  simp only [Act.put, List.setIfInBounds_toArray, List.set_cons_zero, List.set_cons_succ]
  refine quiet_val (.bool true) (by rfl) (fun W _ => by go_simp) ?_
  simp only [Act.put, List.setIfInBounds_toArray, List.set_cons_zero, List.set_cons_succ]
  refine quiet_val (.bool true) (by rfl) (fun W _ => by go_simp) ?_
  simp only [Act.put, List.setIfInBounds_toArray, List.set_cons_zero, List.set_cons_succ]
  refine quiet_val (.bool true) (by rfl) (fun W _ => by go_simp) ?_
  simp only [Act.put, List.setIfInBounds_toArray, List.set_cons_zero, List.set_cons_succ]
  refine wpQuiet_nil ?_
  intro w5 hC
  replace hW := hC.low
  clear hC hR hB he
  go_wp2_with fail
  go_ret
  exact ⟨rfl, hW⟩
end Go.Proofs.YtdfcfpbofomdcaaDoor
