/- WordMany: the walk: three words come to the same, whichever two are added first; or are too great either way. -/
import Derived.Test.YtcnngpmganhjoabDoorK2
namespace Go.Proofs.YtcnngpmganhjoabDoor
open Go Go.RowKit

theorem add_zero_l (C : Nat) (w : World) (hC : M.In C) : Calls Tryd.prog 5 #[wd 0 0 0 0, wn C] w fun e w' => e = .returned (.tuple #[wn C, .int .i64 0]) ∧ Below w.heap.size w w' := by
  have h := add_no 0 C w (in_small _ (by omega)) hC (by rw [Nat.zero_add]; exact hC)
  rw [Nat.zero_add, wn_small 0 (by omega)] at h
  exact h
theorem add_zero_r (A : Nat) (w : World) (hA : M.In A) : Calls Tryd.prog 5 #[wn A, wd 0 0 0 0] w fun e w' => e = .returned (.tuple #[wn A, .int .i64 0]) ∧ Below w.heap.size w w' := by
  have h := add_no A 0 w hA (in_small _ (by omega)) hA
  rw [wn_small 0 (by omega)] at h
  exact h

set_option maxRecDepth 100000 in
set_option maxHeartbeats 4000000 in
theorem many_in (A B C : Nat) (w : World) (hA : Hid (M.In A)) (hB : Hid (M.In B)) (hC : Hid (M.In C)) (h1 : Hid (M.In (A + B))) (h2 : Hid (M.In (A + B + C))) (h3 : Hid (M.In (B + C))) (h4 : Hid (M.In (A + (B + C)))) :
    Calls Tryd.prog 3 #[wn A, wn B, wn C] w fun e w' => e = .returned (.bool true) ∧ Below w.heap.size w w' := by
  go_enter Tryd.func3, Tryd.ntmps3
  go_wp2_with fail
  have LW : Below w.heap.size w (((w.alloc (.cells #[.int .u64 (M.pt 0 A), .int .u64 (M.pt 1 A), .int .u64 (M.pt 2 A), .int .u64 (M.pt 3 A)] 24)).alloc (.cells #[.int .u64 (M.pt 0 B), .int .u64 (M.pt 1 B), .int .u64 (M.pt 2 B), .int .u64 (M.pt 3 B)] 24)).alloc (.cells #[.int .u64 (M.pt 0 C), .int .u64 (M.pt 1 C), .int .u64 (M.pt 2 C), .int .u64 (M.pt 3 C)] 24)) := by
    (repeat (first | exact Below.refl _ _ | refine Below.drew ?_ | refine Below.alloc ?_ (by first | omega | (simp; omega) | simp) _ | refine Below.setCell ?_ (by first | omega | (simp; omega) | simp) _))
  have Hpa : W4 (((w.alloc (.cells #[.int .u64 (M.pt 0 A), .int .u64 (M.pt 1 A), .int .u64 (M.pt 2 A), .int .u64 (M.pt 3 A)] 24)).alloc (.cells #[.int .u64 (M.pt 0 B), .int .u64 (M.pt 1 B), .int .u64 (M.pt 2 B), .int .u64 (M.pt 3 B)] 24)).alloc (.cells #[.int .u64 (M.pt 0 C), .int .u64 (M.pt 1 C), .int .u64 (M.pt 2 C), .int .u64 (M.pt 3 C)] 24)) (w.heap.size) (M.pt 0 A) (M.pt 1 A) (M.pt 2 A) (M.pt 3 A) := ⟨by simp [go_sem], by simp [go_sem], by simp [go_sem], by simp [go_sem], by simp <;> omega⟩
  have Hpb : W4 (((w.alloc (.cells #[.int .u64 (M.pt 0 A), .int .u64 (M.pt 1 A), .int .u64 (M.pt 2 A), .int .u64 (M.pt 3 A)] 24)).alloc (.cells #[.int .u64 (M.pt 0 B), .int .u64 (M.pt 1 B), .int .u64 (M.pt 2 B), .int .u64 (M.pt 3 B)] 24)).alloc (.cells #[.int .u64 (M.pt 0 C), .int .u64 (M.pt 1 C), .int .u64 (M.pt 2 C), .int .u64 (M.pt 3 C)] 24)) (w.heap.size + 1) (M.pt 0 B) (M.pt 1 B) (M.pt 2 B) (M.pt 3 B) := ⟨by simp [go_sem], by simp [go_sem], by simp [go_sem], by simp [go_sem], by simp <;> omega⟩
  have Hpc : W4 (((w.alloc (.cells #[.int .u64 (M.pt 0 A), .int .u64 (M.pt 1 A), .int .u64 (M.pt 2 A), .int .u64 (M.pt 3 A)] 24)).alloc (.cells #[.int .u64 (M.pt 0 B), .int .u64 (M.pt 1 B), .int .u64 (M.pt 2 B), .int .u64 (M.pt 3 B)] 24)).alloc (.cells #[.int .u64 (M.pt 0 C), .int .u64 (M.pt 1 C), .int .u64 (M.pt 2 C), .int .u64 (M.pt 3 C)] 24)) (w.heap.size + 1 + 1) (M.pt 0 C) (M.pt 1 C) (M.pt 2 C) (M.pt 3 C) := ⟨by simp [go_sem], by simp [go_sem], by simp [go_sem], by simp [go_sem], by simp <;> omega⟩
  generalize (((w.alloc (.cells #[.int .u64 (M.pt 0 A), .int .u64 (M.pt 1 A), .int .u64 (M.pt 2 A), .int .u64 (M.pt 3 A)] 24)).alloc (.cells #[.int .u64 (M.pt 0 B), .int .u64 (M.pt 1 B), .int .u64 (M.pt 2 B), .int .u64 (M.pt 3 B)] 24)).alloc (.cells #[.int .u64 (M.pt 0 C), .int .u64 (M.pt 1 C), .int .u64 (M.pt 2 C), .int .u64 (M.pt 3 C)] 24)) = W0 at LW Hpa Hpb Hpc ⊢
  obtain ⟨pa0, pa1, pa2, pa3, lpa⟩ := Hpa
  obtain ⟨pb0, pb1, pb2, pb3, lpb⟩ := Hpb
  obtain ⟨pc0, pc1, pc2, pc3, lpc⟩ := Hpc
  refine (works_any _).mono ?_
  rintro e w1 ⟨rfl, hb⟩
  have S : Below W0.heap.size W0 w1 := hb
  have Hpa := W4.below ⟨pa0, pa1, pa2, pa3, lpa⟩ S
  have Hpb := W4.below ⟨pb0, pb1, pb2, pb3, lpb⟩ S
  have Hpc := W4.below ⟨pc0, pc1, pc2, pc3, lpc⟩ S
  replace LW := LW.trans (S.mono LW.size)
  clear S hb pa0 pa1 pa2 pa3 lpa pb0 pb1 pb2 pb3 lpb pc0 pc1 pc2 pc3 lpc
  obtain ⟨pa0, pa1, pa2, pa3, lpa⟩ := Hpa
  obtain ⟨pb0, pb1, pb2, pb3, lpb⟩ := Hpb
  obtain ⟨pc0, pc1, pc2, pc3, lpc⟩ := Hpc
  go_wp2_with fail
  refine (add_no A B _ hA.out hB.out h1.out).mono ?_
  rintro e w2 ⟨rfl, hb⟩
  have S : Below w1.heap.size w1 w2 := hb
  have Hpa := W4.below ⟨pa0, pa1, pa2, pa3, lpa⟩ S
  have Hpb := W4.below ⟨pb0, pb1, pb2, pb3, lpb⟩ S
  have Hpc := W4.below ⟨pc0, pc1, pc2, pc3, lpc⟩ S
  replace LW := LW.trans (S.mono LW.size)
  clear S hb pa0 pa1 pa2 pa3 lpa pb0 pb1 pb2 pb3 lpb pc0 pc1 pc2 pc3 lpc
  obtain ⟨pa0, pa1, pa2, pa3, lpa⟩ := Hpa
  obtain ⟨pb0, pb1, pb2, pb3, lpb⟩ := Hpb
  obtain ⟨pc0, pc1, pc2, pc3, lpc⟩ := Hpc
  go_wp2_with fail
  refine (add_no (A + B) C _ h1.out hC.out h2.out).mono ?_
  rintro e w3 ⟨rfl, hb⟩
  have S : Below w2.heap.size w2 w3 := Below.trans ((Below.refl _ w2).alloc (Nat.le_refl _) _) (hb.mono (by simp))
  have Hpa := W4.below ⟨pa0, pa1, pa2, pa3, lpa⟩ S
  have Hpb := W4.below ⟨pb0, pb1, pb2, pb3, lpb⟩ S
  have Hpc := W4.below ⟨pc0, pc1, pc2, pc3, lpc⟩ S
  have Hq2 := (W4.new w2 (M.pt 0 (A + B)) (M.pt 1 (A + B)) (M.pt 2 (A + B)) (M.pt 3 (A + B)) 24).below hb
  replace LW := LW.trans (S.mono LW.size)
  clear S hb pa0 pa1 pa2 pa3 lpa pb0 pb1 pb2 pb3 lpb pc0 pc1 pc2 pc3 lpc
  obtain ⟨pa0, pa1, pa2, pa3, lpa⟩ := Hpa
  obtain ⟨pb0, pb1, pb2, pb3, lpb⟩ := Hpb
  obtain ⟨pc0, pc1, pc2, pc3, lpc⟩ := Hpc
  obtain ⟨q20, q21, q22, q23, lq2⟩ := Hq2
  generalize w2.heap.size = bq2 at q20 q21 q22 q23 lq2 ⊢
  go_wp2_with fail
  refine (add_no B C _ hB.out hC.out h3.out).mono ?_
  rintro e w4 ⟨rfl, hb⟩
  have S : Below w3.heap.size w3 w4 := Below.trans ((Below.refl _ w3).alloc (Nat.le_refl _) _) (hb.mono (by simp))
  have Hpa := W4.below ⟨pa0, pa1, pa2, pa3, lpa⟩ S
  have Hpb := W4.below ⟨pb0, pb1, pb2, pb3, lpb⟩ S
  have Hpc := W4.below ⟨pc0, pc1, pc2, pc3, lpc⟩ S
  have Hq2 := W4.below ⟨q20, q21, q22, q23, lq2⟩ S
  have Hq3 := (W4.new w3 (M.pt 0 (A + B + C)) (M.pt 1 (A + B + C)) (M.pt 2 (A + B + C)) (M.pt 3 (A + B + C)) 24).below hb
  replace LW := LW.trans (S.mono LW.size)
  clear S hb pa0 pa1 pa2 pa3 lpa pb0 pb1 pb2 pb3 lpb pc0 pc1 pc2 pc3 lpc q20 q21 q22 q23 lq2
  obtain ⟨pa0, pa1, pa2, pa3, lpa⟩ := Hpa
  obtain ⟨pb0, pb1, pb2, pb3, lpb⟩ := Hpb
  obtain ⟨pc0, pc1, pc2, pc3, lpc⟩ := Hpc
  obtain ⟨q20, q21, q22, q23, lq2⟩ := Hq2
  obtain ⟨q30, q31, q32, q33, lq3⟩ := Hq3
  generalize w3.heap.size = bq3 at q30 q31 q32 q33 lq3 ⊢
  go_wp2_with fail
  refine (add_no A (B + C) _ hA.out h3.out h4.out).mono ?_
  rintro e w5 ⟨rfl, hb⟩
  have S : Below w4.heap.size w4 w5 := Below.trans ((Below.refl _ w4).alloc (Nat.le_refl _) _) (hb.mono (by simp))
  have Hpa := W4.below ⟨pa0, pa1, pa2, pa3, lpa⟩ S
  have Hpb := W4.below ⟨pb0, pb1, pb2, pb3, lpb⟩ S
  have Hpc := W4.below ⟨pc0, pc1, pc2, pc3, lpc⟩ S
  have Hq2 := W4.below ⟨q20, q21, q22, q23, lq2⟩ S
  have Hq3 := W4.below ⟨q30, q31, q32, q33, lq3⟩ S
  have Hq4 := (W4.new w4 (M.pt 0 (B + C)) (M.pt 1 (B + C)) (M.pt 2 (B + C)) (M.pt 3 (B + C)) 24).below hb
  replace LW := LW.trans (S.mono LW.size)
  clear S hb pa0 pa1 pa2 pa3 lpa pb0 pb1 pb2 pb3 lpb pc0 pc1 pc2 pc3 lpc q20 q21 q22 q23 lq2 q30 q31 q32 q33 lq3
  obtain ⟨pa0, pa1, pa2, pa3, lpa⟩ := Hpa
  obtain ⟨pb0, pb1, pb2, pb3, lpb⟩ := Hpb
  obtain ⟨pc0, pc1, pc2, pc3, lpc⟩ := Hpc
  obtain ⟨q20, q21, q22, q23, lq2⟩ := Hq2
  obtain ⟨q30, q31, q32, q33, lq3⟩ := Hq3
  obtain ⟨q40, q41, q42, q43, lq4⟩ := Hq4
  generalize w4.heap.size = bq4 at q40 q41 q42 q43 lq4 ⊢
  have eqn : ∀ w : World, (Op.equalIn 10000 24 (wn (A + B + C)) (wn (A + (B + C)))).run Tryd.prog w = .ok true w := fun w => by rw [eqN h2.out h4.out, decide_eq_true (Nat.add_assoc A B C)]
  go_wp2_with fail
  go_ret
  exact ⟨rfl, LW.alloc LW.size _⟩

set_option maxRecDepth 100000 in
set_option maxHeartbeats 4000000 in
theorem many_a (A B C : Nat) (w : World) (hA : Hid (M.In A)) (hB : Hid (M.In B)) (hC : Hid (M.In C)) (h1 : Hid (M.In (A + B))) (h2 : Hid (¬ M.In (A + B + C))) (h3 : Hid (M.In (B + C))) (h4 : Hid (¬ M.In (A + (B + C)))) :
    Calls Tryd.prog 3 #[wn A, wn B, wn C] w fun e w' => e = .returned (.bool true) ∧ Below w.heap.size w w' := by
  go_enter Tryd.func3, Tryd.ntmps3
  go_wp2_with fail
  have LW : Below w.heap.size w (((w.alloc (.cells #[.int .u64 (M.pt 0 A), .int .u64 (M.pt 1 A), .int .u64 (M.pt 2 A), .int .u64 (M.pt 3 A)] 24)).alloc (.cells #[.int .u64 (M.pt 0 B), .int .u64 (M.pt 1 B), .int .u64 (M.pt 2 B), .int .u64 (M.pt 3 B)] 24)).alloc (.cells #[.int .u64 (M.pt 0 C), .int .u64 (M.pt 1 C), .int .u64 (M.pt 2 C), .int .u64 (M.pt 3 C)] 24)) := by
    (repeat (first | exact Below.refl _ _ | refine Below.drew ?_ | refine Below.alloc ?_ (by first | omega | (simp; omega) | simp) _ | refine Below.setCell ?_ (by first | omega | (simp; omega) | simp) _))
  have Hpa : W4 (((w.alloc (.cells #[.int .u64 (M.pt 0 A), .int .u64 (M.pt 1 A), .int .u64 (M.pt 2 A), .int .u64 (M.pt 3 A)] 24)).alloc (.cells #[.int .u64 (M.pt 0 B), .int .u64 (M.pt 1 B), .int .u64 (M.pt 2 B), .int .u64 (M.pt 3 B)] 24)).alloc (.cells #[.int .u64 (M.pt 0 C), .int .u64 (M.pt 1 C), .int .u64 (M.pt 2 C), .int .u64 (M.pt 3 C)] 24)) (w.heap.size) (M.pt 0 A) (M.pt 1 A) (M.pt 2 A) (M.pt 3 A) := ⟨by simp [go_sem], by simp [go_sem], by simp [go_sem], by simp [go_sem], by simp <;> omega⟩
  have Hpb : W4 (((w.alloc (.cells #[.int .u64 (M.pt 0 A), .int .u64 (M.pt 1 A), .int .u64 (M.pt 2 A), .int .u64 (M.pt 3 A)] 24)).alloc (.cells #[.int .u64 (M.pt 0 B), .int .u64 (M.pt 1 B), .int .u64 (M.pt 2 B), .int .u64 (M.pt 3 B)] 24)).alloc (.cells #[.int .u64 (M.pt 0 C), .int .u64 (M.pt 1 C), .int .u64 (M.pt 2 C), .int .u64 (M.pt 3 C)] 24)) (w.heap.size + 1) (M.pt 0 B) (M.pt 1 B) (M.pt 2 B) (M.pt 3 B) := ⟨by simp [go_sem], by simp [go_sem], by simp [go_sem], by simp [go_sem], by simp <;> omega⟩
  have Hpc : W4 (((w.alloc (.cells #[.int .u64 (M.pt 0 A), .int .u64 (M.pt 1 A), .int .u64 (M.pt 2 A), .int .u64 (M.pt 3 A)] 24)).alloc (.cells #[.int .u64 (M.pt 0 B), .int .u64 (M.pt 1 B), .int .u64 (M.pt 2 B), .int .u64 (M.pt 3 B)] 24)).alloc (.cells #[.int .u64 (M.pt 0 C), .int .u64 (M.pt 1 C), .int .u64 (M.pt 2 C), .int .u64 (M.pt 3 C)] 24)) (w.heap.size + 1 + 1) (M.pt 0 C) (M.pt 1 C) (M.pt 2 C) (M.pt 3 C) := ⟨by simp [go_sem], by simp [go_sem], by simp [go_sem], by simp [go_sem], by simp <;> omega⟩
  generalize (((w.alloc (.cells #[.int .u64 (M.pt 0 A), .int .u64 (M.pt 1 A), .int .u64 (M.pt 2 A), .int .u64 (M.pt 3 A)] 24)).alloc (.cells #[.int .u64 (M.pt 0 B), .int .u64 (M.pt 1 B), .int .u64 (M.pt 2 B), .int .u64 (M.pt 3 B)] 24)).alloc (.cells #[.int .u64 (M.pt 0 C), .int .u64 (M.pt 1 C), .int .u64 (M.pt 2 C), .int .u64 (M.pt 3 C)] 24)) = W0 at LW Hpa Hpb Hpc ⊢
  obtain ⟨pa0, pa1, pa2, pa3, lpa⟩ := Hpa
  obtain ⟨pb0, pb1, pb2, pb3, lpb⟩ := Hpb
  obtain ⟨pc0, pc1, pc2, pc3, lpc⟩ := Hpc
  refine (works_any _).mono ?_
  rintro e w1 ⟨rfl, hb⟩
  have S : Below W0.heap.size W0 w1 := hb
  have Hpa := W4.below ⟨pa0, pa1, pa2, pa3, lpa⟩ S
  have Hpb := W4.below ⟨pb0, pb1, pb2, pb3, lpb⟩ S
  have Hpc := W4.below ⟨pc0, pc1, pc2, pc3, lpc⟩ S
  replace LW := LW.trans (S.mono LW.size)
  clear S hb pa0 pa1 pa2 pa3 lpa pb0 pb1 pb2 pb3 lpb pc0 pc1 pc2 pc3 lpc
  obtain ⟨pa0, pa1, pa2, pa3, lpa⟩ := Hpa
  obtain ⟨pb0, pb1, pb2, pb3, lpb⟩ := Hpb
  obtain ⟨pc0, pc1, pc2, pc3, lpc⟩ := Hpc
  go_wp2_with fail
  refine (add_no A B _ hA.out hB.out h1.out).mono ?_
  rintro e w2 ⟨rfl, hb⟩
  have S : Below w1.heap.size w1 w2 := hb
  have Hpa := W4.below ⟨pa0, pa1, pa2, pa3, lpa⟩ S
  have Hpb := W4.below ⟨pb0, pb1, pb2, pb3, lpb⟩ S
  have Hpc := W4.below ⟨pc0, pc1, pc2, pc3, lpc⟩ S
  replace LW := LW.trans (S.mono LW.size)
  clear S hb pa0 pa1 pa2 pa3 lpa pb0 pb1 pb2 pb3 lpb pc0 pc1 pc2 pc3 lpc
  obtain ⟨pa0, pa1, pa2, pa3, lpa⟩ := Hpa
  obtain ⟨pb0, pb1, pb2, pb3, lpb⟩ := Hpb
  obtain ⟨pc0, pc1, pc2, pc3, lpc⟩ := Hpc
  go_wp2_with fail
  refine (add_yes (A + B) C _ h1.out hC.out h2.out).mono ?_
  rintro e w3 ⟨rfl, hb⟩
  have S : Below w2.heap.size w2 w3 := Below.trans ((Below.refl _ w2).alloc (Nat.le_refl _) _) (hb.mono (by simp))
  have Hpa := W4.below ⟨pa0, pa1, pa2, pa3, lpa⟩ S
  have Hpb := W4.below ⟨pb0, pb1, pb2, pb3, lpb⟩ S
  have Hpc := W4.below ⟨pc0, pc1, pc2, pc3, lpc⟩ S
  have Hq2 := (W4.new w2 (M.pt 0 (A + B)) (M.pt 1 (A + B)) (M.pt 2 (A + B)) (M.pt 3 (A + B)) 24).below hb
  replace LW := LW.trans (S.mono LW.size)
  clear S hb pa0 pa1 pa2 pa3 lpa pb0 pb1 pb2 pb3 lpb pc0 pc1 pc2 pc3 lpc
  obtain ⟨pa0, pa1, pa2, pa3, lpa⟩ := Hpa
  obtain ⟨pb0, pb1, pb2, pb3, lpb⟩ := Hpb
  obtain ⟨pc0, pc1, pc2, pc3, lpc⟩ := Hpc
  obtain ⟨q20, q21, q22, q23, lq2⟩ := Hq2
  generalize w2.heap.size = bq2 at q20 q21 q22 q23 lq2 ⊢
  go_wp2_with fail
  refine (add_no B C _ hB.out hC.out h3.out).mono ?_
  rintro e w4 ⟨rfl, hb⟩
  have S : Below w3.heap.size w3 w4 := Below.trans ((Below.refl _ w3).alloc (Nat.le_refl _) _) (hb.mono (by simp))
  have Hpa := W4.below ⟨pa0, pa1, pa2, pa3, lpa⟩ S
  have Hpb := W4.below ⟨pb0, pb1, pb2, pb3, lpb⟩ S
  have Hpc := W4.below ⟨pc0, pc1, pc2, pc3, lpc⟩ S
  have Hq2 := W4.below ⟨q20, q21, q22, q23, lq2⟩ S
  have Hq3 := (W4.new w3 (0) (0) (0) (0) 24).below hb
  replace LW := LW.trans (S.mono LW.size)
  clear S hb pa0 pa1 pa2 pa3 lpa pb0 pb1 pb2 pb3 lpb pc0 pc1 pc2 pc3 lpc q20 q21 q22 q23 lq2
  obtain ⟨pa0, pa1, pa2, pa3, lpa⟩ := Hpa
  obtain ⟨pb0, pb1, pb2, pb3, lpb⟩ := Hpb
  obtain ⟨pc0, pc1, pc2, pc3, lpc⟩ := Hpc
  obtain ⟨q20, q21, q22, q23, lq2⟩ := Hq2
  obtain ⟨q30, q31, q32, q33, lq3⟩ := Hq3
  generalize w3.heap.size = bq3 at q30 q31 q32 q33 lq3 ⊢
  go_wp2_with fail
  refine (add_yes A (B + C) _ hA.out h3.out h4.out).mono ?_
  rintro e w5 ⟨rfl, hb⟩
  have S : Below w4.heap.size w4 w5 := Below.trans ((Below.refl _ w4).alloc (Nat.le_refl _) _) (hb.mono (by simp))
  have Hpa := W4.below ⟨pa0, pa1, pa2, pa3, lpa⟩ S
  have Hpb := W4.below ⟨pb0, pb1, pb2, pb3, lpb⟩ S
  have Hpc := W4.below ⟨pc0, pc1, pc2, pc3, lpc⟩ S
  have Hq2 := W4.below ⟨q20, q21, q22, q23, lq2⟩ S
  have Hq3 := W4.below ⟨q30, q31, q32, q33, lq3⟩ S
  have Hq4 := (W4.new w4 (M.pt 0 (B + C)) (M.pt 1 (B + C)) (M.pt 2 (B + C)) (M.pt 3 (B + C)) 24).below hb
  replace LW := LW.trans (S.mono LW.size)
  clear S hb pa0 pa1 pa2 pa3 lpa pb0 pb1 pb2 pb3 lpb pc0 pc1 pc2 pc3 lpc q20 q21 q22 q23 lq2 q30 q31 q32 q33 lq3
  obtain ⟨pa0, pa1, pa2, pa3, lpa⟩ := Hpa
  obtain ⟨pb0, pb1, pb2, pb3, lpb⟩ := Hpb
  obtain ⟨pc0, pc1, pc2, pc3, lpc⟩ := Hpc
  obtain ⟨q20, q21, q22, q23, lq2⟩ := Hq2
  obtain ⟨q30, q31, q32, q33, lq3⟩ := Hq3
  obtain ⟨q40, q41, q42, q43, lq4⟩ := Hq4
  generalize w4.heap.size = bq4 at q40 q41 q42 q43 lq4 ⊢
  go_wp2_with fail
  go_ret
  exact ⟨rfl, LW.alloc LW.size _⟩

set_option maxRecDepth 100000 in
set_option maxHeartbeats 4000000 in
theorem many_b (A B C : Nat) (w : World) (hA : Hid (M.In A)) (hB : Hid (M.In B)) (hC : Hid (M.In C)) (h1 : Hid (M.In (A + B))) (h2 : Hid (¬ M.In (A + B + C))) (h3 : Hid (¬ M.In (B + C))) :
    Calls Tryd.prog 3 #[wn A, wn B, wn C] w fun e w' => e = .returned (.bool true) ∧ Below w.heap.size w w' := by
  go_enter Tryd.func3, Tryd.ntmps3
  go_wp2_with fail
  have LW : Below w.heap.size w (((w.alloc (.cells #[.int .u64 (M.pt 0 A), .int .u64 (M.pt 1 A), .int .u64 (M.pt 2 A), .int .u64 (M.pt 3 A)] 24)).alloc (.cells #[.int .u64 (M.pt 0 B), .int .u64 (M.pt 1 B), .int .u64 (M.pt 2 B), .int .u64 (M.pt 3 B)] 24)).alloc (.cells #[.int .u64 (M.pt 0 C), .int .u64 (M.pt 1 C), .int .u64 (M.pt 2 C), .int .u64 (M.pt 3 C)] 24)) := by
    (repeat (first | exact Below.refl _ _ | refine Below.drew ?_ | refine Below.alloc ?_ (by first | omega | (simp; omega) | simp) _ | refine Below.setCell ?_ (by first | omega | (simp; omega) | simp) _))
  have Hpa : W4 (((w.alloc (.cells #[.int .u64 (M.pt 0 A), .int .u64 (M.pt 1 A), .int .u64 (M.pt 2 A), .int .u64 (M.pt 3 A)] 24)).alloc (.cells #[.int .u64 (M.pt 0 B), .int .u64 (M.pt 1 B), .int .u64 (M.pt 2 B), .int .u64 (M.pt 3 B)] 24)).alloc (.cells #[.int .u64 (M.pt 0 C), .int .u64 (M.pt 1 C), .int .u64 (M.pt 2 C), .int .u64 (M.pt 3 C)] 24)) (w.heap.size) (M.pt 0 A) (M.pt 1 A) (M.pt 2 A) (M.pt 3 A) := ⟨by simp [go_sem], by simp [go_sem], by simp [go_sem], by simp [go_sem], by simp <;> omega⟩
  have Hpb : W4 (((w.alloc (.cells #[.int .u64 (M.pt 0 A), .int .u64 (M.pt 1 A), .int .u64 (M.pt 2 A), .int .u64 (M.pt 3 A)] 24)).alloc (.cells #[.int .u64 (M.pt 0 B), .int .u64 (M.pt 1 B), .int .u64 (M.pt 2 B), .int .u64 (M.pt 3 B)] 24)).alloc (.cells #[.int .u64 (M.pt 0 C), .int .u64 (M.pt 1 C), .int .u64 (M.pt 2 C), .int .u64 (M.pt 3 C)] 24)) (w.heap.size + 1) (M.pt 0 B) (M.pt 1 B) (M.pt 2 B) (M.pt 3 B) := ⟨by simp [go_sem], by simp [go_sem], by simp [go_sem], by simp [go_sem], by simp <;> omega⟩
  have Hpc : W4 (((w.alloc (.cells #[.int .u64 (M.pt 0 A), .int .u64 (M.pt 1 A), .int .u64 (M.pt 2 A), .int .u64 (M.pt 3 A)] 24)).alloc (.cells #[.int .u64 (M.pt 0 B), .int .u64 (M.pt 1 B), .int .u64 (M.pt 2 B), .int .u64 (M.pt 3 B)] 24)).alloc (.cells #[.int .u64 (M.pt 0 C), .int .u64 (M.pt 1 C), .int .u64 (M.pt 2 C), .int .u64 (M.pt 3 C)] 24)) (w.heap.size + 1 + 1) (M.pt 0 C) (M.pt 1 C) (M.pt 2 C) (M.pt 3 C) := ⟨by simp [go_sem], by simp [go_sem], by simp [go_sem], by simp [go_sem], by simp <;> omega⟩
  generalize (((w.alloc (.cells #[.int .u64 (M.pt 0 A), .int .u64 (M.pt 1 A), .int .u64 (M.pt 2 A), .int .u64 (M.pt 3 A)] 24)).alloc (.cells #[.int .u64 (M.pt 0 B), .int .u64 (M.pt 1 B), .int .u64 (M.pt 2 B), .int .u64 (M.pt 3 B)] 24)).alloc (.cells #[.int .u64 (M.pt 0 C), .int .u64 (M.pt 1 C), .int .u64 (M.pt 2 C), .int .u64 (M.pt 3 C)] 24)) = W0 at LW Hpa Hpb Hpc ⊢
  obtain ⟨pa0, pa1, pa2, pa3, lpa⟩ := Hpa
  obtain ⟨pb0, pb1, pb2, pb3, lpb⟩ := Hpb
  obtain ⟨pc0, pc1, pc2, pc3, lpc⟩ := Hpc
  refine (works_any _).mono ?_
  rintro e w1 ⟨rfl, hb⟩
  have S : Below W0.heap.size W0 w1 := hb
  have Hpa := W4.below ⟨pa0, pa1, pa2, pa3, lpa⟩ S
  have Hpb := W4.below ⟨pb0, pb1, pb2, pb3, lpb⟩ S
  have Hpc := W4.below ⟨pc0, pc1, pc2, pc3, lpc⟩ S
  replace LW := LW.trans (S.mono LW.size)
  clear S hb pa0 pa1 pa2 pa3 lpa pb0 pb1 pb2 pb3 lpb pc0 pc1 pc2 pc3 lpc
  obtain ⟨pa0, pa1, pa2, pa3, lpa⟩ := Hpa
  obtain ⟨pb0, pb1, pb2, pb3, lpb⟩ := Hpb
  obtain ⟨pc0, pc1, pc2, pc3, lpc⟩ := Hpc
  go_wp2_with fail
  refine (add_no A B _ hA.out hB.out h1.out).mono ?_
  rintro e w2 ⟨rfl, hb⟩
  have S : Below w1.heap.size w1 w2 := hb
  have Hpa := W4.below ⟨pa0, pa1, pa2, pa3, lpa⟩ S
  have Hpb := W4.below ⟨pb0, pb1, pb2, pb3, lpb⟩ S
  have Hpc := W4.below ⟨pc0, pc1, pc2, pc3, lpc⟩ S
  replace LW := LW.trans (S.mono LW.size)
  clear S hb pa0 pa1 pa2 pa3 lpa pb0 pb1 pb2 pb3 lpb pc0 pc1 pc2 pc3 lpc
  obtain ⟨pa0, pa1, pa2, pa3, lpa⟩ := Hpa
  obtain ⟨pb0, pb1, pb2, pb3, lpb⟩ := Hpb
  obtain ⟨pc0, pc1, pc2, pc3, lpc⟩ := Hpc
  go_wp2_with fail
  refine (add_yes (A + B) C _ h1.out hC.out h2.out).mono ?_
  rintro e w3 ⟨rfl, hb⟩
  have S : Below w2.heap.size w2 w3 := Below.trans ((Below.refl _ w2).alloc (Nat.le_refl _) _) (hb.mono (by simp))
  have Hpa := W4.below ⟨pa0, pa1, pa2, pa3, lpa⟩ S
  have Hpb := W4.below ⟨pb0, pb1, pb2, pb3, lpb⟩ S
  have Hpc := W4.below ⟨pc0, pc1, pc2, pc3, lpc⟩ S
  have Hq2 := (W4.new w2 (M.pt 0 (A + B)) (M.pt 1 (A + B)) (M.pt 2 (A + B)) (M.pt 3 (A + B)) 24).below hb
  replace LW := LW.trans (S.mono LW.size)
  clear S hb pa0 pa1 pa2 pa3 lpa pb0 pb1 pb2 pb3 lpb pc0 pc1 pc2 pc3 lpc
  obtain ⟨pa0, pa1, pa2, pa3, lpa⟩ := Hpa
  obtain ⟨pb0, pb1, pb2, pb3, lpb⟩ := Hpb
  obtain ⟨pc0, pc1, pc2, pc3, lpc⟩ := Hpc
  obtain ⟨q20, q21, q22, q23, lq2⟩ := Hq2
  generalize w2.heap.size = bq2 at q20 q21 q22 q23 lq2 ⊢
  go_wp2_with fail
  refine (add_yes B C _ hB.out hC.out h3.out).mono ?_
  rintro e w4 ⟨rfl, hb⟩
  have S : Below w3.heap.size w3 w4 := Below.trans ((Below.refl _ w3).alloc (Nat.le_refl _) _) (hb.mono (by simp))
  have Hpa := W4.below ⟨pa0, pa1, pa2, pa3, lpa⟩ S
  have Hpb := W4.below ⟨pb0, pb1, pb2, pb3, lpb⟩ S
  have Hpc := W4.below ⟨pc0, pc1, pc2, pc3, lpc⟩ S
  have Hq2 := W4.below ⟨q20, q21, q22, q23, lq2⟩ S
  have Hq3 := (W4.new w3 (0) (0) (0) (0) 24).below hb
  replace LW := LW.trans (S.mono LW.size)
  clear S hb pa0 pa1 pa2 pa3 lpa pb0 pb1 pb2 pb3 lpb pc0 pc1 pc2 pc3 lpc q20 q21 q22 q23 lq2
  obtain ⟨pa0, pa1, pa2, pa3, lpa⟩ := Hpa
  obtain ⟨pb0, pb1, pb2, pb3, lpb⟩ := Hpb
  obtain ⟨pc0, pc1, pc2, pc3, lpc⟩ := Hpc
  obtain ⟨q20, q21, q22, q23, lq2⟩ := Hq2
  obtain ⟨q30, q31, q32, q33, lq3⟩ := Hq3
  generalize w3.heap.size = bq3 at q30 q31 q32 q33 lq3 ⊢
  go_wp2_with fail
  refine (add_zero_r A _ hA.out).mono ?_
  rintro e w5 ⟨rfl, hb⟩
  have S : Below w4.heap.size w4 w5 := Below.trans ((Below.refl _ w4).alloc (Nat.le_refl _) _) (hb.mono (by simp))
  have Hpa := W4.below ⟨pa0, pa1, pa2, pa3, lpa⟩ S
  have Hpb := W4.below ⟨pb0, pb1, pb2, pb3, lpb⟩ S
  have Hpc := W4.below ⟨pc0, pc1, pc2, pc3, lpc⟩ S
  have Hq2 := W4.below ⟨q20, q21, q22, q23, lq2⟩ S
  have Hq3 := W4.below ⟨q30, q31, q32, q33, lq3⟩ S
  have Hq4 := (W4.new w4 (0) (0) (0) (0) 24).below hb
  replace LW := LW.trans (S.mono LW.size)
  clear S hb pa0 pa1 pa2 pa3 lpa pb0 pb1 pb2 pb3 lpb pc0 pc1 pc2 pc3 lpc q20 q21 q22 q23 lq2 q30 q31 q32 q33 lq3
  obtain ⟨pa0, pa1, pa2, pa3, lpa⟩ := Hpa
  obtain ⟨pb0, pb1, pb2, pb3, lpb⟩ := Hpb
  obtain ⟨pc0, pc1, pc2, pc3, lpc⟩ := Hpc
  obtain ⟨q20, q21, q22, q23, lq2⟩ := Hq2
  obtain ⟨q30, q31, q32, q33, lq3⟩ := Hq3
  obtain ⟨q40, q41, q42, q43, lq4⟩ := Hq4
  generalize w4.heap.size = bq4 at q40 q41 q42 q43 lq4 ⊢
  go_wp2_with fail
  go_ret
  exact ⟨rfl, LW.alloc LW.size _⟩

set_option maxRecDepth 100000 in
set_option maxHeartbeats 4000000 in
theorem many_c (A B C : Nat) (w : World) (hA : Hid (M.In A)) (hB : Hid (M.In B)) (hC : Hid (M.In C)) (h1 : Hid (¬ M.In (A + B))) (h3 : Hid (M.In (B + C))) (h4 : Hid (¬ M.In (A + (B + C)))) :
    Calls Tryd.prog 3 #[wn A, wn B, wn C] w fun e w' => e = .returned (.bool true) ∧ Below w.heap.size w w' := by
  go_enter Tryd.func3, Tryd.ntmps3
  go_wp2_with fail
  have LW : Below w.heap.size w (((w.alloc (.cells #[.int .u64 (M.pt 0 A), .int .u64 (M.pt 1 A), .int .u64 (M.pt 2 A), .int .u64 (M.pt 3 A)] 24)).alloc (.cells #[.int .u64 (M.pt 0 B), .int .u64 (M.pt 1 B), .int .u64 (M.pt 2 B), .int .u64 (M.pt 3 B)] 24)).alloc (.cells #[.int .u64 (M.pt 0 C), .int .u64 (M.pt 1 C), .int .u64 (M.pt 2 C), .int .u64 (M.pt 3 C)] 24)) := by
    (repeat (first | exact Below.refl _ _ | refine Below.drew ?_ | refine Below.alloc ?_ (by first | omega | (simp; omega) | simp) _ | refine Below.setCell ?_ (by first | omega | (simp; omega) | simp) _))
  have Hpa : W4 (((w.alloc (.cells #[.int .u64 (M.pt 0 A), .int .u64 (M.pt 1 A), .int .u64 (M.pt 2 A), .int .u64 (M.pt 3 A)] 24)).alloc (.cells #[.int .u64 (M.pt 0 B), .int .u64 (M.pt 1 B), .int .u64 (M.pt 2 B), .int .u64 (M.pt 3 B)] 24)).alloc (.cells #[.int .u64 (M.pt 0 C), .int .u64 (M.pt 1 C), .int .u64 (M.pt 2 C), .int .u64 (M.pt 3 C)] 24)) (w.heap.size) (M.pt 0 A) (M.pt 1 A) (M.pt 2 A) (M.pt 3 A) := ⟨by simp [go_sem], by simp [go_sem], by simp [go_sem], by simp [go_sem], by simp <;> omega⟩
  have Hpb : W4 (((w.alloc (.cells #[.int .u64 (M.pt 0 A), .int .u64 (M.pt 1 A), .int .u64 (M.pt 2 A), .int .u64 (M.pt 3 A)] 24)).alloc (.cells #[.int .u64 (M.pt 0 B), .int .u64 (M.pt 1 B), .int .u64 (M.pt 2 B), .int .u64 (M.pt 3 B)] 24)).alloc (.cells #[.int .u64 (M.pt 0 C), .int .u64 (M.pt 1 C), .int .u64 (M.pt 2 C), .int .u64 (M.pt 3 C)] 24)) (w.heap.size + 1) (M.pt 0 B) (M.pt 1 B) (M.pt 2 B) (M.pt 3 B) := ⟨by simp [go_sem], by simp [go_sem], by simp [go_sem], by simp [go_sem], by simp <;> omega⟩
  have Hpc : W4 (((w.alloc (.cells #[.int .u64 (M.pt 0 A), .int .u64 (M.pt 1 A), .int .u64 (M.pt 2 A), .int .u64 (M.pt 3 A)] 24)).alloc (.cells #[.int .u64 (M.pt 0 B), .int .u64 (M.pt 1 B), .int .u64 (M.pt 2 B), .int .u64 (M.pt 3 B)] 24)).alloc (.cells #[.int .u64 (M.pt 0 C), .int .u64 (M.pt 1 C), .int .u64 (M.pt 2 C), .int .u64 (M.pt 3 C)] 24)) (w.heap.size + 1 + 1) (M.pt 0 C) (M.pt 1 C) (M.pt 2 C) (M.pt 3 C) := ⟨by simp [go_sem], by simp [go_sem], by simp [go_sem], by simp [go_sem], by simp <;> omega⟩
  generalize (((w.alloc (.cells #[.int .u64 (M.pt 0 A), .int .u64 (M.pt 1 A), .int .u64 (M.pt 2 A), .int .u64 (M.pt 3 A)] 24)).alloc (.cells #[.int .u64 (M.pt 0 B), .int .u64 (M.pt 1 B), .int .u64 (M.pt 2 B), .int .u64 (M.pt 3 B)] 24)).alloc (.cells #[.int .u64 (M.pt 0 C), .int .u64 (M.pt 1 C), .int .u64 (M.pt 2 C), .int .u64 (M.pt 3 C)] 24)) = W0 at LW Hpa Hpb Hpc ⊢
  obtain ⟨pa0, pa1, pa2, pa3, lpa⟩ := Hpa
  obtain ⟨pb0, pb1, pb2, pb3, lpb⟩ := Hpb
  obtain ⟨pc0, pc1, pc2, pc3, lpc⟩ := Hpc
  refine (works_any _).mono ?_
  rintro e w1 ⟨rfl, hb⟩
  have S : Below W0.heap.size W0 w1 := hb
  have Hpa := W4.below ⟨pa0, pa1, pa2, pa3, lpa⟩ S
  have Hpb := W4.below ⟨pb0, pb1, pb2, pb3, lpb⟩ S
  have Hpc := W4.below ⟨pc0, pc1, pc2, pc3, lpc⟩ S
  replace LW := LW.trans (S.mono LW.size)
  clear S hb pa0 pa1 pa2 pa3 lpa pb0 pb1 pb2 pb3 lpb pc0 pc1 pc2 pc3 lpc
  obtain ⟨pa0, pa1, pa2, pa3, lpa⟩ := Hpa
  obtain ⟨pb0, pb1, pb2, pb3, lpb⟩ := Hpb
  obtain ⟨pc0, pc1, pc2, pc3, lpc⟩ := Hpc
  go_wp2_with fail
  refine (add_yes A B _ hA.out hB.out h1.out).mono ?_
  rintro e w2 ⟨rfl, hb⟩
  have S : Below w1.heap.size w1 w2 := hb
  have Hpa := W4.below ⟨pa0, pa1, pa2, pa3, lpa⟩ S
  have Hpb := W4.below ⟨pb0, pb1, pb2, pb3, lpb⟩ S
  have Hpc := W4.below ⟨pc0, pc1, pc2, pc3, lpc⟩ S
  replace LW := LW.trans (S.mono LW.size)
  clear S hb pa0 pa1 pa2 pa3 lpa pb0 pb1 pb2 pb3 lpb pc0 pc1 pc2 pc3 lpc
  obtain ⟨pa0, pa1, pa2, pa3, lpa⟩ := Hpa
  obtain ⟨pb0, pb1, pb2, pb3, lpb⟩ := Hpb
  obtain ⟨pc0, pc1, pc2, pc3, lpc⟩ := Hpc
  go_wp2_with fail
  refine (add_zero_l C _ hC.out).mono ?_
  rintro e w3 ⟨rfl, hb⟩
  have S : Below w2.heap.size w2 w3 := Below.trans ((Below.refl _ w2).alloc (Nat.le_refl _) _) (hb.mono (by simp))
  have Hpa := W4.below ⟨pa0, pa1, pa2, pa3, lpa⟩ S
  have Hpb := W4.below ⟨pb0, pb1, pb2, pb3, lpb⟩ S
  have Hpc := W4.below ⟨pc0, pc1, pc2, pc3, lpc⟩ S
  have Hq2 := (W4.new w2 (0) (0) (0) (0) 24).below hb
  replace LW := LW.trans (S.mono LW.size)
  clear S hb pa0 pa1 pa2 pa3 lpa pb0 pb1 pb2 pb3 lpb pc0 pc1 pc2 pc3 lpc
  obtain ⟨pa0, pa1, pa2, pa3, lpa⟩ := Hpa
  obtain ⟨pb0, pb1, pb2, pb3, lpb⟩ := Hpb
  obtain ⟨pc0, pc1, pc2, pc3, lpc⟩ := Hpc
  obtain ⟨q20, q21, q22, q23, lq2⟩ := Hq2
  generalize w2.heap.size = bq2 at q20 q21 q22 q23 lq2 ⊢
  go_wp2_with fail
  refine (add_no B C _ hB.out hC.out h3.out).mono ?_
  rintro e w4 ⟨rfl, hb⟩
  have S : Below w3.heap.size w3 w4 := Below.trans ((Below.refl _ w3).alloc (Nat.le_refl _) _) (hb.mono (by simp))
  have Hpa := W4.below ⟨pa0, pa1, pa2, pa3, lpa⟩ S
  have Hpb := W4.below ⟨pb0, pb1, pb2, pb3, lpb⟩ S
  have Hpc := W4.below ⟨pc0, pc1, pc2, pc3, lpc⟩ S
  have Hq2 := W4.below ⟨q20, q21, q22, q23, lq2⟩ S
  have Hq3 := (W4.new w3 (M.pt 0 C) (M.pt 1 C) (M.pt 2 C) (M.pt 3 C) 24).below hb
  replace LW := LW.trans (S.mono LW.size)
  clear S hb pa0 pa1 pa2 pa3 lpa pb0 pb1 pb2 pb3 lpb pc0 pc1 pc2 pc3 lpc q20 q21 q22 q23 lq2
  obtain ⟨pa0, pa1, pa2, pa3, lpa⟩ := Hpa
  obtain ⟨pb0, pb1, pb2, pb3, lpb⟩ := Hpb
  obtain ⟨pc0, pc1, pc2, pc3, lpc⟩ := Hpc
  obtain ⟨q20, q21, q22, q23, lq2⟩ := Hq2
  obtain ⟨q30, q31, q32, q33, lq3⟩ := Hq3
  generalize w3.heap.size = bq3 at q30 q31 q32 q33 lq3 ⊢
  go_wp2_with fail
  refine (add_yes A (B + C) _ hA.out h3.out h4.out).mono ?_
  rintro e w5 ⟨rfl, hb⟩
  have S : Below w4.heap.size w4 w5 := Below.trans ((Below.refl _ w4).alloc (Nat.le_refl _) _) (hb.mono (by simp))
  have Hpa := W4.below ⟨pa0, pa1, pa2, pa3, lpa⟩ S
  have Hpb := W4.below ⟨pb0, pb1, pb2, pb3, lpb⟩ S
  have Hpc := W4.below ⟨pc0, pc1, pc2, pc3, lpc⟩ S
  have Hq2 := W4.below ⟨q20, q21, q22, q23, lq2⟩ S
  have Hq3 := W4.below ⟨q30, q31, q32, q33, lq3⟩ S
  have Hq4 := (W4.new w4 (M.pt 0 (B + C)) (M.pt 1 (B + C)) (M.pt 2 (B + C)) (M.pt 3 (B + C)) 24).below hb
  replace LW := LW.trans (S.mono LW.size)
  clear S hb pa0 pa1 pa2 pa3 lpa pb0 pb1 pb2 pb3 lpb pc0 pc1 pc2 pc3 lpc q20 q21 q22 q23 lq2 q30 q31 q32 q33 lq3
  obtain ⟨pa0, pa1, pa2, pa3, lpa⟩ := Hpa
  obtain ⟨pb0, pb1, pb2, pb3, lpb⟩ := Hpb
  obtain ⟨pc0, pc1, pc2, pc3, lpc⟩ := Hpc
  obtain ⟨q20, q21, q22, q23, lq2⟩ := Hq2
  obtain ⟨q30, q31, q32, q33, lq3⟩ := Hq3
  obtain ⟨q40, q41, q42, q43, lq4⟩ := Hq4
  generalize w4.heap.size = bq4 at q40 q41 q42 q43 lq4 ⊢
  go_wp2_with fail
  go_ret
  exact ⟨rfl, LW.alloc LW.size _⟩

set_option maxRecDepth 100000 in
set_option maxHeartbeats 4000000 in
theorem many_d (A B C : Nat) (w : World) (hA : Hid (M.In A)) (hB : Hid (M.In B)) (hC : Hid (M.In C)) (h1 : Hid (¬ M.In (A + B))) (h3 : Hid (¬ M.In (B + C))) :
    Calls Tryd.prog 3 #[wn A, wn B, wn C] w fun e w' => e = .returned (.bool true) ∧ Below w.heap.size w w' := by
  go_enter Tryd.func3, Tryd.ntmps3
  go_wp2_with fail
  have LW : Below w.heap.size w (((w.alloc (.cells #[.int .u64 (M.pt 0 A), .int .u64 (M.pt 1 A), .int .u64 (M.pt 2 A), .int .u64 (M.pt 3 A)] 24)).alloc (.cells #[.int .u64 (M.pt 0 B), .int .u64 (M.pt 1 B), .int .u64 (M.pt 2 B), .int .u64 (M.pt 3 B)] 24)).alloc (.cells #[.int .u64 (M.pt 0 C), .int .u64 (M.pt 1 C), .int .u64 (M.pt 2 C), .int .u64 (M.pt 3 C)] 24)) := by
    (repeat (first | exact Below.refl _ _ | refine Below.drew ?_ | refine Below.alloc ?_ (by first | omega | (simp; omega) | simp) _ | refine Below.setCell ?_ (by first | omega | (simp; omega) | simp) _))
  have Hpa : W4 (((w.alloc (.cells #[.int .u64 (M.pt 0 A), .int .u64 (M.pt 1 A), .int .u64 (M.pt 2 A), .int .u64 (M.pt 3 A)] 24)).alloc (.cells #[.int .u64 (M.pt 0 B), .int .u64 (M.pt 1 B), .int .u64 (M.pt 2 B), .int .u64 (M.pt 3 B)] 24)).alloc (.cells #[.int .u64 (M.pt 0 C), .int .u64 (M.pt 1 C), .int .u64 (M.pt 2 C), .int .u64 (M.pt 3 C)] 24)) (w.heap.size) (M.pt 0 A) (M.pt 1 A) (M.pt 2 A) (M.pt 3 A) := ⟨by simp [go_sem], by simp [go_sem], by simp [go_sem], by simp [go_sem], by simp <;> omega⟩
  have Hpb : W4 (((w.alloc (.cells #[.int .u64 (M.pt 0 A), .int .u64 (M.pt 1 A), .int .u64 (M.pt 2 A), .int .u64 (M.pt 3 A)] 24)).alloc (.cells #[.int .u64 (M.pt 0 B), .int .u64 (M.pt 1 B), .int .u64 (M.pt 2 B), .int .u64 (M.pt 3 B)] 24)).alloc (.cells #[.int .u64 (M.pt 0 C), .int .u64 (M.pt 1 C), .int .u64 (M.pt 2 C), .int .u64 (M.pt 3 C)] 24)) (w.heap.size + 1) (M.pt 0 B) (M.pt 1 B) (M.pt 2 B) (M.pt 3 B) := ⟨by simp [go_sem], by simp [go_sem], by simp [go_sem], by simp [go_sem], by simp <;> omega⟩
  have Hpc : W4 (((w.alloc (.cells #[.int .u64 (M.pt 0 A), .int .u64 (M.pt 1 A), .int .u64 (M.pt 2 A), .int .u64 (M.pt 3 A)] 24)).alloc (.cells #[.int .u64 (M.pt 0 B), .int .u64 (M.pt 1 B), .int .u64 (M.pt 2 B), .int .u64 (M.pt 3 B)] 24)).alloc (.cells #[.int .u64 (M.pt 0 C), .int .u64 (M.pt 1 C), .int .u64 (M.pt 2 C), .int .u64 (M.pt 3 C)] 24)) (w.heap.size + 1 + 1) (M.pt 0 C) (M.pt 1 C) (M.pt 2 C) (M.pt 3 C) := ⟨by simp [go_sem], by simp [go_sem], by simp [go_sem], by simp [go_sem], by simp <;> omega⟩
  generalize (((w.alloc (.cells #[.int .u64 (M.pt 0 A), .int .u64 (M.pt 1 A), .int .u64 (M.pt 2 A), .int .u64 (M.pt 3 A)] 24)).alloc (.cells #[.int .u64 (M.pt 0 B), .int .u64 (M.pt 1 B), .int .u64 (M.pt 2 B), .int .u64 (M.pt 3 B)] 24)).alloc (.cells #[.int .u64 (M.pt 0 C), .int .u64 (M.pt 1 C), .int .u64 (M.pt 2 C), .int .u64 (M.pt 3 C)] 24)) = W0 at LW Hpa Hpb Hpc ⊢
  obtain ⟨pa0, pa1, pa2, pa3, lpa⟩ := Hpa
  obtain ⟨pb0, pb1, pb2, pb3, lpb⟩ := Hpb
  obtain ⟨pc0, pc1, pc2, pc3, lpc⟩ := Hpc
  refine (works_any _).mono ?_
  rintro e w1 ⟨rfl, hb⟩
  have S : Below W0.heap.size W0 w1 := hb
  have Hpa := W4.below ⟨pa0, pa1, pa2, pa3, lpa⟩ S
  have Hpb := W4.below ⟨pb0, pb1, pb2, pb3, lpb⟩ S
  have Hpc := W4.below ⟨pc0, pc1, pc2, pc3, lpc⟩ S
  replace LW := LW.trans (S.mono LW.size)
  clear S hb pa0 pa1 pa2 pa3 lpa pb0 pb1 pb2 pb3 lpb pc0 pc1 pc2 pc3 lpc
  obtain ⟨pa0, pa1, pa2, pa3, lpa⟩ := Hpa
  obtain ⟨pb0, pb1, pb2, pb3, lpb⟩ := Hpb
  obtain ⟨pc0, pc1, pc2, pc3, lpc⟩ := Hpc
  go_wp2_with fail
  refine (add_yes A B _ hA.out hB.out h1.out).mono ?_
  rintro e w2 ⟨rfl, hb⟩
  have S : Below w1.heap.size w1 w2 := hb
  have Hpa := W4.below ⟨pa0, pa1, pa2, pa3, lpa⟩ S
  have Hpb := W4.below ⟨pb0, pb1, pb2, pb3, lpb⟩ S
  have Hpc := W4.below ⟨pc0, pc1, pc2, pc3, lpc⟩ S
  replace LW := LW.trans (S.mono LW.size)
  clear S hb pa0 pa1 pa2 pa3 lpa pb0 pb1 pb2 pb3 lpb pc0 pc1 pc2 pc3 lpc
  obtain ⟨pa0, pa1, pa2, pa3, lpa⟩ := Hpa
  obtain ⟨pb0, pb1, pb2, pb3, lpb⟩ := Hpb
  obtain ⟨pc0, pc1, pc2, pc3, lpc⟩ := Hpc
  go_wp2_with fail
  refine (add_zero_l C _ hC.out).mono ?_
  rintro e w3 ⟨rfl, hb⟩
  have S : Below w2.heap.size w2 w3 := Below.trans ((Below.refl _ w2).alloc (Nat.le_refl _) _) (hb.mono (by simp))
  have Hpa := W4.below ⟨pa0, pa1, pa2, pa3, lpa⟩ S
  have Hpb := W4.below ⟨pb0, pb1, pb2, pb3, lpb⟩ S
  have Hpc := W4.below ⟨pc0, pc1, pc2, pc3, lpc⟩ S
  have Hq2 := (W4.new w2 (0) (0) (0) (0) 24).below hb
  replace LW := LW.trans (S.mono LW.size)
  clear S hb pa0 pa1 pa2 pa3 lpa pb0 pb1 pb2 pb3 lpb pc0 pc1 pc2 pc3 lpc
  obtain ⟨pa0, pa1, pa2, pa3, lpa⟩ := Hpa
  obtain ⟨pb0, pb1, pb2, pb3, lpb⟩ := Hpb
  obtain ⟨pc0, pc1, pc2, pc3, lpc⟩ := Hpc
  obtain ⟨q20, q21, q22, q23, lq2⟩ := Hq2
  generalize w2.heap.size = bq2 at q20 q21 q22 q23 lq2 ⊢
  go_wp2_with fail
  refine (add_yes B C _ hB.out hC.out h3.out).mono ?_
  rintro e w4 ⟨rfl, hb⟩
  have S : Below w3.heap.size w3 w4 := Below.trans ((Below.refl _ w3).alloc (Nat.le_refl _) _) (hb.mono (by simp))
  have Hpa := W4.below ⟨pa0, pa1, pa2, pa3, lpa⟩ S
  have Hpb := W4.below ⟨pb0, pb1, pb2, pb3, lpb⟩ S
  have Hpc := W4.below ⟨pc0, pc1, pc2, pc3, lpc⟩ S
  have Hq2 := W4.below ⟨q20, q21, q22, q23, lq2⟩ S
  have Hq3 := (W4.new w3 (M.pt 0 C) (M.pt 1 C) (M.pt 2 C) (M.pt 3 C) 24).below hb
  replace LW := LW.trans (S.mono LW.size)
  clear S hb pa0 pa1 pa2 pa3 lpa pb0 pb1 pb2 pb3 lpb pc0 pc1 pc2 pc3 lpc q20 q21 q22 q23 lq2
  obtain ⟨pa0, pa1, pa2, pa3, lpa⟩ := Hpa
  obtain ⟨pb0, pb1, pb2, pb3, lpb⟩ := Hpb
  obtain ⟨pc0, pc1, pc2, pc3, lpc⟩ := Hpc
  obtain ⟨q20, q21, q22, q23, lq2⟩ := Hq2
  obtain ⟨q30, q31, q32, q33, lq3⟩ := Hq3
  generalize w3.heap.size = bq3 at q30 q31 q32 q33 lq3 ⊢
  go_wp2_with fail
  refine (add_zero_r A _ hA.out).mono ?_
  rintro e w5 ⟨rfl, hb⟩
  have S : Below w4.heap.size w4 w5 := Below.trans ((Below.refl _ w4).alloc (Nat.le_refl _) _) (hb.mono (by simp))
  have Hpa := W4.below ⟨pa0, pa1, pa2, pa3, lpa⟩ S
  have Hpb := W4.below ⟨pb0, pb1, pb2, pb3, lpb⟩ S
  have Hpc := W4.below ⟨pc0, pc1, pc2, pc3, lpc⟩ S
  have Hq2 := W4.below ⟨q20, q21, q22, q23, lq2⟩ S
  have Hq3 := W4.below ⟨q30, q31, q32, q33, lq3⟩ S
  have Hq4 := (W4.new w4 (0) (0) (0) (0) 24).below hb
  replace LW := LW.trans (S.mono LW.size)
  clear S hb pa0 pa1 pa2 pa3 lpa pb0 pb1 pb2 pb3 lpb pc0 pc1 pc2 pc3 lpc q20 q21 q22 q23 lq2 q30 q31 q32 q33 lq3
  obtain ⟨pa0, pa1, pa2, pa3, lpa⟩ := Hpa
  obtain ⟨pb0, pb1, pb2, pb3, lpb⟩ := Hpb
  obtain ⟨pc0, pc1, pc2, pc3, lpc⟩ := Hpc
  obtain ⟨q20, q21, q22, q23, lq2⟩ := Hq2
  obtain ⟨q30, q31, q32, q33, lq3⟩ := Hq3
  obtain ⟨q40, q41, q42, q43, lq4⟩ := Hq4
  generalize w4.heap.size = bq4 at q40 q41 q42 q43 lq4 ⊢
  go_wp2_with fail
  go_ret
  exact ⟨rfl, LW.alloc LW.size _⟩

theorem many_any (A B C : Nat) (w : World) (hA : M.In A) (hB : M.In B) (hC : M.In C) :
    Calls Tryd.prog 3 #[wn A, wn B, wn C] w fun e w' => e = .returned (.bool true) ∧ Below w.heap.size w w' := by
  by_cases h1 : M.In (A + B) <;> by_cases h3 : M.In (B + C)
  · by_cases h2 : M.In (A + B + C)
    · exact many_in A B C w hA hB hC h1 h2 h3 (by show M.In _; rw [← Nat.add_assoc]; exact h2)
    · exact many_a A B C w hA hB hC h1 h2 h3 (by show ¬ M.In _; rw [← Nat.add_assoc]; exact h2)
  · exact many_b A B C w hA hB hC h1 (by show ¬ M.In _; unfold M.In at *; omega) h3
  · exact many_c A B C w hA hB hC h1 h3 (by show ¬ M.In _; unfold M.In at *; omega)
  · exact many_d A B C w hA hB hC h1 h3
end Go.Proofs.YtcnngpmganhjoabDoor
