/- WordTurns: the walk: a sum less one of its parts is the other one; a difference and what was taken away is what was there; sums go in any order. -/
import Derived.Test.YtcnngpmganhjoaaDoorK2
namespace Go.Proofs.YtcnngpmganhjoaaDoor
open Go Go.RowKit

theorem add_zero_l (C : Nat) (w : World) (hC : M.In C) : Calls Tryd.prog 10 #[wd 0 0 0 0, wn C] w fun e w' => e = .returned (.tuple #[wn C, .int .i64 0]) ∧ Below w.heap.size w w' := by
  have h := add_no 0 C w (in_small _ (by omega)) hC (by rw [Nat.zero_add]; exact hC)
  rw [Nat.zero_add, wn_small 0 (by omega)] at h
  exact h
theorem sub_zero_l (C : Nat) (w : World) (hC : M.In C) (hp : 0 < C) : Calls Tryd.prog 12 #[wd 0 0 0 0, wn C] w fun e w' => e = .returned (.tuple #[wd 0 0 0 0, .int .i64 6]) ∧ Below w.heap.size w w' := by
  have h := sub_yes 0 C w (in_small _ (by omega)) hC hp
  rw [wn_small 0 (by omega)] at h
  exact h
theorem sub_back (A B : Nat) (w : World) (h : M.In (A + B)) (hB : M.In B) : Calls Tryd.prog 12 #[wn (A + B), wn B] w fun e w' => e = .returned (.tuple #[wn A, .int .i64 0]) ∧ Below w.heap.size w w' := by
  have := sub_no (A + B) B w h hB (Nat.le_add_left _ _)
  rw [Nat.add_sub_cancel] at this
  exact this
theorem add_back (A B : Nat) (w : World) (hA : M.In A) (hB : M.In B) (h : B ≤ A) : Calls Tryd.prog 10 #[wn (A - B), wn B] w fun e w' => e = .returned (.tuple #[wn A, .int .i64 0]) ∧ Below w.heap.size w w' := by
  have := add_no (A - B) B w (by unfold M.In at *; omega) hB (by rw [Nat.sub_add_cancel h]; exact hA)
  rw [Nat.sub_add_cancel h] at this
  exact this
theorem less_t (A B : Nat) (w : World) (hA : M.In A) (hB : M.In B) (h : A < B) : Calls Tryd.prog 17 #[wn A, wn B] w fun e w' => e = .returned (.bool true) ∧ Below w.heap.size w w' := by
  have := less_any A B w hA hB
  rw [decide_eq_true h] at this
  exact this
theorem less_f (A B : Nat) (w : World) (hA : M.In A) (hB : M.In B) (h : ¬ A < B) : Calls Tryd.prog 17 #[wn A, wn B] w fun e w' => e = .returned (.bool false) ∧ Below w.heap.size w w' := by
  have := less_any A B w hA hB
  rw [decide_eq_false h] at this
  exact this

set_option maxRecDepth 100000 in
set_option maxHeartbeats 4000000 in
theorem turns_a (A B : Nat) (w : World) (hA : Hid (M.In A)) (hB : Hid (M.In B)) (h1 : Hid (M.In (A + B))) (h1b : Hid (M.In (B + A))) (h2 : Hid (B ≤ A)) :
    Calls Tryd.prog 6 #[wn A, wn B] w fun e w' => e = .returned (.bool true) ∧ Below w.heap.size w w' := by
  go_enter Tryd.func6, Tryd.ntmps6
  go_wp2_with fail
  have LW : Below w.heap.size w ((w.alloc (.cells #[.int .u64 (M.pt 0 A), .int .u64 (M.pt 1 A), .int .u64 (M.pt 2 A), .int .u64 (M.pt 3 A)] 24)).alloc (.cells #[.int .u64 (M.pt 0 B), .int .u64 (M.pt 1 B), .int .u64 (M.pt 2 B), .int .u64 (M.pt 3 B)] 24)) := by
    (repeat (first | exact Below.refl _ _ | refine Below.drew ?_ | refine Below.alloc ?_ (by first | omega | (simp; omega) | simp) _ | refine Below.setCell ?_ (by first | omega | (simp; omega) | simp) _))
  have Hpa : W4 ((w.alloc (.cells #[.int .u64 (M.pt 0 A), .int .u64 (M.pt 1 A), .int .u64 (M.pt 2 A), .int .u64 (M.pt 3 A)] 24)).alloc (.cells #[.int .u64 (M.pt 0 B), .int .u64 (M.pt 1 B), .int .u64 (M.pt 2 B), .int .u64 (M.pt 3 B)] 24)) (w.heap.size) (M.pt 0 A) (M.pt 1 A) (M.pt 2 A) (M.pt 3 A) := ⟨by simp [go_sem], by simp [go_sem], by simp [go_sem], by simp [go_sem], by simp <;> omega⟩
  have Hpb : W4 ((w.alloc (.cells #[.int .u64 (M.pt 0 A), .int .u64 (M.pt 1 A), .int .u64 (M.pt 2 A), .int .u64 (M.pt 3 A)] 24)).alloc (.cells #[.int .u64 (M.pt 0 B), .int .u64 (M.pt 1 B), .int .u64 (M.pt 2 B), .int .u64 (M.pt 3 B)] 24)) (w.heap.size + 1) (M.pt 0 B) (M.pt 1 B) (M.pt 2 B) (M.pt 3 B) := ⟨by simp [go_sem], by simp [go_sem], by simp [go_sem], by simp [go_sem], by simp <;> omega⟩
  generalize ((w.alloc (.cells #[.int .u64 (M.pt 0 A), .int .u64 (M.pt 1 A), .int .u64 (M.pt 2 A), .int .u64 (M.pt 3 A)] 24)).alloc (.cells #[.int .u64 (M.pt 0 B), .int .u64 (M.pt 1 B), .int .u64 (M.pt 2 B), .int .u64 (M.pt 3 B)] 24)) = W0 at LW Hpa Hpb ⊢
  obtain ⟨pa0, pa1, pa2, pa3, lpa⟩ := Hpa
  obtain ⟨pb0, pb1, pb2, pb3, lpb⟩ := Hpb
  refine (works_any _).mono ?_
  rintro e w1 ⟨rfl, hb⟩
  have S : Below W0.heap.size W0 w1 := hb
  have Hpa := W4.below ⟨pa0, pa1, pa2, pa3, lpa⟩ S
  have Hpb := W4.below ⟨pb0, pb1, pb2, pb3, lpb⟩ S
  replace LW := LW.trans (S.mono LW.size)
  clear S hb pa0 pa1 pa2 pa3 lpa pb0 pb1 pb2 pb3 lpb
  obtain ⟨pa0, pa1, pa2, pa3, lpa⟩ := Hpa
  obtain ⟨pb0, pb1, pb2, pb3, lpb⟩ := Hpb
  go_wp2_with fail
  refine (add_no A B _ hA.out hB.out h1.out).mono ?_
  rintro e w2 ⟨rfl, hb⟩
  have S : Below w1.heap.size w1 w2 := hb
  have Hpa := W4.below ⟨pa0, pa1, pa2, pa3, lpa⟩ S
  have Hpb := W4.below ⟨pb0, pb1, pb2, pb3, lpb⟩ S
  replace LW := LW.trans (S.mono LW.size)
  clear S hb pa0 pa1 pa2 pa3 lpa pb0 pb1 pb2 pb3 lpb
  obtain ⟨pa0, pa1, pa2, pa3, lpa⟩ := Hpa
  obtain ⟨pb0, pb1, pb2, pb3, lpb⟩ := Hpb
  go_wp2_with fail
  refine (add_no B A _ hB.out hA.out h1b.out).mono ?_
  rintro e w3 ⟨rfl, hb⟩
  have S : Below w2.heap.size w2 w3 := Below.trans ((Below.refl _ w2).alloc (Nat.le_refl _) _) (hb.mono (by simp))
  have Hpa := W4.below ⟨pa0, pa1, pa2, pa3, lpa⟩ S
  have Hpb := W4.below ⟨pb0, pb1, pb2, pb3, lpb⟩ S
  have Hq2 := (W4.new w2 (M.pt 0 (A + B)) (M.pt 1 (A + B)) (M.pt 2 (A + B)) (M.pt 3 (A + B)) 24).below hb
  replace LW := LW.trans (S.mono LW.size)
  clear S hb pa0 pa1 pa2 pa3 lpa pb0 pb1 pb2 pb3 lpb
  obtain ⟨pa0, pa1, pa2, pa3, lpa⟩ := Hpa
  obtain ⟨pb0, pb1, pb2, pb3, lpb⟩ := Hpb
  obtain ⟨q20, q21, q22, q23, lq2⟩ := Hq2
  generalize w2.heap.size = bq2 at q20 q21 q22 q23 lq2 ⊢
  go_wp2_with fail
  refine (sub_back A B _ h1.out hB.out).mono ?_
  rintro e w4 ⟨rfl, hb⟩
  have S : Below w3.heap.size w3 w4 := Below.trans ((Below.refl _ w3).alloc (Nat.le_refl _) _) (hb.mono (by simp))
  have Hpa := W4.below ⟨pa0, pa1, pa2, pa3, lpa⟩ S
  have Hpb := W4.below ⟨pb0, pb1, pb2, pb3, lpb⟩ S
  have Hq2 := W4.below ⟨q20, q21, q22, q23, lq2⟩ S
  have Hq3 := (W4.new w3 (M.pt 0 (B + A)) (M.pt 1 (B + A)) (M.pt 2 (B + A)) (M.pt 3 (B + A)) 24).below hb
  replace LW := LW.trans (S.mono LW.size)
  clear S hb pa0 pa1 pa2 pa3 lpa pb0 pb1 pb2 pb3 lpb q20 q21 q22 q23 lq2
  obtain ⟨pa0, pa1, pa2, pa3, lpa⟩ := Hpa
  obtain ⟨pb0, pb1, pb2, pb3, lpb⟩ := Hpb
  obtain ⟨q20, q21, q22, q23, lq2⟩ := Hq2
  obtain ⟨q30, q31, q32, q33, lq3⟩ := Hq3
  generalize w3.heap.size = bq3 at q30 q31 q32 q33 lq3 ⊢
  go_wp2_with fail
  refine (sub_no A B _ hA.out hB.out h2.out).mono ?_
  rintro e w5 ⟨rfl, hb⟩
  have S : Below w4.heap.size w4 w5 := Below.trans ((Below.refl _ w4).alloc (Nat.le_refl _) _) (hb.mono (by simp))
  have Hpa := W4.below ⟨pa0, pa1, pa2, pa3, lpa⟩ S
  have Hpb := W4.below ⟨pb0, pb1, pb2, pb3, lpb⟩ S
  have Hq2 := W4.below ⟨q20, q21, q22, q23, lq2⟩ S
  have Hq3 := W4.below ⟨q30, q31, q32, q33, lq3⟩ S
  have Hq4 := (W4.new w4 (M.pt 0 A) (M.pt 1 A) (M.pt 2 A) (M.pt 3 A) 24).below hb
  replace LW := LW.trans (S.mono LW.size)
  clear S hb pa0 pa1 pa2 pa3 lpa pb0 pb1 pb2 pb3 lpb q20 q21 q22 q23 lq2 q30 q31 q32 q33 lq3
  obtain ⟨pa0, pa1, pa2, pa3, lpa⟩ := Hpa
  obtain ⟨pb0, pb1, pb2, pb3, lpb⟩ := Hpb
  obtain ⟨q20, q21, q22, q23, lq2⟩ := Hq2
  obtain ⟨q30, q31, q32, q33, lq3⟩ := Hq3
  obtain ⟨q40, q41, q42, q43, lq4⟩ := Hq4
  generalize w4.heap.size = bq4 at q40 q41 q42 q43 lq4 ⊢
  go_wp2_with fail
  refine (add_back A B _ hA.out hB.out h2.out).mono ?_
  rintro e w6 ⟨rfl, hb⟩
  have S : Below w5.heap.size w5 w6 := Below.trans ((Below.refl _ w5).alloc (Nat.le_refl _) _) (hb.mono (by simp))
  have Hpa := W4.below ⟨pa0, pa1, pa2, pa3, lpa⟩ S
  have Hpb := W4.below ⟨pb0, pb1, pb2, pb3, lpb⟩ S
  have Hq2 := W4.below ⟨q20, q21, q22, q23, lq2⟩ S
  have Hq3 := W4.below ⟨q30, q31, q32, q33, lq3⟩ S
  have Hq4 := W4.below ⟨q40, q41, q42, q43, lq4⟩ S
  have Hq5 := (W4.new w5 (M.pt 0 (A - B)) (M.pt 1 (A - B)) (M.pt 2 (A - B)) (M.pt 3 (A - B)) 24).below hb
  replace LW := LW.trans (S.mono LW.size)
  clear S hb pa0 pa1 pa2 pa3 lpa pb0 pb1 pb2 pb3 lpb q20 q21 q22 q23 lq2 q30 q31 q32 q33 lq3 q40 q41 q42 q43 lq4
  obtain ⟨pa0, pa1, pa2, pa3, lpa⟩ := Hpa
  obtain ⟨pb0, pb1, pb2, pb3, lpb⟩ := Hpb
  obtain ⟨q20, q21, q22, q23, lq2⟩ := Hq2
  obtain ⟨q30, q31, q32, q33, lq3⟩ := Hq3
  obtain ⟨q40, q41, q42, q43, lq4⟩ := Hq4
  obtain ⟨q50, q51, q52, q53, lq5⟩ := Hq5
  generalize w5.heap.size = bq5 at q50 q51 q52 q53 lq5 ⊢
  have eq1 : ∀ w : World, (Op.equalIn 10000 24 (wn (A + B)) (wn (B + A))).run Tryd.prog w = .ok true w := fun w => by rw [eqN (h1.out) (h1b.out), decide_eq_true (by omega)]
  have eq2 : ∀ w : World, (Op.equalIn 10000 24 (wn A) (wn A)).run Tryd.prog w = .ok true w := fun w => by rw [eqN (hA.out) (hA.out), decide_eq_true (by rfl)]
  go_wp2_with fail
  refine (less_f A B _ hA.out hB.out (Nat.not_lt.2 h2.out)).mono ?_
  rintro e w7 ⟨rfl, hb⟩
  have S : Below w6.heap.size w6 w7 := Below.trans ((Below.refl _ w6).alloc (Nat.le_refl _) _) (hb.mono (by simp))
  have Hpa := W4.below ⟨pa0, pa1, pa2, pa3, lpa⟩ S
  have Hpb := W4.below ⟨pb0, pb1, pb2, pb3, lpb⟩ S
  have Hq2 := W4.below ⟨q20, q21, q22, q23, lq2⟩ S
  have Hq3 := W4.below ⟨q30, q31, q32, q33, lq3⟩ S
  have Hq4 := W4.below ⟨q40, q41, q42, q43, lq4⟩ S
  have Hq5 := W4.below ⟨q50, q51, q52, q53, lq5⟩ S
  have Hq6 := (W4.new w6 (M.pt 0 A) (M.pt 1 A) (M.pt 2 A) (M.pt 3 A) 24).below hb
  replace LW := LW.trans (S.mono LW.size)
  clear S hb pa0 pa1 pa2 pa3 lpa pb0 pb1 pb2 pb3 lpb q20 q21 q22 q23 lq2 q30 q31 q32 q33 lq3 q40 q41 q42 q43 lq4 q50 q51 q52 q53 lq5
  obtain ⟨pa0, pa1, pa2, pa3, lpa⟩ := Hpa
  obtain ⟨pb0, pb1, pb2, pb3, lpb⟩ := Hpb
  obtain ⟨q20, q21, q22, q23, lq2⟩ := Hq2
  obtain ⟨q30, q31, q32, q33, lq3⟩ := Hq3
  obtain ⟨q40, q41, q42, q43, lq4⟩ := Hq4
  obtain ⟨q50, q51, q52, q53, lq5⟩ := Hq5
  obtain ⟨q60, q61, q62, q63, lq6⟩ := Hq6
  generalize w6.heap.size = bq6 at q60 q61 q62 q63 lq6 ⊢
  go_wp2_with fail
  go_ret
  exact ⟨rfl, LW⟩

set_option maxRecDepth 100000 in
set_option maxHeartbeats 4000000 in
theorem turns_b (A B : Nat) (w : World) (hA : Hid (M.In A)) (hB : Hid (M.In B)) (h1 : Hid (M.In (A + B))) (h1b : Hid (M.In (B + A))) (h2 : Hid (A < B)) :
    Calls Tryd.prog 6 #[wn A, wn B] w fun e w' => e = .returned (.bool true) ∧ Below w.heap.size w w' := by
  go_enter Tryd.func6, Tryd.ntmps6
  go_wp2_with fail
  have LW : Below w.heap.size w ((w.alloc (.cells #[.int .u64 (M.pt 0 A), .int .u64 (M.pt 1 A), .int .u64 (M.pt 2 A), .int .u64 (M.pt 3 A)] 24)).alloc (.cells #[.int .u64 (M.pt 0 B), .int .u64 (M.pt 1 B), .int .u64 (M.pt 2 B), .int .u64 (M.pt 3 B)] 24)) := by
    (repeat (first | exact Below.refl _ _ | refine Below.drew ?_ | refine Below.alloc ?_ (by first | omega | (simp; omega) | simp) _ | refine Below.setCell ?_ (by first | omega | (simp; omega) | simp) _))
  have Hpa : W4 ((w.alloc (.cells #[.int .u64 (M.pt 0 A), .int .u64 (M.pt 1 A), .int .u64 (M.pt 2 A), .int .u64 (M.pt 3 A)] 24)).alloc (.cells #[.int .u64 (M.pt 0 B), .int .u64 (M.pt 1 B), .int .u64 (M.pt 2 B), .int .u64 (M.pt 3 B)] 24)) (w.heap.size) (M.pt 0 A) (M.pt 1 A) (M.pt 2 A) (M.pt 3 A) := ⟨by simp [go_sem], by simp [go_sem], by simp [go_sem], by simp [go_sem], by simp <;> omega⟩
  have Hpb : W4 ((w.alloc (.cells #[.int .u64 (M.pt 0 A), .int .u64 (M.pt 1 A), .int .u64 (M.pt 2 A), .int .u64 (M.pt 3 A)] 24)).alloc (.cells #[.int .u64 (M.pt 0 B), .int .u64 (M.pt 1 B), .int .u64 (M.pt 2 B), .int .u64 (M.pt 3 B)] 24)) (w.heap.size + 1) (M.pt 0 B) (M.pt 1 B) (M.pt 2 B) (M.pt 3 B) := ⟨by simp [go_sem], by simp [go_sem], by simp [go_sem], by simp [go_sem], by simp <;> omega⟩
  generalize ((w.alloc (.cells #[.int .u64 (M.pt 0 A), .int .u64 (M.pt 1 A), .int .u64 (M.pt 2 A), .int .u64 (M.pt 3 A)] 24)).alloc (.cells #[.int .u64 (M.pt 0 B), .int .u64 (M.pt 1 B), .int .u64 (M.pt 2 B), .int .u64 (M.pt 3 B)] 24)) = W0 at LW Hpa Hpb ⊢
  obtain ⟨pa0, pa1, pa2, pa3, lpa⟩ := Hpa
  obtain ⟨pb0, pb1, pb2, pb3, lpb⟩ := Hpb
  refine (works_any _).mono ?_
  rintro e w1 ⟨rfl, hb⟩
  have S : Below W0.heap.size W0 w1 := hb
  have Hpa := W4.below ⟨pa0, pa1, pa2, pa3, lpa⟩ S
  have Hpb := W4.below ⟨pb0, pb1, pb2, pb3, lpb⟩ S
  replace LW := LW.trans (S.mono LW.size)
  clear S hb pa0 pa1 pa2 pa3 lpa pb0 pb1 pb2 pb3 lpb
  obtain ⟨pa0, pa1, pa2, pa3, lpa⟩ := Hpa
  obtain ⟨pb0, pb1, pb2, pb3, lpb⟩ := Hpb
  go_wp2_with fail
  refine (add_no A B _ hA.out hB.out h1.out).mono ?_
  rintro e w2 ⟨rfl, hb⟩
  have S : Below w1.heap.size w1 w2 := hb
  have Hpa := W4.below ⟨pa0, pa1, pa2, pa3, lpa⟩ S
  have Hpb := W4.below ⟨pb0, pb1, pb2, pb3, lpb⟩ S
  replace LW := LW.trans (S.mono LW.size)
  clear S hb pa0 pa1 pa2 pa3 lpa pb0 pb1 pb2 pb3 lpb
  obtain ⟨pa0, pa1, pa2, pa3, lpa⟩ := Hpa
  obtain ⟨pb0, pb1, pb2, pb3, lpb⟩ := Hpb
  go_wp2_with fail
  refine (add_no B A _ hB.out hA.out h1b.out).mono ?_
  rintro e w3 ⟨rfl, hb⟩
  have S : Below w2.heap.size w2 w3 := Below.trans ((Below.refl _ w2).alloc (Nat.le_refl _) _) (hb.mono (by simp))
  have Hpa := W4.below ⟨pa0, pa1, pa2, pa3, lpa⟩ S
  have Hpb := W4.below ⟨pb0, pb1, pb2, pb3, lpb⟩ S
  have Hq2 := (W4.new w2 (M.pt 0 (A + B)) (M.pt 1 (A + B)) (M.pt 2 (A + B)) (M.pt 3 (A + B)) 24).below hb
  replace LW := LW.trans (S.mono LW.size)
  clear S hb pa0 pa1 pa2 pa3 lpa pb0 pb1 pb2 pb3 lpb
  obtain ⟨pa0, pa1, pa2, pa3, lpa⟩ := Hpa
  obtain ⟨pb0, pb1, pb2, pb3, lpb⟩ := Hpb
  obtain ⟨q20, q21, q22, q23, lq2⟩ := Hq2
  generalize w2.heap.size = bq2 at q20 q21 q22 q23 lq2 ⊢
  go_wp2_with fail
  refine (sub_back A B _ h1.out hB.out).mono ?_
  rintro e w4 ⟨rfl, hb⟩
  have S : Below w3.heap.size w3 w4 := Below.trans ((Below.refl _ w3).alloc (Nat.le_refl _) _) (hb.mono (by simp))
  have Hpa := W4.below ⟨pa0, pa1, pa2, pa3, lpa⟩ S
  have Hpb := W4.below ⟨pb0, pb1, pb2, pb3, lpb⟩ S
  have Hq2 := W4.below ⟨q20, q21, q22, q23, lq2⟩ S
  have Hq3 := (W4.new w3 (M.pt 0 (B + A)) (M.pt 1 (B + A)) (M.pt 2 (B + A)) (M.pt 3 (B + A)) 24).below hb
  replace LW := LW.trans (S.mono LW.size)
  clear S hb pa0 pa1 pa2 pa3 lpa pb0 pb1 pb2 pb3 lpb q20 q21 q22 q23 lq2
  obtain ⟨pa0, pa1, pa2, pa3, lpa⟩ := Hpa
  obtain ⟨pb0, pb1, pb2, pb3, lpb⟩ := Hpb
  obtain ⟨q20, q21, q22, q23, lq2⟩ := Hq2
  obtain ⟨q30, q31, q32, q33, lq3⟩ := Hq3
  generalize w3.heap.size = bq3 at q30 q31 q32 q33 lq3 ⊢
  go_wp2_with fail
  refine (sub_yes A B _ hA.out hB.out h2.out).mono ?_
  rintro e w5 ⟨rfl, hb⟩
  have S : Below w4.heap.size w4 w5 := Below.trans ((Below.refl _ w4).alloc (Nat.le_refl _) _) (hb.mono (by simp))
  have Hpa := W4.below ⟨pa0, pa1, pa2, pa3, lpa⟩ S
  have Hpb := W4.below ⟨pb0, pb1, pb2, pb3, lpb⟩ S
  have Hq2 := W4.below ⟨q20, q21, q22, q23, lq2⟩ S
  have Hq3 := W4.below ⟨q30, q31, q32, q33, lq3⟩ S
  have Hq4 := (W4.new w4 (M.pt 0 A) (M.pt 1 A) (M.pt 2 A) (M.pt 3 A) 24).below hb
  replace LW := LW.trans (S.mono LW.size)
  clear S hb pa0 pa1 pa2 pa3 lpa pb0 pb1 pb2 pb3 lpb q20 q21 q22 q23 lq2 q30 q31 q32 q33 lq3
  obtain ⟨pa0, pa1, pa2, pa3, lpa⟩ := Hpa
  obtain ⟨pb0, pb1, pb2, pb3, lpb⟩ := Hpb
  obtain ⟨q20, q21, q22, q23, lq2⟩ := Hq2
  obtain ⟨q30, q31, q32, q33, lq3⟩ := Hq3
  obtain ⟨q40, q41, q42, q43, lq4⟩ := Hq4
  generalize w4.heap.size = bq4 at q40 q41 q42 q43 lq4 ⊢
  go_wp2_with fail
  refine (add_zero_l B _ hB.out).mono ?_
  rintro e w6 ⟨rfl, hb⟩
  have S : Below w5.heap.size w5 w6 := Below.trans ((Below.refl _ w5).alloc (Nat.le_refl _) _) (hb.mono (by simp))
  have Hpa := W4.below ⟨pa0, pa1, pa2, pa3, lpa⟩ S
  have Hpb := W4.below ⟨pb0, pb1, pb2, pb3, lpb⟩ S
  have Hq2 := W4.below ⟨q20, q21, q22, q23, lq2⟩ S
  have Hq3 := W4.below ⟨q30, q31, q32, q33, lq3⟩ S
  have Hq4 := W4.below ⟨q40, q41, q42, q43, lq4⟩ S
  have Hq5 := (W4.new w5 (0) (0) (0) (0) 24).below hb
  replace LW := LW.trans (S.mono LW.size)
  clear S hb pa0 pa1 pa2 pa3 lpa pb0 pb1 pb2 pb3 lpb q20 q21 q22 q23 lq2 q30 q31 q32 q33 lq3 q40 q41 q42 q43 lq4
  obtain ⟨pa0, pa1, pa2, pa3, lpa⟩ := Hpa
  obtain ⟨pb0, pb1, pb2, pb3, lpb⟩ := Hpb
  obtain ⟨q20, q21, q22, q23, lq2⟩ := Hq2
  obtain ⟨q30, q31, q32, q33, lq3⟩ := Hq3
  obtain ⟨q40, q41, q42, q43, lq4⟩ := Hq4
  obtain ⟨q50, q51, q52, q53, lq5⟩ := Hq5
  generalize w5.heap.size = bq5 at q50 q51 q52 q53 lq5 ⊢
  have eq1 : ∀ w : World, (Op.equalIn 10000 24 (wn (A + B)) (wn (B + A))).run Tryd.prog w = .ok true w := fun w => by rw [eqN (h1.out) (h1b.out), decide_eq_true (by omega)]
  have eq2 : ∀ w : World, (Op.equalIn 10000 24 (wn A) (wn A)).run Tryd.prog w = .ok true w := fun w => by rw [eqN (hA.out) (hA.out), decide_eq_true (by rfl)]
  have eqz : ∀ w : World, (Op.equalIn 10000 24 (wd 0 0 0 0) (wd 0 0 0 0)).run Tryd.prog w = .ok true w := fun w => by rw [eqW]; simp
  go_wp2_with fail
  refine (less_t A B _ hA.out hB.out h2.out).mono ?_
  rintro e w7 ⟨rfl, hb⟩
  have S : Below w6.heap.size w6 w7 := Below.trans ((Below.refl _ w6).alloc (Nat.le_refl _) _) (hb.mono (by simp))
  have Hpa := W4.below ⟨pa0, pa1, pa2, pa3, lpa⟩ S
  have Hpb := W4.below ⟨pb0, pb1, pb2, pb3, lpb⟩ S
  have Hq2 := W4.below ⟨q20, q21, q22, q23, lq2⟩ S
  have Hq3 := W4.below ⟨q30, q31, q32, q33, lq3⟩ S
  have Hq4 := W4.below ⟨q40, q41, q42, q43, lq4⟩ S
  have Hq5 := W4.below ⟨q50, q51, q52, q53, lq5⟩ S
  have Hq6 := (W4.new w6 (M.pt 0 B) (M.pt 1 B) (M.pt 2 B) (M.pt 3 B) 24).below hb
  replace LW := LW.trans (S.mono LW.size)
  clear S hb pa0 pa1 pa2 pa3 lpa pb0 pb1 pb2 pb3 lpb q20 q21 q22 q23 lq2 q30 q31 q32 q33 lq3 q40 q41 q42 q43 lq4 q50 q51 q52 q53 lq5
  obtain ⟨pa0, pa1, pa2, pa3, lpa⟩ := Hpa
  obtain ⟨pb0, pb1, pb2, pb3, lpb⟩ := Hpb
  obtain ⟨q20, q21, q22, q23, lq2⟩ := Hq2
  obtain ⟨q30, q31, q32, q33, lq3⟩ := Hq3
  obtain ⟨q40, q41, q42, q43, lq4⟩ := Hq4
  obtain ⟨q50, q51, q52, q53, lq5⟩ := Hq5
  obtain ⟨q60, q61, q62, q63, lq6⟩ := Hq6
  generalize w6.heap.size = bq6 at q60 q61 q62 q63 lq6 ⊢
  go_wp2_with fail
  go_ret
  exact ⟨rfl, LW⟩

set_option maxRecDepth 100000 in
set_option maxHeartbeats 4000000 in
theorem turns_c (A B : Nat) (w : World) (hA : Hid (M.In A)) (hB : Hid (M.In B)) (h1 : Hid (¬ M.In (A + B))) (h1b : Hid (¬ M.In (B + A))) (hp : Hid (0 < B)) (h2 : Hid (B ≤ A)) :
    Calls Tryd.prog 6 #[wn A, wn B] w fun e w' => e = .returned (.bool true) ∧ Below w.heap.size w w' := by
  go_enter Tryd.func6, Tryd.ntmps6
  go_wp2_with fail
  have LW : Below w.heap.size w ((w.alloc (.cells #[.int .u64 (M.pt 0 A), .int .u64 (M.pt 1 A), .int .u64 (M.pt 2 A), .int .u64 (M.pt 3 A)] 24)).alloc (.cells #[.int .u64 (M.pt 0 B), .int .u64 (M.pt 1 B), .int .u64 (M.pt 2 B), .int .u64 (M.pt 3 B)] 24)) := by
    (repeat (first | exact Below.refl _ _ | refine Below.drew ?_ | refine Below.alloc ?_ (by first | omega | (simp; omega) | simp) _ | refine Below.setCell ?_ (by first | omega | (simp; omega) | simp) _))
  have Hpa : W4 ((w.alloc (.cells #[.int .u64 (M.pt 0 A), .int .u64 (M.pt 1 A), .int .u64 (M.pt 2 A), .int .u64 (M.pt 3 A)] 24)).alloc (.cells #[.int .u64 (M.pt 0 B), .int .u64 (M.pt 1 B), .int .u64 (M.pt 2 B), .int .u64 (M.pt 3 B)] 24)) (w.heap.size) (M.pt 0 A) (M.pt 1 A) (M.pt 2 A) (M.pt 3 A) := ⟨by simp [go_sem], by simp [go_sem], by simp [go_sem], by simp [go_sem], by simp <;> omega⟩
  have Hpb : W4 ((w.alloc (.cells #[.int .u64 (M.pt 0 A), .int .u64 (M.pt 1 A), .int .u64 (M.pt 2 A), .int .u64 (M.pt 3 A)] 24)).alloc (.cells #[.int .u64 (M.pt 0 B), .int .u64 (M.pt 1 B), .int .u64 (M.pt 2 B), .int .u64 (M.pt 3 B)] 24)) (w.heap.size + 1) (M.pt 0 B) (M.pt 1 B) (M.pt 2 B) (M.pt 3 B) := ⟨by simp [go_sem], by simp [go_sem], by simp [go_sem], by simp [go_sem], by simp <;> omega⟩
  generalize ((w.alloc (.cells #[.int .u64 (M.pt 0 A), .int .u64 (M.pt 1 A), .int .u64 (M.pt 2 A), .int .u64 (M.pt 3 A)] 24)).alloc (.cells #[.int .u64 (M.pt 0 B), .int .u64 (M.pt 1 B), .int .u64 (M.pt 2 B), .int .u64 (M.pt 3 B)] 24)) = W0 at LW Hpa Hpb ⊢
  obtain ⟨pa0, pa1, pa2, pa3, lpa⟩ := Hpa
  obtain ⟨pb0, pb1, pb2, pb3, lpb⟩ := Hpb
  refine (works_any _).mono ?_
  rintro e w1 ⟨rfl, hb⟩
  have S : Below W0.heap.size W0 w1 := hb
  have Hpa := W4.below ⟨pa0, pa1, pa2, pa3, lpa⟩ S
  have Hpb := W4.below ⟨pb0, pb1, pb2, pb3, lpb⟩ S
  replace LW := LW.trans (S.mono LW.size)
  clear S hb pa0 pa1 pa2 pa3 lpa pb0 pb1 pb2 pb3 lpb
  obtain ⟨pa0, pa1, pa2, pa3, lpa⟩ := Hpa
  obtain ⟨pb0, pb1, pb2, pb3, lpb⟩ := Hpb
  go_wp2_with fail
  refine (add_yes A B _ hA.out hB.out h1.out).mono ?_
  rintro e w2 ⟨rfl, hb⟩
  have S : Below w1.heap.size w1 w2 := hb
  have Hpa := W4.below ⟨pa0, pa1, pa2, pa3, lpa⟩ S
  have Hpb := W4.below ⟨pb0, pb1, pb2, pb3, lpb⟩ S
  replace LW := LW.trans (S.mono LW.size)
  clear S hb pa0 pa1 pa2 pa3 lpa pb0 pb1 pb2 pb3 lpb
  obtain ⟨pa0, pa1, pa2, pa3, lpa⟩ := Hpa
  obtain ⟨pb0, pb1, pb2, pb3, lpb⟩ := Hpb
  go_wp2_with fail
  refine (add_yes B A _ hB.out hA.out h1b.out).mono ?_
  rintro e w3 ⟨rfl, hb⟩
  have S : Below w2.heap.size w2 w3 := Below.trans ((Below.refl _ w2).alloc (Nat.le_refl _) _) (hb.mono (by simp))
  have Hpa := W4.below ⟨pa0, pa1, pa2, pa3, lpa⟩ S
  have Hpb := W4.below ⟨pb0, pb1, pb2, pb3, lpb⟩ S
  have Hq2 := (W4.new w2 (0) (0) (0) (0) 24).below hb
  replace LW := LW.trans (S.mono LW.size)
  clear S hb pa0 pa1 pa2 pa3 lpa pb0 pb1 pb2 pb3 lpb
  obtain ⟨pa0, pa1, pa2, pa3, lpa⟩ := Hpa
  obtain ⟨pb0, pb1, pb2, pb3, lpb⟩ := Hpb
  obtain ⟨q20, q21, q22, q23, lq2⟩ := Hq2
  generalize w2.heap.size = bq2 at q20 q21 q22 q23 lq2 ⊢
  go_wp2_with fail
  refine (sub_zero_l B _ hB.out hp.out).mono ?_
  rintro e w4 ⟨rfl, hb⟩
  have S : Below w3.heap.size w3 w4 := Below.trans ((Below.refl _ w3).alloc (Nat.le_refl _) _) (hb.mono (by simp))
  have Hpa := W4.below ⟨pa0, pa1, pa2, pa3, lpa⟩ S
  have Hpb := W4.below ⟨pb0, pb1, pb2, pb3, lpb⟩ S
  have Hq2 := W4.below ⟨q20, q21, q22, q23, lq2⟩ S
  have Hq3 := (W4.new w3 (0) (0) (0) (0) 24).below hb
  replace LW := LW.trans (S.mono LW.size)
  clear S hb pa0 pa1 pa2 pa3 lpa pb0 pb1 pb2 pb3 lpb q20 q21 q22 q23 lq2
  obtain ⟨pa0, pa1, pa2, pa3, lpa⟩ := Hpa
  obtain ⟨pb0, pb1, pb2, pb3, lpb⟩ := Hpb
  obtain ⟨q20, q21, q22, q23, lq2⟩ := Hq2
  obtain ⟨q30, q31, q32, q33, lq3⟩ := Hq3
  generalize w3.heap.size = bq3 at q30 q31 q32 q33 lq3 ⊢
  go_wp2_with fail
  refine (sub_no A B _ hA.out hB.out h2.out).mono ?_
  rintro e w5 ⟨rfl, hb⟩
  have S : Below w4.heap.size w4 w5 := Below.trans ((Below.refl _ w4).alloc (Nat.le_refl _) _) (hb.mono (by simp))
  have Hpa := W4.below ⟨pa0, pa1, pa2, pa3, lpa⟩ S
  have Hpb := W4.below ⟨pb0, pb1, pb2, pb3, lpb⟩ S
  have Hq2 := W4.below ⟨q20, q21, q22, q23, lq2⟩ S
  have Hq3 := W4.below ⟨q30, q31, q32, q33, lq3⟩ S
  have Hq4 := (W4.new w4 (0) (0) (0) (0) 24).below hb
  replace LW := LW.trans (S.mono LW.size)
  clear S hb pa0 pa1 pa2 pa3 lpa pb0 pb1 pb2 pb3 lpb q20 q21 q22 q23 lq2 q30 q31 q32 q33 lq3
  obtain ⟨pa0, pa1, pa2, pa3, lpa⟩ := Hpa
  obtain ⟨pb0, pb1, pb2, pb3, lpb⟩ := Hpb
  obtain ⟨q20, q21, q22, q23, lq2⟩ := Hq2
  obtain ⟨q30, q31, q32, q33, lq3⟩ := Hq3
  obtain ⟨q40, q41, q42, q43, lq4⟩ := Hq4
  generalize w4.heap.size = bq4 at q40 q41 q42 q43 lq4 ⊢
  go_wp2_with fail
  refine (add_back A B _ hA.out hB.out h2.out).mono ?_
  rintro e w6 ⟨rfl, hb⟩
  have S : Below w5.heap.size w5 w6 := Below.trans ((Below.refl _ w5).alloc (Nat.le_refl _) _) (hb.mono (by simp))
  have Hpa := W4.below ⟨pa0, pa1, pa2, pa3, lpa⟩ S
  have Hpb := W4.below ⟨pb0, pb1, pb2, pb3, lpb⟩ S
  have Hq2 := W4.below ⟨q20, q21, q22, q23, lq2⟩ S
  have Hq3 := W4.below ⟨q30, q31, q32, q33, lq3⟩ S
  have Hq4 := W4.below ⟨q40, q41, q42, q43, lq4⟩ S
  have Hq5 := (W4.new w5 (M.pt 0 (A - B)) (M.pt 1 (A - B)) (M.pt 2 (A - B)) (M.pt 3 (A - B)) 24).below hb
  replace LW := LW.trans (S.mono LW.size)
  clear S hb pa0 pa1 pa2 pa3 lpa pb0 pb1 pb2 pb3 lpb q20 q21 q22 q23 lq2 q30 q31 q32 q33 lq3 q40 q41 q42 q43 lq4
  obtain ⟨pa0, pa1, pa2, pa3, lpa⟩ := Hpa
  obtain ⟨pb0, pb1, pb2, pb3, lpb⟩ := Hpb
  obtain ⟨q20, q21, q22, q23, lq2⟩ := Hq2
  obtain ⟨q30, q31, q32, q33, lq3⟩ := Hq3
  obtain ⟨q40, q41, q42, q43, lq4⟩ := Hq4
  obtain ⟨q50, q51, q52, q53, lq5⟩ := Hq5
  generalize w5.heap.size = bq5 at q50 q51 q52 q53 lq5 ⊢
  have eq3 : ∀ w : World, (Op.equalIn 10000 24 (wn A) (wn A)).run Tryd.prog w = .ok true w := fun w => by rw [eqN (hA.out) (hA.out), decide_eq_true (by rfl)]
  have eqz : ∀ w : World, (Op.equalIn 10000 24 (wd 0 0 0 0) (wd 0 0 0 0)).run Tryd.prog w = .ok true w := fun w => by rw [eqW]; simp
  go_wp2_with fail
  refine (less_f A B _ hA.out hB.out (Nat.not_lt.2 h2.out)).mono ?_
  rintro e w7 ⟨rfl, hb⟩
  have S : Below w6.heap.size w6 w7 := Below.trans ((Below.refl _ w6).alloc (Nat.le_refl _) _) (hb.mono (by simp))
  have Hpa := W4.below ⟨pa0, pa1, pa2, pa3, lpa⟩ S
  have Hpb := W4.below ⟨pb0, pb1, pb2, pb3, lpb⟩ S
  have Hq2 := W4.below ⟨q20, q21, q22, q23, lq2⟩ S
  have Hq3 := W4.below ⟨q30, q31, q32, q33, lq3⟩ S
  have Hq4 := W4.below ⟨q40, q41, q42, q43, lq4⟩ S
  have Hq5 := W4.below ⟨q50, q51, q52, q53, lq5⟩ S
  have Hq6 := (W4.new w6 (M.pt 0 A) (M.pt 1 A) (M.pt 2 A) (M.pt 3 A) 24).below hb
  replace LW := LW.trans (S.mono LW.size)
  clear S hb pa0 pa1 pa2 pa3 lpa pb0 pb1 pb2 pb3 lpb q20 q21 q22 q23 lq2 q30 q31 q32 q33 lq3 q40 q41 q42 q43 lq4 q50 q51 q52 q53 lq5
  obtain ⟨pa0, pa1, pa2, pa3, lpa⟩ := Hpa
  obtain ⟨pb0, pb1, pb2, pb3, lpb⟩ := Hpb
  obtain ⟨q20, q21, q22, q23, lq2⟩ := Hq2
  obtain ⟨q30, q31, q32, q33, lq3⟩ := Hq3
  obtain ⟨q40, q41, q42, q43, lq4⟩ := Hq4
  obtain ⟨q50, q51, q52, q53, lq5⟩ := Hq5
  obtain ⟨q60, q61, q62, q63, lq6⟩ := Hq6
  generalize w6.heap.size = bq6 at q60 q61 q62 q63 lq6 ⊢
  go_wp2_with fail
  go_ret
  exact ⟨rfl, LW⟩

set_option maxRecDepth 100000 in
set_option maxHeartbeats 4000000 in
theorem turns_d (A B : Nat) (w : World) (hA : Hid (M.In A)) (hB : Hid (M.In B)) (h1 : Hid (¬ M.In (A + B))) (h1b : Hid (¬ M.In (B + A))) (hp : Hid (0 < B)) (h2 : Hid (A < B)) :
    Calls Tryd.prog 6 #[wn A, wn B] w fun e w' => e = .returned (.bool true) ∧ Below w.heap.size w w' := by
  go_enter Tryd.func6, Tryd.ntmps6
  go_wp2_with fail
  have LW : Below w.heap.size w ((w.alloc (.cells #[.int .u64 (M.pt 0 A), .int .u64 (M.pt 1 A), .int .u64 (M.pt 2 A), .int .u64 (M.pt 3 A)] 24)).alloc (.cells #[.int .u64 (M.pt 0 B), .int .u64 (M.pt 1 B), .int .u64 (M.pt 2 B), .int .u64 (M.pt 3 B)] 24)) := by
    (repeat (first | exact Below.refl _ _ | refine Below.drew ?_ | refine Below.alloc ?_ (by first | omega | (simp; omega) | simp) _ | refine Below.setCell ?_ (by first | omega | (simp; omega) | simp) _))
  have Hpa : W4 ((w.alloc (.cells #[.int .u64 (M.pt 0 A), .int .u64 (M.pt 1 A), .int .u64 (M.pt 2 A), .int .u64 (M.pt 3 A)] 24)).alloc (.cells #[.int .u64 (M.pt 0 B), .int .u64 (M.pt 1 B), .int .u64 (M.pt 2 B), .int .u64 (M.pt 3 B)] 24)) (w.heap.size) (M.pt 0 A) (M.pt 1 A) (M.pt 2 A) (M.pt 3 A) := ⟨by simp [go_sem], by simp [go_sem], by simp [go_sem], by simp [go_sem], by simp <;> omega⟩
  have Hpb : W4 ((w.alloc (.cells #[.int .u64 (M.pt 0 A), .int .u64 (M.pt 1 A), .int .u64 (M.pt 2 A), .int .u64 (M.pt 3 A)] 24)).alloc (.cells #[.int .u64 (M.pt 0 B), .int .u64 (M.pt 1 B), .int .u64 (M.pt 2 B), .int .u64 (M.pt 3 B)] 24)) (w.heap.size + 1) (M.pt 0 B) (M.pt 1 B) (M.pt 2 B) (M.pt 3 B) := ⟨by simp [go_sem], by simp [go_sem], by simp [go_sem], by simp [go_sem], by simp <;> omega⟩
  generalize ((w.alloc (.cells #[.int .u64 (M.pt 0 A), .int .u64 (M.pt 1 A), .int .u64 (M.pt 2 A), .int .u64 (M.pt 3 A)] 24)).alloc (.cells #[.int .u64 (M.pt 0 B), .int .u64 (M.pt 1 B), .int .u64 (M.pt 2 B), .int .u64 (M.pt 3 B)] 24)) = W0 at LW Hpa Hpb ⊢
  obtain ⟨pa0, pa1, pa2, pa3, lpa⟩ := Hpa
  obtain ⟨pb0, pb1, pb2, pb3, lpb⟩ := Hpb
  refine (works_any _).mono ?_
  rintro e w1 ⟨rfl, hb⟩
  have S : Below W0.heap.size W0 w1 := hb
  have Hpa := W4.below ⟨pa0, pa1, pa2, pa3, lpa⟩ S
  have Hpb := W4.below ⟨pb0, pb1, pb2, pb3, lpb⟩ S
  replace LW := LW.trans (S.mono LW.size)
  clear S hb pa0 pa1 pa2 pa3 lpa pb0 pb1 pb2 pb3 lpb
  obtain ⟨pa0, pa1, pa2, pa3, lpa⟩ := Hpa
  obtain ⟨pb0, pb1, pb2, pb3, lpb⟩ := Hpb
  go_wp2_with fail
  refine (add_yes A B _ hA.out hB.out h1.out).mono ?_
  rintro e w2 ⟨rfl, hb⟩
  have S : Below w1.heap.size w1 w2 := hb
  have Hpa := W4.below ⟨pa0, pa1, pa2, pa3, lpa⟩ S
  have Hpb := W4.below ⟨pb0, pb1, pb2, pb3, lpb⟩ S
  replace LW := LW.trans (S.mono LW.size)
  clear S hb pa0 pa1 pa2 pa3 lpa pb0 pb1 pb2 pb3 lpb
  obtain ⟨pa0, pa1, pa2, pa3, lpa⟩ := Hpa
  obtain ⟨pb0, pb1, pb2, pb3, lpb⟩ := Hpb
  go_wp2_with fail
  refine (add_yes B A _ hB.out hA.out h1b.out).mono ?_
  rintro e w3 ⟨rfl, hb⟩
  have S : Below w2.heap.size w2 w3 := Below.trans ((Below.refl _ w2).alloc (Nat.le_refl _) _) (hb.mono (by simp))
  have Hpa := W4.below ⟨pa0, pa1, pa2, pa3, lpa⟩ S
  have Hpb := W4.below ⟨pb0, pb1, pb2, pb3, lpb⟩ S
  have Hq2 := (W4.new w2 (0) (0) (0) (0) 24).below hb
  replace LW := LW.trans (S.mono LW.size)
  clear S hb pa0 pa1 pa2 pa3 lpa pb0 pb1 pb2 pb3 lpb
  obtain ⟨pa0, pa1, pa2, pa3, lpa⟩ := Hpa
  obtain ⟨pb0, pb1, pb2, pb3, lpb⟩ := Hpb
  obtain ⟨q20, q21, q22, q23, lq2⟩ := Hq2
  generalize w2.heap.size = bq2 at q20 q21 q22 q23 lq2 ⊢
  go_wp2_with fail
  refine (sub_zero_l B _ hB.out hp.out).mono ?_
  rintro e w4 ⟨rfl, hb⟩
  have S : Below w3.heap.size w3 w4 := Below.trans ((Below.refl _ w3).alloc (Nat.le_refl _) _) (hb.mono (by simp))
  have Hpa := W4.below ⟨pa0, pa1, pa2, pa3, lpa⟩ S
  have Hpb := W4.below ⟨pb0, pb1, pb2, pb3, lpb⟩ S
  have Hq2 := W4.below ⟨q20, q21, q22, q23, lq2⟩ S
  have Hq3 := (W4.new w3 (0) (0) (0) (0) 24).below hb
  replace LW := LW.trans (S.mono LW.size)
  clear S hb pa0 pa1 pa2 pa3 lpa pb0 pb1 pb2 pb3 lpb q20 q21 q22 q23 lq2
  obtain ⟨pa0, pa1, pa2, pa3, lpa⟩ := Hpa
  obtain ⟨pb0, pb1, pb2, pb3, lpb⟩ := Hpb
  obtain ⟨q20, q21, q22, q23, lq2⟩ := Hq2
  obtain ⟨q30, q31, q32, q33, lq3⟩ := Hq3
  generalize w3.heap.size = bq3 at q30 q31 q32 q33 lq3 ⊢
  go_wp2_with fail
  refine (sub_yes A B _ hA.out hB.out h2.out).mono ?_
  rintro e w5 ⟨rfl, hb⟩
  have S : Below w4.heap.size w4 w5 := Below.trans ((Below.refl _ w4).alloc (Nat.le_refl _) _) (hb.mono (by simp))
  have Hpa := W4.below ⟨pa0, pa1, pa2, pa3, lpa⟩ S
  have Hpb := W4.below ⟨pb0, pb1, pb2, pb3, lpb⟩ S
  have Hq2 := W4.below ⟨q20, q21, q22, q23, lq2⟩ S
  have Hq3 := W4.below ⟨q30, q31, q32, q33, lq3⟩ S
  have Hq4 := (W4.new w4 (0) (0) (0) (0) 24).below hb
  replace LW := LW.trans (S.mono LW.size)
  clear S hb pa0 pa1 pa2 pa3 lpa pb0 pb1 pb2 pb3 lpb q20 q21 q22 q23 lq2 q30 q31 q32 q33 lq3
  obtain ⟨pa0, pa1, pa2, pa3, lpa⟩ := Hpa
  obtain ⟨pb0, pb1, pb2, pb3, lpb⟩ := Hpb
  obtain ⟨q20, q21, q22, q23, lq2⟩ := Hq2
  obtain ⟨q30, q31, q32, q33, lq3⟩ := Hq3
  obtain ⟨q40, q41, q42, q43, lq4⟩ := Hq4
  generalize w4.heap.size = bq4 at q40 q41 q42 q43 lq4 ⊢
  go_wp2_with fail
  refine (add_zero_l B _ hB.out).mono ?_
  rintro e w6 ⟨rfl, hb⟩
  have S : Below w5.heap.size w5 w6 := Below.trans ((Below.refl _ w5).alloc (Nat.le_refl _) _) (hb.mono (by simp))
  have Hpa := W4.below ⟨pa0, pa1, pa2, pa3, lpa⟩ S
  have Hpb := W4.below ⟨pb0, pb1, pb2, pb3, lpb⟩ S
  have Hq2 := W4.below ⟨q20, q21, q22, q23, lq2⟩ S
  have Hq3 := W4.below ⟨q30, q31, q32, q33, lq3⟩ S
  have Hq4 := W4.below ⟨q40, q41, q42, q43, lq4⟩ S
  have Hq5 := (W4.new w5 (0) (0) (0) (0) 24).below hb
  replace LW := LW.trans (S.mono LW.size)
  clear S hb pa0 pa1 pa2 pa3 lpa pb0 pb1 pb2 pb3 lpb q20 q21 q22 q23 lq2 q30 q31 q32 q33 lq3 q40 q41 q42 q43 lq4
  obtain ⟨pa0, pa1, pa2, pa3, lpa⟩ := Hpa
  obtain ⟨pb0, pb1, pb2, pb3, lpb⟩ := Hpb
  obtain ⟨q20, q21, q22, q23, lq2⟩ := Hq2
  obtain ⟨q30, q31, q32, q33, lq3⟩ := Hq3
  obtain ⟨q40, q41, q42, q43, lq4⟩ := Hq4
  obtain ⟨q50, q51, q52, q53, lq5⟩ := Hq5
  generalize w5.heap.size = bq5 at q50 q51 q52 q53 lq5 ⊢
  have eqz : ∀ w : World, (Op.equalIn 10000 24 (wd 0 0 0 0) (wd 0 0 0 0)).run Tryd.prog w = .ok true w := fun w => by rw [eqW]; simp
  go_wp2_with fail
  refine (less_t A B _ hA.out hB.out h2.out).mono ?_
  rintro e w7 ⟨rfl, hb⟩
  have S : Below w6.heap.size w6 w7 := Below.trans ((Below.refl _ w6).alloc (Nat.le_refl _) _) (hb.mono (by simp))
  have Hpa := W4.below ⟨pa0, pa1, pa2, pa3, lpa⟩ S
  have Hpb := W4.below ⟨pb0, pb1, pb2, pb3, lpb⟩ S
  have Hq2 := W4.below ⟨q20, q21, q22, q23, lq2⟩ S
  have Hq3 := W4.below ⟨q30, q31, q32, q33, lq3⟩ S
  have Hq4 := W4.below ⟨q40, q41, q42, q43, lq4⟩ S
  have Hq5 := W4.below ⟨q50, q51, q52, q53, lq5⟩ S
  have Hq6 := (W4.new w6 (M.pt 0 B) (M.pt 1 B) (M.pt 2 B) (M.pt 3 B) 24).below hb
  replace LW := LW.trans (S.mono LW.size)
  clear S hb pa0 pa1 pa2 pa3 lpa pb0 pb1 pb2 pb3 lpb q20 q21 q22 q23 lq2 q30 q31 q32 q33 lq3 q40 q41 q42 q43 lq4 q50 q51 q52 q53 lq5
  obtain ⟨pa0, pa1, pa2, pa3, lpa⟩ := Hpa
  obtain ⟨pb0, pb1, pb2, pb3, lpb⟩ := Hpb
  obtain ⟨q20, q21, q22, q23, lq2⟩ := Hq2
  obtain ⟨q30, q31, q32, q33, lq3⟩ := Hq3
  obtain ⟨q40, q41, q42, q43, lq4⟩ := Hq4
  obtain ⟨q50, q51, q52, q53, lq5⟩ := Hq5
  obtain ⟨q60, q61, q62, q63, lq6⟩ := Hq6
  generalize w6.heap.size = bq6 at q60 q61 q62 q63 lq6 ⊢
  go_wp2_with fail
  go_ret
  exact ⟨rfl, LW⟩

theorem turns_any (A B : Nat) (w : World) (hA : M.In A) (hB : M.In B) :
    Calls Tryd.prog 6 #[wn A, wn B] w fun e w' => e = .returned (.bool true) ∧ Below w.heap.size w w' := by
  by_cases h1 : M.In (A + B)
  · have h1b : M.In (B + A) := by rw [Nat.add_comm]; exact h1
    by_cases h2 : B ≤ A
    · exact turns_a A B w hA hB h1 h1b h2
    · exact turns_b A B w hA hB h1 h1b (by show _ < _; omega)
  · have h1b : ¬ M.In (B + A) := by rw [Nat.add_comm]; exact h1
    have hp : 0 < B := by unfold M.In at *; omega
    by_cases h2 : B ≤ A
    · exact turns_c A B w hA hB h1 h1b hp h2
    · exact turns_d A B w hA hB h1 h1b hp (by show _ < _; omega)
end Go.Proofs.YtcnngpmganhjoaaDoor
