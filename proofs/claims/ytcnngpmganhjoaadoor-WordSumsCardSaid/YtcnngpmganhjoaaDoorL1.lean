/- WordSums: the walk: sums, differences, which one is below, and whether one is small, are the reference's. -/
import Derived.Test.YtcnngpmganhjoaaDoorK2
import Derived.Test.YtcnngpmganhjoaaDoorR9
namespace Go.Proofs.YtcnngpmganhjoaaDoor
open Go Go.RowKit

set_option maxRecDepth 100000 in
set_option maxHeartbeats 4000000 in
theorem sums_gen (a0 a1 a2 a3 b0 b1 b2 b3 s0 s1 s2 s3 d0 d1 d2 d3 e1 e2 m n : Int) (lt is : Bool) (w : World) (ha1 : Hid (∀ w : World, Calls Tryd.prog 10 #[wd a0 a1 a2 a3, wd b0 b1 b2 b3] w fun e w' => e = .returned (.tuple #[wd s0 s1 s2 s3, .int .i64 e1]) ∧ Below w.heap.size w w')) (ha2 : Hid (∀ w : World, Calls Tryd.prog 11 #[wd a0 a1 a2 a3, wd b0 b1 b2 b3] w fun e w' => e = .returned (.tuple #[wd s0 s1 s2 s3, .int .i64 e1]) ∧ Below w.heap.size w w')) (hs1 : Hid (∀ w : World, Calls Tryd.prog 12 #[wd a0 a1 a2 a3, wd b0 b1 b2 b3] w fun e w' => e = .returned (.tuple #[wd d0 d1 d2 d3, .int .i64 e2]) ∧ Below w.heap.size w w')) (hs2 : Hid (∀ w : World, Calls Tryd.prog 13 #[wd a0 a1 a2 a3, wd b0 b1 b2 b3] w fun e w' => e = .returned (.tuple #[wd d0 d1 d2 d3, .int .i64 e2]) ∧ Below w.heap.size w w')) (hl2 : Hid (∀ w : World, Calls Tryd.prog 14 #[wd a0 a1 a2 a3, wd b0 b1 b2 b3] w fun e w' => e = .returned (.bool lt) ∧ Below w.heap.size w w')) (hm1 : Hid (∀ w : World, Calls Tryd.prog 15 #[wd a0 a1 a2 a3] w fun e w' => e = .returned (.tuple #[.int .u64 m, .bool is]) ∧ Below w.heap.size w w')) (hm2 : Hid (∀ w : World, Calls Tryd.prog 16 #[wd a0 a1 a2 a3] w fun e w' => e = .returned (.tuple #[.int .u64 m, .bool is]) ∧ Below w.heap.size w w')) (hl1 : Hid (∀ w : World, Calls Tryd.prog 17 #[wd a0 a1 a2 a3, wd b0 b1 b2 b3] w fun e w' => e = .returned (.bool lt) ∧ Below w.heap.size w w')) :
    Calls Tryd.prog 3 #[wd a0 a1 a2 a3, wd b0 b1 b2 b3, .int .u64 n] w fun e w' => e = .returned (.bool true) ∧ Below w.heap.size w w' := by
  go_enter Tryd.func3, Tryd.ntmps3
  go_wp2_with fail
  have LW : Below w.heap.size w ((w.alloc (.cells #[.int .u64 (a0), .int .u64 (a1), .int .u64 (a2), .int .u64 (a3)] 24)).alloc (.cells #[.int .u64 (b0), .int .u64 (b1), .int .u64 (b2), .int .u64 (b3)] 24)) := by
    (repeat (first | exact Below.refl _ _ | refine Below.drew ?_ | refine Below.alloc ?_ (by first | omega | (simp; omega) | simp) _ | refine Below.setCell ?_ (by first | omega | (simp; omega) | simp) _))
  have Hpa : W4 ((w.alloc (.cells #[.int .u64 (a0), .int .u64 (a1), .int .u64 (a2), .int .u64 (a3)] 24)).alloc (.cells #[.int .u64 (b0), .int .u64 (b1), .int .u64 (b2), .int .u64 (b3)] 24)) (w.heap.size) (a0) (a1) (a2) (a3) := ⟨by simp [go_sem], by simp [go_sem], by simp [go_sem], by simp [go_sem], by simp <;> omega⟩
  have Hpb : W4 ((w.alloc (.cells #[.int .u64 (a0), .int .u64 (a1), .int .u64 (a2), .int .u64 (a3)] 24)).alloc (.cells #[.int .u64 (b0), .int .u64 (b1), .int .u64 (b2), .int .u64 (b3)] 24)) (w.heap.size + 1) (b0) (b1) (b2) (b3) := ⟨by simp [go_sem], by simp [go_sem], by simp [go_sem], by simp [go_sem], by simp <;> omega⟩
  generalize ((w.alloc (.cells #[.int .u64 (a0), .int .u64 (a1), .int .u64 (a2), .int .u64 (a3)] 24)).alloc (.cells #[.int .u64 (b0), .int .u64 (b1), .int .u64 (b2), .int .u64 (b3)] 24)) = W0 at LW Hpa Hpb ⊢
  obtain ⟨pa0, pa1, pa2, pa3, lpa⟩ := Hpa
  obtain ⟨pb0, pb1, pb2, pb3, lpb⟩ := Hpb
  refine (works_any _).mono ?_
  rintro e w1 ⟨rfl, hb⟩
  have S : Below W0.heap.size W0 w1 := hb
  have Hpa := W4.below ⟨pa0, pa1, pa2, pa3, lpa⟩ S
  have Hpb := W4.below ⟨pb0, pb1, pb2, pb3, lpb⟩ S
  replace LW := LW.trans (S.mono LW.size)
  clear S hb pa0 pa1 pa2 pa3 lpa pb0 pb1 pb2 pb3 lpb
  obtain ⟨pa0, pa1, pa2, pa3, lpa⟩ := Hpa
  obtain ⟨pb0, pb1, pb2, pb3, lpb⟩ := Hpb
  go_wp2_with fail
  refine (ha1.out _).mono ?_
  rintro e w2 ⟨rfl, hb⟩
  have S : Below w1.heap.size w1 w2 := hb
  have Hpa := W4.below ⟨pa0, pa1, pa2, pa3, lpa⟩ S
  have Hpb := W4.below ⟨pb0, pb1, pb2, pb3, lpb⟩ S
  replace LW := LW.trans (S.mono LW.size)
  clear S hb pa0 pa1 pa2 pa3 lpa pb0 pb1 pb2 pb3 lpb
  obtain ⟨pa0, pa1, pa2, pa3, lpa⟩ := Hpa
  obtain ⟨pb0, pb1, pb2, pb3, lpb⟩ := Hpb
  go_wp2_with fail
  refine (ha2.out _).mono ?_
  rintro e w3 ⟨rfl, hb⟩
  have S : Below w2.heap.size w2 w3 := Below.trans ((Below.refl _ w2).alloc (Nat.le_refl _) _) (hb.mono (by simp))
  have Hpa := W4.below ⟨pa0, pa1, pa2, pa3, lpa⟩ S
  have Hpb := W4.below ⟨pb0, pb1, pb2, pb3, lpb⟩ S
  have Hq2 := (W4.new w2 (s0) (s1) (s2) (s3) 24).below hb
  replace LW := LW.trans (S.mono LW.size)
  clear S hb pa0 pa1 pa2 pa3 lpa pb0 pb1 pb2 pb3 lpb
  obtain ⟨pa0, pa1, pa2, pa3, lpa⟩ := Hpa
  obtain ⟨pb0, pb1, pb2, pb3, lpb⟩ := Hpb
  obtain ⟨q20, q21, q22, q23, lq2⟩ := Hq2
  generalize w2.heap.size = bq2 at q20 q21 q22 q23 lq2 ⊢
  go_wp2_with fail
  refine (hs1.out _).mono ?_
  rintro e w4 ⟨rfl, hb⟩
  have S : Below w3.heap.size w3 w4 := Below.trans ((Below.refl _ w3).alloc (Nat.le_refl _) _) (hb.mono (by simp))
  have Hpa := W4.below ⟨pa0, pa1, pa2, pa3, lpa⟩ S
  have Hpb := W4.below ⟨pb0, pb1, pb2, pb3, lpb⟩ S
  have Hq2 := W4.below ⟨q20, q21, q22, q23, lq2⟩ S
  have Hq3 := (W4.new w3 (s0) (s1) (s2) (s3) 24).below hb
  replace LW := LW.trans (S.mono LW.size)
  clear S hb pa0 pa1 pa2 pa3 lpa pb0 pb1 pb2 pb3 lpb q20 q21 q22 q23 lq2
  obtain ⟨pa0, pa1, pa2, pa3, lpa⟩ := Hpa
  obtain ⟨pb0, pb1, pb2, pb3, lpb⟩ := Hpb
  obtain ⟨q20, q21, q22, q23, lq2⟩ := Hq2
  obtain ⟨q30, q31, q32, q33, lq3⟩ := Hq3
  generalize w3.heap.size = bq3 at q30 q31 q32 q33 lq3 ⊢
  go_wp2_with fail
  refine (hs2.out _).mono ?_
  rintro e w5 ⟨rfl, hb⟩
  have S : Below w4.heap.size w4 w5 := Below.trans ((Below.refl _ w4).alloc (Nat.le_refl _) _) (hb.mono (by simp))
  have Hpa := W4.below ⟨pa0, pa1, pa2, pa3, lpa⟩ S
  have Hpb := W4.below ⟨pb0, pb1, pb2, pb3, lpb⟩ S
  have Hq2 := W4.below ⟨q20, q21, q22, q23, lq2⟩ S
  have Hq3 := W4.below ⟨q30, q31, q32, q33, lq3⟩ S
  have Hq4 := (W4.new w4 (d0) (d1) (d2) (d3) 24).below hb
  replace LW := LW.trans (S.mono LW.size)
  clear S hb pa0 pa1 pa2 pa3 lpa pb0 pb1 pb2 pb3 lpb q20 q21 q22 q23 lq2 q30 q31 q32 q33 lq3
  obtain ⟨pa0, pa1, pa2, pa3, lpa⟩ := Hpa
  obtain ⟨pb0, pb1, pb2, pb3, lpb⟩ := Hpb
  obtain ⟨q20, q21, q22, q23, lq2⟩ := Hq2
  obtain ⟨q30, q31, q32, q33, lq3⟩ := Hq3
  obtain ⟨q40, q41, q42, q43, lq4⟩ := Hq4
  generalize w4.heap.size = bq4 at q40 q41 q42 q43 lq4 ⊢
  go_wp2_with fail
  refine (hl2.out _).mono ?_
  rintro e w6 ⟨rfl, hb⟩
  have S : Below w5.heap.size w5 w6 := Below.trans ((Below.refl _ w5).alloc (Nat.le_refl _) _) (hb.mono (by simp))
  have Hpa := W4.below ⟨pa0, pa1, pa2, pa3, lpa⟩ S
  have Hpb := W4.below ⟨pb0, pb1, pb2, pb3, lpb⟩ S
  have Hq2 := W4.below ⟨q20, q21, q22, q23, lq2⟩ S
  have Hq3 := W4.below ⟨q30, q31, q32, q33, lq3⟩ S
  have Hq4 := W4.below ⟨q40, q41, q42, q43, lq4⟩ S
  have Hq5 := (W4.new w5 (d0) (d1) (d2) (d3) 24).below hb
  replace LW := LW.trans (S.mono LW.size)
  clear S hb pa0 pa1 pa2 pa3 lpa pb0 pb1 pb2 pb3 lpb q20 q21 q22 q23 lq2 q30 q31 q32 q33 lq3 q40 q41 q42 q43 lq4
  obtain ⟨pa0, pa1, pa2, pa3, lpa⟩ := Hpa
  obtain ⟨pb0, pb1, pb2, pb3, lpb⟩ := Hpb
  obtain ⟨q20, q21, q22, q23, lq2⟩ := Hq2
  obtain ⟨q30, q31, q32, q33, lq3⟩ := Hq3
  obtain ⟨q40, q41, q42, q43, lq4⟩ := Hq4
  obtain ⟨q50, q51, q52, q53, lq5⟩ := Hq5
  generalize w5.heap.size = bq5 at q50 q51 q52 q53 lq5 ⊢
  go_wp2_with fail
  refine (hm1.out _).mono ?_
  rintro e w7 ⟨rfl, hb⟩
  have S : Below w6.heap.size w6 w7 := hb
  have Hpa := W4.below ⟨pa0, pa1, pa2, pa3, lpa⟩ S
  have Hpb := W4.below ⟨pb0, pb1, pb2, pb3, lpb⟩ S
  have Hq2 := W4.below ⟨q20, q21, q22, q23, lq2⟩ S
  have Hq3 := W4.below ⟨q30, q31, q32, q33, lq3⟩ S
  have Hq4 := W4.below ⟨q40, q41, q42, q43, lq4⟩ S
  have Hq5 := W4.below ⟨q50, q51, q52, q53, lq5⟩ S
  replace LW := LW.trans (S.mono LW.size)
  clear S hb pa0 pa1 pa2 pa3 lpa pb0 pb1 pb2 pb3 lpb q20 q21 q22 q23 lq2 q30 q31 q32 q33 lq3 q40 q41 q42 q43 lq4 q50 q51 q52 q53 lq5
  obtain ⟨pa0, pa1, pa2, pa3, lpa⟩ := Hpa
  obtain ⟨pb0, pb1, pb2, pb3, lpb⟩ := Hpb
  obtain ⟨q20, q21, q22, q23, lq2⟩ := Hq2
  obtain ⟨q30, q31, q32, q33, lq3⟩ := Hq3
  obtain ⟨q40, q41, q42, q43, lq4⟩ := Hq4
  obtain ⟨q50, q51, q52, q53, lq5⟩ := Hq5
  go_wp2_with fail
  refine (hm2.out _).mono ?_
  rintro e w8 ⟨rfl, hb⟩
  have S : Below w7.heap.size w7 w8 := hb
  have Hpa := W4.below ⟨pa0, pa1, pa2, pa3, lpa⟩ S
  have Hpb := W4.below ⟨pb0, pb1, pb2, pb3, lpb⟩ S
  have Hq2 := W4.below ⟨q20, q21, q22, q23, lq2⟩ S
  have Hq3 := W4.below ⟨q30, q31, q32, q33, lq3⟩ S
  have Hq4 := W4.below ⟨q40, q41, q42, q43, lq4⟩ S
  have Hq5 := W4.below ⟨q50, q51, q52, q53, lq5⟩ S
  replace LW := LW.trans (S.mono LW.size)
  clear S hb pa0 pa1 pa2 pa3 lpa pb0 pb1 pb2 pb3 lpb q20 q21 q22 q23 lq2 q30 q31 q32 q33 lq3 q40 q41 q42 q43 lq4 q50 q51 q52 q53 lq5
  obtain ⟨pa0, pa1, pa2, pa3, lpa⟩ := Hpa
  obtain ⟨pb0, pb1, pb2, pb3, lpb⟩ := Hpb
  obtain ⟨q20, q21, q22, q23, lq2⟩ := Hq2
  obtain ⟨q30, q31, q32, q33, lq3⟩ := Hq3
  obtain ⟨q40, q41, q42, q43, lq4⟩ := Hq4
  obtain ⟨q50, q51, q52, q53, lq5⟩ := Hq5
  have eqs : ∀ w : World, (Op.equalIn 10000 24 (wd s0 s1 s2 s3) (wd s0 s1 s2 s3)).run Tryd.prog w = .ok true w := fun w => by rw [eqW]; simp
  have eqd : ∀ w : World, (Op.equalIn 10000 24 (wd d0 d1 d2 d3) (wd d0 d1 d2 d3)).run Tryd.prog w = .ok true w := fun w => by rw [eqW]; simp
  have eqn : ∀ w : World, (Op.equalIn 10000 24 (wd n 0 0 0) (wd n 0 0 0)).run Tryd.prog w = .ok true w := fun w => by rw [eqW]; simp
  go_wp2_with fail
  refine (hl1.out _).mono ?_
  rintro e w9 ⟨rfl, hb⟩
  have S : Below w8.heap.size w8 w9 := hb
  have Hpa := W4.below ⟨pa0, pa1, pa2, pa3, lpa⟩ S
  have Hpb := W4.below ⟨pb0, pb1, pb2, pb3, lpb⟩ S
  have Hq2 := W4.below ⟨q20, q21, q22, q23, lq2⟩ S
  have Hq3 := W4.below ⟨q30, q31, q32, q33, lq3⟩ S
  have Hq4 := W4.below ⟨q40, q41, q42, q43, lq4⟩ S
  have Hq5 := W4.below ⟨q50, q51, q52, q53, lq5⟩ S
  replace LW := LW.trans (S.mono LW.size)
  clear S hb pa0 pa1 pa2 pa3 lpa pb0 pb1 pb2 pb3 lpb q20 q21 q22 q23 lq2 q30 q31 q32 q33 lq3 q40 q41 q42 q43 lq4 q50 q51 q52 q53 lq5
  obtain ⟨pa0, pa1, pa2, pa3, lpa⟩ := Hpa
  obtain ⟨pb0, pb1, pb2, pb3, lpb⟩ := Hpb
  obtain ⟨q20, q21, q22, q23, lq2⟩ := Hq2
  obtain ⟨q30, q31, q32, q33, lq3⟩ := Hq3
  obtain ⟨q40, q41, q42, q43, lq4⟩ := Hq4
  obtain ⟨q50, q51, q52, q53, lq5⟩ := Hq5
  go_wp2_with fail
  refine (of_any n _).mono ?_
  rintro e w10 ⟨rfl, hb⟩
  have S : Below w9.heap.size w9 w10 := hb
  have Hpa := W4.below ⟨pa0, pa1, pa2, pa3, lpa⟩ S
  have Hpb := W4.below ⟨pb0, pb1, pb2, pb3, lpb⟩ S
  have Hq2 := W4.below ⟨q20, q21, q22, q23, lq2⟩ S
  have Hq3 := W4.below ⟨q30, q31, q32, q33, lq3⟩ S
  have Hq4 := W4.below ⟨q40, q41, q42, q43, lq4⟩ S
  have Hq5 := W4.below ⟨q50, q51, q52, q53, lq5⟩ S
  replace LW := LW.trans (S.mono LW.size)
  clear S hb pa0 pa1 pa2 pa3 lpa pb0 pb1 pb2 pb3 lpb q20 q21 q22 q23 lq2 q30 q31 q32 q33 lq3 q40 q41 q42 q43 lq4 q50 q51 q52 q53 lq5
  obtain ⟨pa0, pa1, pa2, pa3, lpa⟩ := Hpa
  obtain ⟨pb0, pb1, pb2, pb3, lpb⟩ := Hpb
  obtain ⟨q20, q21, q22, q23, lq2⟩ := Hq2
  obtain ⟨q30, q31, q32, q33, lq3⟩ := Hq3
  obtain ⟨q40, q41, q42, q43, lq4⟩ := Hq4
  obtain ⟨q50, q51, q52, q53, lq5⟩ := Hq5
  go_wp2_with fail
  go_ret
  exact ⟨rfl, LW⟩

theorem sums_any (A B : Nat) (n : Int) (w : World) (hA : M.In A) (hB : M.In B) (_hn : (Lit.int .u64 n).wf = true) :
    Calls Tryd.prog 3 #[wn A, wn B, .int .u64 n] w fun e w' => e = .returned (.bool true) ∧ Below w.heap.size w w' := by
  have hP : (256 : Nat) ^ 32 = 115792089237316195423570985008687907853269984665640564039457584007913129639936 := by decide
  have hl2 := fun w => rless_any A B w (by show _ = _; rw [Nat.div_eq_of_lt (by rw [hP]; exact hA), Nat.div_eq_of_lt (by rw [hP]; exact hB)])
  obtain ⟨D, hD⟩ : ∃ D, D + B = A + 256 ^ 32 := ⟨A + 256 ^ 32 - B, by have : B < 256 ^ 32 := by { rw [hP]; exact hB }; omega⟩
  have go : ∀ s0 s1 s2 s3 d0 d1 d2 d3 e1 e2 m : Int, ∀ is : Bool, Hid (∀ w : World, Calls Tryd.prog 10 #[wn A, wn B] w fun e w' => e = .returned (.tuple #[wd s0 s1 s2 s3, .int .i64 e1]) ∧ Below w.heap.size w w') → Hid (∀ w : World, Calls Tryd.prog 11 #[wn A, wn B] w fun e w' => e = .returned (.tuple #[wd s0 s1 s2 s3, .int .i64 e1]) ∧ Below w.heap.size w w') → Hid (∀ w : World, Calls Tryd.prog 12 #[wn A, wn B] w fun e w' => e = .returned (.tuple #[wd d0 d1 d2 d3, .int .i64 e2]) ∧ Below w.heap.size w w') → Hid (∀ w : World, Calls Tryd.prog 13 #[wn A, wn B] w fun e w' => e = .returned (.tuple #[wd d0 d1 d2 d3, .int .i64 e2]) ∧ Below w.heap.size w w') → Hid (∀ w : World, Calls Tryd.prog 15 #[wn A] w fun e w' => e = .returned (.tuple #[.int .u64 m, .bool is]) ∧ Below w.heap.size w w') → Hid (∀ w : World, Calls Tryd.prog 16 #[wn A] w fun e w' => e = .returned (.tuple #[.int .u64 m, .bool is]) ∧ Below w.heap.size w w') →
      Calls Tryd.prog 3 #[wn A, wn B, .int .u64 n] w fun e w' => e = .returned (.bool true) ∧ Below w.heap.size w w' :=
    fun s0 s1 s2 s3 d0 d1 d2 d3 e1 e2 m is h1 h2 h3 h4 h5 h6 => sums_gen _ _ _ _ _ _ _ _ s0 s1 s2 s3 d0 d1 d2 d3 e1 e2 m n _ is w h1 h2 h3 h4 hl2 h5 h6 (fun w => less_any A B w hA hB)
  by_cases hS : M.In (A + B)
  · by_cases hL : B ≤ A
    · by_cases hM : A < 18446744073709551616
      · exact go _ _ _ _ _ _ _ _ _ _ _ _ (fun w => add_no A B w hA hB hS) (fun w => radd_no A B w hA hB hS) (fun w => sub_no A B w hA hB hL) (fun w => rsub_no A B D w hA hB hL hD) (fun w => small_lt A w hM) (fun w => rsmall_yes A w ((M.tr_small hA).2 hM))
      · exact go _ _ _ _ _ _ _ _ _ _ _ _ (fun w => add_no A B w hA hB hS) (fun w => radd_no A B w hA hB hS) (fun w => sub_no A B w hA hB hL) (fun w => rsub_no A B D w hA hB hL hD) (fun w => small_ge A w hA hM) (fun w => rsmall_no A w (fun hl => hM ((M.tr_small hA).1 hl)))
    · have hL' : A < B := by omega
      by_cases hM : A < 18446744073709551616
      · exact go _ _ _ _ _ _ _ _ _ _ _ _ (fun w => add_no A B w hA hB hS) (fun w => radd_no A B w hA hB hS) (fun w => sub_yes A B w hA hB hL') (fun w => rsub_yes A B D w hA hB hL' hD) (fun w => small_lt A w hM) (fun w => rsmall_yes A w ((M.tr_small hA).2 hM))
      · exact go _ _ _ _ _ _ _ _ _ _ _ _ (fun w => add_no A B w hA hB hS) (fun w => radd_no A B w hA hB hS) (fun w => sub_yes A B w hA hB hL') (fun w => rsub_yes A B D w hA hB hL' hD) (fun w => small_ge A w hA hM) (fun w => rsmall_no A w (fun hl => hM ((M.tr_small hA).1 hl)))
  · by_cases hL : B ≤ A
    · by_cases hM : A < 18446744073709551616
      · exact go _ _ _ _ _ _ _ _ _ _ _ _ (fun w => add_yes A B w hA hB hS) (fun w => radd_yes A B w hA hB hS) (fun w => sub_no A B w hA hB hL) (fun w => rsub_no A B D w hA hB hL hD) (fun w => small_lt A w hM) (fun w => rsmall_yes A w ((M.tr_small hA).2 hM))
      · exact go _ _ _ _ _ _ _ _ _ _ _ _ (fun w => add_yes A B w hA hB hS) (fun w => radd_yes A B w hA hB hS) (fun w => sub_no A B w hA hB hL) (fun w => rsub_no A B D w hA hB hL hD) (fun w => small_ge A w hA hM) (fun w => rsmall_no A w (fun hl => hM ((M.tr_small hA).1 hl)))
    · have hL' : A < B := by omega
      by_cases hM : A < 18446744073709551616
      · exact go _ _ _ _ _ _ _ _ _ _ _ _ (fun w => add_yes A B w hA hB hS) (fun w => radd_yes A B w hA hB hS) (fun w => sub_yes A B w hA hB hL') (fun w => rsub_yes A B D w hA hB hL' hD) (fun w => small_lt A w hM) (fun w => rsmall_yes A w ((M.tr_small hA).2 hM))
      · exact go _ _ _ _ _ _ _ _ _ _ _ _ (fun w => add_yes A B w hA hB hS) (fun w => radd_yes A B w hA hB hS) (fun w => sub_yes A B w hA hB hL') (fun w => rsub_yes A B D w hA hB hL' hD) (fun w => small_ge A w hA hM) (fun w => rsmall_no A w (fun hl => hM ((M.tr_small hA).1 hl)))
end Go.Proofs.YtcnngpmganhjoaaDoor
