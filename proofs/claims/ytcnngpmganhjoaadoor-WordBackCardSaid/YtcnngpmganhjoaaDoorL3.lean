/- WordBack: the walk: what is written is read again, and nothing else is read. -/
import Derived.Test.YtcnngpmganhjoaaDoorK2
namespace Go.Proofs.YtcnngpmganhjoaaDoor
open Go Go.RowKit

theorem no_zero {l : List UInt8} (h : Lib.hasPrefix l [0] = false) : ∀ c r, l = c :: r → c ≠ 0 := by
  rintro c r rfl rfl
  simp [Lib.hasPrefix, List.isPrefixOf] at h
theorem zero_no {l : List UInt8} (h : ∀ c r, l = c :: r → c ≠ 0) : Lib.hasPrefix l [0] = false := by
  cases l with
  | nil => rfl
  | cons c r =>
    have := h c r rfl
    simp [Lib.hasPrefix, List.isPrefixOf]
    exact fun e => this e.symm

theorem parse_bytes (N : Nat) (w : World) (hN : M.In N) :
    Calls Tryd.prog 21 #[.string ⟨(M.tr (M.f32 N)).toArray⟩] w fun e w' => e = .returned (.tuple #[wn N, .int .i64 0]) ∧ Below w.heap.size w w' := by
  have h := parse_ok (M.tr (M.f32 N)) w (by have := M.tr_length_le (M.f32 N); rw [M.f32_length] at this; exact this) (zero_no (M.tr_head _))
  rw [M.dg_tr, M.dg_f32 hN] at h
  exact h
theorem unfixed_fixed (N : Nat) (w : World) (hN : M.In N) :
    Calls Tryd.prog 23 #[.string ⟨(M.f32 N).toArray⟩] w fun e w' => e = .returned (.tuple #[wn N, .int .i64 0]) ∧ Below w.heap.size w w' := by
  have h := unfixed_any (M.f32 N) w (M.f32_length N)
  rw [M.dg_f32 hN] at h
  exact h
theorem bytes_back (l : List UInt8) (w : World) (h : l.length ≤ 32) (hp : Lib.hasPrefix l [0] = false) :
    Calls Tryd.prog 26 #[wn (M.dg l)] w fun e w' => e = .returned (.string ⟨l.toArray⟩) ∧ Below w.heap.size w w' := by
  have e : M.tr (M.f32 (M.dg l)) = l := by
    have e1 : M.f32 (M.dg l) = List.replicate (32 - l.length) 0 ++ l := by
      rw [← M.dg_zeros (32 - l.length) l]
      exact M.f32_dg (by simp; omega)
    rw [e1]
    exact M.tr_zeros _ _ (no_zero hp)
  have := bytes_any (M.dg l) w (M.in_dg h)
  rw [e] at this
  exact this
theorem fixed_back (l : List UInt8) (w : World) (h : l.length = 32) :
    Calls Tryd.prog 25 #[wn (M.dg l)] w fun e w' => e = .returned (.string ⟨l.toArray⟩) ∧ Below w.heap.size w w' := by
  have := fixed_any (M.dg l) w (M.in_dg (by omega))
  rw [M.f32_dg h] at this
  exact this

set_option maxRecDepth 100000 in
set_option maxHeartbeats 4000000 in
theorem back_far (N : Nat) (l : List UInt8) (w : World) (h200 : 200 < l.length) :
    Calls Tryd.prog 5 #[wn N, .string ⟨l.toArray⟩] w fun e w' => e = .returned (.bool true) ∧ Below w.heap.size w w' := by
  go_enter Tryd.func5, Tryd.ntmps5
  go_wp2_with fail
  have LW : Below w.heap.size w (w.alloc (.cells #[.int .u64 (M.pt 0 N), .int .u64 (M.pt 1 N), .int .u64 (M.pt 2 N), .int .u64 (M.pt 3 N)] 24)) := by
    (repeat (first | exact Below.refl _ _ | refine Below.drew ?_ | refine Below.alloc ?_ (by first | omega | (simp; omega) | simp) _ | refine Below.setCell ?_ (by first | omega | (simp; omega) | simp) _))
  have Hpa : W4 (w.alloc (.cells #[.int .u64 (M.pt 0 N), .int .u64 (M.pt 1 N), .int .u64 (M.pt 2 N), .int .u64 (M.pt 3 N)] 24)) (w.heap.size) (M.pt 0 N) (M.pt 1 N) (M.pt 2 N) (M.pt 3 N) := ⟨by simp [go_sem], by simp [go_sem], by simp [go_sem], by simp [go_sem], by simp <;> omega⟩
  generalize (w.alloc (.cells #[.int .u64 (M.pt 0 N), .int .u64 (M.pt 1 N), .int .u64 (M.pt 2 N), .int .u64 (M.pt 3 N)] 24)) = W0 at LW Hpa ⊢
  obtain ⟨pa0, pa1, pa2, pa3, lpa⟩ := Hpa
  refine (works_any _).mono ?_
  rintro e w1 ⟨rfl, hb⟩
  have S : Below W0.heap.size W0 w1 := hb
  have Hpa := W4.below ⟨pa0, pa1, pa2, pa3, lpa⟩ S
  replace LW := LW.trans (S.mono LW.size)
  clear S hb pa0 pa1 pa2 pa3 lpa
  obtain ⟨pa0, pa1, pa2, pa3, lpa⟩ := Hpa
  go_wp2_with fail
  go_ret
  exact ⟨rfl, LW⟩

set_option maxRecDepth 100000 in
set_option maxHeartbeats 4000000 in
theorem back_a (N : Nat) (l : List UInt8) (w : World) (hN : Hid (M.In N)) (h200 : l.length ≤ 200) (h1 : Hid (32 < l.length)) (h2 : Hid (¬ l.length = 32)) :
    Calls Tryd.prog 5 #[wn N, .string ⟨l.toArray⟩] w fun e w' => e = .returned (.bool true) ∧ Below w.heap.size w w' := by
  go_enter Tryd.func5, Tryd.ntmps5
  go_wp2_with fail
  have LW : Below w.heap.size w (w.alloc (.cells #[.int .u64 (M.pt 0 N), .int .u64 (M.pt 1 N), .int .u64 (M.pt 2 N), .int .u64 (M.pt 3 N)] 24)) := by
    (repeat (first | exact Below.refl _ _ | refine Below.drew ?_ | refine Below.alloc ?_ (by first | omega | (simp; omega) | simp) _ | refine Below.setCell ?_ (by first | omega | (simp; omega) | simp) _))
  have Hpa : W4 (w.alloc (.cells #[.int .u64 (M.pt 0 N), .int .u64 (M.pt 1 N), .int .u64 (M.pt 2 N), .int .u64 (M.pt 3 N)] 24)) (w.heap.size) (M.pt 0 N) (M.pt 1 N) (M.pt 2 N) (M.pt 3 N) := ⟨by simp [go_sem], by simp [go_sem], by simp [go_sem], by simp [go_sem], by simp <;> omega⟩
  generalize (w.alloc (.cells #[.int .u64 (M.pt 0 N), .int .u64 (M.pt 1 N), .int .u64 (M.pt 2 N), .int .u64 (M.pt 3 N)] 24)) = W0 at LW Hpa ⊢
  obtain ⟨pa0, pa1, pa2, pa3, lpa⟩ := Hpa
  refine (works_any _).mono ?_
  rintro e w1 ⟨rfl, hb⟩
  have S : Below W0.heap.size W0 w1 := hb
  have Hpa := W4.below ⟨pa0, pa1, pa2, pa3, lpa⟩ S
  replace LW := LW.trans (S.mono LW.size)
  clear S hb pa0 pa1 pa2 pa3 lpa
  obtain ⟨pa0, pa1, pa2, pa3, lpa⟩ := Hpa
  go_wp2_with fail
  refine (bytes_any N _ hN.out).mono ?_
  rintro e w2 ⟨rfl, hb⟩
  have S : Below w1.heap.size w1 w2 := hb
  have Hpa := W4.below ⟨pa0, pa1, pa2, pa3, lpa⟩ S
  replace LW := LW.trans (S.mono LW.size)
  clear S hb pa0 pa1 pa2 pa3 lpa
  obtain ⟨pa0, pa1, pa2, pa3, lpa⟩ := Hpa
  go_wp2_with fail
  refine (parse_bytes N _ hN.out).mono ?_
  rintro e w3 ⟨rfl, hb⟩
  have S : Below w2.heap.size w2 w3 := hb
  have Hpa := W4.below ⟨pa0, pa1, pa2, pa3, lpa⟩ S
  replace LW := LW.trans (S.mono LW.size)
  clear S hb pa0 pa1 pa2 pa3 lpa
  obtain ⟨pa0, pa1, pa2, pa3, lpa⟩ := Hpa
  go_wp2_with fail
  refine (fixed_any N _ hN.out).mono ?_
  rintro e w4 ⟨rfl, hb⟩
  have S : Below w3.heap.size w3 w4 := Below.trans ((Below.refl _ w3).alloc (Nat.le_refl _) _) (hb.mono (by simp))
  have Hpa := W4.below ⟨pa0, pa1, pa2, pa3, lpa⟩ S
  have Hq3 := (W4.new w3 (M.pt 0 N) (M.pt 1 N) (M.pt 2 N) (M.pt 3 N) 24).below hb
  replace LW := LW.trans (S.mono LW.size)
  clear S hb pa0 pa1 pa2 pa3 lpa
  obtain ⟨pa0, pa1, pa2, pa3, lpa⟩ := Hpa
  obtain ⟨q30, q31, q32, q33, lq3⟩ := Hq3
  generalize w3.heap.size = bq3 at q30 q31 q32 q33 lq3 ⊢
  go_wp2_with fail
  refine (unfixed_fixed N _ hN.out).mono ?_
  rintro e w5 ⟨rfl, hb⟩
  have S : Below w4.heap.size w4 w5 := hb
  have Hpa := W4.below ⟨pa0, pa1, pa2, pa3, lpa⟩ S
  have Hq3 := W4.below ⟨q30, q31, q32, q33, lq3⟩ S
  replace LW := LW.trans (S.mono LW.size)
  clear S hb pa0 pa1 pa2 pa3 lpa q30 q31 q32 q33 lq3
  obtain ⟨pa0, pa1, pa2, pa3, lpa⟩ := Hpa
  obtain ⟨q30, q31, q32, q33, lq3⟩ := Hq3
  go_wp2_with fail
  refine (parse_long l _ h1.out).mono ?_
  rintro e w6 ⟨rfl, hb⟩
  have S : Below w5.heap.size w5 w6 := Below.trans ((Below.refl _ w5).alloc (Nat.le_refl _) _) (hb.mono (by simp))
  have Hpa := W4.below ⟨pa0, pa1, pa2, pa3, lpa⟩ S
  have Hq3 := W4.below ⟨q30, q31, q32, q33, lq3⟩ S
  have Hq5 := (W4.new w5 (M.pt 0 N) (M.pt 1 N) (M.pt 2 N) (M.pt 3 N) 24).below hb
  replace LW := LW.trans (S.mono LW.size)
  clear S hb pa0 pa1 pa2 pa3 lpa q30 q31 q32 q33 lq3
  obtain ⟨pa0, pa1, pa2, pa3, lpa⟩ := Hpa
  obtain ⟨q30, q31, q32, q33, lq3⟩ := Hq3
  obtain ⟨q50, q51, q52, q53, lq5⟩ := Hq5
  generalize w5.heap.size = bq5 at q50 q51 q52 q53 lq5 ⊢
  go_wp2_with fail
  refine (unfixed_bad l _ h2.out).mono ?_
  rintro e w7 ⟨rfl, hb⟩
  have S : Below w6.heap.size w6 w7 := Below.trans ((Below.refl _ w6).alloc (Nat.le_refl _) _) (hb.mono (by simp))
  have Hpa := W4.below ⟨pa0, pa1, pa2, pa3, lpa⟩ S
  have Hq3 := W4.below ⟨q30, q31, q32, q33, lq3⟩ S
  have Hq5 := W4.below ⟨q50, q51, q52, q53, lq5⟩ S
  have Hq6 := (W4.new w6 (0) (0) (0) (0) 24).below hb
  replace LW := LW.trans (S.mono LW.size)
  clear S hb pa0 pa1 pa2 pa3 lpa q30 q31 q32 q33 lq3 q50 q51 q52 q53 lq5
  obtain ⟨pa0, pa1, pa2, pa3, lpa⟩ := Hpa
  obtain ⟨q30, q31, q32, q33, lq3⟩ := Hq3
  obtain ⟨q50, q51, q52, q53, lq5⟩ := Hq5
  obtain ⟨q60, q61, q62, q63, lq6⟩ := Hq6
  generalize w6.heap.size = bq6 at q60 q61 q62 q63 lq6 ⊢
  have eqn : ∀ w : World, (Op.equalIn 10000 24 (wn N) (wn N)).run Tryd.prog w = .ok true w := fun w => by rw [eqN hN.out hN.out, decide_eq_true rfl]
  go_wp2_with fail
  go_ret
  exact ⟨rfl, LW.alloc LW.size _⟩

set_option maxRecDepth 100000 in
set_option maxHeartbeats 4000000 in
theorem back_b (N : Nat) (l : List UInt8) (w : World) (hN : Hid (M.In N)) (h200 : l.length ≤ 200) (h1 : Hid (l.length ≤ 32)) (hp : Hid (Lib.hasPrefix l [0] = true)) (h2 : Hid (¬ l.length = 32)) :
    Calls Tryd.prog 5 #[wn N, .string ⟨l.toArray⟩] w fun e w' => e = .returned (.bool true) ∧ Below w.heap.size w w' := by
  go_enter Tryd.func5, Tryd.ntmps5
  go_wp2_with fail
  have LW : Below w.heap.size w (w.alloc (.cells #[.int .u64 (M.pt 0 N), .int .u64 (M.pt 1 N), .int .u64 (M.pt 2 N), .int .u64 (M.pt 3 N)] 24)) := by
    (repeat (first | exact Below.refl _ _ | refine Below.drew ?_ | refine Below.alloc ?_ (by first | omega | (simp; omega) | simp) _ | refine Below.setCell ?_ (by first | omega | (simp; omega) | simp) _))
  have Hpa : W4 (w.alloc (.cells #[.int .u64 (M.pt 0 N), .int .u64 (M.pt 1 N), .int .u64 (M.pt 2 N), .int .u64 (M.pt 3 N)] 24)) (w.heap.size) (M.pt 0 N) (M.pt 1 N) (M.pt 2 N) (M.pt 3 N) := ⟨by simp [go_sem], by simp [go_sem], by simp [go_sem], by simp [go_sem], by simp <;> omega⟩
  generalize (w.alloc (.cells #[.int .u64 (M.pt 0 N), .int .u64 (M.pt 1 N), .int .u64 (M.pt 2 N), .int .u64 (M.pt 3 N)] 24)) = W0 at LW Hpa ⊢
  obtain ⟨pa0, pa1, pa2, pa3, lpa⟩ := Hpa
  refine (works_any _).mono ?_
  rintro e w1 ⟨rfl, hb⟩
  have S : Below W0.heap.size W0 w1 := hb
  have Hpa := W4.below ⟨pa0, pa1, pa2, pa3, lpa⟩ S
  replace LW := LW.trans (S.mono LW.size)
  clear S hb pa0 pa1 pa2 pa3 lpa
  obtain ⟨pa0, pa1, pa2, pa3, lpa⟩ := Hpa
  go_wp2_with fail
  refine (bytes_any N _ hN.out).mono ?_
  rintro e w2 ⟨rfl, hb⟩
  have S : Below w1.heap.size w1 w2 := hb
  have Hpa := W4.below ⟨pa0, pa1, pa2, pa3, lpa⟩ S
  replace LW := LW.trans (S.mono LW.size)
  clear S hb pa0 pa1 pa2 pa3 lpa
  obtain ⟨pa0, pa1, pa2, pa3, lpa⟩ := Hpa
  go_wp2_with fail
  refine (parse_bytes N _ hN.out).mono ?_
  rintro e w3 ⟨rfl, hb⟩
  have S : Below w2.heap.size w2 w3 := hb
  have Hpa := W4.below ⟨pa0, pa1, pa2, pa3, lpa⟩ S
  replace LW := LW.trans (S.mono LW.size)
  clear S hb pa0 pa1 pa2 pa3 lpa
  obtain ⟨pa0, pa1, pa2, pa3, lpa⟩ := Hpa
  go_wp2_with fail
  refine (fixed_any N _ hN.out).mono ?_
  rintro e w4 ⟨rfl, hb⟩
  have S : Below w3.heap.size w3 w4 := Below.trans ((Below.refl _ w3).alloc (Nat.le_refl _) _) (hb.mono (by simp))
  have Hpa := W4.below ⟨pa0, pa1, pa2, pa3, lpa⟩ S
  have Hq3 := (W4.new w3 (M.pt 0 N) (M.pt 1 N) (M.pt 2 N) (M.pt 3 N) 24).below hb
  replace LW := LW.trans (S.mono LW.size)
  clear S hb pa0 pa1 pa2 pa3 lpa
  obtain ⟨pa0, pa1, pa2, pa3, lpa⟩ := Hpa
  obtain ⟨q30, q31, q32, q33, lq3⟩ := Hq3
  generalize w3.heap.size = bq3 at q30 q31 q32 q33 lq3 ⊢
  go_wp2_with fail
  refine (unfixed_fixed N _ hN.out).mono ?_
  rintro e w5 ⟨rfl, hb⟩
  have S : Below w4.heap.size w4 w5 := hb
  have Hpa := W4.below ⟨pa0, pa1, pa2, pa3, lpa⟩ S
  have Hq3 := W4.below ⟨q30, q31, q32, q33, lq3⟩ S
  replace LW := LW.trans (S.mono LW.size)
  clear S hb pa0 pa1 pa2 pa3 lpa q30 q31 q32 q33 lq3
  obtain ⟨pa0, pa1, pa2, pa3, lpa⟩ := Hpa
  obtain ⟨q30, q31, q32, q33, lq3⟩ := Hq3
  go_wp2_with fail
  refine (parse_spare l _ h1.out hp).mono ?_
  rintro e w6 ⟨rfl, hb⟩
  have S : Below w5.heap.size w5 w6 := Below.trans ((Below.refl _ w5).alloc (Nat.le_refl _) _) (hb.mono (by simp))
  have Hpa := W4.below ⟨pa0, pa1, pa2, pa3, lpa⟩ S
  have Hq3 := W4.below ⟨q30, q31, q32, q33, lq3⟩ S
  have Hq5 := (W4.new w5 (M.pt 0 N) (M.pt 1 N) (M.pt 2 N) (M.pt 3 N) 24).below hb
  replace LW := LW.trans (S.mono LW.size)
  clear S hb pa0 pa1 pa2 pa3 lpa q30 q31 q32 q33 lq3
  obtain ⟨pa0, pa1, pa2, pa3, lpa⟩ := Hpa
  obtain ⟨q30, q31, q32, q33, lq3⟩ := Hq3
  obtain ⟨q50, q51, q52, q53, lq5⟩ := Hq5
  generalize w5.heap.size = bq5 at q50 q51 q52 q53 lq5 ⊢
  go_wp2_with fail
  refine (unfixed_bad l _ h2.out).mono ?_
  rintro e w7 ⟨rfl, hb⟩
  have S : Below w6.heap.size w6 w7 := Below.trans ((Below.refl _ w6).alloc (Nat.le_refl _) _) (hb.mono (by simp))
  have Hpa := W4.below ⟨pa0, pa1, pa2, pa3, lpa⟩ S
  have Hq3 := W4.below ⟨q30, q31, q32, q33, lq3⟩ S
  have Hq5 := W4.below ⟨q50, q51, q52, q53, lq5⟩ S
  have Hq6 := (W4.new w6 (0) (0) (0) (0) 24).below hb
  replace LW := LW.trans (S.mono LW.size)
  clear S hb pa0 pa1 pa2 pa3 lpa q30 q31 q32 q33 lq3 q50 q51 q52 q53 lq5
  obtain ⟨pa0, pa1, pa2, pa3, lpa⟩ := Hpa
  obtain ⟨q30, q31, q32, q33, lq3⟩ := Hq3
  obtain ⟨q50, q51, q52, q53, lq5⟩ := Hq5
  obtain ⟨q60, q61, q62, q63, lq6⟩ := Hq6
  generalize w6.heap.size = bq6 at q60 q61 q62 q63 lq6 ⊢
  have eqn : ∀ w : World, (Op.equalIn 10000 24 (wn N) (wn N)).run Tryd.prog w = .ok true w := fun w => by rw [eqN hN.out hN.out, decide_eq_true rfl]
  go_wp2_with fail
  go_ret
  exact ⟨rfl, LW.alloc LW.size _⟩

set_option maxRecDepth 100000 in
set_option maxHeartbeats 4000000 in
theorem back_c (N : Nat) (l : List UInt8) (w : World) (hN : Hid (M.In N)) (h200 : l.length ≤ 200) (h1 : Hid (l.length ≤ 32)) (hp : Hid (Lib.hasPrefix l [0] = true)) (h2 : Hid (l.length = 32)) :
    Calls Tryd.prog 5 #[wn N, .string ⟨l.toArray⟩] w fun e w' => e = .returned (.bool true) ∧ Below w.heap.size w w' := by
  go_enter Tryd.func5, Tryd.ntmps5
  go_wp2_with fail
  have LW : Below w.heap.size w (w.alloc (.cells #[.int .u64 (M.pt 0 N), .int .u64 (M.pt 1 N), .int .u64 (M.pt 2 N), .int .u64 (M.pt 3 N)] 24)) := by
    (repeat (first | exact Below.refl _ _ | refine Below.drew ?_ | refine Below.alloc ?_ (by first | omega | (simp; omega) | simp) _ | refine Below.setCell ?_ (by first | omega | (simp; omega) | simp) _))
  have Hpa : W4 (w.alloc (.cells #[.int .u64 (M.pt 0 N), .int .u64 (M.pt 1 N), .int .u64 (M.pt 2 N), .int .u64 (M.pt 3 N)] 24)) (w.heap.size) (M.pt 0 N) (M.pt 1 N) (M.pt 2 N) (M.pt 3 N) := ⟨by simp [go_sem], by simp [go_sem], by simp [go_sem], by simp [go_sem], by simp <;> omega⟩
  generalize (w.alloc (.cells #[.int .u64 (M.pt 0 N), .int .u64 (M.pt 1 N), .int .u64 (M.pt 2 N), .int .u64 (M.pt 3 N)] 24)) = W0 at LW Hpa ⊢
  obtain ⟨pa0, pa1, pa2, pa3, lpa⟩ := Hpa
  refine (works_any _).mono ?_
  rintro e w1 ⟨rfl, hb⟩
  have S : Below W0.heap.size W0 w1 := hb
  have Hpa := W4.below ⟨pa0, pa1, pa2, pa3, lpa⟩ S
  replace LW := LW.trans (S.mono LW.size)
  clear S hb pa0 pa1 pa2 pa3 lpa
  obtain ⟨pa0, pa1, pa2, pa3, lpa⟩ := Hpa
  go_wp2_with fail
  refine (bytes_any N _ hN.out).mono ?_
  rintro e w2 ⟨rfl, hb⟩
  have S : Below w1.heap.size w1 w2 := hb
  have Hpa := W4.below ⟨pa0, pa1, pa2, pa3, lpa⟩ S
  replace LW := LW.trans (S.mono LW.size)
  clear S hb pa0 pa1 pa2 pa3 lpa
  obtain ⟨pa0, pa1, pa2, pa3, lpa⟩ := Hpa
  go_wp2_with fail
  refine (parse_bytes N _ hN.out).mono ?_
  rintro e w3 ⟨rfl, hb⟩
  have S : Below w2.heap.size w2 w3 := hb
  have Hpa := W4.below ⟨pa0, pa1, pa2, pa3, lpa⟩ S
  replace LW := LW.trans (S.mono LW.size)
  clear S hb pa0 pa1 pa2 pa3 lpa
  obtain ⟨pa0, pa1, pa2, pa3, lpa⟩ := Hpa
  go_wp2_with fail
  refine (fixed_any N _ hN.out).mono ?_
  rintro e w4 ⟨rfl, hb⟩
  have S : Below w3.heap.size w3 w4 := Below.trans ((Below.refl _ w3).alloc (Nat.le_refl _) _) (hb.mono (by simp))
  have Hpa := W4.below ⟨pa0, pa1, pa2, pa3, lpa⟩ S
  have Hq3 := (W4.new w3 (M.pt 0 N) (M.pt 1 N) (M.pt 2 N) (M.pt 3 N) 24).below hb
  replace LW := LW.trans (S.mono LW.size)
  clear S hb pa0 pa1 pa2 pa3 lpa
  obtain ⟨pa0, pa1, pa2, pa3, lpa⟩ := Hpa
  obtain ⟨q30, q31, q32, q33, lq3⟩ := Hq3
  generalize w3.heap.size = bq3 at q30 q31 q32 q33 lq3 ⊢
  go_wp2_with fail
  refine (unfixed_fixed N _ hN.out).mono ?_
  rintro e w5 ⟨rfl, hb⟩
  have S : Below w4.heap.size w4 w5 := hb
  have Hpa := W4.below ⟨pa0, pa1, pa2, pa3, lpa⟩ S
  have Hq3 := W4.below ⟨q30, q31, q32, q33, lq3⟩ S
  replace LW := LW.trans (S.mono LW.size)
  clear S hb pa0 pa1 pa2 pa3 lpa q30 q31 q32 q33 lq3
  obtain ⟨pa0, pa1, pa2, pa3, lpa⟩ := Hpa
  obtain ⟨q30, q31, q32, q33, lq3⟩ := Hq3
  go_wp2_with fail
  refine (parse_spare l _ h1.out hp).mono ?_
  rintro e w6 ⟨rfl, hb⟩
  have S : Below w5.heap.size w5 w6 := Below.trans ((Below.refl _ w5).alloc (Nat.le_refl _) _) (hb.mono (by simp))
  have Hpa := W4.below ⟨pa0, pa1, pa2, pa3, lpa⟩ S
  have Hq3 := W4.below ⟨q30, q31, q32, q33, lq3⟩ S
  have Hq5 := (W4.new w5 (M.pt 0 N) (M.pt 1 N) (M.pt 2 N) (M.pt 3 N) 24).below hb
  replace LW := LW.trans (S.mono LW.size)
  clear S hb pa0 pa1 pa2 pa3 lpa q30 q31 q32 q33 lq3
  obtain ⟨pa0, pa1, pa2, pa3, lpa⟩ := Hpa
  obtain ⟨q30, q31, q32, q33, lq3⟩ := Hq3
  obtain ⟨q50, q51, q52, q53, lq5⟩ := Hq5
  generalize w5.heap.size = bq5 at q50 q51 q52 q53 lq5 ⊢
  go_wp2_with fail
  refine (unfixed_any l _ h2.out).mono ?_
  rintro e w7 ⟨rfl, hb⟩
  have S : Below w6.heap.size w6 w7 := Below.trans ((Below.refl _ w6).alloc (Nat.le_refl _) _) (hb.mono (by simp))
  have Hpa := W4.below ⟨pa0, pa1, pa2, pa3, lpa⟩ S
  have Hq3 := W4.below ⟨q30, q31, q32, q33, lq3⟩ S
  have Hq5 := W4.below ⟨q50, q51, q52, q53, lq5⟩ S
  have Hq6 := (W4.new w6 (0) (0) (0) (0) 24).below hb
  replace LW := LW.trans (S.mono LW.size)
  clear S hb pa0 pa1 pa2 pa3 lpa q30 q31 q32 q33 lq3 q50 q51 q52 q53 lq5
  obtain ⟨pa0, pa1, pa2, pa3, lpa⟩ := Hpa
  obtain ⟨q30, q31, q32, q33, lq3⟩ := Hq3
  obtain ⟨q50, q51, q52, q53, lq5⟩ := Hq5
  obtain ⟨q60, q61, q62, q63, lq6⟩ := Hq6
  generalize w6.heap.size = bq6 at q60 q61 q62 q63 lq6 ⊢
  have eqn : ∀ w : World, (Op.equalIn 10000 24 (wn N) (wn N)).run Tryd.prog w = .ok true w := fun w => by rw [eqN hN.out hN.out, decide_eq_true rfl]
  go_wp2_with fail
  refine (fixed_back l _ h2.out).mono ?_
  rintro e w8 ⟨rfl, hb⟩
  have S : Below w7.heap.size w7 w8 := Below.trans ((Below.refl _ w7).alloc (Nat.le_refl _) _) (hb.mono (by simp))
  have Hpa := W4.below ⟨pa0, pa1, pa2, pa3, lpa⟩ S
  have Hq3 := W4.below ⟨q30, q31, q32, q33, lq3⟩ S
  have Hq5 := W4.below ⟨q50, q51, q52, q53, lq5⟩ S
  have Hq6 := W4.below ⟨q60, q61, q62, q63, lq6⟩ S
  have Hq7 := (W4.new w7 (M.pt 0 (M.dg l)) (M.pt 1 (M.dg l)) (M.pt 2 (M.dg l)) (M.pt 3 (M.dg l)) 24).below hb
  replace LW := LW.trans (S.mono LW.size)
  clear S hb pa0 pa1 pa2 pa3 lpa q30 q31 q32 q33 lq3 q50 q51 q52 q53 lq5 q60 q61 q62 q63 lq6
  obtain ⟨pa0, pa1, pa2, pa3, lpa⟩ := Hpa
  obtain ⟨q30, q31, q32, q33, lq3⟩ := Hq3
  obtain ⟨q50, q51, q52, q53, lq5⟩ := Hq5
  obtain ⟨q60, q61, q62, q63, lq6⟩ := Hq6
  obtain ⟨q70, q71, q72, q73, lq7⟩ := Hq7
  generalize w7.heap.size = bq7 at q70 q71 q72 q73 lq7 ⊢
  go_wp2_with fail
  go_ret
  exact ⟨rfl, LW⟩

set_option maxRecDepth 100000 in
set_option maxHeartbeats 4000000 in
theorem back_d (N : Nat) (l : List UInt8) (w : World) (hN : Hid (M.In N)) (h200 : l.length ≤ 200) (h1 : Hid (l.length ≤ 32)) (hp : Hid (Lib.hasPrefix l [0] = false)) (h2 : Hid (¬ l.length = 32)) :
    Calls Tryd.prog 5 #[wn N, .string ⟨l.toArray⟩] w fun e w' => e = .returned (.bool true) ∧ Below w.heap.size w w' := by
  go_enter Tryd.func5, Tryd.ntmps5
  go_wp2_with fail
  have LW : Below w.heap.size w (w.alloc (.cells #[.int .u64 (M.pt 0 N), .int .u64 (M.pt 1 N), .int .u64 (M.pt 2 N), .int .u64 (M.pt 3 N)] 24)) := by
    (repeat (first | exact Below.refl _ _ | refine Below.drew ?_ | refine Below.alloc ?_ (by first | omega | (simp; omega) | simp) _ | refine Below.setCell ?_ (by first | omega | (simp; omega) | simp) _))
  have Hpa : W4 (w.alloc (.cells #[.int .u64 (M.pt 0 N), .int .u64 (M.pt 1 N), .int .u64 (M.pt 2 N), .int .u64 (M.pt 3 N)] 24)) (w.heap.size) (M.pt 0 N) (M.pt 1 N) (M.pt 2 N) (M.pt 3 N) := ⟨by simp [go_sem], by simp [go_sem], by simp [go_sem], by simp [go_sem], by simp <;> omega⟩
  generalize (w.alloc (.cells #[.int .u64 (M.pt 0 N), .int .u64 (M.pt 1 N), .int .u64 (M.pt 2 N), .int .u64 (M.pt 3 N)] 24)) = W0 at LW Hpa ⊢
  obtain ⟨pa0, pa1, pa2, pa3, lpa⟩ := Hpa
  refine (works_any _).mono ?_
  rintro e w1 ⟨rfl, hb⟩
  have S : Below W0.heap.size W0 w1 := hb
  have Hpa := W4.below ⟨pa0, pa1, pa2, pa3, lpa⟩ S
  replace LW := LW.trans (S.mono LW.size)
  clear S hb pa0 pa1 pa2 pa3 lpa
  obtain ⟨pa0, pa1, pa2, pa3, lpa⟩ := Hpa
  go_wp2_with fail
  refine (bytes_any N _ hN.out).mono ?_
  rintro e w2 ⟨rfl, hb⟩
  have S : Below w1.heap.size w1 w2 := hb
  have Hpa := W4.below ⟨pa0, pa1, pa2, pa3, lpa⟩ S
  replace LW := LW.trans (S.mono LW.size)
  clear S hb pa0 pa1 pa2 pa3 lpa
  obtain ⟨pa0, pa1, pa2, pa3, lpa⟩ := Hpa
  go_wp2_with fail
  refine (parse_bytes N _ hN.out).mono ?_
  rintro e w3 ⟨rfl, hb⟩
  have S : Below w2.heap.size w2 w3 := hb
  have Hpa := W4.below ⟨pa0, pa1, pa2, pa3, lpa⟩ S
  replace LW := LW.trans (S.mono LW.size)
  clear S hb pa0 pa1 pa2 pa3 lpa
  obtain ⟨pa0, pa1, pa2, pa3, lpa⟩ := Hpa
  go_wp2_with fail
  refine (fixed_any N _ hN.out).mono ?_
  rintro e w4 ⟨rfl, hb⟩
  have S : Below w3.heap.size w3 w4 := Below.trans ((Below.refl _ w3).alloc (Nat.le_refl _) _) (hb.mono (by simp))
  have Hpa := W4.below ⟨pa0, pa1, pa2, pa3, lpa⟩ S
  have Hq3 := (W4.new w3 (M.pt 0 N) (M.pt 1 N) (M.pt 2 N) (M.pt 3 N) 24).below hb
  replace LW := LW.trans (S.mono LW.size)
  clear S hb pa0 pa1 pa2 pa3 lpa
  obtain ⟨pa0, pa1, pa2, pa3, lpa⟩ := Hpa
  obtain ⟨q30, q31, q32, q33, lq3⟩ := Hq3
  generalize w3.heap.size = bq3 at q30 q31 q32 q33 lq3 ⊢
  go_wp2_with fail
  refine (unfixed_fixed N _ hN.out).mono ?_
  rintro e w5 ⟨rfl, hb⟩
  have S : Below w4.heap.size w4 w5 := hb
  have Hpa := W4.below ⟨pa0, pa1, pa2, pa3, lpa⟩ S
  have Hq3 := W4.below ⟨q30, q31, q32, q33, lq3⟩ S
  replace LW := LW.trans (S.mono LW.size)
  clear S hb pa0 pa1 pa2 pa3 lpa q30 q31 q32 q33 lq3
  obtain ⟨pa0, pa1, pa2, pa3, lpa⟩ := Hpa
  obtain ⟨q30, q31, q32, q33, lq3⟩ := Hq3
  go_wp2_with fail
  refine (parse_ok l _ h1.out hp).mono ?_
  rintro e w6 ⟨rfl, hb⟩
  have S : Below w5.heap.size w5 w6 := Below.trans ((Below.refl _ w5).alloc (Nat.le_refl _) _) (hb.mono (by simp))
  have Hpa := W4.below ⟨pa0, pa1, pa2, pa3, lpa⟩ S
  have Hq3 := W4.below ⟨q30, q31, q32, q33, lq3⟩ S
  have Hq5 := (W4.new w5 (M.pt 0 N) (M.pt 1 N) (M.pt 2 N) (M.pt 3 N) 24).below hb
  replace LW := LW.trans (S.mono LW.size)
  clear S hb pa0 pa1 pa2 pa3 lpa q30 q31 q32 q33 lq3
  obtain ⟨pa0, pa1, pa2, pa3, lpa⟩ := Hpa
  obtain ⟨q30, q31, q32, q33, lq3⟩ := Hq3
  obtain ⟨q50, q51, q52, q53, lq5⟩ := Hq5
  generalize w5.heap.size = bq5 at q50 q51 q52 q53 lq5 ⊢
  go_wp2_with fail
  refine (unfixed_bad l _ h2.out).mono ?_
  rintro e w7 ⟨rfl, hb⟩
  have S : Below w6.heap.size w6 w7 := Below.trans ((Below.refl _ w6).alloc (Nat.le_refl _) _) (hb.mono (by simp))
  have Hpa := W4.below ⟨pa0, pa1, pa2, pa3, lpa⟩ S
  have Hq3 := W4.below ⟨q30, q31, q32, q33, lq3⟩ S
  have Hq5 := W4.below ⟨q50, q51, q52, q53, lq5⟩ S
  have Hq6 := (W4.new w6 (M.pt 0 (M.dg l)) (M.pt 1 (M.dg l)) (M.pt 2 (M.dg l)) (M.pt 3 (M.dg l)) 24).below hb
  replace LW := LW.trans (S.mono LW.size)
  clear S hb pa0 pa1 pa2 pa3 lpa q30 q31 q32 q33 lq3 q50 q51 q52 q53 lq5
  obtain ⟨pa0, pa1, pa2, pa3, lpa⟩ := Hpa
  obtain ⟨q30, q31, q32, q33, lq3⟩ := Hq3
  obtain ⟨q50, q51, q52, q53, lq5⟩ := Hq5
  obtain ⟨q60, q61, q62, q63, lq6⟩ := Hq6
  generalize w6.heap.size = bq6 at q60 q61 q62 q63 lq6 ⊢
  have eqn : ∀ w : World, (Op.equalIn 10000 24 (wn N) (wn N)).run Tryd.prog w = .ok true w := fun w => by rw [eqN hN.out hN.out, decide_eq_true rfl]
  go_wp2_with fail
  refine (bytes_back l _ h1.out hp.out).mono ?_
  rintro e w8 ⟨rfl, hb⟩
  have S : Below w7.heap.size w7 w8 := Below.trans ((Below.refl _ w7).alloc (Nat.le_refl _) _) (hb.mono (by simp))
  have Hpa := W4.below ⟨pa0, pa1, pa2, pa3, lpa⟩ S
  have Hq3 := W4.below ⟨q30, q31, q32, q33, lq3⟩ S
  have Hq5 := W4.below ⟨q50, q51, q52, q53, lq5⟩ S
  have Hq6 := W4.below ⟨q60, q61, q62, q63, lq6⟩ S
  have Hq7 := (W4.new w7 (0) (0) (0) (0) 24).below hb
  replace LW := LW.trans (S.mono LW.size)
  clear S hb pa0 pa1 pa2 pa3 lpa q30 q31 q32 q33 lq3 q50 q51 q52 q53 lq5 q60 q61 q62 q63 lq6
  obtain ⟨pa0, pa1, pa2, pa3, lpa⟩ := Hpa
  obtain ⟨q30, q31, q32, q33, lq3⟩ := Hq3
  obtain ⟨q50, q51, q52, q53, lq5⟩ := Hq5
  obtain ⟨q60, q61, q62, q63, lq6⟩ := Hq6
  obtain ⟨q70, q71, q72, q73, lq7⟩ := Hq7
  generalize w7.heap.size = bq7 at q70 q71 q72 q73 lq7 ⊢
  go_wp2_with fail
  go_ret
  exact ⟨rfl, LW⟩

set_option maxRecDepth 100000 in
set_option maxHeartbeats 4000000 in
theorem back_e (N : Nat) (l : List UInt8) (w : World) (hN : Hid (M.In N)) (h200 : l.length ≤ 200) (h1 : Hid (l.length ≤ 32)) (hp : Hid (Lib.hasPrefix l [0] = false)) (h2 : Hid (l.length = 32)) :
    Calls Tryd.prog 5 #[wn N, .string ⟨l.toArray⟩] w fun e w' => e = .returned (.bool true) ∧ Below w.heap.size w w' := by
  go_enter Tryd.func5, Tryd.ntmps5
  go_wp2_with fail
  have LW : Below w.heap.size w (w.alloc (.cells #[.int .u64 (M.pt 0 N), .int .u64 (M.pt 1 N), .int .u64 (M.pt 2 N), .int .u64 (M.pt 3 N)] 24)) := by
    (repeat (first | exact Below.refl _ _ | refine Below.drew ?_ | refine Below.alloc ?_ (by first | omega | (simp; omega) | simp) _ | refine Below.setCell ?_ (by first | omega | (simp; omega) | simp) _))
  have Hpa : W4 (w.alloc (.cells #[.int .u64 (M.pt 0 N), .int .u64 (M.pt 1 N), .int .u64 (M.pt 2 N), .int .u64 (M.pt 3 N)] 24)) (w.heap.size) (M.pt 0 N) (M.pt 1 N) (M.pt 2 N) (M.pt 3 N) := ⟨by simp [go_sem], by simp [go_sem], by simp [go_sem], by simp [go_sem], by simp <;> omega⟩
  generalize (w.alloc (.cells #[.int .u64 (M.pt 0 N), .int .u64 (M.pt 1 N), .int .u64 (M.pt 2 N), .int .u64 (M.pt 3 N)] 24)) = W0 at LW Hpa ⊢
  obtain ⟨pa0, pa1, pa2, pa3, lpa⟩ := Hpa
  refine (works_any _).mono ?_
  rintro e w1 ⟨rfl, hb⟩
  have S : Below W0.heap.size W0 w1 := hb
  have Hpa := W4.below ⟨pa0, pa1, pa2, pa3, lpa⟩ S
  replace LW := LW.trans (S.mono LW.size)
  clear S hb pa0 pa1 pa2 pa3 lpa
  obtain ⟨pa0, pa1, pa2, pa3, lpa⟩ := Hpa
  go_wp2_with fail
  refine (bytes_any N _ hN.out).mono ?_
  rintro e w2 ⟨rfl, hb⟩
  have S : Below w1.heap.size w1 w2 := hb
  have Hpa := W4.below ⟨pa0, pa1, pa2, pa3, lpa⟩ S
  replace LW := LW.trans (S.mono LW.size)
  clear S hb pa0 pa1 pa2 pa3 lpa
  obtain ⟨pa0, pa1, pa2, pa3, lpa⟩ := Hpa
  go_wp2_with fail
  refine (parse_bytes N _ hN.out).mono ?_
  rintro e w3 ⟨rfl, hb⟩
  have S : Below w2.heap.size w2 w3 := hb
  have Hpa := W4.below ⟨pa0, pa1, pa2, pa3, lpa⟩ S
  replace LW := LW.trans (S.mono LW.size)
  clear S hb pa0 pa1 pa2 pa3 lpa
  obtain ⟨pa0, pa1, pa2, pa3, lpa⟩ := Hpa
  go_wp2_with fail
  refine (fixed_any N _ hN.out).mono ?_
  rintro e w4 ⟨rfl, hb⟩
  have S : Below w3.heap.size w3 w4 := Below.trans ((Below.refl _ w3).alloc (Nat.le_refl _) _) (hb.mono (by simp))
  have Hpa := W4.below ⟨pa0, pa1, pa2, pa3, lpa⟩ S
  have Hq3 := (W4.new w3 (M.pt 0 N) (M.pt 1 N) (M.pt 2 N) (M.pt 3 N) 24).below hb
  replace LW := LW.trans (S.mono LW.size)
  clear S hb pa0 pa1 pa2 pa3 lpa
  obtain ⟨pa0, pa1, pa2, pa3, lpa⟩ := Hpa
  obtain ⟨q30, q31, q32, q33, lq3⟩ := Hq3
  generalize w3.heap.size = bq3 at q30 q31 q32 q33 lq3 ⊢
  go_wp2_with fail
  refine (unfixed_fixed N _ hN.out).mono ?_
  rintro e w5 ⟨rfl, hb⟩
  have S : Below w4.heap.size w4 w5 := hb
  have Hpa := W4.below ⟨pa0, pa1, pa2, pa3, lpa⟩ S
  have Hq3 := W4.below ⟨q30, q31, q32, q33, lq3⟩ S
  replace LW := LW.trans (S.mono LW.size)
  clear S hb pa0 pa1 pa2 pa3 lpa q30 q31 q32 q33 lq3
  obtain ⟨pa0, pa1, pa2, pa3, lpa⟩ := Hpa
  obtain ⟨q30, q31, q32, q33, lq3⟩ := Hq3
  go_wp2_with fail
  refine (parse_ok l _ h1.out hp).mono ?_
  rintro e w6 ⟨rfl, hb⟩
  have S : Below w5.heap.size w5 w6 := Below.trans ((Below.refl _ w5).alloc (Nat.le_refl _) _) (hb.mono (by simp))
  have Hpa := W4.below ⟨pa0, pa1, pa2, pa3, lpa⟩ S
  have Hq3 := W4.below ⟨q30, q31, q32, q33, lq3⟩ S
  have Hq5 := (W4.new w5 (M.pt 0 N) (M.pt 1 N) (M.pt 2 N) (M.pt 3 N) 24).below hb
  replace LW := LW.trans (S.mono LW.size)
  clear S hb pa0 pa1 pa2 pa3 lpa q30 q31 q32 q33 lq3
  obtain ⟨pa0, pa1, pa2, pa3, lpa⟩ := Hpa
  obtain ⟨q30, q31, q32, q33, lq3⟩ := Hq3
  obtain ⟨q50, q51, q52, q53, lq5⟩ := Hq5
  generalize w5.heap.size = bq5 at q50 q51 q52 q53 lq5 ⊢
  go_wp2_with fail
  refine (unfixed_any l _ h2.out).mono ?_
  rintro e w7 ⟨rfl, hb⟩
  have S : Below w6.heap.size w6 w7 := Below.trans ((Below.refl _ w6).alloc (Nat.le_refl _) _) (hb.mono (by simp))
  have Hpa := W4.below ⟨pa0, pa1, pa2, pa3, lpa⟩ S
  have Hq3 := W4.below ⟨q30, q31, q32, q33, lq3⟩ S
  have Hq5 := W4.below ⟨q50, q51, q52, q53, lq5⟩ S
  have Hq6 := (W4.new w6 (M.pt 0 (M.dg l)) (M.pt 1 (M.dg l)) (M.pt 2 (M.dg l)) (M.pt 3 (M.dg l)) 24).below hb
  replace LW := LW.trans (S.mono LW.size)
  clear S hb pa0 pa1 pa2 pa3 lpa q30 q31 q32 q33 lq3 q50 q51 q52 q53 lq5
  obtain ⟨pa0, pa1, pa2, pa3, lpa⟩ := Hpa
  obtain ⟨q30, q31, q32, q33, lq3⟩ := Hq3
  obtain ⟨q50, q51, q52, q53, lq5⟩ := Hq5
  obtain ⟨q60, q61, q62, q63, lq6⟩ := Hq6
  generalize w6.heap.size = bq6 at q60 q61 q62 q63 lq6 ⊢
  have eqn : ∀ w : World, (Op.equalIn 10000 24 (wn N) (wn N)).run Tryd.prog w = .ok true w := fun w => by rw [eqN hN.out hN.out, decide_eq_true rfl]
  go_wp2_with fail
  refine (bytes_back l _ h1.out hp.out).mono ?_
  rintro e w8 ⟨rfl, hb⟩
  have S : Below w7.heap.size w7 w8 := Below.trans ((Below.refl _ w7).alloc (Nat.le_refl _) _) (hb.mono (by simp))
  have Hpa := W4.below ⟨pa0, pa1, pa2, pa3, lpa⟩ S
  have Hq3 := W4.below ⟨q30, q31, q32, q33, lq3⟩ S
  have Hq5 := W4.below ⟨q50, q51, q52, q53, lq5⟩ S
  have Hq6 := W4.below ⟨q60, q61, q62, q63, lq6⟩ S
  have Hq7 := (W4.new w7 (M.pt 0 (M.dg l)) (M.pt 1 (M.dg l)) (M.pt 2 (M.dg l)) (M.pt 3 (M.dg l)) 24).below hb
  replace LW := LW.trans (S.mono LW.size)
  clear S hb pa0 pa1 pa2 pa3 lpa q30 q31 q32 q33 lq3 q50 q51 q52 q53 lq5 q60 q61 q62 q63 lq6
  obtain ⟨pa0, pa1, pa2, pa3, lpa⟩ := Hpa
  obtain ⟨q30, q31, q32, q33, lq3⟩ := Hq3
  obtain ⟨q50, q51, q52, q53, lq5⟩ := Hq5
  obtain ⟨q60, q61, q62, q63, lq6⟩ := Hq6
  obtain ⟨q70, q71, q72, q73, lq7⟩ := Hq7
  generalize w7.heap.size = bq7 at q70 q71 q72 q73 lq7 ⊢
  go_wp2_with fail
  refine (fixed_back l _ h2.out).mono ?_
  rintro e w9 ⟨rfl, hb⟩
  have S : Below w8.heap.size w8 w9 := hb
  have Hpa := W4.below ⟨pa0, pa1, pa2, pa3, lpa⟩ S
  have Hq3 := W4.below ⟨q30, q31, q32, q33, lq3⟩ S
  have Hq5 := W4.below ⟨q50, q51, q52, q53, lq5⟩ S
  have Hq6 := W4.below ⟨q60, q61, q62, q63, lq6⟩ S
  have Hq7 := W4.below ⟨q70, q71, q72, q73, lq7⟩ S
  replace LW := LW.trans (S.mono LW.size)
  clear S hb pa0 pa1 pa2 pa3 lpa q30 q31 q32 q33 lq3 q50 q51 q52 q53 lq5 q60 q61 q62 q63 lq6 q70 q71 q72 q73 lq7
  obtain ⟨pa0, pa1, pa2, pa3, lpa⟩ := Hpa
  obtain ⟨q30, q31, q32, q33, lq3⟩ := Hq3
  obtain ⟨q50, q51, q52, q53, lq5⟩ := Hq5
  obtain ⟨q60, q61, q62, q63, lq6⟩ := Hq6
  obtain ⟨q70, q71, q72, q73, lq7⟩ := Hq7
  go_wp2_with fail
  go_ret
  exact ⟨rfl, LW⟩

theorem back_any (N : Nat) (s : ByteArray) (w : World) (hN : M.In N) :
    Calls Tryd.prog 5 #[wn N, .string s] w fun e w' => e = .returned (.bool true) ∧ Below w.heap.size w w' := by
  obtain ⟨l, rfl⟩ : ∃ l : List UInt8, s = ⟨l.toArray⟩ := ⟨s.data.toList, rfl⟩
  by_cases h200 : l.length ≤ 200
  · by_cases h1 : l.length ≤ 32
    · cases hp : Lib.hasPrefix l [0] with
      | true =>
        by_cases h2 : l.length = 32
        · exact back_c N l w hN h200 h1 hp h2
        · exact back_b N l w hN h200 h1 hp h2
      | false =>
        by_cases h2 : l.length = 32
        · exact back_e N l w hN h200 h1 hp h2
        · exact back_d N l w hN h200 h1 hp h2
    · exact back_a N l w hN h200 (by show _ < _; omega) (by show ¬ _; omega)
  · exact back_far N l w (by omega)
end Go.Proofs.YtcnngpmganhjoaaDoor
