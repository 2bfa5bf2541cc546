/- WordBytes: the walk: the bytes of any word, and the word of any bytes, are the reference's. -/
import Derived.Test.YtcnngpmganhjoaaDoorK2
import Derived.Test.YtcnngpmganhjoaaDoorR5
namespace Go.Proofs.YtcnngpmganhjoaaDoor
open Go Go.RowKit

set_option maxRecDepth 100000 in
set_option maxHeartbeats 4000000 in
theorem wbytes_far (a0 a1 a2 a3 : Int) (l : List UInt8) (w : World) (h200 : 200 < l.length) :
    Calls Tryd.prog 4 #[wd a0 a1 a2 a3, .string ⟨l.toArray⟩] w fun e w' => e = .returned (.bool true) ∧ Below w.heap.size w w' := by
  go_enter Tryd.func4, Tryd.ntmps4
  go_wp2_with fail
  have LW : Below w.heap.size w (w.alloc (.cells #[.int .u64 (a0), .int .u64 (a1), .int .u64 (a2), .int .u64 (a3)] 24)) := by
    (repeat (first | exact Below.refl _ _ | refine Below.drew ?_ | refine Below.alloc ?_ (by first | omega | (simp; omega) | simp) _ | refine Below.setCell ?_ (by first | omega | (simp; omega) | simp) _))
  have Hpa : W4 (w.alloc (.cells #[.int .u64 (a0), .int .u64 (a1), .int .u64 (a2), .int .u64 (a3)] 24)) (w.heap.size) (a0) (a1) (a2) (a3) := ⟨by simp [go_sem], by simp [go_sem], by simp [go_sem], by simp [go_sem], by simp <;> omega⟩
  generalize (w.alloc (.cells #[.int .u64 (a0), .int .u64 (a1), .int .u64 (a2), .int .u64 (a3)] 24)) = W0 at LW Hpa ⊢
  obtain ⟨pa0, pa1, pa2, pa3, lpa⟩ := Hpa
  refine (works_any _).mono ?_
  rintro e w1 ⟨rfl, hb⟩
  have S : Below W0.heap.size W0 w1 := hb
  have Hpa := W4.below ⟨pa0, pa1, pa2, pa3, lpa⟩ S
  replace LW := LW.trans (S.mono LW.size)
  clear S hb pa0 pa1 pa2 pa3 lpa
  obtain ⟨pa0, pa1, pa2, pa3, lpa⟩ := Hpa
  go_wp2_with fail
  go_ret
  exact ⟨rfl, LW⟩

set_option maxRecDepth 100000 in
set_option maxHeartbeats 4000000 in
theorem wbytes_near (a0 a1 a2 a3 v0 v1 v2 v3 u0 u1 u2 u3 e1 e2 : Int) (l l1 l2 : List UInt8) (w : World) (h200 : l.length ≤ 200) (hf1 : Hid (∀ w : World, Calls Tryd.prog 25 #[wd a0 a1 a2 a3] w fun e w' => e = .returned (.string ⟨l1.toArray⟩) ∧ Below w.heap.size w w')) (hb1 : Hid (∀ w : World, Calls Tryd.prog 26 #[wd a0 a1 a2 a3] w fun e w' => e = .returned (.string ⟨l2.toArray⟩) ∧ Below w.heap.size w w')) (hf2 : Hid (∀ w : World, Calls Tryd.prog 19 #[wd a0 a1 a2 a3] w fun e w' => e = .returned (.string ⟨l1.toArray⟩) ∧ Below w.heap.size w w')) (hb2 : Hid (∀ w : World, Calls Tryd.prog 20 #[wd a0 a1 a2 a3] w fun e w' => e = .returned (.string ⟨l2.toArray⟩) ∧ Below w.heap.size w w')) (hp1 : Hid (∀ w : World, Calls Tryd.prog 21 #[.string ⟨l.toArray⟩] w fun e w' => e = .returned (.tuple #[wd v0 v1 v2 v3, .int .i64 e1]) ∧ Below w.heap.size w w')) (hp2 : Hid (∀ w : World, Calls Tryd.prog 22 #[.string ⟨l.toArray⟩] w fun e w' => e = .returned (.tuple #[wd v0 v1 v2 v3, .int .i64 e1]) ∧ Below w.heap.size w w')) (hu1 : Hid (∀ w : World, Calls Tryd.prog 23 #[.string ⟨l.toArray⟩] w fun e w' => e = .returned (.tuple #[wd u0 u1 u2 u3, .int .i64 e2]) ∧ Below w.heap.size w w')) (hu2 : Hid (∀ w : World, Calls Tryd.prog 24 #[.string ⟨l.toArray⟩] w fun e w' => e = .returned (.tuple #[wd u0 u1 u2 u3, .int .i64 e2]) ∧ Below w.heap.size w w')) :
    Calls Tryd.prog 4 #[wd a0 a1 a2 a3, .string ⟨l.toArray⟩] w fun e w' => e = .returned (.bool true) ∧ Below w.heap.size w w' := by
  go_enter Tryd.func4, Tryd.ntmps4
  go_wp2_with fail
  have LW : Below w.heap.size w (w.alloc (.cells #[.int .u64 (a0), .int .u64 (a1), .int .u64 (a2), .int .u64 (a3)] 24)) := by
    (repeat (first | exact Below.refl _ _ | refine Below.drew ?_ | refine Below.alloc ?_ (by first | omega | (simp; omega) | simp) _ | refine Below.setCell ?_ (by first | omega | (simp; omega) | simp) _))
  have Hpa : W4 (w.alloc (.cells #[.int .u64 (a0), .int .u64 (a1), .int .u64 (a2), .int .u64 (a3)] 24)) (w.heap.size) (a0) (a1) (a2) (a3) := ⟨by simp [go_sem], by simp [go_sem], by simp [go_sem], by simp [go_sem], by simp <;> omega⟩
  generalize (w.alloc (.cells #[.int .u64 (a0), .int .u64 (a1), .int .u64 (a2), .int .u64 (a3)] 24)) = W0 at LW Hpa ⊢
  obtain ⟨pa0, pa1, pa2, pa3, lpa⟩ := Hpa
  refine (works_any _).mono ?_
  rintro e w1 ⟨rfl, hb⟩
  have S : Below W0.heap.size W0 w1 := hb
  have Hpa := W4.below ⟨pa0, pa1, pa2, pa3, lpa⟩ S
  replace LW := LW.trans (S.mono LW.size)
  clear S hb pa0 pa1 pa2 pa3 lpa
  obtain ⟨pa0, pa1, pa2, pa3, lpa⟩ := Hpa
  go_wp2_with fail
  refine (hf2.out _).mono ?_
  rintro e w2 ⟨rfl, hb⟩
  have S : Below w1.heap.size w1 w2 := hb
  have Hpa := W4.below ⟨pa0, pa1, pa2, pa3, lpa⟩ S
  replace LW := LW.trans (S.mono LW.size)
  clear S hb pa0 pa1 pa2 pa3 lpa
  obtain ⟨pa0, pa1, pa2, pa3, lpa⟩ := Hpa
  go_wp2_with fail
  refine (hb2.out _).mono ?_
  rintro e w3 ⟨rfl, hb⟩
  have S : Below w2.heap.size w2 w3 := hb
  have Hpa := W4.below ⟨pa0, pa1, pa2, pa3, lpa⟩ S
  replace LW := LW.trans (S.mono LW.size)
  clear S hb pa0 pa1 pa2 pa3 lpa
  obtain ⟨pa0, pa1, pa2, pa3, lpa⟩ := Hpa
  go_wp2_with fail
  refine (hp1.out _).mono ?_
  rintro e w4 ⟨rfl, hb⟩
  have S : Below w3.heap.size w3 w4 := hb
  have Hpa := W4.below ⟨pa0, pa1, pa2, pa3, lpa⟩ S
  replace LW := LW.trans (S.mono LW.size)
  clear S hb pa0 pa1 pa2 pa3 lpa
  obtain ⟨pa0, pa1, pa2, pa3, lpa⟩ := Hpa
  go_wp2_with fail
  refine (hp2.out _).mono ?_
  rintro e w5 ⟨rfl, hb⟩
  have S : Below w4.heap.size w4 w5 := Below.trans ((Below.refl _ w4).alloc (Nat.le_refl _) _) (hb.mono (by simp))
  have Hpa := W4.below ⟨pa0, pa1, pa2, pa3, lpa⟩ S
  have Hq4 := (W4.new w4 (v0) (v1) (v2) (v3) 24).below hb
  replace LW := LW.trans (S.mono LW.size)
  clear S hb pa0 pa1 pa2 pa3 lpa
  obtain ⟨pa0, pa1, pa2, pa3, lpa⟩ := Hpa
  obtain ⟨q40, q41, q42, q43, lq4⟩ := Hq4
  generalize w4.heap.size = bq4 at q40 q41 q42 q43 lq4 ⊢
  go_wp2_with fail
  refine (hu1.out _).mono ?_
  rintro e w6 ⟨rfl, hb⟩
  have S : Below w5.heap.size w5 w6 := Below.trans ((Below.refl _ w5).alloc (Nat.le_refl _) _) (hb.mono (by simp))
  have Hpa := W4.below ⟨pa0, pa1, pa2, pa3, lpa⟩ S
  have Hq4 := W4.below ⟨q40, q41, q42, q43, lq4⟩ S
  have Hq5 := (W4.new w5 (v0) (v1) (v2) (v3) 24).below hb
  replace LW := LW.trans (S.mono LW.size)
  clear S hb pa0 pa1 pa2 pa3 lpa q40 q41 q42 q43 lq4
  obtain ⟨pa0, pa1, pa2, pa3, lpa⟩ := Hpa
  obtain ⟨q40, q41, q42, q43, lq4⟩ := Hq4
  obtain ⟨q50, q51, q52, q53, lq5⟩ := Hq5
  generalize w5.heap.size = bq5 at q50 q51 q52 q53 lq5 ⊢
  go_wp2_with fail
  refine (hu2.out _).mono ?_
  rintro e w7 ⟨rfl, hb⟩
  have S : Below w6.heap.size w6 w7 := Below.trans ((Below.refl _ w6).alloc (Nat.le_refl _) _) (hb.mono (by simp))
  have Hpa := W4.below ⟨pa0, pa1, pa2, pa3, lpa⟩ S
  have Hq4 := W4.below ⟨q40, q41, q42, q43, lq4⟩ S
  have Hq5 := W4.below ⟨q50, q51, q52, q53, lq5⟩ S
  have Hq6 := (W4.new w6 (u0) (u1) (u2) (u3) 24).below hb
  replace LW := LW.trans (S.mono LW.size)
  clear S hb pa0 pa1 pa2 pa3 lpa q40 q41 q42 q43 lq4 q50 q51 q52 q53 lq5
  obtain ⟨pa0, pa1, pa2, pa3, lpa⟩ := Hpa
  obtain ⟨q40, q41, q42, q43, lq4⟩ := Hq4
  obtain ⟨q50, q51, q52, q53, lq5⟩ := Hq5
  obtain ⟨q60, q61, q62, q63, lq6⟩ := Hq6
  generalize w6.heap.size = bq6 at q60 q61 q62 q63 lq6 ⊢
  have eqv : ∀ w : World, (Op.equalIn 10000 24 (wd v0 v1 v2 v3) (wd v0 v1 v2 v3)).run Tryd.prog w = .ok true w := fun w => by rw [eqW]; simp
  have equ : ∀ w : World, (Op.equalIn 10000 24 (wd u0 u1 u2 u3) (wd u0 u1 u2 u3)).run Tryd.prog w = .ok true w := fun w => by rw [eqW]; simp
  go_wp2_with fail
  refine (hf1.out _).mono ?_
  rintro e w8 ⟨rfl, hb⟩
  have S : Below w7.heap.size w7 w8 := Below.trans ((Below.refl _ w7).alloc (Nat.le_refl _) _) (hb.mono (by simp))
  have Hpa := W4.below ⟨pa0, pa1, pa2, pa3, lpa⟩ S
  have Hq4 := W4.below ⟨q40, q41, q42, q43, lq4⟩ S
  have Hq5 := W4.below ⟨q50, q51, q52, q53, lq5⟩ S
  have Hq6 := W4.below ⟨q60, q61, q62, q63, lq6⟩ S
  have Hq7 := (W4.new w7 (u0) (u1) (u2) (u3) 24).below hb
  replace LW := LW.trans (S.mono LW.size)
  clear S hb pa0 pa1 pa2 pa3 lpa q40 q41 q42 q43 lq4 q50 q51 q52 q53 lq5 q60 q61 q62 q63 lq6
  obtain ⟨pa0, pa1, pa2, pa3, lpa⟩ := Hpa
  obtain ⟨q40, q41, q42, q43, lq4⟩ := Hq4
  obtain ⟨q50, q51, q52, q53, lq5⟩ := Hq5
  obtain ⟨q60, q61, q62, q63, lq6⟩ := Hq6
  obtain ⟨q70, q71, q72, q73, lq7⟩ := Hq7
  generalize w7.heap.size = bq7 at q70 q71 q72 q73 lq7 ⊢
  go_wp2_with fail
  refine (hb1.out _).mono ?_
  rintro e w9 ⟨rfl, hb⟩
  have S : Below w8.heap.size w8 w9 := hb
  have Hpa := W4.below ⟨pa0, pa1, pa2, pa3, lpa⟩ S
  have Hq4 := W4.below ⟨q40, q41, q42, q43, lq4⟩ S
  have Hq5 := W4.below ⟨q50, q51, q52, q53, lq5⟩ S
  have Hq6 := W4.below ⟨q60, q61, q62, q63, lq6⟩ S
  have Hq7 := W4.below ⟨q70, q71, q72, q73, lq7⟩ S
  replace LW := LW.trans (S.mono LW.size)
  clear S hb pa0 pa1 pa2 pa3 lpa q40 q41 q42 q43 lq4 q50 q51 q52 q53 lq5 q60 q61 q62 q63 lq6 q70 q71 q72 q73 lq7
  obtain ⟨pa0, pa1, pa2, pa3, lpa⟩ := Hpa
  obtain ⟨q40, q41, q42, q43, lq4⟩ := Hq4
  obtain ⟨q50, q51, q52, q53, lq5⟩ := Hq5
  obtain ⟨q60, q61, q62, q63, lq6⟩ := Hq6
  obtain ⟨q70, q71, q72, q73, lq7⟩ := Hq7
  go_wp2_with fail
  go_ret
  exact ⟨rfl, LW⟩

theorem zero_no2 {c : UInt8} {r : List UInt8} (h : ¬ c = 0) : Lib.hasPrefix (c :: r) [0] = false := by
  simp [Lib.hasPrefix, List.isPrefixOf]
  exact fun e => h e.symm

theorem wbytes_any (N : Nat) (s : ByteArray) (w : World) (hN : M.In N) :
    Calls Tryd.prog 4 #[wn N, .string s] w fun e w' => e = .returned (.bool true) ∧ Below w.heap.size w w' := by
  obtain ⟨l, rfl⟩ : ∃ l : List UInt8, s = ⟨l.toArray⟩ := ⟨s.data.toList, rfl⟩
  by_cases h200 : l.length ≤ 200
  · have go : ∀ v0 v1 v2 v3 u0 u1 u2 u3 e1 e2 : Int, Hid (∀ w : World, Calls Tryd.prog 21 #[.string ⟨l.toArray⟩] w fun e w' => e = .returned (.tuple #[wd v0 v1 v2 v3, .int .i64 e1]) ∧ Below w.heap.size w w') → Hid (∀ w : World, Calls Tryd.prog 22 #[.string ⟨l.toArray⟩] w fun e w' => e = .returned (.tuple #[wd v0 v1 v2 v3, .int .i64 e1]) ∧ Below w.heap.size w w') → Hid (∀ w : World, Calls Tryd.prog 23 #[.string ⟨l.toArray⟩] w fun e w' => e = .returned (.tuple #[wd u0 u1 u2 u3, .int .i64 e2]) ∧ Below w.heap.size w w') → Hid (∀ w : World, Calls Tryd.prog 24 #[.string ⟨l.toArray⟩] w fun e w' => e = .returned (.tuple #[wd u0 u1 u2 u3, .int .i64 e2]) ∧ Below w.heap.size w w') →
        Calls Tryd.prog 4 #[wn N, .string ⟨l.toArray⟩] w fun e w' => e = .returned (.bool true) ∧ Below w.heap.size w w' :=
      fun v0 v1 v2 v3 u0 u1 u2 u3 e1 e2 h1 h2 h3 h4 => wbytes_near _ _ _ _ v0 v1 v2 v3 u0 u1 u2 u3 e1 e2 l _ _ w h200 (fun w => fixed_any N w hN) (fun w => bytes_any N w hN) (fun w => rfixed_any N w) (fun w => rbytes_core N w) h1 h2 h3 h4
    by_cases h1 : 32 < l.length
    · exact go _ _ _ _ _ _ _ _ _ _ (fun w => parse_long l w h1) (fun w => rparse_long l w h1) (fun w => unfixed_bad l w (by omega)) (fun w => runfixed_bad l w (by omega))
    · cases l with
      | nil => exact go _ _ _ _ _ _ _ _ _ _ (fun w => parse_ok [] w (by simp) rfl) (fun w => rparse_none w) (fun w => unfixed_bad [] w (by simp)) (fun w => runfixed_bad [] w (by simp))
      | cons c r =>
        have hr : r.length + 1 ≤ 32 := by simp at h1; omega
        by_cases hc : c = 0
        · subst hc
          by_cases h2 : (0 :: r).length = 32
          · exact go _ _ _ _ _ _ _ _ _ _ (fun w => parse_spare (0 :: r) w (by simpa using hr) (by simp [Hid, Lib.hasPrefix, List.isPrefixOf])) (fun w => rparse_spare r w hr) (fun w => unfixed_any _ w h2) (fun w => runfixed_any _ w h2)
          · exact go _ _ _ _ _ _ _ _ _ _ (fun w => parse_spare (0 :: r) w (by simpa using hr) (by simp [Hid, Lib.hasPrefix, List.isPrefixOf])) (fun w => rparse_spare r w hr) (fun w => unfixed_bad _ w h2) (fun w => runfixed_bad _ w h2)
        · by_cases h2 : (c :: r).length = 32
          · exact go _ _ _ _ _ _ _ _ _ _ (fun w => parse_ok (c :: r) w (by simpa using hr) (zero_no2 hc)) (fun w => rparse_ok c r w hr hc) (fun w => unfixed_any _ w h2) (fun w => runfixed_any _ w h2)
          · exact go _ _ _ _ _ _ _ _ _ _ (fun w => parse_ok (c :: r) w (by simpa using hr) (zero_no2 hc)) (fun w => rparse_ok c r w hr hc) (fun w => unfixed_bad _ w h2) (fun w => runfixed_bad _ w h2)
  · exact wbytes_far _ _ _ _ l w (by omega)
end Go.Proofs.YtcnngpmganhjoaaDoor
