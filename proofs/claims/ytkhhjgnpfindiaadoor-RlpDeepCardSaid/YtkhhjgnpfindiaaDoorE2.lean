/- Few, and RlpDeep. -/
import Derived.Test.YtkhhjgnpfindiaaDoorM12
import Derived.Test.YtkhhjgnpfindiaaDoorC3
import Derived.Test.YtkhhjgnpfindiaaDoorE1
namespace Go.Proofs.YtkhhjgnpfindiaaDoor
open Go Go.RowKit

set_option maxRecDepth 100000 in
set_option maxHeartbeats 4000000 in
theorem few_any (l : Bool) (d : List UInt8) (xs : List M.It) (v : Value) (w : World) (hL : Lay w w.heap.size xs v) :
    Calls Tryd.prog 9 #[iv l d v] w fun e w' => (∃ b : Bool, e = .returned (.bool b) ∧ (b = true → M.cntI (.mk l d xs) ≤ 120)) ∧ Below w.heap.size w w' := by
  obtain ⟨a, cap, hv, _, _⟩ := hL.slice
  subst hv
  have hb0 : Below w.heap.size w (w.alloc (.cells #[.bool l, .string ⟨d.toArray⟩, .slice a xs.length cap] 24)) := by (repeat (first | exact Below.refl _ _ | refine Below.drew ?_ | refine Below.alloc ?_ (by first | omega | (simp; omega) | simp) _ | refine Below.setCell ?_ (by first | omega | (simp; omega) | simp) _))
  have HM : Hid (∀ W, Below w.heap.size w W → Calls Tryd.prog 20 #[iv l d (.slice a xs.length cap), .int .i64 120, .int .i64 16] W fun e w' => (∃ r : Nat, e = .returned (.int .i64 (r : Nat)) ∧ 1 ≤ r ∧ r ≤ 120 + 1 ∧ (r ≤ 120 → M.cntI (.mk l d xs) ≤ r)) ∧ Below W.heap.size W w') :=
    fun W hb => many_n _ l d xs _ W 120 16 (Nat.le_refl _) ((hL.from_ hb).mono hb.size) (by omega) (by omega) (by omega)
  clear hL
  go_enter Tryd.func9, Tryd.ntmps9
  go_wp2_with fail
  refine (HM.out _ hb0).mono ?_
  rintro e w1 ⟨⟨r, rfl, hr1, hr2, hr3⟩, hb1⟩
  have HR := Lib.hid hr3
  clear hr3
  by_cases h : r ≤ 120
  · have hd : decide ((r : Int) ≤ 120) = true := by simp; omega
    go_wp2_with fail
    go_ret
    exact ⟨⟨true, by simp, fun _ => by have := HR.out h; omega⟩, hb0.trans (hb1.mono (by simp))⟩
  · have hd : decide ((r : Int) ≤ 120) = false := by simp; omega
    go_wp2_with fail
    go_ret
    exact ⟨⟨false, by simp, fun h => by cases h⟩, hb0.trans (hb1.mono (by simp))⟩

theorem one_lay {w : World} {l : Bool} {d : List UInt8} {xs : List M.It} {v : Value} (hL : Lay w w.heap.size xs v) (t : TypeId) : Lay (w.alloc (.cells #[.bool l, .string ⟨d.toArray⟩, v] t)) (w.heap.size + 1) [.mk l d xs] (.slice (some ⟨w.heap.size, 0, none⟩) 1 1) := by
  have hb : Below w.heap.size w (w.alloc (.cells #[.bool l, .string ⟨d.toArray⟩, v] t)) := (Below.refl _ _).alloc (Nat.le_refl _) _
  refine Lay.row (xs := [.mk l d xs]) (fun _ => v) (by omega) (Nat.le_refl _) (by decide) ?_ ?_ ?_ ?_
  all_goals
    intro i l' d' ys h
    match i, h with
    | 0, h => simp at h; obtain ⟨rfl, rfl, rfl⟩ := h; first | exact (hL.from_ hb).mono (by omega) | simp [go_sem]
    | i + 1, h => simp at h

set_option maxRecDepth 100000 in
set_option maxHeartbeats 4000000 in
theorem deep_law (l : Bool) (d : List UInt8) (xs : List M.It) (v : Value) (w : World) (hL : Lay w w.heap.size xs v) (hs : M.smI (.mk l d xs)) :
    Calls Tryd.prog 6 #[iv l d v] w fun e w' => e = .returned (.bool true) ∧ Below w.heap.size w w' := by
  obtain ⟨a, cap, hv, _, _⟩ := hL.slice
  subst hv
  have hb0 : Below w.heap.size w (w.alloc (.cells #[.bool l, .string ⟨d.toArray⟩, .slice a xs.length cap] 24)) := by (repeat (first | exact Below.refl _ _ | refine Below.drew ?_ | refine Below.alloc ?_ (by first | omega | (simp; omega) | simp) _ | refine Below.setCell ?_ (by first | omega | (simp; omega) | simp) _))
  have hB := Box.new w l d (.slice a xs.length cap) 24
  obtain ⟨w0, hw0⟩ : ∃ w0, w.alloc (.cells #[.bool l, .string ⟨d.toArray⟩, .slice a xs.length cap] 24) = w0 := ⟨_, rfl⟩
  have hz : w0.heap.size = w.heap.size + 1 := by rw [← hw0]; simp
  rw [hw0] at hb0 hB
  have HW := Lib.hid hw0
  clear hw0
  go_enter Tryd.func6, Tryd.ntmps6
  go_wp2_with fail
  rw [HW.out]
  refine (works_any _).mono ?_
  rintro e w1 ⟨rfl, hb1⟩
  have hB1 := hB.from_ hb1 (by omega)
  have c0 := hB1.c0
  have c1 := hB1.c1
  have c2 := hB1.c2
  have hb01 : Below w.heap.size w w1 := hb0.trans (hb1.mono (by omega))
  go_wp2_with fail
  refine (few_any l d xs _ w1 ((hL.from_ hb01).mono hb01.size)).mono ?_
  rintro e w2 ⟨⟨b, rfl, hfew⟩, hb2⟩
  have hb02 : Below w.heap.size w w2 := hb01.trans (hb2.mono hb01.size)
  cases b with
  | false =>
    clear hfew
    go_wp2_with fail
    go_ret
    exact ⟨rfl, hb02⟩
  | true =>
    have hcnt := hfew rfl
    clear hfew
    have hsz := M.few_size hcnt hs
    have hcn : M.cntIs xs ≤ 119 := by rw [M.cntI] at hcnt; omega
    have hB2 := hB1.from_ hb2 (by have := hb1.size; omega)
    replace c0 := hB2.c0
    replace c1 := hB2.c1
    replace c2 := hB2.c2
    have hlt2 : w.heap.size < w2.heap.size := by have := hb1.size; have := hb2.size; omega
    have hL2 := (hL.from_ hb02).mono hb02.size
    obtain ⟨w3, hw3⟩ : ∃ w3, (w2.alloc (.cells #[.bool l, .string ⟨d.toArray⟩, .slice a xs.length cap] 24)).alloc (.cells #[.bool true, .string ⟨#[]⟩, .slice (some ⟨w2.heap.size, 0, none⟩) 1 1] 24) = w3 := ⟨_, rfl⟩
    have hb3 : Below w2.heap.size w2 w3 := by rw [← hw3]; (repeat (first | exact Below.refl _ _ | refine Below.drew ?_ | refine Below.alloc ?_ (by first | omega | (simp; omega) | simp) _ | refine Below.setCell ?_ (by first | omega | (simp; omega) | simp) _))
    have hz3 : w3.heap.size = w2.heap.size + 2 := by rw [← hw3]; simp
    have hLi : Lay w3 w3.heap.size [.mk l d xs] (.slice (some ⟨w2.heap.size, 0, none⟩) 1 1) := by
      rw [hz3, ← hw3]
      exact ((one_lay hL2 24).from_ ((Below.refl _ _).alloc (by simp) _)).mono (by omega)
    have hBi : Box w3 (w2.heap.size + 1) true [] (.slice (some ⟨w2.heap.size, 0, none⟩) 1 1) := by rw [← hw3]; exact ⟨by simp [go_sem], by simp [go_sem], by simp [go_sem]⟩
    have hBx : Box w3 w.heap.size l d (.slice a xs.length cap) := hB2.from_ hb3 hlt2
    have hb03 : Below w.heap.size w w3 := hb02.trans (hb3.mono (by omega))
    have s1 := M.size_one (.mk l d xs) (by omega)
    have e1 := M.deep_one (.mk l d xs)
    have e2 : M.checkI (.mk l d xs) = 0 → (M.bytesI (.mk l d xs)).length ≤ 60000 → M.checkI (.mk true [] [.mk l d xs]) = if M.deepI (.mk l d xs) < 12 then 0 else 7 := M.check_one
    have e3 : M.checkI (.mk l d xs) = 0 → M.deepI (.mk l d xs) ≤ 12 := fun h => M.deep_12 (M.checkI_ok.1 h).1
    have e4 : M.deepI (.mk l d xs) ≤ 120 := by have := M.deepI_most (.mk l d xs); omega
    have e5 := M.checkI_le (.mk l d xs)
    have hcni : M.cntIs [.mk l d xs] ≤ 900 := by rw [M.cntIs, M.cntIs]; omega
    have k1 : Hid (∀ W, Below w3.heap.size w3 W → Calls Tryd.prog 17 #[.agg #[.bool l, .string ⟨d.toArray⟩, .slice a xs.length cap]] W fun e w' => e = .returned (.int .i64 (M.deepI (.mk l d xs) : Nat)) ∧ Below W.heap.size W w') := fun W hb => deep_any l d xs _ W ((hL.from_ (hb03.trans (hb.mono hb03.size))).mono (by have := hb.size; omega)) (by omega)
    have k2 : Hid (∀ W, Below w3.heap.size w3 W → Calls Tryd.prog 17 #[.agg #[.bool true, .string ⟨#[]⟩, .slice (some ⟨w2.heap.size, 0, none⟩) 1 1]] W fun e w' => e = .returned (.int .i64 ((M.deepI (.mk l d xs) : Nat) + 1)) ∧ Below W.heap.size W w') := fun W hb => by
      have := deep_any true [] _ _ W ((hLi.from_ hb).mono hb.size) hcni
      rwa [e1] at this
    have k3 : Hid (∀ W, Below w3.heap.size w3 W → Calls Tryd.prog 16 #[.agg #[.bool l, .string ⟨d.toArray⟩, .slice a xs.length cap]] W fun e w' => e = .returned (.int .i64 (M.checkI (.mk l d xs) : Nat)) ∧ Below W.heap.size W w') := fun W hb => check_any l d xs _ W ((hL.from_ (hb03.trans (hb.mono hb03.size))).mono (by have := hb.size; omega)) (by omega) (by omega)
    have k4 : Hid (∀ W, Below w3.heap.size w3 W → Calls Tryd.prog 18 #[.agg #[.bool l, .string ⟨d.toArray⟩, .slice a xs.length cap]] W fun e w' => e = .returned (.int .i64 ((M.bytesI (.mk l d xs)).length : Nat)) ∧ Below W.heap.size W w') := fun W hb => size_any l d xs _ W ((hL.from_ (hb03.trans (hb.mono hb03.size))).mono (by have := hb.size; omega)) (by omega) (by omega)
    have k5 : Hid (∀ W, Below w3.heap.size w3 W → Calls Tryd.prog 16 #[.agg #[.bool true, .string ⟨#[]⟩, .slice (some ⟨w2.heap.size, 0, none⟩) 1 1]] W fun e w' => e = .returned (.int .i64 (M.checkI (.mk true [] [.mk l d xs]) : Nat)) ∧ Below W.heap.size W w') := fun W hb => check_any true [] _ _ W ((hLi.from_ hb).mono hb.size) (by omega) (by omega)
    generalize M.checkI (.mk true [] [.mk l d xs]) = ci at *
    generalize M.checkI (.mk l d xs) = cx at *
    generalize M.deepI (.mk l d xs) = dp at *
    generalize (M.bytesI (.mk l d xs)).length = sz at *
    have HW3 := Lib.hid hw3
    have E2 := Lib.hid e2
    have E3 := Lib.hid e3
    clear hB1 hb1 hb2 hb01 hw3 e1 e2 e3 s1 hLi hL2 hL hs hB2
    go_wp2_with fail
    rw [HW3.out]
    replace c0 := hBx.c0
    replace c1 := hBx.c1
    replace c2 := hBx.c2
    have hlt3 : w.heap.size < w3.heap.size := by omega
    refine (k1.out _ (Below.refl _ _)).mono ?_
    rintro e w4 ⟨rfl, hb4⟩
    have hBi4 := hBi.from_ hb4 (by omega)
    have i0 := hBi4.c0
    have i1 := hBi4.c1
    have i2 := hBi4.c2
    clear hBi4 k1
    go_wp2_with fail
    refine (k2.out _ hb4).mono ?_
    rintro e w5 ⟨rfl, hb5⟩
    have hb05 := hb4.trans (hb5.mono hb4.size)
    have hBx5 := hBx.from_ hb05 hlt3
    replace c0 := hBx5.c0
    replace c1 := hBx5.c1
    replace c2 := hBx5.c2
    clear hBx5 hb4 hb5 i0 i1 i2 k2
    go_wp2_with fail
    refine (k3.out _ hb05).mono ?_
    rintro e w6 ⟨rfl, hb6⟩
    have hb06 := hb05.trans (hb6.mono hb05.size)
    have hBx6 := hBx.from_ hb06 hlt3
    replace c0 := hBx6.c0
    replace c1 := hBx6.c1
    replace c2 := hBx6.c2
    clear hBx6 hb6 hb05 k3
    by_cases hc0 : cx = 0
    · subst hc0
      go_wp2_with fail
      refine (k4.out _ hb06).mono ?_
      rintro e w7 ⟨rfl, hb7⟩
      have hb07 := hb06.trans (hb7.mono hb06.size)
      have hBi7 := hBi.from_ hb07 (by omega)
      have i0 := hBi7.c0
      have i1 := hBi7.c1
      have i2 := hBi7.c2
      clear hBi7 hb7 hb06 k4 c0 c1 c2
      by_cases hsz6 : sz ≤ 60000
      · have hci := E2.out trivial hsz6
        have hd12 := E3.out trivial
        have hb8 : ∀ W, Below w7.heap.size w7 W → Below w3.heap.size w3 W := fun W h => hb07.trans (h.mono hb07.size)
        by_cases hlt12 : dp < 12
        · rw [if_pos hlt12] at hci
          subst hci
          go_wp2_with fail
          refine (k5.out _ hb07).mono ?_
          rintro e w8 ⟨rfl, hb8'⟩
          go_wp2_with fail
          go_ret
          exact ⟨rfl, hb03.trans ((hb8 _ hb8').mono hb03.size)⟩
        · rw [if_neg hlt12] at hci
          subst hci
          have hdl : decide ((dp : Int) < 12) = false := decide_eq_false (by omega)
          go_wp2_with fail
          refine (k5.out _ hb07).mono ?_
          rintro e w8 ⟨rfl, hb8'⟩
          have hBi8 := hBi.from_ (hb8 _ hb8') (by omega)
          replace i0 := hBi8.c0
          replace i1 := hBi8.c1
          replace i2 := hBi8.c2
          go_wp2_with fail
          refine (k5.out _ (hb8 _ hb8')).mono ?_
          rintro e w9 ⟨rfl, hb9⟩
          go_wp2_with fail
          go_ret
          exact ⟨rfl, hb03.trans (((hb8 _ hb8').trans (hb9.mono (hb8 _ hb8').size)).mono hb03.size)⟩
      · go_wp2_with fail
        go_ret
        exact ⟨rfl, hb03.trans (hb07.mono hb03.size)⟩
    · have hne : ((cx : Int) != 0) = true := by rw [bne_iff_ne]; omega
      go_wp2_with fail
      go_ret
      exact ⟨rfl, hb03.trans (hb06.mono hb03.size)⟩
end Go.Proofs.YtkhhjgnpfindiaaDoor
