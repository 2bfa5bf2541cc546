/- NumBack: the walk: what is written is read again, wherever it stands. -/
import Derived.Test.YtmcchfgblecgoaaDoorNK
import Derived.Test.YtmcchfgblecgoaaDoorM6
import Derived.OpenShut
namespace Go.Proofs.YtmcchfgblecgoaaDoor
open Go Go.RowKit Go.ChangeShapes

set_option maxRecDepth 100000 in
set_option maxHeartbeats 2000000 in
theorem back_far (N width : Int) (la lb : List UInt8) (w : World) (h : 200 < la.length ∨ 200 < lb.length) :
    Calls Tryd.prog 4 #[.int .u64 N, .int .i64 width, .string ⟨la.toArray⟩, .string ⟨lb.toArray⟩] w fun e w' => e = .returned (.bool true) ∧ Below w.heap.size w w' := by
  by_cases h1 : 200 < la.length
  · clear h
    go_enter Tryd.func4, Tryd.ntmps4
    go_wp2_with fail
    refine (works_any _).mono ?_
    rintro e w1 ⟨rfl, LW⟩
    go_wp2_with fail
    go_ret
    exact ⟨rfl, LW⟩
  · have h2 : 200 < lb.length := by omega
    clear h
    go_enter Tryd.func4, Tryd.ntmps4
    go_wp2_with fail
    refine (works_any _).mono ?_
    rintro e w1 ⟨rfl, LW⟩
    go_wp2_with fail
    go_ret
    exact ⟨rfl, LW⟩

set_option maxRecDepth 100000 in
set_option maxHeartbeats 2000000 in
theorem back_near (N width e1 c h : Int) (la lb lv l0 l1 : List UInt8) (w : World) (ha : la.length ≤ 200) (hb : lb.length ≤ 200) (hv : lv.length ≤ 10)
    (h1 : Hid (∀ w : World, Calls Tryd.prog 12 #[.int .u64 N] w fun e w' => e = .returned (.string ⟨l0.toArray⟩) ∧ Below w.heap.size w w'))
    (h2 : Hid (∀ w : World, Calls Tryd.prog 14 #[.string ⟨l0.toArray⟩] w fun e w' => e = .returned (.tuple #[.int .u64 N, .int .i64 0]) ∧ Below w.heap.size w w'))
    (h3 : Hid (∀ w : World, Calls Tryd.prog 13 #[.int .u64 N] w fun e w' => e = .returned (.string ⟨lv.toArray⟩) ∧ Below w.heap.size w w'))
    (h4 : Hid (∀ w : World, Calls Tryd.prog 15 #[.string ⟨(la ++ lv ++ lb).toArray⟩, .int .i64 la.length] w fun e w' => e = .returned (.tuple #[.int .u64 N, .int .i64 ((la.length : Int) + lv.length), .int .i64 0]) ∧ Below w.heap.size w w'))
    (h5 : Hid (∀ w : World, Calls Tryd.prog 9 #[.int .u64 N, .int .i64 width] w fun e w' => e = .returned (.tuple #[.string ⟨l1.toArray⟩, .int .i64 e1]) ∧ Below w.heap.size w w'))
    (h6 : Hid (∀ w : World, Calls Tryd.prog 16 #[.string ⟨l1.toArray⟩] w fun e w' => e = .returned (.tuple #[.int .u64 c, .int .i64 h]) ∧ w = w'))
    (hcase : (e1 != 0) = true ∨ ((e1 != 0) = false ∧ h = 0 ∧ c = N ∧ (l1.length : Int) = width)) :
    Calls Tryd.prog 4 #[.int .u64 N, .int .i64 width, .string ⟨la.toArray⟩, .string ⟨lb.toArray⟩] w fun e w' => e = .returned (.bool true) ∧ Below w.heap.size w w' := by
  have hno1 : ¬ 9223372036854775807 < la.length + lv.length := by omega
  have HC := Lib.hid hcase
  clear hcase
  go_enter Tryd.func4, Tryd.ntmps4
  go_wp2_with fail
  refine (works_any _).mono ?_
  rintro e w1 ⟨rfl, LW⟩
  go_wp2_with fail
  refine (h1.out _).mono ?_
  rintro e w2 ⟨rfl, hx⟩
  replace LW := LW.trans (hx.mono LW.size)
  clear hx
  go_wp2_with fail
  refine (h2.out _).mono ?_
  rintro e w3 ⟨rfl, hx⟩
  replace LW := LW.trans (hx.mono LW.size)
  clear hx
  go_wp2_with fail
  refine (h3.out _).mono ?_
  rintro e w4 ⟨rfl, hx⟩
  replace LW := LW.trans (hx.mono LW.size)
  clear hx
  go_wp2_with fail
  rw [cat_eq, cat_eq]
  refine (h4.out _).mono ?_
  rintro e w5 ⟨rfl, hx⟩
  replace LW := LW.trans (hx.mono LW.size)
  clear hx
  go_wp2_with fail
  refine (h5.out _).mono ?_
  rintro e w6 ⟨rfl, hx⟩
  replace LW := LW.trans (hx.mono LW.size)
  clear hx
  go_wp2_with fail
  refine (h6.out _).mono ?_
  rintro e w7 ⟨rfl, rfl⟩
  have hsum : IntKind.i64.wrap ((la.length : Int) + lv.length) = (la.length : Int) + lv.length := IntWalk.i64_in _ (by omega)
  rcases HC.out with he | ⟨he, rfl, rfl, rfl⟩
  · go_wp2_with fail
    refine (h3.out _).mono ?_
    rintro e w8 ⟨rfl, hx⟩
    replace LW := LW.trans (hx.mono LW.size)
    clear hx
    go_wp2_with fail
    go_ret
    exact ⟨rfl, LW⟩
  · go_wp2_with fail
    refine (h3.out _).mono ?_
    rintro e w8 ⟨rfl, hx⟩
    replace LW := LW.trans (hx.mono LW.size)
    clear hx
    go_wp2_with fail
    go_ret
    exact ⟨rfl, LW⟩

theorem nback_any (N : Nat) (width : Int) (la lb : List UInt8) (w : World) (hN : N < 18446744073709551616) :
    Calls Tryd.prog 4 #[.int .u64 N, .int .i64 width, .string ⟨la.toArray⟩, .string ⟨lb.toArray⟩] w fun e w' => e = .returned (.bool true) ∧ Below w.heap.size w w' := by
  by_cases hf : 200 < la.length ∨ 200 < lb.length
  · exact back_far N width la lb w hf
  · have hv := (M.vrn_length N).2
    refine back_near N width ((M.lw N width).2 : Nat) ((M.ul (M.lw N width).1).1 : Nat) ((M.ul (M.lw N width).1).2 : Nat) la lb (M.vrn N) (M.tr (M.f32 N)) (M.lw N width).1 w (by omega) (by omega) hv (Lib.hid fun w => nbe_any N w hN) ?_ (Lib.hid fun w => var_any N w hN) ?_ (Lib.hid fun w => le_any N width w hN) (Lib.hid fun w => unle_any _ w) ?_
    · refine Lib.hid fun w => ?_
      have := unbe_any (M.tr (M.f32 N)) w
      rwa [M.ub_be hN] at this
    · refine Lib.hid fun w => ?_
      have := unvar_any (la ++ M.vrn N ++ lb) la.length w (by simp; omega)
      rw [M.uv_vrn hN] at this
      simpa using this
    · by_cases he : (M.lw N width).2 = 0
      · obtain ⟨h1, h2⟩ := M.ul_lw hN he
        exact .inr ⟨by rw [he]; rfl, by rw [h1]; rfl, by rw [h1], h2⟩
      · exact .inl (by simp [he])

theorem bytes_list (s : ByteArray) : s = ⟨s.data.toList.toArray⟩ := by
  cases s
  simp

theorem nback_at (x width : Int) (s t : ByteArray) (w : World) (hx : (Lit.int .u64 x).wf = true) :
    Calls Tryd.prog 4 #[.int .u64 x, .int .i64 width, .string s, .string t] w fun e w' => e = .returned (.bool true) ∧ Below w.heap.size w w' := by
  have hb := bounds_u64 hx
  obtain ⟨N, rfl⟩ := Int.eq_ofNat_of_zero_le hb.1
  rw [bytes_list s, bytes_list t]
  exact nback_any N width _ _ w (by omega)
end Go.Proofs.YtmcchfgblecgoaaDoor
