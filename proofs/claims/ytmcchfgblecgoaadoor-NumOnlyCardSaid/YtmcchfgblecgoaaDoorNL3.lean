/- NumOnly: the walk: what is read is written just so. -/
import Derived.Test.YtmcchfgblecgoaaDoorNO
import Derived.Test.YtmcchfgblecgoaaDoorNL2
namespace Go.Proofs.YtmcchfgblecgoaaDoor
open Go Go.RowKit Go.ChangeShapes

set_option maxRecDepth 100000 in
set_option maxHeartbeats 2000000 in
theorem only_far (l : List UInt8) (a : Int) (w : World) (h1 : 200 < l.length) :
    Calls Tryd.prog 5 #[.string ⟨l.toArray⟩, .int .i64 a] w fun e w' => e = .returned (.bool true) ∧ Below w.heap.size w w' := by
  go_enter Tryd.func5, Tryd.ntmps5
  go_wp2_with fail
  refine (works_any _).mono ?_
  rintro e w1 ⟨rfl, LW⟩
  go_wp2_with fail
  go_ret
  exact ⟨rfl, LW⟩

set_option maxRecDepth 100000 in
set_option maxHeartbeats 4000000 in
theorem only_a (l lt lx : List UInt8) (x ex y ey et : Int) (a b : Nat) (n : Int) (lv : List UInt8) (w : World) (hl : l.length ≤ 200)
    (h1 : Hid (∀ w : World, Calls Tryd.prog 14 #[.string ⟨l.toArray⟩] w fun e w' => e = .returned (.tuple #[.int .u64 x, .int .i64 ex]) ∧ Below w.heap.size w w'))
    (h2 : Hid (∀ w : World, Calls Tryd.prog 16 #[.string ⟨l.toArray⟩] w fun e w' => e = .returned (.tuple #[.int .u64 y, .int .i64 ey]) ∧ w = w'))
    (h3 : Hid (∀ w : World, Calls Tryd.prog 9 #[.int .u64 y, .int .i64 l.length] w fun e w' => e = .returned (.tuple #[.string ⟨lt.toArray⟩, .int .i64 et]) ∧ Below w.heap.size w w'))
    (h4 : Hid (∀ w : World, Calls Tryd.prog 15 #[.string ⟨l.toArray⟩, .int .i64 (a : Nat)] w fun e w' => e = .returned (.tuple #[.int .u64 n, .int .i64 (b : Nat), .int .i64 0]) ∧ Below w.heap.size w w'))
    (h5 : Hid (∀ w : World, Calls Tryd.prog 12 #[.int .u64 x] w fun e w' => e = .returned (.string ⟨lx.toArray⟩) ∧ Below w.heap.size w w'))
    (hx : (ex != 0) = true ∨ ((ex != 0) = false ∧ lx = l)) (hy : (ey != 0) = true ∨ ((ey != 0) = false ∧ et = 0 ∧ lt = l))
    (h6 : Hid (∀ w : World, Calls Tryd.prog 13 #[.int .u64 n] w fun e w' => e = .returned (.string ⟨lv.toArray⟩) ∧ Below w.heap.size w w')) (hab : a < b) (hbl : b ≤ l.length) (hcmp : Hid ((lv == ((⟨l.toArray⟩ : ByteArray).extract a b).toList) = true)) :
    Calls Tryd.prog 5 #[.string ⟨l.toArray⟩, .int .i64 (a : Nat)] w fun e w' => e = .returned (.bool true) ∧ Below w.heap.size w w' := by
  have HX := Lib.hid hx
  have HY := Lib.hid hy
  clear hx hy
  go_enter Tryd.func5, Tryd.ntmps5
  go_wp2_with fail
  refine (works_any _).mono ?_
  rintro e w1 ⟨rfl, LW⟩
  go_wp2_with fail
  refine (h1.out _).mono ?_
  rintro e w2 ⟨rfl, hb⟩
  replace LW := LW.trans (hb.mono LW.size)
  clear hb
  go_wp2_with fail
  refine (h2.out _).mono ?_
  rintro e w3 ⟨rfl, rfl⟩
  go_wp2_with fail
  refine (h3.out _).mono ?_
  rintro e w4 ⟨rfl, hb⟩
  replace LW := LW.trans (hb.mono LW.size)
  clear hb
  go_wp2_with fail
  refine (h4.out _).mono ?_
  rintro e w5 ⟨rfl, hb⟩
  replace LW := LW.trans (hb.mono LW.size)
  clear hb
  go_wp2_with fail
  refine Code.wp_mono ?_ (no_a_wp w _ l lv a b n hab hbl (by simp; omega) (by simp; omega) hcmp.out h6 _ _ _ _ _ _ _ _ _ _ _ _ _ _ _ _ _ _ _ _ _ _ _ _ _ _ _ _ _ _ _ _ _ _ _ _ _ _ _ _ _ _ _ _ _ _ _ _ _ _ _ _ _ _ _ _ _ _ _ _ _ _ _ _ _ _ _ _ _ _ _ _ _ _ _ _ _ _ _ _ _ _ _ _ _ _ _ _ _ _ _ _ _ _ _ _ _ _ _ _ (by kernel_rfl) ⟨LW⟩)
  rintro _ b U ⟨rfl, ⟨y46, y47, y48, y49, y50, y51, y52, y53, y54, y55, y56, y57, y58, y59, y60, y61, y62, y63, y64, y65, y66, y67, y68, y69, y70, y71, y72, y73, y74, y75, y76, y77, y78, rfl⟩, hU⟩
  clear LW
  have LW := hU.low
  clear hU
  rcases HX.out with hx | ⟨hx, rfl⟩
  · rcases HY.out with hy | ⟨hy, rfl, rfl⟩
    · go_wp2_with fail
      go_ret
      exact ⟨rfl, LW⟩
    · go_wp2_with fail
      go_ret
      exact ⟨rfl, LW⟩
  · rcases HY.out with hy | ⟨hy, rfl, rfl⟩
    · go_wp2_with fail
      refine (h5.out _).mono ?_
      rintro e w6 ⟨rfl, hb⟩
      replace LW := LW.trans (hb.mono LW.size)
      clear hb
      go_wp2_with fail
      go_ret
      exact ⟨rfl, LW⟩
    · go_wp2_with fail
      refine (h5.out _).mono ?_
      rintro e w6 ⟨rfl, hb⟩
      replace LW := LW.trans (hb.mono LW.size)
      clear hb
      go_wp2_with fail
      go_ret
      exact ⟨rfl, LW⟩

set_option maxRecDepth 100000 in
set_option maxHeartbeats 4000000 in
theorem only_b (l lt lx : List UInt8) (x ex y ey et : Int) (a ez : Int) (w : World) (hl : l.length ≤ 200)
    (h1 : Hid (∀ w : World, Calls Tryd.prog 14 #[.string ⟨l.toArray⟩] w fun e w' => e = .returned (.tuple #[.int .u64 x, .int .i64 ex]) ∧ Below w.heap.size w w'))
    (h2 : Hid (∀ w : World, Calls Tryd.prog 16 #[.string ⟨l.toArray⟩] w fun e w' => e = .returned (.tuple #[.int .u64 y, .int .i64 ey]) ∧ w = w'))
    (h3 : Hid (∀ w : World, Calls Tryd.prog 9 #[.int .u64 y, .int .i64 l.length] w fun e w' => e = .returned (.tuple #[.string ⟨lt.toArray⟩, .int .i64 et]) ∧ Below w.heap.size w w'))
    (h4 : Hid (∀ w : World, Calls Tryd.prog 15 #[.string ⟨l.toArray⟩, .int .i64 a] w fun e w' => e = .returned (.tuple #[.int .u64 0, .int .i64 0, .int .i64 ez]) ∧ Below w.heap.size w w'))
    (h5 : Hid (∀ w : World, Calls Tryd.prog 12 #[.int .u64 x] w fun e w' => e = .returned (.string ⟨lx.toArray⟩) ∧ Below w.heap.size w w'))
    (hx : (ex != 0) = true ∨ ((ex != 0) = false ∧ lx = l)) (hy : (ey != 0) = true ∨ ((ey != 0) = false ∧ et = 0 ∧ lt = l))
    (he1 : (ez == 0) = false) (he2 : (ez != 0) = true) :
    Calls Tryd.prog 5 #[.string ⟨l.toArray⟩, .int .i64 a] w fun e w' => e = .returned (.bool true) ∧ Below w.heap.size w w' := by
  have HX := Lib.hid hx
  have HY := Lib.hid hy
  clear hx hy
  go_enter Tryd.func5, Tryd.ntmps5
  go_wp2_with fail
  refine (works_any _).mono ?_
  rintro e w1 ⟨rfl, LW⟩
  go_wp2_with fail
  refine (h1.out _).mono ?_
  rintro e w2 ⟨rfl, hb⟩
  replace LW := LW.trans (hb.mono LW.size)
  clear hb
  go_wp2_with fail
  refine (h2.out _).mono ?_
  rintro e w3 ⟨rfl, rfl⟩
  go_wp2_with fail
  refine (h3.out _).mono ?_
  rintro e w4 ⟨rfl, hb⟩
  replace LW := LW.trans (hb.mono LW.size)
  clear hb
  go_wp2_with fail
  refine (h4.out _).mono ?_
  rintro e w5 ⟨rfl, hb⟩
  replace LW := LW.trans (hb.mono LW.size)
  clear hb
  go_wp2_with fail
  refine Code.wp_mono ?_ (no_b_wp w _ l a ez he1 he2 _ _ _ _ _ _ _ _ _ _ _ _ _ _ _ _ _ _ _ _ _ _ _ _ _ _ _ _ _ _ _ _ _ _ _ _ _ _ _ _ _ _ _ _ _ _ _ _ _ _ _ _ _ _ _ _ _ _ _ _ _ _ _ _ _ _ _ _ _ _ _ _ _ _ _ _ _ _ _ _ _ _ _ _ _ _ _ _ _ _ _ _ _ _ _ _ _ _ _ _ (by kernel_rfl) ⟨LW⟩)
  rintro _ b U ⟨rfl, ⟨y46, y47, y48, y49, y50, y51, y52, y53, y54, y55, y56, y57, y58, y59, y60, y61, y62, y63, y64, y65, y66, y67, y68, y69, y70, y71, y72, y73, y74, y75, y76, y77, y78, rfl⟩, hU⟩
  clear LW
  have LW := hU.low
  clear hU
  rcases HX.out with hx | ⟨hx, rfl⟩
  · rcases HY.out with hy | ⟨hy, rfl, rfl⟩
    · go_wp2_with fail
      go_ret
      exact ⟨rfl, LW⟩
    · go_wp2_with fail
      go_ret
      exact ⟨rfl, LW⟩
  · rcases HY.out with hy | ⟨hy, rfl, rfl⟩
    · go_wp2_with fail
      refine (h5.out _).mono ?_
      rintro e w6 ⟨rfl, hb⟩
      replace LW := LW.trans (hb.mono LW.size)
      clear hb
      go_wp2_with fail
      go_ret
      exact ⟨rfl, LW⟩
    · go_wp2_with fail
      refine (h5.out _).mono ?_
      rintro e w6 ⟨rfl, hb⟩
      replace LW := LW.trans (hb.mono LW.size)
      clear hb
      go_wp2_with fail
      go_ret
      exact ⟨rfl, LW⟩


theorem nonly_any (l : List UInt8) (a : Int) (w : World) :
    Calls Tryd.prog 5 #[.string ⟨l.toArray⟩, .int .i64 a] w fun e w' => e = .returned (.bool true) ∧ Below w.heap.size w w' := by
  by_cases hf : 200 < l.length
  · exact only_far l a w hf
  · have h1 := Lib.hid fun w => unbe_any l w
    have h2 := Lib.hid fun w => unle_any l w
    have h3 := Lib.hid fun w => le_any (M.ul l).1 l.length w (M.ul_lt l)
    have h4 := Lib.hid fun w => unvar_any l a w (by omega)
    have h5 := Lib.hid fun w => nbe_any (M.ub l).1 w (M.ub_lt l)
    have hx : (((M.ub l).2 : Int) != 0) = true ∨ ((((M.ub l).2 : Int) != 0) = false ∧ M.tr (M.f32 (M.ub l).1) = l) := by
      by_cases h : (M.ub l).2 = 0
      · exact .inr ⟨by simp [h], M.be_ub h⟩
      · exact .inl (by simp [h])
    have hy : (((M.ul l).2 : Int) != 0) = true ∨ ((((M.ul l).2 : Int) != 0) = false ∧ (((M.lw (M.ul l).1 l.length).2 : Nat) : Int) = 0 ∧ (M.lw (M.ul l).1 l.length).1 = l) := by
      by_cases h : (M.ul l).2 = 0
      · have e := M.lw_ul h
        exact .inr ⟨by simp [h], by rw [e]; rfl, by rw [e]⟩
      · exact .inl (by simp [h])
    by_cases he : (M.uv l a).2.2 = 0
    · obtain ⟨u1, u2, u3, u4, u5⟩ := M.uv_ok he
      have h6 := Lib.hid fun w => var_any (M.uv l a).1 w u4
      obtain ⟨k, rfl⟩ : ∃ k : Nat, a = k := ⟨a.toNat, by omega⟩
      obtain ⟨b, hb⟩ : ∃ b : Nat, (M.uv l k).2.1 = b := ⟨(M.uv l k).2.1.toNat, by omega⟩
      rw [he, hb] at h4
      rw [hb] at u2 u3 u5
      refine only_a l _ _ _ _ _ _ _ k b _ _ w (by omega) h1 h2 h3 h4 h5 hx hy h6 (by omega) (by omega) (Lib.hid ?_)
      rw [Lib.extract_toList, u5]
      simp only [Int.toNat_natCast, show ((b : Int) - k).toNat = b - k by omega]
      simp
    · obtain ⟨v1, v2⟩ := M.uv_no he
      rw [v1, v2] at h4
      exact only_b l _ _ _ _ _ _ _ a _ w (by omega) h1 h2 h3 h4 h5 hx hy (by simp [he]) (by simp [he])

theorem nonly_at (s : ByteArray) (a : Int) (w : World) :
    Calls Tryd.prog 5 #[.string s, .int .i64 a] w fun e w' => e = .returned (.bool true) ∧ Below w.heap.size w w' := by
  rw [bytes_list s]
  exact nonly_any _ a w
end Go.Proofs.YtmcchfgblecgoaaDoor
