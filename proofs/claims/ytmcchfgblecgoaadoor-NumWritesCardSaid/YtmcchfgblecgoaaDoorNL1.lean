/- NumWrites: the walk: the bytes of a number, in each form, are the reference's. -/
import Derived.Test.YtmcchfgblecgoaaDoorNK
import Derived.Test.YtmcchfgblecgoaaDoorRN1
import Derived.OpenShut
namespace Go.Proofs.YtmcchfgblecgoaaDoor
open Go Go.RowKit Go.ChangeShapes

set_option maxRecDepth 100000 in
set_option maxHeartbeats 2000000 in
theorem writes_walk (N : Int) (width e1 : Int) (lb l1 lv : List UInt8) (w : World)
    (h1 : Hid (∀ w : World, Calls Tryd.prog 8 #[.int .u64 N] w fun e w' => e = .returned (.string ⟨lb.toArray⟩) ∧ Below w.heap.size w w'))
    (h2 : Hid (∀ w : World, Calls Tryd.prog 12 #[.int .u64 N] w fun e w' => e = .returned (.string ⟨lb.toArray⟩) ∧ Below w.heap.size w w'))
    (h3 : Hid (∀ w : World, Calls Tryd.prog 9 #[.int .u64 N, .int .i64 width] w fun e w' => e = .returned (.tuple #[.string ⟨l1.toArray⟩, .int .i64 e1]) ∧ Below w.heap.size w w'))
    (h4 : Hid (∀ w : World, Calls Tryd.prog 10 #[.int .u64 N, .int .i64 width] w fun e w' => e = .returned (.tuple #[.string ⟨l1.toArray⟩, .int .i64 e1]) ∧ Below w.heap.size w w'))
    (h5 : Hid (∀ w : World, Calls Tryd.prog 13 #[.int .u64 N] w fun e w' => e = .returned (.string ⟨lv.toArray⟩) ∧ Below w.heap.size w w'))
    (h6 : Hid (∀ w : World, Calls Tryd.prog 11 #[.int .u64 N] w fun e w' => e = .returned (.string ⟨lv.toArray⟩) ∧ Below w.heap.size w w')) :
    Calls Tryd.prog 3 #[.int .u64 N, .int .i64 width] w fun e w' => e = .returned (.bool true) ∧ Below w.heap.size w w' := by
  go_enter Tryd.func3, Tryd.ntmps3
  go_wp2_with fail
  refine (works_any _).mono ?_
  rintro e w1 ⟨rfl, LW⟩
  go_wp2_with fail
  refine (h1.out _).mono ?_
  rintro e w2 ⟨rfl, hb⟩
  replace LW := LW.trans (hb.mono LW.size)
  clear hb
  go_wp2_with fail
  refine (h3.out _).mono ?_
  rintro e w3 ⟨rfl, hb⟩
  replace LW := LW.trans (hb.mono LW.size)
  clear hb
  go_wp2_with fail
  refine (h4.out _).mono ?_
  rintro e w4 ⟨rfl, hb⟩
  replace LW := LW.trans (hb.mono LW.size)
  clear hb
  go_wp2_with fail
  refine (h6.out _).mono ?_
  rintro e w5 ⟨rfl, hb⟩
  replace LW := LW.trans (hb.mono LW.size)
  clear hb
  go_wp2_with fail
  refine (h2.out _).mono ?_
  rintro e w6 ⟨rfl, hb⟩
  replace LW := LW.trans (hb.mono LW.size)
  clear hb
  go_wp2_with fail
  refine (h5.out _).mono ?_
  rintro e w7 ⟨rfl, hb⟩
  replace LW := LW.trans (hb.mono LW.size)
  clear hb
  go_wp2_with fail
  go_ret
  exact ⟨rfl, LW⟩

theorem writes_any (N : Nat) (width : Int) (w : World) (hN : N < 18446744073709551616) :
    Calls Tryd.prog 3 #[.int .u64 N, .int .i64 width] w fun e w' => e = .returned (.bool true) ∧ Below w.heap.size w w' :=
  writes_walk N width _ _ _ _ w (Lib.hid fun w => rnbe_any N w hN) (Lib.hid fun w => nbe_any N w hN) (Lib.hid fun w => le_any N width w hN) (Lib.hid fun w => rle_any N width w hN) (Lib.hid fun w => var_any N w hN) (Lib.hid fun w => rvar_any N w hN)

theorem writes_at (x : Int) (width : Int) (w : World) (hx : (Lit.int .u64 x).wf = true) :
    Calls Tryd.prog 3 #[.int .u64 x, .int .i64 width] w fun e w' => e = .returned (.bool true) ∧ Below w.heap.size w w' := by
  have hb := bounds_u64 hx
  obtain ⟨N, rfl⟩ := Int.eq_ofNat_of_zero_le hb.1
  exact writes_any N width w (by omega)
end Go.Proofs.YtmcchfgblecgoaaDoor
