/- The region of word.Fixed that puts one byte behind the others, in whatever order. -/
import Derived.Test.YtebjhbeaknokkaaGreatDoorW3g
import Derived.Test.YtebjhbeaknokkaaGreatDoorH01
import Derived.Lib.Hide
import Derived.BigRegionIn
namespace Go.Proofs.YtebjhbeaknokkaaGreatDoor
open Go Go.RowKit Go.Shelf
attribute [local go_sem] Oper.semAt_some

set_option maxRecDepth 100000 in
set_option maxHeartbeats 8000000 in
theorem fixed_reg (l n h : Nat) (v i p q sv : Int) (u : Value) (W : World) (t0 t1 t2 t4 t7 t8 t9 t10 t11 t12 t13 t14 t15 t16 t17 t18 t19 t20 t21 t22 t23 t24 t25 t26 : Value) (c : Code) (hcode : Tryz.f120.body.bind (regAt 7) = some c)
    (box : W.cell? ⟨h + 1 + 1, 0, none⟩ = some (.slice (some ⟨h + 1, 0, none⟩) n 32)) (fbox : W.frozen? ⟨h + 1 + 1, 0, none⟩ = false)
    (hu : W.cell? ⟨h + 1, n, none⟩ = some u) (frn : W.frozen? ⟨h + 1, n, none⟩ = false) (hle1 : n + 1 ≤ 32) (hlo1 : h + 1 < W.heap.size) (hlo2 : h + 1 + 1 < W.heap.size) (hp : IntKind.i64.wrap (7 - i) = p) (hq : IntKind.i64.wrap (8 * p) = q) (hq0 : 0 ≤ q) (hq1 : q ≤ 64) (hsv : v / 2 ^ q.toNat = sv) :
    c.wpIn (Fence.wide.inRound l) 2 Tryz.prog (nrm fun b U => b = { tmps := #[t0, t1, t2, .pointer (some ⟨h + 1 + 1, 0, none⟩), t4, .int .u64 v, .int .i64 i, t7, t8, t9, t10, t11, t12, t13, t14, .slice (some ⟨h + 1, 0, none⟩) n 32, .int .u64 v, .int .i64 i, .int .i64 p, .int .i64 q, .int .u64 sv, .int .u8 (IntKind.u8.wrap (sv)), .slice (some ⟨W.heap.size, 0, none⟩) 1 1, .slice (some ⟨h + 1, 0, none⟩) (n + 1) 32, t24, t25, t26], defers := [] } ∧
        U = (((W.setCell ⟨h + 1, n, none⟩ (.int .u8 (IntKind.u8.wrap (sv)))).setCell ⟨h + 1 + 1, 0, none⟩ (.slice (some ⟨h + 1, 0, none⟩) (n + 1) 32)).alloc (.cells #[.int .u8 (IntKind.u8.wrap (sv))] 5)).drew)
      { tmps := #[t0, t1, t2, .pointer (some ⟨h + 1 + 1, 0, none⟩), t4, .int .u64 v, .int .i64 i, t7, t8, t9, t10, t11, t12, t13, t14, t15, t16, t17, t18, t19, t20, t21, t22, t23, t24, t25, t26], defers := [] } W := by
  simp only [Tryz.f120, Option.bind_some, regAt, Option.some_or, Option.none_or, if_true, if_false, Nat.reduceEqDiff, Option.some.injEq] at hcode
  subst hcode
  have hlt1 : n < 32 := by omega
  have mixed : Tryz.prog.follows .mixedOrders = true := by kernel_rfl
  gi_region_o
  all_goals exact ⟨rfl, rfl⟩
end Go.Proofs.YtebjhbeaknokkaaGreatDoor
