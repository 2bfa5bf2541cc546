/- num.Unvar's region that adds one digit, in whatever order. -/
import Derived.Test.YtmcchfgblecgoaaDoorN2
namespace Go.Proofs.YtmcchfgblecgoaaDoor
open Go Go.RowKit Go.Shelf
attribute [local go_sem] Oper.semAt_some

set_option maxRecDepth 100000 in
set_option maxHeartbeats 8000000 in
theorem unvar_reg (ll h : Nat) (i n d q s r : Int) (W : World) (t0 t1 t2 t3 t4 t5 t6 t8 t9 t10 t13 t14 t15 t16 t17 t18 t19 t20 t21 t22 t23 t24 t25 t26 t27 t28 t29 t30 t31 t32 t33 t34 t35 t36 t37 t38 t39 t40 t41 t42 t43 : Value) (c : Code) (hcode : Tryd.f15.body.bind (regAt 9) = some c)
    (cn : W.cell? ⟨h, 0, none⟩ = some (.int .u64 n)) (fn : W.frozen? ⟨h, 0, none⟩ = false) (hd : IntKind.u64.wrap d = d) (hq : IntKind.i64.wrap (7 * i) = q) (hq0 : 0 ≤ q) (hs : IntKind.u64.wrap (d * 2 ^ min q.toNat 64) = s) (hr : bits BinOp.or IntKind.u64 n s = r) :
    c.wpIn (Fence.wide.inRound ll) 2 Tryd.prog (nrm fun b U => (b = { tmps := #[t0, t1, t2, t3, t4, t5, t6, .pointer (some ⟨h, 0, none⟩), t8, t9, t10, .int .i64 i, .int .u8 d, t13, t14, t15, t16, t17, t18, t19, t20, t21, t22, t23, t24, t25, t26, t27, t28, t29, .int .u64 n, .int .u8 d, .int .u64 d, .int .i64 i, .int .i64 q, .int .u64 s, .int .u64 r, t37, t38, t39, t40, t41, t42, t43], defers := [] }) ∧ U = (W.setCell ⟨h, 0, none⟩ (.int .u64 r)).drew)
      { tmps := #[t0, t1, t2, t3, t4, t5, t6, .pointer (some ⟨h, 0, none⟩), t8, t9, t10, .int .i64 i, .int .u8 d, t13, t14, t15, t16, t17, t18, t19, t20, t21, t22, t23, t24, t25, t26, t27, t28, t29, t30, t31, t32, t33, t34, t35, t36, t37, t38, t39, t40, t41, t42, t43], defers := [] } W := by
  simp only [Tryd.f15, Option.bind_some, regAt, Option.some_or, Option.none_or, if_true, if_false, Nat.reduceEqDiff, Option.some.injEq] at hcode
  subst hcode
  have mixed : Tryd.prog.follows .mixedOrders = true := by kernel_rfl
  gi_region_o
  all_goals exact ⟨rfl, rfl⟩
end Go.Proofs.YtmcchfgblecgoaaDoor
