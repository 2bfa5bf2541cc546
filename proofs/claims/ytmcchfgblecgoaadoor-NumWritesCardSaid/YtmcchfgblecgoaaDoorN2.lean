/- num.digits: a number's digits of 7 or 8 bits, the lowest ones first. -/
import Derived.Test.YtmcchfgblecgoaaDoorN1
import Derived.Test.YtmcchfgblecgoaaDoorF1
namespace Go.Proofs.YtmcchfgblecgoaaDoor
open Go Go.RowKit Go.Shelf
attribute [local go_sem] Oper.semAt_some

/-- Left off its end, and so. -/
def nrm (R : Act → World → Prop) : Exit → Act → World → Prop
  | .normal, a, w => R a w
  | _, _, _ => False

theorem digits_in (n : Nat) (N s : Int) (w : World) :
    CallsIn Fence.wide n Tryd.prog 18 #[.int .u64 N, .int .i64 s] w fun e w' =>
      e = .returned (.func (.func 26) #[] #[.pointer (some ⟨w.heap.size, 0, none⟩), .pointer (some ⟨w.heap.size + 1, 0, none⟩)]) ∧ w' = (w.alloc (.cells #[.int .u64 N] 22)).alloc (.cells #[.int .i64 s] 3) := by
  refine callsIn_of_wp Tryd.func18 rfl trivial ?_ rfl
  simp only [Tryd.ntmps18, List.size_toArray, List.length_cons, List.length_nil, Nat.reduceAdd, Nat.reduceSub, Array.replicate_succ, Array.replicate_zero, List.push_toArray, List.append_toArray, List.nil_append, List.cons_append]
  gi_wp2
  go_ret
  exact ⟨rfl, rfl⟩

set_option maxRecDepth 100000 in
set_option maxHeartbeats 8000000 in
theorem digits_reg (n l bn bs j : Nat) (N s q V m m1 d : Int) (W : World) (t3 t5 t6 t7 t8 t9 t10 t11 t12 t13 t14 t15 t16 t17 t18 t19 t20 t21 t22 t23 t24 t25 t26 t27 t28 t29 t30 : Value) (c : Code) (hcode : Tryd.f26.body.bind (regAt 3) = some c)
    (R : World → Prop) (cn : W.cell? ⟨bn, 0, none⟩ = some (.int .u64 N)) (cs : W.cell? ⟨bs, 0, none⟩ = some (.int .i64 s)) (hq : IntKind.i64.wrap (s * j) = q) (hq0 : 0 ≤ q) (hs0 : 0 ≤ s) (hs1 : s ≤ 8) (hV : N / 2 ^ min q.toNat 64 = V) (hm : IntKind.u64.wrap (2 ^ s.toNat) = m) (hm1 : IntKind.u64.wrap (m - 1) = m1) (hd : bits BinOp.and IntKind.u64 V m1 = d) (hd8 : IntKind.u8.wrap d = d)
    (hY : YieldAt Fence.wide n Tryd.prog l #[.int .i64 j, .int .u8 d] W.drew fun e W' => e = .returned (.bool true) ∧ R W') :
    c.wpIn Fence.wide (n + 1) Tryd.prog (nrm fun b U => (∃ t17 t18 t19 t20 t21 t22 t23 t24 t25 t26 t27 t28, b = { tmps := #[.func (.yield l) #[] #[], .pointer (some ⟨bn, 0, none⟩), .pointer (some ⟨bs, 0, none⟩), t3, .int .i64 j, t5, t6, t7, t8, t9, t10, t11, t12, t13, t14, t15, t16, t17, t18, t19, t20, t21, t22, t23, t24, t25, t26, t27, t28, .bool true, .bool false], defers := [] }) ∧ R U)
      { tmps := #[.func (.yield l) #[] #[], .pointer (some ⟨bn, 0, none⟩), .pointer (some ⟨bs, 0, none⟩), t3, .int .i64 j, t5, t6, t7, t8, t9, t10, t11, t12, t13, t14, t15, t16, t17, t18, t19, t20, t21, t22, t23, t24, t25, t26, t27, t28, t29, t30], defers := [] } W := by
  simp only [Tryd.f26, Option.bind_some, regAt, Option.some_or, Option.none_or, if_true, if_false, Nat.reduceEqDiff, Option.some.injEq] at hcode
  subst hcode
  have hro : Fence.wide.round = none := rfl
  have mixed : Tryd.prog.follows .mixedOrders = true := by kernel_rfl
  obtain ⟨fn, tmps, assign, body, hy, hR⟩ := hY
  gi_region_with (refine hR.mono ?_; rintro e W' ⟨rfl, hW'⟩)
  all_goals exact ⟨⟨_, _, _, _, _, _, _, _, _, _, _, _, rfl⟩, hW'⟩
end Go.Proofs.YtmcchfgblecgoaaDoor
