/- Package receipt: Form, the number of what is wrong. -/
import Derived.Test.YtihiacbhdcahkaaGreatDoorH06
namespace Go.Proofs.YtihiacbhdcahkaaGreatDoor
open Go Go.RowKit Go.Lib Go.Shelf
attribute [local go_sem] Oper.semAt_some

theorem form_any (k g n v : Int) (st full : Bool) (ls : Value) (w : World) : Calls Tryz.prog 16 #[.agg #[.int .i64 k, .bool st, .int .u64 g, ls, .bool full, .int .u64 n, .int .u64 v]] w fun e w' =>
    e = .returned (.int .i64 (if full then if v = 0 then 1 else 2 else 0)) ∧ Below w.heap.size w w' := by
  have r1 : (w.alloc (.cells #[.int .i64 k, .bool st, .int .u64 g, ls, .bool full, .int .u64 n, .int .u64 v] 25)).heap[w.heap.size]? = some (.cells #[.int .i64 k, .bool st, .int .u64 g, ls, .bool full, .int .u64 n, .int .u64 v] 25 (0, 0)) := heap_alloc_new _ _
  have hb : Below w.heap.size w (w.alloc (.cells #[.int .i64 k, .bool st, .int .u64 g, ls, .bool full, .int .u64 n, .int .u64 v] 25)) := (Below.refl _ _).alloc (Nat.le_refl _) _
  cases full with
  | false =>
    go_enter Tryz.func16, Tryz.ntmps16
    go_wp2_with fail
    go_ret
    exact ⟨rfl, hb⟩
  | true =>
    by_cases hv : v = 0
    · subst hv
      go_enter Tryz.func16, Tryz.ntmps16
      go_wp2_with fail
      go_ret
      exact ⟨rfl, hb⟩
    · have hv1 : (v == 0) = false := by simpa using hv
      go_enter Tryz.func16, Tryz.ntmps16
      go_wp2_with fail
      go_ret
      exact ⟨by simp [], hb⟩
theorem as_nil (t : Value) (w : World) : Calls Tryz.prog 72 #[.nilIface, t] w fun e w' => e = .returned (.bool false) ∧ w' = w := by
  go_enter Tryz.func72, Tryz.ntmps72
  go_wp2_with fail
  go_ret
  exact ⟨rfl, rfl⟩
theorem numberOf_nil (w : World) : Calls Tryz.prog 38 #[.nilIface] w fun e w' => e = .returned (.int .i64 0) ∧ Below w.heap.size w w' := by
  have H := Lib.hid (fun (t : Value) (W : World) => as_nil t W)
  go_enter Tryz.func38, Tryz.ntmps38
  go_wp2_with (refine (H.out _ _).mono ?_; rintro e W ⟨rfl, rfl⟩)
  go_ret
  exact ⟨rfl, (Below.refl _ _).alloc (Nat.le_refl _) _⟩
end Go.Proofs.YtihiacbhdcahkaaGreatDoor
