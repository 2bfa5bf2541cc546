/- The calls that the statements' own example makes. -/
import Derived.Test.YtcnngpmganhjoaaDoorW4
import Derived.Test.YtcnngpmganhjoaaDoorW7
import Derived.Test.YtcnngpmganhjoaaDoorW9
namespace Go.Proofs.YtcnngpmganhjoaaDoor
open Go Go.RowKit

theorem wn_small (n : Nat) (h : n < 18446744073709551616) : wn n = wd n 0 0 0 := by
  obtain ⟨h0, h1, h2, h3⟩ := small_in h
  unfold wn
  rw [h0, h1, h2, h3]
theorem in_small (n : Nat) (h : n < 18446744073709551616) : M.In n := by unfold M.In; omega
theorem wn_sum : wn 18446744073709551873 = wd 257 1 0 0 := by
  obtain ⟨h0, h1, h2, h3⟩ := M.parts (N := 18446744073709551873) (a := 257) (b := 1) (c := 0) (d := 0) (by omega) (by omega) (by omega) (by omega) (by omega) (by omega) (by omega) (by omega) (by omega)
  unfold wn
  rw [h0, h1, h2, h3]
theorem in_sum : M.In 18446744073709551873 := by unfold M.In; omega

theorem ex_add (w : World) : Calls Tryd.prog 10 #[wd 258 0 0 0, wd 18446744073709551615 0 0 0] w fun e w' => e = .returned (.tuple #[wd 257 1 0 0, .int .i64 0]) ∧ Below w.heap.size w w' := by
  have h := add_no 258 18446744073709551615 w (in_small _ (by omega)) (in_small _ (by omega)) in_sum
  rw [show 258 + 18446744073709551615 = 18446744073709551873 from rfl, wn_sum, wn_small 258 (by omega), wn_small 18446744073709551615 (by omega)] at h
  exact h

theorem ex_sub (w : World) : Calls Tryd.prog 12 #[wd 257 1 0 0, wd 258 0 0 0] w fun e w' => e = .returned (.tuple #[wd 18446744073709551615 0 0 0, .int .i64 0]) ∧ Below w.heap.size w w' := by
  have h := sub_no 18446744073709551873 258 w in_sum (in_small _ (by omega)) (by omega)
  rw [show 18446744073709551873 - 258 = 18446744073709551615 from rfl, wn_sum, wn_small 258 (by omega), wn_small 18446744073709551615 (by omega)] at h
  exact h

theorem ex_under (w : World) : Calls Tryd.prog 12 #[wd 1 0 0 0, wd 258 0 0 0] w fun e w' => e = .returned (.tuple #[wd 0 0 0 0, .int .i64 6]) ∧ Below w.heap.size w w' := by
  have h := sub_yes 1 258 w (in_small _ (by omega)) (in_small _ (by omega)) (by omega)
  rw [wn_small 1 (by omega), wn_small 258 (by omega)] at h
  exact h

theorem ex_parse (w : World) : Calls Tryd.prog 21 #[.string ⟨#[1, 2]⟩] w fun e w' => e = .returned (.tuple #[wd 258 0 0 0, .int .i64 0]) ∧ Below w.heap.size w w' := by
  have h := parse_ok [1, 2] w (by simp) (by show _ = _; decide)
  rw [show M.dg [1, 2] = 258 from by decide, wn_small 258 (by omega)] at h
  exact h

theorem ex_spare (w : World) : Calls Tryd.prog 21 #[.string ⟨#[0, 2]⟩] w fun e w' => e = .returned (.tuple #[wd 0 0 0 0, .int .i64 8]) ∧ Below w.heap.size w w' :=
  parse_spare [0, 2] w (by simp) (by show _ = _; decide)

theorem ex_big (w : World) : Calls Tryd.prog 15 #[wd 257 1 0 0] w fun e w' => e = .returned (.tuple #[.int .u64 0, .bool false]) ∧ Below w.heap.size w w' :=
  small_no 257 1 0 0 w (by omega)

theorem ex_bytes (w : World) : Calls Tryd.prog 26 #[wd 258 0 0 0] w fun e w' => e = .returned (.string ⟨#[1, 2]⟩) ∧ Below w.heap.size w w' := by
  have h := bytes_any 258 w (in_small _ (by omega))
  rw [show M.tr (M.f32 258) = [1, 2] from by decide +kernel, wn_small 258 (by omega)] at h
  exact h

theorem ex_none (w : World) : Calls Tryd.prog 26 #[wd 0 0 0 0] w fun e w' => e = .returned (.string ⟨#[]⟩) ∧ Below w.heap.size w w' := by
  have h := bytes_any 0 w (in_small _ (by omega))
  rw [show M.tr (M.f32 0) = [] from by decide +kernel, wn_small 0 (by omega)] at h
  exact h

theorem ex_fixed (w : World) : Calls Tryd.prog 25 #[wd 258 0 0 0] w fun e w' => e = .returned (.string ⟨(M.f32 258).toArray⟩) ∧ Below w.heap.size w w' := by
  have h := fixed_any 258 w (in_small _ (by omega))
  rw [wn_small 258 (by omega)] at h
  exact h

theorem ex_less (w : World) : Calls Tryd.prog 17 #[wd 1 0 0 0, wd 258 0 0 0] w fun e w' => e = .returned (.bool true) ∧ Below w.heap.size w w' := by
  have h := less_any 1 258 w (in_small _ (by omega)) (in_small _ (by omega))
  rw [wn_small 1 (by omega), wn_small 258 (by omega)] at h
  exact h

theorem ex_same (w : World) : Calls Tryd.prog 17 #[wd 258 0 0 0, wd 258 0 0 0] w fun e w' => e = .returned (.bool false) ∧ Below w.heap.size w w' := by
  have h := less_any 258 258 w (in_small _ (by omega)) (in_small _ (by omega))
  rw [wn_small 258 (by omega)] at h
  exact h
end Go.Proofs.YtcnngpmganhjoaaDoor
