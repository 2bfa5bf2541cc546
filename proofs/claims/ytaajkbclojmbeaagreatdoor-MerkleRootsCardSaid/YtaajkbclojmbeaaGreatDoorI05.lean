/- The reference's digits of a word. Four cells of a block: what a word in memory is. The reference's bytes of a word: Fixed, Bytes, Small. The reference's of. -/
import Derived.Test.YtaajkbclojmbeaaGreatDoorI03
import Derived.Test.YtaajkbclojmbeaaGreatDoorI01
import Derived.Lib.Hide
import Derived.Deep.DeepCutAuto
import Derived.Laws.IdiomStrings
import Derived.Laws.BytesArg
import Derived.Maps.AppendAt
import Derived.Deep.RegionHeld3
import Derived.Test.YtaajkbclojmbeaaGreatDoorI04
namespace Go.Proofs.YtaajkbclojmbeaaGreatDoor
open Go Go.RowKit

theorem dig_part (N q r : Nat) (hr : r < 8) : M.pt q N / ((256 ^ r : Nat) : Int) % 256 = ((N / 256 ^ (8 * q + r) % 256 : Nat) : Int) := by
  unfold M.pt
  rw [← Int.natCast_ediv]
  have e : N / 18446744073709551616 ^ q % 18446744073709551616 / 256 ^ r % 256 = N / 256 ^ (8 * q + r) % 256 := by
    have h8 : (18446744073709551616 : Nat) = 256 ^ r * 256 ^ (8 - r) := by
      rw [← Nat.pow_add, show r + (8 - r) = 8 by omega]
    have hq : (18446744073709551616 : Nat) ^ q = 256 ^ (8 * q) := by
      rw [Nat.pow_mul]
    rw [hq]
    generalize hx : N / 256 ^ (8 * q) = x
    rw [h8, Nat.mod_mul_right_div_self, Nat.mod_mod_of_dvd _ ⟨256 ^ (8 - r - 1), by rw [Nat.mul_comm, ← Nat.pow_succ]; congr 1; omega⟩, ← hx, Nat.div_div_eq_div_mul, ← Nat.pow_add]
  rw [← e]
  rfl

theorem dig_0 (a0 a1 a2 a3 : Int) (w : World) (h0 : 0 ≤ a0) (h1 : a0 < 18446744073709551616) :
    Calls Tryz.prog 135 #[wd a0 a1 a2 a3, .int .i64 0] w fun e w' => e = .returned (.int .i64 (a0 % 256)) ∧ Below w.heap.size w w' := by
  go_enter Tryz.func135, Tryz.ntmps135
  go_wp2_with fail
  go_ret
  exact ⟨rfl, (Below.refl _ _).alloc (Nat.le_refl _) _⟩

theorem dig_1 (a0 a1 a2 a3 : Int) (w : World) (h0 : 0 ≤ a0) (h1 : a0 < 18446744073709551616) :
    Calls Tryz.prog 135 #[wd a0 a1 a2 a3, .int .i64 1] w fun e w' => e = .returned (.int .i64 (a0 / 256 % 256)) ∧ Below w.heap.size w w' := by
  go_enter Tryz.func135, Tryz.ntmps135
  go_wp2_with fail
  go_ret
  exact ⟨rfl, (Below.refl _ _).alloc (Nat.le_refl _) _⟩

theorem dig_2 (a0 a1 a2 a3 : Int) (w : World) (h0 : 0 ≤ a0) (h1 : a0 < 18446744073709551616) :
    Calls Tryz.prog 135 #[wd a0 a1 a2 a3, .int .i64 2] w fun e w' => e = .returned (.int .i64 (a0 / 65536 % 256)) ∧ Below w.heap.size w w' := by
  go_enter Tryz.func135, Tryz.ntmps135
  go_wp2_with fail
  go_ret
  exact ⟨rfl, (Below.refl _ _).alloc (Nat.le_refl _) _⟩

theorem dig_3 (a0 a1 a2 a3 : Int) (w : World) (h0 : 0 ≤ a0) (h1 : a0 < 18446744073709551616) :
    Calls Tryz.prog 135 #[wd a0 a1 a2 a3, .int .i64 3] w fun e w' => e = .returned (.int .i64 (a0 / 16777216 % 256)) ∧ Below w.heap.size w w' := by
  go_enter Tryz.func135, Tryz.ntmps135
  go_wp2_with fail
  go_ret
  exact ⟨rfl, (Below.refl _ _).alloc (Nat.le_refl _) _⟩

theorem dig_4 (a0 a1 a2 a3 : Int) (w : World) (h0 : 0 ≤ a0) (h1 : a0 < 18446744073709551616) :
    Calls Tryz.prog 135 #[wd a0 a1 a2 a3, .int .i64 4] w fun e w' => e = .returned (.int .i64 (a0 / 4294967296 % 256)) ∧ Below w.heap.size w w' := by
  go_enter Tryz.func135, Tryz.ntmps135
  go_wp2_with fail
  go_ret
  exact ⟨rfl, (Below.refl _ _).alloc (Nat.le_refl _) _⟩

theorem dig_5 (a0 a1 a2 a3 : Int) (w : World) (h0 : 0 ≤ a0) (h1 : a0 < 18446744073709551616) :
    Calls Tryz.prog 135 #[wd a0 a1 a2 a3, .int .i64 5] w fun e w' => e = .returned (.int .i64 (a0 / 1099511627776 % 256)) ∧ Below w.heap.size w w' := by
  go_enter Tryz.func135, Tryz.ntmps135
  go_wp2_with fail
  go_ret
  exact ⟨rfl, (Below.refl _ _).alloc (Nat.le_refl _) _⟩

theorem dig_6 (a0 a1 a2 a3 : Int) (w : World) (h0 : 0 ≤ a0) (h1 : a0 < 18446744073709551616) :
    Calls Tryz.prog 135 #[wd a0 a1 a2 a3, .int .i64 6] w fun e w' => e = .returned (.int .i64 (a0 / 281474976710656 % 256)) ∧ Below w.heap.size w w' := by
  go_enter Tryz.func135, Tryz.ntmps135
  go_wp2_with fail
  go_ret
  exact ⟨rfl, (Below.refl _ _).alloc (Nat.le_refl _) _⟩

theorem dig_7 (a0 a1 a2 a3 : Int) (w : World) (h0 : 0 ≤ a0) (h1 : a0 < 18446744073709551616) :
    Calls Tryz.prog 135 #[wd a0 a1 a2 a3, .int .i64 7] w fun e w' => e = .returned (.int .i64 (a0 / 72057594037927936 % 256)) ∧ Below w.heap.size w w' := by
  go_enter Tryz.func135, Tryz.ntmps135
  go_wp2_with fail
  go_ret
  exact ⟨rfl, (Below.refl _ _).alloc (Nat.le_refl _) _⟩

theorem dig_8 (a0 a1 a2 a3 : Int) (w : World) (h0 : 0 ≤ a1) (h1 : a1 < 18446744073709551616) :
    Calls Tryz.prog 135 #[wd a0 a1 a2 a3, .int .i64 8] w fun e w' => e = .returned (.int .i64 (a1 % 256)) ∧ Below w.heap.size w w' := by
  go_enter Tryz.func135, Tryz.ntmps135
  go_wp2_with fail
  go_ret
  exact ⟨rfl, (Below.refl _ _).alloc (Nat.le_refl _) _⟩

theorem dig_9 (a0 a1 a2 a3 : Int) (w : World) (h0 : 0 ≤ a1) (h1 : a1 < 18446744073709551616) :
    Calls Tryz.prog 135 #[wd a0 a1 a2 a3, .int .i64 9] w fun e w' => e = .returned (.int .i64 (a1 / 256 % 256)) ∧ Below w.heap.size w w' := by
  go_enter Tryz.func135, Tryz.ntmps135
  go_wp2_with fail
  go_ret
  exact ⟨rfl, (Below.refl _ _).alloc (Nat.le_refl _) _⟩

theorem dig_10 (a0 a1 a2 a3 : Int) (w : World) (h0 : 0 ≤ a1) (h1 : a1 < 18446744073709551616) :
    Calls Tryz.prog 135 #[wd a0 a1 a2 a3, .int .i64 10] w fun e w' => e = .returned (.int .i64 (a1 / 65536 % 256)) ∧ Below w.heap.size w w' := by
  go_enter Tryz.func135, Tryz.ntmps135
  go_wp2_with fail
  go_ret
  exact ⟨rfl, (Below.refl _ _).alloc (Nat.le_refl _) _⟩

theorem dig_11 (a0 a1 a2 a3 : Int) (w : World) (h0 : 0 ≤ a1) (h1 : a1 < 18446744073709551616) :
    Calls Tryz.prog 135 #[wd a0 a1 a2 a3, .int .i64 11] w fun e w' => e = .returned (.int .i64 (a1 / 16777216 % 256)) ∧ Below w.heap.size w w' := by
  go_enter Tryz.func135, Tryz.ntmps135
  go_wp2_with fail
  go_ret
  exact ⟨rfl, (Below.refl _ _).alloc (Nat.le_refl _) _⟩

theorem dig_12 (a0 a1 a2 a3 : Int) (w : World) (h0 : 0 ≤ a1) (h1 : a1 < 18446744073709551616) :
    Calls Tryz.prog 135 #[wd a0 a1 a2 a3, .int .i64 12] w fun e w' => e = .returned (.int .i64 (a1 / 4294967296 % 256)) ∧ Below w.heap.size w w' := by
  go_enter Tryz.func135, Tryz.ntmps135
  go_wp2_with fail
  go_ret
  exact ⟨rfl, (Below.refl _ _).alloc (Nat.le_refl _) _⟩

theorem dig_13 (a0 a1 a2 a3 : Int) (w : World) (h0 : 0 ≤ a1) (h1 : a1 < 18446744073709551616) :
    Calls Tryz.prog 135 #[wd a0 a1 a2 a3, .int .i64 13] w fun e w' => e = .returned (.int .i64 (a1 / 1099511627776 % 256)) ∧ Below w.heap.size w w' := by
  go_enter Tryz.func135, Tryz.ntmps135
  go_wp2_with fail
  go_ret
  exact ⟨rfl, (Below.refl _ _).alloc (Nat.le_refl _) _⟩

theorem dig_14 (a0 a1 a2 a3 : Int) (w : World) (h0 : 0 ≤ a1) (h1 : a1 < 18446744073709551616) :
    Calls Tryz.prog 135 #[wd a0 a1 a2 a3, .int .i64 14] w fun e w' => e = .returned (.int .i64 (a1 / 281474976710656 % 256)) ∧ Below w.heap.size w w' := by
  go_enter Tryz.func135, Tryz.ntmps135
  go_wp2_with fail
  go_ret
  exact ⟨rfl, (Below.refl _ _).alloc (Nat.le_refl _) _⟩

theorem dig_15 (a0 a1 a2 a3 : Int) (w : World) (h0 : 0 ≤ a1) (h1 : a1 < 18446744073709551616) :
    Calls Tryz.prog 135 #[wd a0 a1 a2 a3, .int .i64 15] w fun e w' => e = .returned (.int .i64 (a1 / 72057594037927936 % 256)) ∧ Below w.heap.size w w' := by
  go_enter Tryz.func135, Tryz.ntmps135
  go_wp2_with fail
  go_ret
  exact ⟨rfl, (Below.refl _ _).alloc (Nat.le_refl _) _⟩

theorem dig_16 (a0 a1 a2 a3 : Int) (w : World) (h0 : 0 ≤ a2) (h1 : a2 < 18446744073709551616) :
    Calls Tryz.prog 135 #[wd a0 a1 a2 a3, .int .i64 16] w fun e w' => e = .returned (.int .i64 (a2 % 256)) ∧ Below w.heap.size w w' := by
  go_enter Tryz.func135, Tryz.ntmps135
  go_wp2_with fail
  go_ret
  exact ⟨rfl, (Below.refl _ _).alloc (Nat.le_refl _) _⟩

theorem dig_17 (a0 a1 a2 a3 : Int) (w : World) (h0 : 0 ≤ a2) (h1 : a2 < 18446744073709551616) :
    Calls Tryz.prog 135 #[wd a0 a1 a2 a3, .int .i64 17] w fun e w' => e = .returned (.int .i64 (a2 / 256 % 256)) ∧ Below w.heap.size w w' := by
  go_enter Tryz.func135, Tryz.ntmps135
  go_wp2_with fail
  go_ret
  exact ⟨rfl, (Below.refl _ _).alloc (Nat.le_refl _) _⟩

theorem dig_18 (a0 a1 a2 a3 : Int) (w : World) (h0 : 0 ≤ a2) (h1 : a2 < 18446744073709551616) :
    Calls Tryz.prog 135 #[wd a0 a1 a2 a3, .int .i64 18] w fun e w' => e = .returned (.int .i64 (a2 / 65536 % 256)) ∧ Below w.heap.size w w' := by
  go_enter Tryz.func135, Tryz.ntmps135
  go_wp2_with fail
  go_ret
  exact ⟨rfl, (Below.refl _ _).alloc (Nat.le_refl _) _⟩

theorem dig_19 (a0 a1 a2 a3 : Int) (w : World) (h0 : 0 ≤ a2) (h1 : a2 < 18446744073709551616) :
    Calls Tryz.prog 135 #[wd a0 a1 a2 a3, .int .i64 19] w fun e w' => e = .returned (.int .i64 (a2 / 16777216 % 256)) ∧ Below w.heap.size w w' := by
  go_enter Tryz.func135, Tryz.ntmps135
  go_wp2_with fail
  go_ret
  exact ⟨rfl, (Below.refl _ _).alloc (Nat.le_refl _) _⟩

theorem dig_20 (a0 a1 a2 a3 : Int) (w : World) (h0 : 0 ≤ a2) (h1 : a2 < 18446744073709551616) :
    Calls Tryz.prog 135 #[wd a0 a1 a2 a3, .int .i64 20] w fun e w' => e = .returned (.int .i64 (a2 / 4294967296 % 256)) ∧ Below w.heap.size w w' := by
  go_enter Tryz.func135, Tryz.ntmps135
  go_wp2_with fail
  go_ret
  exact ⟨rfl, (Below.refl _ _).alloc (Nat.le_refl _) _⟩

theorem dig_21 (a0 a1 a2 a3 : Int) (w : World) (h0 : 0 ≤ a2) (h1 : a2 < 18446744073709551616) :
    Calls Tryz.prog 135 #[wd a0 a1 a2 a3, .int .i64 21] w fun e w' => e = .returned (.int .i64 (a2 / 1099511627776 % 256)) ∧ Below w.heap.size w w' := by
  go_enter Tryz.func135, Tryz.ntmps135
  go_wp2_with fail
  go_ret
  exact ⟨rfl, (Below.refl _ _).alloc (Nat.le_refl _) _⟩

theorem dig_22 (a0 a1 a2 a3 : Int) (w : World) (h0 : 0 ≤ a2) (h1 : a2 < 18446744073709551616) :
    Calls Tryz.prog 135 #[wd a0 a1 a2 a3, .int .i64 22] w fun e w' => e = .returned (.int .i64 (a2 / 281474976710656 % 256)) ∧ Below w.heap.size w w' := by
  go_enter Tryz.func135, Tryz.ntmps135
  go_wp2_with fail
  go_ret
  exact ⟨rfl, (Below.refl _ _).alloc (Nat.le_refl _) _⟩

theorem dig_23 (a0 a1 a2 a3 : Int) (w : World) (h0 : 0 ≤ a2) (h1 : a2 < 18446744073709551616) :
    Calls Tryz.prog 135 #[wd a0 a1 a2 a3, .int .i64 23] w fun e w' => e = .returned (.int .i64 (a2 / 72057594037927936 % 256)) ∧ Below w.heap.size w w' := by
  go_enter Tryz.func135, Tryz.ntmps135
  go_wp2_with fail
  go_ret
  exact ⟨rfl, (Below.refl _ _).alloc (Nat.le_refl _) _⟩

theorem dig_24 (a0 a1 a2 a3 : Int) (w : World) (h0 : 0 ≤ a3) (h1 : a3 < 18446744073709551616) :
    Calls Tryz.prog 135 #[wd a0 a1 a2 a3, .int .i64 24] w fun e w' => e = .returned (.int .i64 (a3 % 256)) ∧ Below w.heap.size w w' := by
  go_enter Tryz.func135, Tryz.ntmps135
  go_wp2_with fail
  go_ret
  exact ⟨rfl, (Below.refl _ _).alloc (Nat.le_refl _) _⟩

theorem dig_25 (a0 a1 a2 a3 : Int) (w : World) (h0 : 0 ≤ a3) (h1 : a3 < 18446744073709551616) :
    Calls Tryz.prog 135 #[wd a0 a1 a2 a3, .int .i64 25] w fun e w' => e = .returned (.int .i64 (a3 / 256 % 256)) ∧ Below w.heap.size w w' := by
  go_enter Tryz.func135, Tryz.ntmps135
  go_wp2_with fail
  go_ret
  exact ⟨rfl, (Below.refl _ _).alloc (Nat.le_refl _) _⟩

theorem dig_26 (a0 a1 a2 a3 : Int) (w : World) (h0 : 0 ≤ a3) (h1 : a3 < 18446744073709551616) :
    Calls Tryz.prog 135 #[wd a0 a1 a2 a3, .int .i64 26] w fun e w' => e = .returned (.int .i64 (a3 / 65536 % 256)) ∧ Below w.heap.size w w' := by
  go_enter Tryz.func135, Tryz.ntmps135
  go_wp2_with fail
  go_ret
  exact ⟨rfl, (Below.refl _ _).alloc (Nat.le_refl _) _⟩

theorem dig_27 (a0 a1 a2 a3 : Int) (w : World) (h0 : 0 ≤ a3) (h1 : a3 < 18446744073709551616) :
    Calls Tryz.prog 135 #[wd a0 a1 a2 a3, .int .i64 27] w fun e w' => e = .returned (.int .i64 (a3 / 16777216 % 256)) ∧ Below w.heap.size w w' := by
  go_enter Tryz.func135, Tryz.ntmps135
  go_wp2_with fail
  go_ret
  exact ⟨rfl, (Below.refl _ _).alloc (Nat.le_refl _) _⟩

theorem dig_28 (a0 a1 a2 a3 : Int) (w : World) (h0 : 0 ≤ a3) (h1 : a3 < 18446744073709551616) :
    Calls Tryz.prog 135 #[wd a0 a1 a2 a3, .int .i64 28] w fun e w' => e = .returned (.int .i64 (a3 / 4294967296 % 256)) ∧ Below w.heap.size w w' := by
  go_enter Tryz.func135, Tryz.ntmps135
  go_wp2_with fail
  go_ret
  exact ⟨rfl, (Below.refl _ _).alloc (Nat.le_refl _) _⟩

theorem dig_29 (a0 a1 a2 a3 : Int) (w : World) (h0 : 0 ≤ a3) (h1 : a3 < 18446744073709551616) :
    Calls Tryz.prog 135 #[wd a0 a1 a2 a3, .int .i64 29] w fun e w' => e = .returned (.int .i64 (a3 / 1099511627776 % 256)) ∧ Below w.heap.size w w' := by
  go_enter Tryz.func135, Tryz.ntmps135
  go_wp2_with fail
  go_ret
  exact ⟨rfl, (Below.refl _ _).alloc (Nat.le_refl _) _⟩

theorem dig_30 (a0 a1 a2 a3 : Int) (w : World) (h0 : 0 ≤ a3) (h1 : a3 < 18446744073709551616) :
    Calls Tryz.prog 135 #[wd a0 a1 a2 a3, .int .i64 30] w fun e w' => e = .returned (.int .i64 (a3 / 281474976710656 % 256)) ∧ Below w.heap.size w w' := by
  go_enter Tryz.func135, Tryz.ntmps135
  go_wp2_with fail
  go_ret
  exact ⟨rfl, (Below.refl _ _).alloc (Nat.le_refl _) _⟩

theorem dig_31 (a0 a1 a2 a3 : Int) (w : World) (h0 : 0 ≤ a3) (h1 : a3 < 18446744073709551616) :
    Calls Tryz.prog 135 #[wd a0 a1 a2 a3, .int .i64 31] w fun e w' => e = .returned (.int .i64 (a3 / 72057594037927936 % 256)) ∧ Below w.heap.size w w' := by
  go_enter Tryz.func135, Tryz.ntmps135
  go_wp2_with fail
  go_ret
  exact ⟨rfl, (Below.refl _ _).alloc (Nat.le_refl _) _⟩

theorem digit_any (N k : Nat) (w : World) (hk : k < 32) :
    Calls Tryz.prog 135 #[wn N, .int .i64 (k : Int)] w fun e w' => e = .returned (.int .i64 ((N / 256 ^ k % 256 : Nat) : Int)) ∧ Below w.heap.size w w' := by
  match k, hk with
  | 0, _ =>
    have h := dig_0 (M.pt 0 N) (M.pt 1 N) (M.pt 2 N) (M.pt 3 N) w (M.pt_nonneg _ _) (M.pt_lt _ _)
    have e := dig_part N 0 0 (by omega)
    rw [show ((256 ^ 0 : Nat) : Int) = 1 from rfl, Int.ediv_one] at e
    rw [e] at h
    exact h
  | 1, _ =>
    have h := dig_1 (M.pt 0 N) (M.pt 1 N) (M.pt 2 N) (M.pt 3 N) w (M.pt_nonneg _ _) (M.pt_lt _ _)
    have e := dig_part N 0 1 (by omega)
    rw [show ((256 ^ 1 : Nat) : Int) = 256 from rfl] at e
    rw [e] at h
    exact h
  | 2, _ =>
    have h := dig_2 (M.pt 0 N) (M.pt 1 N) (M.pt 2 N) (M.pt 3 N) w (M.pt_nonneg _ _) (M.pt_lt _ _)
    have e := dig_part N 0 2 (by omega)
    rw [show ((256 ^ 2 : Nat) : Int) = 65536 from rfl] at e
    rw [e] at h
    exact h
  | 3, _ =>
    have h := dig_3 (M.pt 0 N) (M.pt 1 N) (M.pt 2 N) (M.pt 3 N) w (M.pt_nonneg _ _) (M.pt_lt _ _)
    have e := dig_part N 0 3 (by omega)
    rw [show ((256 ^ 3 : Nat) : Int) = 16777216 from rfl] at e
    rw [e] at h
    exact h
  | 4, _ =>
    have h := dig_4 (M.pt 0 N) (M.pt 1 N) (M.pt 2 N) (M.pt 3 N) w (M.pt_nonneg _ _) (M.pt_lt _ _)
    have e := dig_part N 0 4 (by omega)
    rw [show ((256 ^ 4 : Nat) : Int) = 4294967296 from rfl] at e
    rw [e] at h
    exact h
  | 5, _ =>
    have h := dig_5 (M.pt 0 N) (M.pt 1 N) (M.pt 2 N) (M.pt 3 N) w (M.pt_nonneg _ _) (M.pt_lt _ _)
    have e := dig_part N 0 5 (by omega)
    rw [show ((256 ^ 5 : Nat) : Int) = 1099511627776 from rfl] at e
    rw [e] at h
    exact h
  | 6, _ =>
    have h := dig_6 (M.pt 0 N) (M.pt 1 N) (M.pt 2 N) (M.pt 3 N) w (M.pt_nonneg _ _) (M.pt_lt _ _)
    have e := dig_part N 0 6 (by omega)
    rw [show ((256 ^ 6 : Nat) : Int) = 281474976710656 from rfl] at e
    rw [e] at h
    exact h
  | 7, _ =>
    have h := dig_7 (M.pt 0 N) (M.pt 1 N) (M.pt 2 N) (M.pt 3 N) w (M.pt_nonneg _ _) (M.pt_lt _ _)
    have e := dig_part N 0 7 (by omega)
    rw [show ((256 ^ 7 : Nat) : Int) = 72057594037927936 from rfl] at e
    rw [e] at h
    exact h
  | 8, _ =>
    have h := dig_8 (M.pt 0 N) (M.pt 1 N) (M.pt 2 N) (M.pt 3 N) w (M.pt_nonneg _ _) (M.pt_lt _ _)
    have e := dig_part N 1 0 (by omega)
    rw [show ((256 ^ 0 : Nat) : Int) = 1 from rfl, Int.ediv_one] at e
    rw [e] at h
    exact h
  | 9, _ =>
    have h := dig_9 (M.pt 0 N) (M.pt 1 N) (M.pt 2 N) (M.pt 3 N) w (M.pt_nonneg _ _) (M.pt_lt _ _)
    have e := dig_part N 1 1 (by omega)
    rw [show ((256 ^ 1 : Nat) : Int) = 256 from rfl] at e
    rw [e] at h
    exact h
  | 10, _ =>
    have h := dig_10 (M.pt 0 N) (M.pt 1 N) (M.pt 2 N) (M.pt 3 N) w (M.pt_nonneg _ _) (M.pt_lt _ _)
    have e := dig_part N 1 2 (by omega)
    rw [show ((256 ^ 2 : Nat) : Int) = 65536 from rfl] at e
    rw [e] at h
    exact h
  | 11, _ =>
    have h := dig_11 (M.pt 0 N) (M.pt 1 N) (M.pt 2 N) (M.pt 3 N) w (M.pt_nonneg _ _) (M.pt_lt _ _)
    have e := dig_part N 1 3 (by omega)
    rw [show ((256 ^ 3 : Nat) : Int) = 16777216 from rfl] at e
    rw [e] at h
    exact h
  | 12, _ =>
    have h := dig_12 (M.pt 0 N) (M.pt 1 N) (M.pt 2 N) (M.pt 3 N) w (M.pt_nonneg _ _) (M.pt_lt _ _)
    have e := dig_part N 1 4 (by omega)
    rw [show ((256 ^ 4 : Nat) : Int) = 4294967296 from rfl] at e
    rw [e] at h
    exact h
  | 13, _ =>
    have h := dig_13 (M.pt 0 N) (M.pt 1 N) (M.pt 2 N) (M.pt 3 N) w (M.pt_nonneg _ _) (M.pt_lt _ _)
    have e := dig_part N 1 5 (by omega)
    rw [show ((256 ^ 5 : Nat) : Int) = 1099511627776 from rfl] at e
    rw [e] at h
    exact h
  | 14, _ =>
    have h := dig_14 (M.pt 0 N) (M.pt 1 N) (M.pt 2 N) (M.pt 3 N) w (M.pt_nonneg _ _) (M.pt_lt _ _)
    have e := dig_part N 1 6 (by omega)
    rw [show ((256 ^ 6 : Nat) : Int) = 281474976710656 from rfl] at e
    rw [e] at h
    exact h
  | 15, _ =>
    have h := dig_15 (M.pt 0 N) (M.pt 1 N) (M.pt 2 N) (M.pt 3 N) w (M.pt_nonneg _ _) (M.pt_lt _ _)
    have e := dig_part N 1 7 (by omega)
    rw [show ((256 ^ 7 : Nat) : Int) = 72057594037927936 from rfl] at e
    rw [e] at h
    exact h
  | 16, _ =>
    have h := dig_16 (M.pt 0 N) (M.pt 1 N) (M.pt 2 N) (M.pt 3 N) w (M.pt_nonneg _ _) (M.pt_lt _ _)
    have e := dig_part N 2 0 (by omega)
    rw [show ((256 ^ 0 : Nat) : Int) = 1 from rfl, Int.ediv_one] at e
    rw [e] at h
    exact h
  | 17, _ =>
    have h := dig_17 (M.pt 0 N) (M.pt 1 N) (M.pt 2 N) (M.pt 3 N) w (M.pt_nonneg _ _) (M.pt_lt _ _)
    have e := dig_part N 2 1 (by omega)
    rw [show ((256 ^ 1 : Nat) : Int) = 256 from rfl] at e
    rw [e] at h
    exact h
  | 18, _ =>
    have h := dig_18 (M.pt 0 N) (M.pt 1 N) (M.pt 2 N) (M.pt 3 N) w (M.pt_nonneg _ _) (M.pt_lt _ _)
    have e := dig_part N 2 2 (by omega)
    rw [show ((256 ^ 2 : Nat) : Int) = 65536 from rfl] at e
    rw [e] at h
    exact h
  | 19, _ =>
    have h := dig_19 (M.pt 0 N) (M.pt 1 N) (M.pt 2 N) (M.pt 3 N) w (M.pt_nonneg _ _) (M.pt_lt _ _)
    have e := dig_part N 2 3 (by omega)
    rw [show ((256 ^ 3 : Nat) : Int) = 16777216 from rfl] at e
    rw [e] at h
    exact h
  | 20, _ =>
    have h := dig_20 (M.pt 0 N) (M.pt 1 N) (M.pt 2 N) (M.pt 3 N) w (M.pt_nonneg _ _) (M.pt_lt _ _)
    have e := dig_part N 2 4 (by omega)
    rw [show ((256 ^ 4 : Nat) : Int) = 4294967296 from rfl] at e
    rw [e] at h
    exact h
  | 21, _ =>
    have h := dig_21 (M.pt 0 N) (M.pt 1 N) (M.pt 2 N) (M.pt 3 N) w (M.pt_nonneg _ _) (M.pt_lt _ _)
    have e := dig_part N 2 5 (by omega)
    rw [show ((256 ^ 5 : Nat) : Int) = 1099511627776 from rfl] at e
    rw [e] at h
    exact h
  | 22, _ =>
    have h := dig_22 (M.pt 0 N) (M.pt 1 N) (M.pt 2 N) (M.pt 3 N) w (M.pt_nonneg _ _) (M.pt_lt _ _)
    have e := dig_part N 2 6 (by omega)
    rw [show ((256 ^ 6 : Nat) : Int) = 281474976710656 from rfl] at e
    rw [e] at h
    exact h
  | 23, _ =>
    have h := dig_23 (M.pt 0 N) (M.pt 1 N) (M.pt 2 N) (M.pt 3 N) w (M.pt_nonneg _ _) (M.pt_lt _ _)
    have e := dig_part N 2 7 (by omega)
    rw [show ((256 ^ 7 : Nat) : Int) = 72057594037927936 from rfl] at e
    rw [e] at h
    exact h
  | 24, _ =>
    have h := dig_24 (M.pt 0 N) (M.pt 1 N) (M.pt 2 N) (M.pt 3 N) w (M.pt_nonneg _ _) (M.pt_lt _ _)
    have e := dig_part N 3 0 (by omega)
    rw [show ((256 ^ 0 : Nat) : Int) = 1 from rfl, Int.ediv_one] at e
    rw [e] at h
    exact h
  | 25, _ =>
    have h := dig_25 (M.pt 0 N) (M.pt 1 N) (M.pt 2 N) (M.pt 3 N) w (M.pt_nonneg _ _) (M.pt_lt _ _)
    have e := dig_part N 3 1 (by omega)
    rw [show ((256 ^ 1 : Nat) : Int) = 256 from rfl] at e
    rw [e] at h
    exact h
  | 26, _ =>
    have h := dig_26 (M.pt 0 N) (M.pt 1 N) (M.pt 2 N) (M.pt 3 N) w (M.pt_nonneg _ _) (M.pt_lt _ _)
    have e := dig_part N 3 2 (by omega)
    rw [show ((256 ^ 2 : Nat) : Int) = 65536 from rfl] at e
    rw [e] at h
    exact h
  | 27, _ =>
    have h := dig_27 (M.pt 0 N) (M.pt 1 N) (M.pt 2 N) (M.pt 3 N) w (M.pt_nonneg _ _) (M.pt_lt _ _)
    have e := dig_part N 3 3 (by omega)
    rw [show ((256 ^ 3 : Nat) : Int) = 16777216 from rfl] at e
    rw [e] at h
    exact h
  | 28, _ =>
    have h := dig_28 (M.pt 0 N) (M.pt 1 N) (M.pt 2 N) (M.pt 3 N) w (M.pt_nonneg _ _) (M.pt_lt _ _)
    have e := dig_part N 3 4 (by omega)
    rw [show ((256 ^ 4 : Nat) : Int) = 4294967296 from rfl] at e
    rw [e] at h
    exact h
  | 29, _ =>
    have h := dig_29 (M.pt 0 N) (M.pt 1 N) (M.pt 2 N) (M.pt 3 N) w (M.pt_nonneg _ _) (M.pt_lt _ _)
    have e := dig_part N 3 5 (by omega)
    rw [show ((256 ^ 5 : Nat) : Int) = 1099511627776 from rfl] at e
    rw [e] at h
    exact h
  | 30, _ =>
    have h := dig_30 (M.pt 0 N) (M.pt 1 N) (M.pt 2 N) (M.pt 3 N) w (M.pt_nonneg _ _) (M.pt_lt _ _)
    have e := dig_part N 3 6 (by omega)
    rw [show ((256 ^ 6 : Nat) : Int) = 281474976710656 from rfl] at e
    rw [e] at h
    exact h
  | 31, _ =>
    have h := dig_31 (M.pt 0 N) (M.pt 1 N) (M.pt 2 N) (M.pt 3 N) w (M.pt_nonneg _ _) (M.pt_lt _ _)
    have e := dig_part N 3 7 (by omega)
    rw [show ((256 ^ 7 : Nat) : Int) = 72057594037927936 from rfl] at e
    rw [e] at h
    exact h
  | k + 32, h => exact absurd h (by omega)
end Go.Proofs.YtaajkbclojmbeaaGreatDoor
namespace Go.Proofs.YtaajkbclojmbeaaGreatDoor
open Go Go.RowKit

/-- Four cells of a block that lies in a world. -/
structure W4 (W : World) (b : Nat) (a0 a1 a2 a3 : Int) : Prop where
  c0 : W.cell? ⟨b, 0, none⟩ = some (.int .u64 a0)
  c1 : W.cell? ⟨b, 1, none⟩ = some (.int .u64 a1)
  c2 : W.cell? ⟨b, 2, none⟩ = some (.int .u64 a2)
  c3 : W.cell? ⟨b, 3, none⟩ = some (.int .u64 a3)
  lt : b < W.heap.size

theorem W4.below {W W' : World} {b : Nat} {a0 a1 a2 a3 : Int} (h : W4 W b a0 a1 a2 a3) (hb : Below W.heap.size W W') : W4 W' b a0 a1 a2 a3 :=
  ⟨(hb.cell (p := ⟨b, 0, none⟩) h.lt).trans h.c0, (hb.cell (p := ⟨b, 1, none⟩) h.lt).trans h.c1, (hb.cell (p := ⟨b, 2, none⟩) h.lt).trans h.c2, (hb.cell (p := ⟨b, 3, none⟩) h.lt).trans h.c3, Nat.lt_of_lt_of_le h.lt hb.size⟩

theorem W4.new (W : World) (a0 a1 a2 a3 : Int) (t : Nat) : W4 (W.alloc (.cells #[.int .u64 a0, .int .u64 a1, .int .u64 a2, .int .u64 a3] t)) W.heap.size a0 a1 a2 a3 :=
  ⟨by simp [go_sem], by simp [go_sem], by simp [go_sem], by simp [go_sem], by simp⟩

theorem W4.put {W : World} {b : Nat} {x0 x1 x2 x3 a0 a1 a2 a3 : Int} (h : W4 W b x0 x1 x2 x3) : W4 ((((W.setCell ⟨b, 0, none⟩ (.int .u64 a0)).setCell ⟨b, 1, none⟩ (.int .u64 a1)).setCell ⟨b, 2, none⟩ (.int .u64 a2)).setCell ⟨b, 3, none⟩ (.int .u64 a3)) b a0 a1 a2 a3 := by
  obtain ⟨c0, c1, c2, c3, lt⟩ := h
  have d0 : (W.setCell ⟨b, 0, none⟩ (.int .u64 a0)).cell? ⟨b, 0, none⟩ = some (.int .u64 a0) := by simp [go_sem, c0]
  have d1 : (W.setCell ⟨b, 0, none⟩ (.int .u64 a0)).cell? ⟨b, 1, none⟩ = some (.int .u64 x1) := by simp [go_sem, c1]
  have d2 : (W.setCell ⟨b, 0, none⟩ (.int .u64 a0)).cell? ⟨b, 2, none⟩ = some (.int .u64 x2) := by simp [go_sem, c2]
  have d3 : (W.setCell ⟨b, 0, none⟩ (.int .u64 a0)).cell? ⟨b, 3, none⟩ = some (.int .u64 x3) := by simp [go_sem, c3]
  have l1 : b < (W.setCell ⟨b, 0, none⟩ (.int .u64 a0)).heap.size := by simpa using lt
  generalize W.setCell ⟨b, 0, none⟩ (.int .u64 a0) = W1 at *
  have e0 : (W1.setCell ⟨b, 1, none⟩ (.int .u64 a1)).cell? ⟨b, 0, none⟩ = some (.int .u64 a0) := by simp [go_sem, d0]
  have e1 : (W1.setCell ⟨b, 1, none⟩ (.int .u64 a1)).cell? ⟨b, 1, none⟩ = some (.int .u64 a1) := by simp [go_sem, d1]
  have e2 : (W1.setCell ⟨b, 1, none⟩ (.int .u64 a1)).cell? ⟨b, 2, none⟩ = some (.int .u64 x2) := by simp [go_sem, d2]
  have e3 : (W1.setCell ⟨b, 1, none⟩ (.int .u64 a1)).cell? ⟨b, 3, none⟩ = some (.int .u64 x3) := by simp [go_sem, d3]
  have l2 : b < (W1.setCell ⟨b, 1, none⟩ (.int .u64 a1)).heap.size := by simpa using l1
  generalize W1.setCell ⟨b, 1, none⟩ (.int .u64 a1) = W2 at *
  have f0 : (W2.setCell ⟨b, 2, none⟩ (.int .u64 a2)).cell? ⟨b, 0, none⟩ = some (.int .u64 a0) := by simp [go_sem, e0]
  have f1 : (W2.setCell ⟨b, 2, none⟩ (.int .u64 a2)).cell? ⟨b, 1, none⟩ = some (.int .u64 a1) := by simp [go_sem, e1]
  have f2 : (W2.setCell ⟨b, 2, none⟩ (.int .u64 a2)).cell? ⟨b, 2, none⟩ = some (.int .u64 a2) := by simp [go_sem, e2]
  have f3 : (W2.setCell ⟨b, 2, none⟩ (.int .u64 a2)).cell? ⟨b, 3, none⟩ = some (.int .u64 x3) := by simp [go_sem, e3]
  have l3 : b < (W2.setCell ⟨b, 2, none⟩ (.int .u64 a2)).heap.size := by simpa using l2
  generalize W2.setCell ⟨b, 2, none⟩ (.int .u64 a2) = W3 at *
  exact ⟨by simp [go_sem, f0], by simp [go_sem, f1], by simp [go_sem, f2], by simp [go_sem, f3], by simpa using l3⟩

end Go.Proofs.YtaajkbclojmbeaaGreatDoor
namespace Go.Proofs.YtaajkbclojmbeaaGreatDoor
open Go Go.RowKit

/-- What is owned lies where it lay. -/
theorem owned_below {w w' : World} {B e size n : Nat} {v : Value} {xs : List Value} (h : w.ownsRow B e size v n xs) (hb : Below w.heap.size w w') : w'.ownsRow B e size v n xs := by
  obtain ⟨hl, hr⟩ := h
  refine ⟨hl, hr.imp id ?_⟩
  rintro ⟨g, cap, cur, e1, e2, e3, e4⟩
  exact ⟨g, cap, cur, e1, e2, (hb.block g (Array.getElem?_eq_some_iff.1 e3).1).trans e3, e4⟩

/-- The digits, the highest ones first, k of them. -/
def top (N : Nat) (k : Nat) : List Int := (List.range k).map fun t => ((N / 256 ^ (31 - t) % 256 : Nat) : Int)
theorem top_succ (N k : Nat) : top N (k + 1) = top N k ++ [((N / 256 ^ (31 - k) % 256 : Nat) : Int)] := by simp [top, List.range_succ]
theorem top_length (N k : Nat) : (top N k).length = k := by simp [top]

theorem W4.belowN {W W' : World} {b B : Nat} {a0 a1 a2 a3 : Int} (h : W4 W b a0 a1 a2 a3) (hb : Below B W W') (hl : b < B) : W4 W' b a0 a1 a2 a3 :=
  ⟨(hb.cell (p := ⟨b, 0, none⟩) hl).trans h.c0, (hb.cell (p := ⟨b, 1, none⟩) hl).trans h.c1, (hb.cell (p := ⟨b, 2, none⟩) hl).trans h.c2, (hb.cell (p := ⟨b, 3, none⟩) hl).trans h.c3, Nat.lt_of_lt_of_le h.lt hb.size⟩

/-- A row that is owned and not empty: where it lies, and its cells. -/
theorem row_cells {w : World} {B e n : Nat} {v : Value} {q : IntKind} {xs : List Int} (h : w.ownsRow B e 1 v n (xs.map (Value.int q))) (hn : 0 < n) :
    ∃ g cap, v = .slice (some ⟨g, 0, none⟩) n cap ∧ ∀ i, i < xs.length → w.cell? ⟨g, i, none⟩ = some (.int q (xs.getD i 0)) := by
  rcases h.2 with ⟨_, h0⟩ | ⟨g, cap, cur, rfl, _⟩
  · omega
  · refine ⟨g, cap, rfl, fun i hi => ?_⟩
    have := h.cells (g := g) rfl i (.int q (xs.getD i 0)) (by simp [List.getElem?_eq_getElem hi, List.getD])
    by_cases h0 : i = 0
    · subst h0
      simpa [Addr.add] using this
    · simpa [Addr.add, h0] using this

theorem digit_at (N : Nat) (i : Int) (w : World) (h0 : 0 ≤ i) (h1 : i < 32) :
    Calls Tryz.prog 135 #[wn N, .int .i64 i] w fun e w' => e = .returned (.int .i64 ((N / 256 ^ i.toNat % 256 : Nat) : Int)) ∧ Below w.heap.size w w' := by
  obtain ⟨k, rfl⟩ := Int.eq_ofNat_of_zero_le h0
  exact digit_any N k w (by omega)

theorem Tryz.infoU8 : (Tryz.prog.info? 5).map (fun i => (i.zero, i.size, i.bytes)) = some (some (.int .u8 0), 1, 1) := by kernel_rfl

set_option maxRecDepth 100000 in
set_option maxHeartbeats 2000000 in
theorem rfixed_core (N : Nat) (w : World) :
    Calls Tryz.prog 73 #[wn N] w fun e w' => e = .returned (.string (strOfNums (top N 32))) ∧ Below w.heap.size w w' := by
  obtain ⟨i0, hi, hz0, hz1, hz2⟩ := info_parts Tryz.infoU8
  go_enter Tryz.func73, Tryz.ntmps73
  go_wp2_with fail
  go_loopw [3, 4] (fun v i wr => ∃ k : Nat, k ≤ 32 ∧ i = .int .i64 (31 - (k : Int)) ∧ wr.ownsRow (w.heap.size + 1) 5 1 v k ((top N k).map (Value.int .u8)) ∧ W4 wr w.heap.size (M.pt 0 N) (M.pt 1 N) (M.pt 2 N) (M.pt 3 N) ∧ Below w.heap.size w wr)
    (fun _ i _ => (intOf i + 1).toNat)
  case atStart =>
    refine ⟨0, by omega, rfl, World.ownsRow_nil _ _ _ _, W4.new _ _ _ _ _ _, (Below.refl _ _).alloc (Nat.le_refl _) _⟩
  case round =>
    obtain ⟨k, hk, rfl, hown, H, LW⟩ := hrel
    by_cases hlt : k < 32
    · have hp : (0 : Int) ≤ 31 - (k : Int) := by omega
      obtain ⟨p0, p1, p2, p3, lp⟩ := id H
      go_wp2_with fail
      refine (digit_at N _ _ (by omega) (by omega)).mono ?_
      rintro e w1 ⟨rfl, hb⟩
      replace hown := owned_below hown hb
      replace H := H.below hb
      replace LW := LW.trans (hb.mono LW.size)
      have hsz := H.lt
      clear p0 p1 p2 p3 lp hb
      generalize hz : ((N / 256 ^ (31 - (k : Int)).toNat % 256 : Nat) : Int) = z
      have HZ : Hid (z = ((N / 256 ^ (31 - k) % 256 : Nat) : Int)) := by
        show z = _
        rw [← hz, show (31 - (k : Int)).toNat = 31 - k by omega]
      have z0 : 0 ≤ z := by omega
      have z1 : z < 256 := by omega
      clear hz
      go_wp2_with (at_builtin; refine wpList_append_own _ rfl _ _ 41 rfl (w.heap.size + 1) 5 i0 (.int .u8 0) 1 1 Tryz.underlying41 hi hz0 hz1 hz2 rfl (by decide) _ _ _ rfl (hown.alloc _) ⟨w1.heap.size, 0, none⟩ 1 1 [.int .u8 z] rfl rfl (cell_one_new _ _ _) (by simp [Value.oneCell']) (by unfold maxLen; omega) (by omega) (by simp; omega) ?_; intro v' w2 hown' hgrow _)
      have hown2 : w2.ownsRow (w.heap.size + 1) 5 1 v' (k + 1) ((top N (k + 1)).map (Value.int .u8)) := by
        rw [top_succ, ← HZ.out, List.map_append]
        exact hown'
      have hbel : Below (w.heap.size + 1) w1 w2 := by
        exact ((Below.refl _ w1).alloc (by omega) _).grown hgrow (by simp; omega) (fun q e => (hown.lt q e).1)
      replace H := H.belowN hbel (by omega)
      replace LW := LW.trans (hbel.mono (by omega))
      clear hown hown' hgrow hbel
      go_wp2_with fail
      refine ⟨⟨k + 1, by omega, by congr 1; omega, hown2, H, LW⟩, by simp [intOf]; omega⟩
    · obtain rfl : k = 32 := by omega
      obtain ⟨g, cap, rfl, hcells⟩ := row_cells hown (by omega)
      have hr := run_convert_bytes_arg wr 41 5 Tryz.underlying41 Tryz.underlying5 g 0 32 cap (top N 32) (top_length N 32) (fun i hi => by rw [Nat.zero_add]; exact hcells i (by rw [top_length]; exact hi)) 9 Tryz.underlying9
      clear hown hcells H
      go_wp2_with fail
      go_ret
      exact ⟨rfl, LW⟩

theorem top_bytes (N : Nat) : ∀ k, k ≤ 32 → (top N k).map (fun n => UInt8.ofNat n.toNat) = M.be k (N / 256 ^ (32 - k))
  | 0, _ => rfl
  | k + 1, h => by
    rw [top_succ, List.map_append, top_bytes N k (by omega), M.be]
    have e : N / 256 ^ (32 - (k + 1)) / 256 = N / 256 ^ (32 - k) := by
      rw [Nat.div_div_eq_div_mul, ← Nat.pow_succ, show (32 - (k + 1)).succ = 32 - k by omega]
    rw [e]
    simp only [List.map_cons, List.map_nil, Int.toNat_natCast]
    rw [show 32 - (k + 1) = 31 - k by omega]

theorem rfixed_any (N : Nat) (w : World) :
    Calls Tryz.prog 73 #[wn N] w fun e w' => e = .returned (.string ⟨(M.f32 N).toArray⟩) ∧ Below w.heap.size w w' := by
  have h := rfixed_core N w
  have e : strOfNums (top N 32) = ⟨(M.f32 N).toArray⟩ := by
    unfold strOfNums
    rw [top_bytes N 32 (by omega), Nat.sub_self, Nat.pow_zero, Nat.div_one]
    rfl
  rw [e] at h
  exact h

theorem tr_zero (r : List UInt8) : M.tr (0 :: r) = M.tr r := rfl
theorem size_one (c : UInt8) (r : List UInt8) : (⟨r.toArray⟩ : ByteArray).size < (⟨(c :: r).toArray⟩ : ByteArray).size := by simp [ByteArray.size]
theorem cut_one (c : UInt8) (r : List UInt8) : (⟨(c :: r).toArray⟩ : ByteArray).extract 1 (r.length + 1) = ⟨r.toArray⟩ := by
  apply ByteArray.ext
  simp

set_option maxHeartbeats 2000000 in
theorem rbytes_gen (N : Nat) (l0 : List UInt8) (w : World) (hf : Hid (∀ w : World, Calls Tryz.prog 73 #[wn N] w fun e w' => e = .returned (.string ⟨l0.toArray⟩) ∧ Below w.heap.size w w')) :
    Calls Tryz.prog 147 #[wn N] w fun e w' => (∃ l, e = .returned (.string ⟨l.toArray⟩) ∧ M.tr l0 = M.tr l ∧ ∀ c r, l = c :: r → c ≠ 0) ∧ Below w.heap.size w w' := by
  go_enter Tryz.func147, Tryz.ntmps147
  go_wp2_with fail
  refine (hf.out _).mono ?_
  rintro e w1 ⟨rfl, hb⟩
  have LW : Below w.heap.size w w1 := ((Below.refl _ w).alloc (Nat.le_refl _) _).trans (hb.mono (by simp))
  clear hb hf
  go_wp2_with fail
  go_loop [3] (fun v => ∃ l : List UInt8, v = .string ⟨l.toArray⟩ ∧ M.tr l = M.tr l0) (fun v => match v with | .string s => s.size | _ => 0)
  case atStart => exact ⟨l0, rfl, rfl⟩
  case round =>
    obtain ⟨l, rfl, hl⟩ := hrel
    match l, hl with
    | [], hl =>
      go_wp2_with fail
      go_ret
      exact ⟨⟨[], rfl, hl.symm, fun _ _ h => nomatch h⟩, LW⟩
    | c :: r, hl =>
      by_cases hc : c = 0
      · subst hc
        go_wp2_with fail
        rw [cut_one 0 r]
        exact ⟨⟨r, rfl, (tr_zero r).symm.trans hl⟩, size_one 0 r⟩
      · go_wp2_with fail
        · exfalso
          have h : (((c.toNat : Nat) : Int) == 0) = true := by assumption
          exact hc (UInt8.toNat.inj (by simpa using h))
        · go_ret
          exact ⟨⟨c :: r, rfl, hl.symm, fun _ _ h => by cases h; exact hc⟩, LW⟩

theorem rbytes_core (N : Nat) (w : World) :
    Calls Tryz.prog 147 #[wn N] w fun e w' => e = .returned (.string ⟨(M.tr (M.f32 N)).toArray⟩) ∧ Below w.heap.size w w' := by
  refine (rbytes_gen N (M.f32 N) w (rfixed_any N)).mono ?_
  rintro e w' ⟨⟨l, rfl, h1, h2⟩, hb⟩
  have := M.tr_zeros 0 l h2
  rw [h1]
  exact ⟨congrArg (fun l : List UInt8 => Ending.returned (.string ⟨l.toArray⟩)) this.symm, hb⟩
end Go.Proofs.YtaajkbclojmbeaaGreatDoor
namespace Go.Proofs.YtaajkbclojmbeaaGreatDoor
open Go Go.RowKit

set_option maxRecDepth 100000 in
set_option maxHeartbeats 4000000 in
theorem tof_2 (n : Int) (m : Nat) (at_ : Option Addr) (ct : Nat) (N : Nat) (hN : M.In N) (bs : List Bool) (us : List M.Va) (p : Int) (ab : Option Addr) (cb : Nat) (a : Option Addr) (cap : Nat) (w : World) :
    Calls Tryz.prog 115 #[tv 2 n (.slice at_ m ct), vv N (.slice ab bs.length cb) (.slice a us.length cap) p] w fun e w' => e = .returned (.bool (M.ofV 2 n m (.mk N bs us p))) ∧ Below w.heap.size w w' := by
  have hb0 : ∀ o o', Below w.heap.size w ((w.alloc o).alloc o') := fun o o' => ((Below.refl _ w).alloc (Nat.le_refl _) o).alloc (by simp) o'
  have HO := Lib.hid (fun W => ronly_num N hN bs.length us.length p ab cb a cap W)
  have he0 := fun W => eq_nought hN W
  have he1 := fun W => eq_one hN W
  generalize hq : (bs.length == 0 && us.length == 0 && p == 0) = q at HO
  cases q with
  | false =>
    have E : Hid (M.ofV 2 n m (.mk N bs us p) = false) := by show _ = _; simp_all [M.ofV]
    clear hq
    go_enter Tryz.func115, Tryz.ntmps115
    go_wp2_with fail
    refine (HO.out _).mono ?_
    rintro e w1 ⟨rfl, hb1⟩
    obtain ⟨hce, hfr⟩ := bcell hb1
    go_wp2_with fail
    go_ret
    rw [E.out]
    exact ⟨rfl, (hb0 _ _).trans (hb1.mono (by first | omega | (simp; omega) | simp))⟩
  | true =>
    have HQ := Lib.hid hq
    clear hq
    go_enter Tryz.func115, Tryz.ntmps115
    go_wp2_with fail
    refine (HO.out _).mono ?_
    rintro e w1 ⟨rfl, hb1⟩
    obtain ⟨hce, hfr⟩ := bcell hb1
    go_wp2_with fail
    all_goals go_ret
    all_goals refine ⟨?_, (hb0 _ _).trans (hb1.mono (by first | omega | (simp; omega) | simp))⟩
    all_goals have hq := HQ.out
    all_goals simp_all [M.ofV]
    all_goals first | omega | (rw [Bool.eq_iff_iff]; simp; done) | (rw [Bool.eq_iff_iff]; simp; omega)

set_option maxRecDepth 100000 in
set_option maxHeartbeats 4000000 in
theorem tof_3 (n : Int) (m : Nat) (at_ : Option Addr) (ct : Nat) (N : Nat) (hN : M.In N) (bs : List Bool) (us : List M.Va) (p : Int) (ab : Option Addr) (cb : Nat) (a : Option Addr) (cap : Nat) (w : World) :
    Calls Tryz.prog 115 #[tv 3 n (.slice at_ m ct), vv N (.slice ab bs.length cb) (.slice a us.length cap) p] w fun e w' => e = .returned (.bool (M.ofV 3 n m (.mk N bs us p))) ∧ Below w.heap.size w w' := by
  have hb0 : ∀ o o', Below w.heap.size w ((w.alloc o).alloc o') := fun o o' => ((Below.refl _ w).alloc (Nat.le_refl _) o).alloc (by simp) o'
  have HO := Lib.hid (fun W => ronly_items N hN bs.length us.length p ab cb a cap W)
  generalize hq : (N == 0 && bs.length == 0 && p == 0) = q at HO
  cases q with
  | false =>
    have E : Hid (M.ofV 3 n m (.mk N bs us p) = false) := by show _ = _; simp_all [M.ofV]
    clear hq
    go_enter Tryz.func115, Tryz.ntmps115
    go_wp2_with fail
    refine (HO.out _).mono ?_
    rintro e w1 ⟨rfl, hb1⟩
    obtain ⟨hce, hfr⟩ := bcell hb1
    go_wp2_with fail
    go_ret
    rw [E.out]
    exact ⟨rfl, (hb0 _ _).trans (hb1.mono (by first | omega | (simp; omega) | simp))⟩
  | true =>
    have HQ := Lib.hid hq
    clear hq
    go_enter Tryz.func115, Tryz.ntmps115
    go_wp2_with fail
    refine (HO.out _).mono ?_
    rintro e w1 ⟨rfl, hb1⟩
    obtain ⟨hce, hfr⟩ := bcell hb1
    go_wp2_with fail
    all_goals go_ret
    all_goals refine ⟨?_, (hb0 _ _).trans (hb1.mono (by first | omega | (simp; omega) | simp))⟩
    all_goals have hq := HQ.out
    all_goals simp_all [M.ofV]
    all_goals first | omega | (rw [Bool.eq_iff_iff]; simp; done) | (rw [Bool.eq_iff_iff]; simp; omega)

set_option maxRecDepth 100000 in
set_option maxHeartbeats 4000000 in
theorem tof_4 (n : Int) (m : Nat) (at_ : Option Addr) (ct : Nat) (N : Nat) (hN : M.In N) (bs : List Bool) (us : List M.Va) (p : Int) (ab : Option Addr) (cb : Nat) (a : Option Addr) (cap : Nat) (w : World) :
    Calls Tryz.prog 115 #[tv 4 n (.slice at_ m ct), vv N (.slice ab bs.length cb) (.slice a us.length cap) p] w fun e w' => e = .returned (.bool (M.ofV 4 n m (.mk N bs us p))) ∧ Below w.heap.size w w' := by
  have hb0 : ∀ o o', Below w.heap.size w ((w.alloc o).alloc o') := fun o o' => ((Below.refl _ w).alloc (Nat.le_refl _) o).alloc (by simp) o'
  have HO := Lib.hid (fun W => ronly_items N hN bs.length us.length p ab cb a cap W)
  generalize hq : (N == 0 && bs.length == 0 && p == 0) = q at HO
  cases q with
  | false =>
    have E : Hid (M.ofV 4 n m (.mk N bs us p) = false) := by show _ = _; simp_all [M.ofV]
    clear hq
    go_enter Tryz.func115, Tryz.ntmps115
    go_wp2_with fail
    refine (HO.out _).mono ?_
    rintro e w1 ⟨rfl, hb1⟩
    obtain ⟨hce, hfr⟩ := bcell hb1
    go_wp2_with fail
    go_ret
    rw [E.out]
    exact ⟨rfl, (hb0 _ _).trans (hb1.mono (by first | omega | (simp; omega) | simp))⟩
  | true =>
    have HQ := Lib.hid hq
    clear hq
    go_enter Tryz.func115, Tryz.ntmps115
    go_wp2_with fail
    refine (HO.out _).mono ?_
    rintro e w1 ⟨rfl, hb1⟩
    obtain ⟨hce, hfr⟩ := bcell hb1
    go_wp2_with fail
    all_goals go_ret
    all_goals refine ⟨?_, (hb0 _ _).trans (hb1.mono (by first | omega | (simp; omega) | simp))⟩
    all_goals have hq := HQ.out
    all_goals simp_all [M.ofV]
    all_goals first | omega | (rw [Bool.eq_iff_iff]; simp; done) | (rw [Bool.eq_iff_iff]; simp; omega)

set_option maxRecDepth 100000 in
set_option maxHeartbeats 4000000 in
theorem tof_5 (n : Int) (m : Nat) (at_ : Option Addr) (ct : Nat) (N : Nat) (hN : M.In N) (bs : List Bool) (us : List M.Va) (p : Int) (ab : Option Addr) (cb : Nat) (a : Option Addr) (cap : Nat) (w : World) :
    Calls Tryz.prog 115 #[tv 5 n (.slice at_ m ct), vv N (.slice ab bs.length cb) (.slice a us.length cap) p] w fun e w' => e = .returned (.bool (M.ofV 5 n m (.mk N bs us p))) ∧ Below w.heap.size w w' := by
  have hb0 : ∀ o o', Below w.heap.size w ((w.alloc o).alloc o') := fun o o' => ((Below.refl _ w).alloc (Nat.le_refl _) o).alloc (by simp) o'
  have HO := Lib.hid (fun W => ronly_bits N hN bs.length us.length p ab cb a cap W)
  generalize hq : (N == 0 && us.length == 0 && p == 0) = q at HO
  cases q with
  | false =>
    have E : Hid (M.ofV 5 n m (.mk N bs us p) = false) := by show _ = _; simp_all [M.ofV]
    clear hq
    go_enter Tryz.func115, Tryz.ntmps115
    go_wp2_with fail
    refine (HO.out _).mono ?_
    rintro e w1 ⟨rfl, hb1⟩
    obtain ⟨hce, hfr⟩ := bcell hb1
    go_wp2_with fail
    go_ret
    rw [E.out]
    exact ⟨rfl, (hb0 _ _).trans (hb1.mono (by first | omega | (simp; omega) | simp))⟩
  | true =>
    have HQ := Lib.hid hq
    clear hq
    go_enter Tryz.func115, Tryz.ntmps115
    go_wp2_with fail
    refine (HO.out _).mono ?_
    rintro e w1 ⟨rfl, hb1⟩
    obtain ⟨hce, hfr⟩ := bcell hb1
    go_wp2_with fail
    all_goals go_ret
    all_goals refine ⟨?_, (hb0 _ _).trans (hb1.mono (by first | omega | (simp; omega) | simp))⟩
    all_goals have hq := HQ.out
    all_goals simp_all [M.ofV]
    all_goals first | omega | (rw [Bool.eq_iff_iff]; simp; done) | (rw [Bool.eq_iff_iff]; simp; omega)

set_option maxRecDepth 100000 in
set_option maxHeartbeats 4000000 in
theorem tof_6 (n : Int) (m : Nat) (at_ : Option Addr) (ct : Nat) (N : Nat) (hN : M.In N) (bs : List Bool) (us : List M.Va) (p : Int) (ab : Option Addr) (cb : Nat) (a : Option Addr) (cap : Nat) (w : World) :
    Calls Tryz.prog 115 #[tv 6 n (.slice at_ m ct), vv N (.slice ab bs.length cb) (.slice a us.length cap) p] w fun e w' => e = .returned (.bool (M.ofV 6 n m (.mk N bs us p))) ∧ Below w.heap.size w w' := by
  have hb0 : ∀ o o', Below w.heap.size w ((w.alloc o).alloc o') := fun o o' => ((Below.refl _ w).alloc (Nat.le_refl _) o).alloc (by simp) o'
  have HO := Lib.hid (fun W => ronly_bits N hN bs.length us.length p ab cb a cap W)
  generalize hq : (N == 0 && us.length == 0 && p == 0) = q at HO
  cases q with
  | false =>
    have E : Hid (M.ofV 6 n m (.mk N bs us p) = false) := by show _ = _; simp_all [M.ofV]
    clear hq
    go_enter Tryz.func115, Tryz.ntmps115
    go_wp2_with fail
    refine (HO.out _).mono ?_
    rintro e w1 ⟨rfl, hb1⟩
    obtain ⟨hce, hfr⟩ := bcell hb1
    go_wp2_with fail
    go_ret
    rw [E.out]
    exact ⟨rfl, (hb0 _ _).trans (hb1.mono (by first | omega | (simp; omega) | simp))⟩
  | true =>
    have HQ := Lib.hid hq
    clear hq
    go_enter Tryz.func115, Tryz.ntmps115
    go_wp2_with fail
    refine (HO.out _).mono ?_
    rintro e w1 ⟨rfl, hb1⟩
    obtain ⟨hce, hfr⟩ := bcell hb1
    go_wp2_with fail
    all_goals go_ret
    all_goals refine ⟨?_, (hb0 _ _).trans (hb1.mono (by first | omega | (simp; omega) | simp))⟩
    all_goals have hq := HQ.out
    all_goals simp_all [M.ofV]
    all_goals first | omega | (rw [Bool.eq_iff_iff]; simp; done) | (rw [Bool.eq_iff_iff]; simp; omega)

set_option maxRecDepth 100000 in
set_option maxHeartbeats 4000000 in
theorem tof_7 (n : Int) (m : Nat) (at_ : Option Addr) (ct : Nat) (N : Nat) (hN : M.In N) (bs : List Bool) (us : List M.Va) (p : Int) (ab : Option Addr) (cb : Nat) (a : Option Addr) (cap : Nat) (w : World) :
    Calls Tryz.prog 115 #[tv 7 n (.slice at_ m ct), vv N (.slice ab bs.length cb) (.slice a us.length cap) p] w fun e w' => e = .returned (.bool (M.ofV 7 n m (.mk N bs us p))) ∧ Below w.heap.size w w' := by
  have hb0 : ∀ o o', Below w.heap.size w ((w.alloc o).alloc o') := fun o o' => ((Below.refl _ w).alloc (Nat.le_refl _) o).alloc (by simp) o'
  have HO := Lib.hid (fun W => ronly_items N hN bs.length us.length p ab cb a cap W)
  generalize hq : (N == 0 && bs.length == 0 && p == 0) = q at HO
  cases q with
  | false =>
    have E : Hid (M.ofV 7 n m (.mk N bs us p) = false) := by show _ = _; simp_all [M.ofV]
    clear hq
    go_enter Tryz.func115, Tryz.ntmps115
    go_wp2_with fail
    refine (HO.out _).mono ?_
    rintro e w1 ⟨rfl, hb1⟩
    obtain ⟨hce, hfr⟩ := bcell hb1
    go_wp2_with fail
    go_ret
    rw [E.out]
    exact ⟨rfl, (hb0 _ _).trans (hb1.mono (by first | omega | (simp; omega) | simp))⟩
  | true =>
    have HQ := Lib.hid hq
    clear hq
    go_enter Tryz.func115, Tryz.ntmps115
    go_wp2_with fail
    refine (HO.out _).mono ?_
    rintro e w1 ⟨rfl, hb1⟩
    obtain ⟨hce, hfr⟩ := bcell hb1
    go_wp2_with fail
    all_goals go_ret
    all_goals refine ⟨?_, (hb0 _ _).trans (hb1.mono (by first | omega | (simp; omega) | simp))⟩
    all_goals have hq := HQ.out
    all_goals simp_all [M.ofV]
    all_goals first | omega | (rw [Bool.eq_iff_iff]; simp; done) | (rw [Bool.eq_iff_iff]; simp; omega)

set_option maxRecDepth 100000 in
set_option maxHeartbeats 4000000 in
theorem tof_8 (k n : Int) (m : Nat) (at_ : Option Addr) (ct : Nat) (N : Nat) (hN : M.In N) (bs : List Bool) (us : List M.Va) (p : Int) (ab : Option Addr) (cb : Nat) (a : Option Addr) (cap : Nat) (w : World) (h1 : ¬ k = 1) (h2 : ¬ k = 2) (h3 : ¬ k = 3) (h4 : ¬ k = 4) (h5 : ¬ k = 5) (h6 : ¬ k = 6) (h7 : ¬ k = 7) :
    Calls Tryz.prog 115 #[tv k n (.slice at_ m ct), vv N (.slice ab bs.length cb) (.slice a us.length cap) p] w fun e w' => e = .returned (.bool (M.ofV k n m (.mk N bs us p))) ∧ Below w.heap.size w w' := by
  have hb0 : ∀ o o', Below w.heap.size w ((w.alloc o).alloc o') := fun o o' => ((Below.refl _ w).alloc (Nat.le_refl _) o).alloc (by simp) o'
  have HO := Lib.hid (fun W => ronly_pick N hN bs.length us.length p ab cb a cap W)
  have b1 : (k == 1) = false := by simpa using h1
  have b2 : (k == 2) = false := by simpa using h2
  have b3 : (k == 3) = false := by simpa using h3
  have b4 : (k == 4) = false := by simpa using h4
  have b5 : (k == 5) = false := by simpa using h5
  have b6 : (k == 6) = false := by simpa using h6
  have b7 : (k == 7) = false := by simpa using h7
  generalize hq : (N == 0 && bs.length == 0) = q at HO
  cases q with
  | false =>
    have E : Hid (M.ofV k n m (.mk N bs us p) = false) := by show _ = _; simp_all [M.ofV]
    clear hq
    go_enter Tryz.func115, Tryz.ntmps115
    go_wp2_with fail
    refine (HO.out _).mono ?_
    rintro e w1 ⟨rfl, hb1⟩
    obtain ⟨hce, hfr⟩ := bcell hb1
    go_wp2_with fail
    go_ret
    rw [E.out]
    exact ⟨rfl, (hb0 _ _).trans (hb1.mono (by first | omega | (simp; omega) | simp))⟩
  | true =>
    have HQ := Lib.hid hq
    clear hq
    go_enter Tryz.func115, Tryz.ntmps115
    go_wp2_with fail
    refine (HO.out _).mono ?_
    rintro e w1 ⟨rfl, hb1⟩
    obtain ⟨hce, hfr⟩ := bcell hb1
    go_wp2_with fail
    all_goals go_ret
    all_goals refine ⟨?_, (hb0 _ _).trans (hb1.mono (by first | omega | (simp; omega) | simp))⟩
    all_goals have hq := HQ.out
    all_goals simp_all [M.ofV]
    all_goals first | omega | (rw [Bool.eq_iff_iff]; simp; done) | (rw [Bool.eq_iff_iff]; simp; omega)

end Go.Proofs.YtaajkbclojmbeaaGreatDoor
