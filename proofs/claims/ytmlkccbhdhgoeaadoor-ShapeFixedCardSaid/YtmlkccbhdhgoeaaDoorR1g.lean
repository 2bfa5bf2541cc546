/- The reference's digits of a word. -/
import Derived.Test.YtmlkccbhdhgoeaaDoorW0g
import Derived.Test.YtmlkccbhdhgoeaaDoorMM
import Derived.Lib.Hide
namespace Go.Proofs.YtmlkccbhdhgoeaaDoor
open Go Go.RowKit

theorem dig_part (N q r : Nat) (hr : r < 8) : M.pt q N / ((256 ^ r : Nat) : Int) % 256 = ((N / 256 ^ (8 * q + r) % 256 : Nat) : Int) := by
  unfold M.pt
  rw [← Int.natCast_ediv]
  have e : N / 18446744073709551616 ^ q % 18446744073709551616 / 256 ^ r % 256 = N / 256 ^ (8 * q + r) % 256 := by
    have h8 : (18446744073709551616 : Nat) = 256 ^ r * 256 ^ (8 - r) := by
      rw [← Nat.pow_add, show r + (8 - r) = 8 by omega]
    have hq : (18446744073709551616 : Nat) ^ q = 256 ^ (8 * q) := by
      rw [Nat.pow_mul]
    rw [hq]
    generalize hx : N / 256 ^ (8 * q) = x
    rw [h8, Nat.mod_mul_right_div_self, Nat.mod_mod_of_dvd _ ⟨256 ^ (8 - r - 1), by rw [Nat.mul_comm, ← Nat.pow_succ]; congr 1; omega⟩, ← hx, Nat.div_div_eq_div_mul, ← Nat.pow_add]
  rw [← e]
  rfl

theorem dig_0 (a0 a1 a2 a3 : Int) (w : World) (h0 : 0 ≤ a0) (h1 : a0 < 18446744073709551616) :
    Calls Tryd.prog 89 #[wd a0 a1 a2 a3, .int .i64 0] w fun e w' => e = .returned (.int .i64 (a0 % 256)) ∧ Below w.heap.size w w' := by
  go_enter Tryd.func89, Tryd.ntmps89
  go_wp2_with fail
  go_ret
  exact ⟨rfl, (Below.refl _ _).alloc (Nat.le_refl _) _⟩

theorem dig_1 (a0 a1 a2 a3 : Int) (w : World) (h0 : 0 ≤ a0) (h1 : a0 < 18446744073709551616) :
    Calls Tryd.prog 89 #[wd a0 a1 a2 a3, .int .i64 1] w fun e w' => e = .returned (.int .i64 (a0 / 256 % 256)) ∧ Below w.heap.size w w' := by
  go_enter Tryd.func89, Tryd.ntmps89
  go_wp2_with fail
  go_ret
  exact ⟨rfl, (Below.refl _ _).alloc (Nat.le_refl _) _⟩

theorem dig_2 (a0 a1 a2 a3 : Int) (w : World) (h0 : 0 ≤ a0) (h1 : a0 < 18446744073709551616) :
    Calls Tryd.prog 89 #[wd a0 a1 a2 a3, .int .i64 2] w fun e w' => e = .returned (.int .i64 (a0 / 65536 % 256)) ∧ Below w.heap.size w w' := by
  go_enter Tryd.func89, Tryd.ntmps89
  go_wp2_with fail
  go_ret
  exact ⟨rfl, (Below.refl _ _).alloc (Nat.le_refl _) _⟩

theorem dig_3 (a0 a1 a2 a3 : Int) (w : World) (h0 : 0 ≤ a0) (h1 : a0 < 18446744073709551616) :
    Calls Tryd.prog 89 #[wd a0 a1 a2 a3, .int .i64 3] w fun e w' => e = .returned (.int .i64 (a0 / 16777216 % 256)) ∧ Below w.heap.size w w' := by
  go_enter Tryd.func89, Tryd.ntmps89
  go_wp2_with fail
  go_ret
  exact ⟨rfl, (Below.refl _ _).alloc (Nat.le_refl _) _⟩

theorem dig_4 (a0 a1 a2 a3 : Int) (w : World) (h0 : 0 ≤ a0) (h1 : a0 < 18446744073709551616) :
    Calls Tryd.prog 89 #[wd a0 a1 a2 a3, .int .i64 4] w fun e w' => e = .returned (.int .i64 (a0 / 4294967296 % 256)) ∧ Below w.heap.size w w' := by
  go_enter Tryd.func89, Tryd.ntmps89
  go_wp2_with fail
  go_ret
  exact ⟨rfl, (Below.refl _ _).alloc (Nat.le_refl _) _⟩

theorem dig_5 (a0 a1 a2 a3 : Int) (w : World) (h0 : 0 ≤ a0) (h1 : a0 < 18446744073709551616) :
    Calls Tryd.prog 89 #[wd a0 a1 a2 a3, .int .i64 5] w fun e w' => e = .returned (.int .i64 (a0 / 1099511627776 % 256)) ∧ Below w.heap.size w w' := by
  go_enter Tryd.func89, Tryd.ntmps89
  go_wp2_with fail
  go_ret
  exact ⟨rfl, (Below.refl _ _).alloc (Nat.le_refl _) _⟩

theorem dig_6 (a0 a1 a2 a3 : Int) (w : World) (h0 : 0 ≤ a0) (h1 : a0 < 18446744073709551616) :
    Calls Tryd.prog 89 #[wd a0 a1 a2 a3, .int .i64 6] w fun e w' => e = .returned (.int .i64 (a0 / 281474976710656 % 256)) ∧ Below w.heap.size w w' := by
  go_enter Tryd.func89, Tryd.ntmps89
  go_wp2_with fail
  go_ret
  exact ⟨rfl, (Below.refl _ _).alloc (Nat.le_refl _) _⟩

theorem dig_7 (a0 a1 a2 a3 : Int) (w : World) (h0 : 0 ≤ a0) (h1 : a0 < 18446744073709551616) :
    Calls Tryd.prog 89 #[wd a0 a1 a2 a3, .int .i64 7] w fun e w' => e = .returned (.int .i64 (a0 / 72057594037927936 % 256)) ∧ Below w.heap.size w w' := by
  go_enter Tryd.func89, Tryd.ntmps89
  go_wp2_with fail
  go_ret
  exact ⟨rfl, (Below.refl _ _).alloc (Nat.le_refl _) _⟩

theorem dig_8 (a0 a1 a2 a3 : Int) (w : World) (h0 : 0 ≤ a1) (h1 : a1 < 18446744073709551616) :
    Calls Tryd.prog 89 #[wd a0 a1 a2 a3, .int .i64 8] w fun e w' => e = .returned (.int .i64 (a1 % 256)) ∧ Below w.heap.size w w' := by
  go_enter Tryd.func89, Tryd.ntmps89
  go_wp2_with fail
  go_ret
  exact ⟨rfl, (Below.refl _ _).alloc (Nat.le_refl _) _⟩

theorem dig_9 (a0 a1 a2 a3 : Int) (w : World) (h0 : 0 ≤ a1) (h1 : a1 < 18446744073709551616) :
    Calls Tryd.prog 89 #[wd a0 a1 a2 a3, .int .i64 9] w fun e w' => e = .returned (.int .i64 (a1 / 256 % 256)) ∧ Below w.heap.size w w' := by
  go_enter Tryd.func89, Tryd.ntmps89
  go_wp2_with fail
  go_ret
  exact ⟨rfl, (Below.refl _ _).alloc (Nat.le_refl _) _⟩

theorem dig_10 (a0 a1 a2 a3 : Int) (w : World) (h0 : 0 ≤ a1) (h1 : a1 < 18446744073709551616) :
    Calls Tryd.prog 89 #[wd a0 a1 a2 a3, .int .i64 10] w fun e w' => e = .returned (.int .i64 (a1 / 65536 % 256)) ∧ Below w.heap.size w w' := by
  go_enter Tryd.func89, Tryd.ntmps89
  go_wp2_with fail
  go_ret
  exact ⟨rfl, (Below.refl _ _).alloc (Nat.le_refl _) _⟩

theorem dig_11 (a0 a1 a2 a3 : Int) (w : World) (h0 : 0 ≤ a1) (h1 : a1 < 18446744073709551616) :
    Calls Tryd.prog 89 #[wd a0 a1 a2 a3, .int .i64 11] w fun e w' => e = .returned (.int .i64 (a1 / 16777216 % 256)) ∧ Below w.heap.size w w' := by
  go_enter Tryd.func89, Tryd.ntmps89
  go_wp2_with fail
  go_ret
  exact ⟨rfl, (Below.refl _ _).alloc (Nat.le_refl _) _⟩

theorem dig_12 (a0 a1 a2 a3 : Int) (w : World) (h0 : 0 ≤ a1) (h1 : a1 < 18446744073709551616) :
    Calls Tryd.prog 89 #[wd a0 a1 a2 a3, .int .i64 12] w fun e w' => e = .returned (.int .i64 (a1 / 4294967296 % 256)) ∧ Below w.heap.size w w' := by
  go_enter Tryd.func89, Tryd.ntmps89
  go_wp2_with fail
  go_ret
  exact ⟨rfl, (Below.refl _ _).alloc (Nat.le_refl _) _⟩

theorem dig_13 (a0 a1 a2 a3 : Int) (w : World) (h0 : 0 ≤ a1) (h1 : a1 < 18446744073709551616) :
    Calls Tryd.prog 89 #[wd a0 a1 a2 a3, .int .i64 13] w fun e w' => e = .returned (.int .i64 (a1 / 1099511627776 % 256)) ∧ Below w.heap.size w w' := by
  go_enter Tryd.func89, Tryd.ntmps89
  go_wp2_with fail
  go_ret
  exact ⟨rfl, (Below.refl _ _).alloc (Nat.le_refl _) _⟩

theorem dig_14 (a0 a1 a2 a3 : Int) (w : World) (h0 : 0 ≤ a1) (h1 : a1 < 18446744073709551616) :
    Calls Tryd.prog 89 #[wd a0 a1 a2 a3, .int .i64 14] w fun e w' => e = .returned (.int .i64 (a1 / 281474976710656 % 256)) ∧ Below w.heap.size w w' := by
  go_enter Tryd.func89, Tryd.ntmps89
  go_wp2_with fail
  go_ret
  exact ⟨rfl, (Below.refl _ _).alloc (Nat.le_refl _) _⟩

theorem dig_15 (a0 a1 a2 a3 : Int) (w : World) (h0 : 0 ≤ a1) (h1 : a1 < 18446744073709551616) :
    Calls Tryd.prog 89 #[wd a0 a1 a2 a3, .int .i64 15] w fun e w' => e = .returned (.int .i64 (a1 / 72057594037927936 % 256)) ∧ Below w.heap.size w w' := by
  go_enter Tryd.func89, Tryd.ntmps89
  go_wp2_with fail
  go_ret
  exact ⟨rfl, (Below.refl _ _).alloc (Nat.le_refl _) _⟩

theorem dig_16 (a0 a1 a2 a3 : Int) (w : World) (h0 : 0 ≤ a2) (h1 : a2 < 18446744073709551616) :
    Calls Tryd.prog 89 #[wd a0 a1 a2 a3, .int .i64 16] w fun e w' => e = .returned (.int .i64 (a2 % 256)) ∧ Below w.heap.size w w' := by
  go_enter Tryd.func89, Tryd.ntmps89
  go_wp2_with fail
  go_ret
  exact ⟨rfl, (Below.refl _ _).alloc (Nat.le_refl _) _⟩

theorem dig_17 (a0 a1 a2 a3 : Int) (w : World) (h0 : 0 ≤ a2) (h1 : a2 < 18446744073709551616) :
    Calls Tryd.prog 89 #[wd a0 a1 a2 a3, .int .i64 17] w fun e w' => e = .returned (.int .i64 (a2 / 256 % 256)) ∧ Below w.heap.size w w' := by
  go_enter Tryd.func89, Tryd.ntmps89
  go_wp2_with fail
  go_ret
  exact ⟨rfl, (Below.refl _ _).alloc (Nat.le_refl _) _⟩

theorem dig_18 (a0 a1 a2 a3 : Int) (w : World) (h0 : 0 ≤ a2) (h1 : a2 < 18446744073709551616) :
    Calls Tryd.prog 89 #[wd a0 a1 a2 a3, .int .i64 18] w fun e w' => e = .returned (.int .i64 (a2 / 65536 % 256)) ∧ Below w.heap.size w w' := by
  go_enter Tryd.func89, Tryd.ntmps89
  go_wp2_with fail
  go_ret
  exact ⟨rfl, (Below.refl _ _).alloc (Nat.le_refl _) _⟩

theorem dig_19 (a0 a1 a2 a3 : Int) (w : World) (h0 : 0 ≤ a2) (h1 : a2 < 18446744073709551616) :
    Calls Tryd.prog 89 #[wd a0 a1 a2 a3, .int .i64 19] w fun e w' => e = .returned (.int .i64 (a2 / 16777216 % 256)) ∧ Below w.heap.size w w' := by
  go_enter Tryd.func89, Tryd.ntmps89
  go_wp2_with fail
  go_ret
  exact ⟨rfl, (Below.refl _ _).alloc (Nat.le_refl _) _⟩

theorem dig_20 (a0 a1 a2 a3 : Int) (w : World) (h0 : 0 ≤ a2) (h1 : a2 < 18446744073709551616) :
    Calls Tryd.prog 89 #[wd a0 a1 a2 a3, .int .i64 20] w fun e w' => e = .returned (.int .i64 (a2 / 4294967296 % 256)) ∧ Below w.heap.size w w' := by
  go_enter Tryd.func89, Tryd.ntmps89
  go_wp2_with fail
  go_ret
  exact ⟨rfl, (Below.refl _ _).alloc (Nat.le_refl _) _⟩

theorem dig_21 (a0 a1 a2 a3 : Int) (w : World) (h0 : 0 ≤ a2) (h1 : a2 < 18446744073709551616) :
    Calls Tryd.prog 89 #[wd a0 a1 a2 a3, .int .i64 21] w fun e w' => e = .returned (.int .i64 (a2 / 1099511627776 % 256)) ∧ Below w.heap.size w w' := by
  go_enter Tryd.func89, Tryd.ntmps89
  go_wp2_with fail
  go_ret
  exact ⟨rfl, (Below.refl _ _).alloc (Nat.le_refl _) _⟩

theorem dig_22 (a0 a1 a2 a3 : Int) (w : World) (h0 : 0 ≤ a2) (h1 : a2 < 18446744073709551616) :
    Calls Tryd.prog 89 #[wd a0 a1 a2 a3, .int .i64 22] w fun e w' => e = .returned (.int .i64 (a2 / 281474976710656 % 256)) ∧ Below w.heap.size w w' := by
  go_enter Tryd.func89, Tryd.ntmps89
  go_wp2_with fail
  go_ret
  exact ⟨rfl, (Below.refl _ _).alloc (Nat.le_refl _) _⟩

theorem dig_23 (a0 a1 a2 a3 : Int) (w : World) (h0 : 0 ≤ a2) (h1 : a2 < 18446744073709551616) :
    Calls Tryd.prog 89 #[wd a0 a1 a2 a3, .int .i64 23] w fun e w' => e = .returned (.int .i64 (a2 / 72057594037927936 % 256)) ∧ Below w.heap.size w w' := by
  go_enter Tryd.func89, Tryd.ntmps89
  go_wp2_with fail
  go_ret
  exact ⟨rfl, (Below.refl _ _).alloc (Nat.le_refl _) _⟩

theorem dig_24 (a0 a1 a2 a3 : Int) (w : World) (h0 : 0 ≤ a3) (h1 : a3 < 18446744073709551616) :
    Calls Tryd.prog 89 #[wd a0 a1 a2 a3, .int .i64 24] w fun e w' => e = .returned (.int .i64 (a3 % 256)) ∧ Below w.heap.size w w' := by
  go_enter Tryd.func89, Tryd.ntmps89
  go_wp2_with fail
  go_ret
  exact ⟨rfl, (Below.refl _ _).alloc (Nat.le_refl _) _⟩

theorem dig_25 (a0 a1 a2 a3 : Int) (w : World) (h0 : 0 ≤ a3) (h1 : a3 < 18446744073709551616) :
    Calls Tryd.prog 89 #[wd a0 a1 a2 a3, .int .i64 25] w fun e w' => e = .returned (.int .i64 (a3 / 256 % 256)) ∧ Below w.heap.size w w' := by
  go_enter Tryd.func89, Tryd.ntmps89
  go_wp2_with fail
  go_ret
  exact ⟨rfl, (Below.refl _ _).alloc (Nat.le_refl _) _⟩

theorem dig_26 (a0 a1 a2 a3 : Int) (w : World) (h0 : 0 ≤ a3) (h1 : a3 < 18446744073709551616) :
    Calls Tryd.prog 89 #[wd a0 a1 a2 a3, .int .i64 26] w fun e w' => e = .returned (.int .i64 (a3 / 65536 % 256)) ∧ Below w.heap.size w w' := by
  go_enter Tryd.func89, Tryd.ntmps89
  go_wp2_with fail
  go_ret
  exact ⟨rfl, (Below.refl _ _).alloc (Nat.le_refl _) _⟩

theorem dig_27 (a0 a1 a2 a3 : Int) (w : World) (h0 : 0 ≤ a3) (h1 : a3 < 18446744073709551616) :
    Calls Tryd.prog 89 #[wd a0 a1 a2 a3, .int .i64 27] w fun e w' => e = .returned (.int .i64 (a3 / 16777216 % 256)) ∧ Below w.heap.size w w' := by
  go_enter Tryd.func89, Tryd.ntmps89
  go_wp2_with fail
  go_ret
  exact ⟨rfl, (Below.refl _ _).alloc (Nat.le_refl _) _⟩

theorem dig_28 (a0 a1 a2 a3 : Int) (w : World) (h0 : 0 ≤ a3) (h1 : a3 < 18446744073709551616) :
    Calls Tryd.prog 89 #[wd a0 a1 a2 a3, .int .i64 28] w fun e w' => e = .returned (.int .i64 (a3 / 4294967296 % 256)) ∧ Below w.heap.size w w' := by
  go_enter Tryd.func89, Tryd.ntmps89
  go_wp2_with fail
  go_ret
  exact ⟨rfl, (Below.refl _ _).alloc (Nat.le_refl _) _⟩

theorem dig_29 (a0 a1 a2 a3 : Int) (w : World) (h0 : 0 ≤ a3) (h1 : a3 < 18446744073709551616) :
    Calls Tryd.prog 89 #[wd a0 a1 a2 a3, .int .i64 29] w fun e w' => e = .returned (.int .i64 (a3 / 1099511627776 % 256)) ∧ Below w.heap.size w w' := by
  go_enter Tryd.func89, Tryd.ntmps89
  go_wp2_with fail
  go_ret
  exact ⟨rfl, (Below.refl _ _).alloc (Nat.le_refl _) _⟩

theorem dig_30 (a0 a1 a2 a3 : Int) (w : World) (h0 : 0 ≤ a3) (h1 : a3 < 18446744073709551616) :
    Calls Tryd.prog 89 #[wd a0 a1 a2 a3, .int .i64 30] w fun e w' => e = .returned (.int .i64 (a3 / 281474976710656 % 256)) ∧ Below w.heap.size w w' := by
  go_enter Tryd.func89, Tryd.ntmps89
  go_wp2_with fail
  go_ret
  exact ⟨rfl, (Below.refl _ _).alloc (Nat.le_refl _) _⟩

theorem dig_31 (a0 a1 a2 a3 : Int) (w : World) (h0 : 0 ≤ a3) (h1 : a3 < 18446744073709551616) :
    Calls Tryd.prog 89 #[wd a0 a1 a2 a3, .int .i64 31] w fun e w' => e = .returned (.int .i64 (a3 / 72057594037927936 % 256)) ∧ Below w.heap.size w w' := by
  go_enter Tryd.func89, Tryd.ntmps89
  go_wp2_with fail
  go_ret
  exact ⟨rfl, (Below.refl _ _).alloc (Nat.le_refl _) _⟩

theorem digit_any (N k : Nat) (w : World) (hk : k < 32) :
    Calls Tryd.prog 89 #[wn N, .int .i64 (k : Int)] w fun e w' => e = .returned (.int .i64 ((N / 256 ^ k % 256 : Nat) : Int)) ∧ Below w.heap.size w w' := by
  match k, hk with
  | 0, _ =>
    have h := dig_0 (M.pt 0 N) (M.pt 1 N) (M.pt 2 N) (M.pt 3 N) w (M.pt_nonneg _ _) (M.pt_lt _ _)
    have e := dig_part N 0 0 (by omega)
    rw [show ((256 ^ 0 : Nat) : Int) = 1 from rfl, Int.ediv_one] at e
    rw [e] at h
    exact h
  | 1, _ =>
    have h := dig_1 (M.pt 0 N) (M.pt 1 N) (M.pt 2 N) (M.pt 3 N) w (M.pt_nonneg _ _) (M.pt_lt _ _)
    have e := dig_part N 0 1 (by omega)
    rw [show ((256 ^ 1 : Nat) : Int) = 256 from rfl] at e
    rw [e] at h
    exact h
  | 2, _ =>
    have h := dig_2 (M.pt 0 N) (M.pt 1 N) (M.pt 2 N) (M.pt 3 N) w (M.pt_nonneg _ _) (M.pt_lt _ _)
    have e := dig_part N 0 2 (by omega)
    rw [show ((256 ^ 2 : Nat) : Int) = 65536 from rfl] at e
    rw [e] at h
    exact h
  | 3, _ =>
    have h := dig_3 (M.pt 0 N) (M.pt 1 N) (M.pt 2 N) (M.pt 3 N) w (M.pt_nonneg _ _) (M.pt_lt _ _)
    have e := dig_part N 0 3 (by omega)
    rw [show ((256 ^ 3 : Nat) : Int) = 16777216 from rfl] at e
    rw [e] at h
    exact h
  | 4, _ =>
    have h := dig_4 (M.pt 0 N) (M.pt 1 N) (M.pt 2 N) (M.pt 3 N) w (M.pt_nonneg _ _) (M.pt_lt _ _)
    have e := dig_part N 0 4 (by omega)
    rw [show ((256 ^ 4 : Nat) : Int) = 4294967296 from rfl] at e
    rw [e] at h
    exact h
  | 5, _ =>
    have h := dig_5 (M.pt 0 N) (M.pt 1 N) (M.pt 2 N) (M.pt 3 N) w (M.pt_nonneg _ _) (M.pt_lt _ _)
    have e := dig_part N 0 5 (by omega)
    rw [show ((256 ^ 5 : Nat) : Int) = 1099511627776 from rfl] at e
    rw [e] at h
    exact h
  | 6, _ =>
    have h := dig_6 (M.pt 0 N) (M.pt 1 N) (M.pt 2 N) (M.pt 3 N) w (M.pt_nonneg _ _) (M.pt_lt _ _)
    have e := dig_part N 0 6 (by omega)
    rw [show ((256 ^ 6 : Nat) : Int) = 281474976710656 from rfl] at e
    rw [e] at h
    exact h
  | 7, _ =>
    have h := dig_7 (M.pt 0 N) (M.pt 1 N) (M.pt 2 N) (M.pt 3 N) w (M.pt_nonneg _ _) (M.pt_lt _ _)
    have e := dig_part N 0 7 (by omega)
    rw [show ((256 ^ 7 : Nat) : Int) = 72057594037927936 from rfl] at e
    rw [e] at h
    exact h
  | 8, _ =>
    have h := dig_8 (M.pt 0 N) (M.pt 1 N) (M.pt 2 N) (M.pt 3 N) w (M.pt_nonneg _ _) (M.pt_lt _ _)
    have e := dig_part N 1 0 (by omega)
    rw [show ((256 ^ 0 : Nat) : Int) = 1 from rfl, Int.ediv_one] at e
    rw [e] at h
    exact h
  | 9, _ =>
    have h := dig_9 (M.pt 0 N) (M.pt 1 N) (M.pt 2 N) (M.pt 3 N) w (M.pt_nonneg _ _) (M.pt_lt _ _)
    have e := dig_part N 1 1 (by omega)
    rw [show ((256 ^ 1 : Nat) : Int) = 256 from rfl] at e
    rw [e] at h
    exact h
  | 10, _ =>
    have h := dig_10 (M.pt 0 N) (M.pt 1 N) (M.pt 2 N) (M.pt 3 N) w (M.pt_nonneg _ _) (M.pt_lt _ _)
    have e := dig_part N 1 2 (by omega)
    rw [show ((256 ^ 2 : Nat) : Int) = 65536 from rfl] at e
    rw [e] at h
    exact h
  | 11, _ =>
    have h := dig_11 (M.pt 0 N) (M.pt 1 N) (M.pt 2 N) (M.pt 3 N) w (M.pt_nonneg _ _) (M.pt_lt _ _)
    have e := dig_part N 1 3 (by omega)
    rw [show ((256 ^ 3 : Nat) : Int) = 16777216 from rfl] at e
    rw [e] at h
    exact h
  | 12, _ =>
    have h := dig_12 (M.pt 0 N) (M.pt 1 N) (M.pt 2 N) (M.pt 3 N) w (M.pt_nonneg _ _) (M.pt_lt _ _)
    have e := dig_part N 1 4 (by omega)
    rw [show ((256 ^ 4 : Nat) : Int) = 4294967296 from rfl] at e
    rw [e] at h
    exact h
  | 13, _ =>
    have h := dig_13 (M.pt 0 N) (M.pt 1 N) (M.pt 2 N) (M.pt 3 N) w (M.pt_nonneg _ _) (M.pt_lt _ _)
    have e := dig_part N 1 5 (by omega)
    rw [show ((256 ^ 5 : Nat) : Int) = 1099511627776 from rfl] at e
    rw [e] at h
    exact h
  | 14, _ =>
    have h := dig_14 (M.pt 0 N) (M.pt 1 N) (M.pt 2 N) (M.pt 3 N) w (M.pt_nonneg _ _) (M.pt_lt _ _)
    have e := dig_part N 1 6 (by omega)
    rw [show ((256 ^ 6 : Nat) : Int) = 281474976710656 from rfl] at e
    rw [e] at h
    exact h
  | 15, _ =>
    have h := dig_15 (M.pt 0 N) (M.pt 1 N) (M.pt 2 N) (M.pt 3 N) w (M.pt_nonneg _ _) (M.pt_lt _ _)
    have e := dig_part N 1 7 (by omega)
    rw [show ((256 ^ 7 : Nat) : Int) = 72057594037927936 from rfl] at e
    rw [e] at h
    exact h
  | 16, _ =>
    have h := dig_16 (M.pt 0 N) (M.pt 1 N) (M.pt 2 N) (M.pt 3 N) w (M.pt_nonneg _ _) (M.pt_lt _ _)
    have e := dig_part N 2 0 (by omega)
    rw [show ((256 ^ 0 : Nat) : Int) = 1 from rfl, Int.ediv_one] at e
    rw [e] at h
    exact h
  | 17, _ =>
    have h := dig_17 (M.pt 0 N) (M.pt 1 N) (M.pt 2 N) (M.pt 3 N) w (M.pt_nonneg _ _) (M.pt_lt _ _)
    have e := dig_part N 2 1 (by omega)
    rw [show ((256 ^ 1 : Nat) : Int) = 256 from rfl] at e
    rw [e] at h
    exact h
  | 18, _ =>
    have h := dig_18 (M.pt 0 N) (M.pt 1 N) (M.pt 2 N) (M.pt 3 N) w (M.pt_nonneg _ _) (M.pt_lt _ _)
    have e := dig_part N 2 2 (by omega)
    rw [show ((256 ^ 2 : Nat) : Int) = 65536 from rfl] at e
    rw [e] at h
    exact h
  | 19, _ =>
    have h := dig_19 (M.pt 0 N) (M.pt 1 N) (M.pt 2 N) (M.pt 3 N) w (M.pt_nonneg _ _) (M.pt_lt _ _)
    have e := dig_part N 2 3 (by omega)
    rw [show ((256 ^ 3 : Nat) : Int) = 16777216 from rfl] at e
    rw [e] at h
    exact h
  | 20, _ =>
    have h := dig_20 (M.pt 0 N) (M.pt 1 N) (M.pt 2 N) (M.pt 3 N) w (M.pt_nonneg _ _) (M.pt_lt _ _)
    have e := dig_part N 2 4 (by omega)
    rw [show ((256 ^ 4 : Nat) : Int) = 4294967296 from rfl] at e
    rw [e] at h
    exact h
  | 21, _ =>
    have h := dig_21 (M.pt 0 N) (M.pt 1 N) (M.pt 2 N) (M.pt 3 N) w (M.pt_nonneg _ _) (M.pt_lt _ _)
    have e := dig_part N 2 5 (by omega)
    rw [show ((256 ^ 5 : Nat) : Int) = 1099511627776 from rfl] at e
    rw [e] at h
    exact h
  | 22, _ =>
    have h := dig_22 (M.pt 0 N) (M.pt 1 N) (M.pt 2 N) (M.pt 3 N) w (M.pt_nonneg _ _) (M.pt_lt _ _)
    have e := dig_part N 2 6 (by omega)
    rw [show ((256 ^ 6 : Nat) : Int) = 281474976710656 from rfl] at e
    rw [e] at h
    exact h
  | 23, _ =>
    have h := dig_23 (M.pt 0 N) (M.pt 1 N) (M.pt 2 N) (M.pt 3 N) w (M.pt_nonneg _ _) (M.pt_lt _ _)
    have e := dig_part N 2 7 (by omega)
    rw [show ((256 ^ 7 : Nat) : Int) = 72057594037927936 from rfl] at e
    rw [e] at h
    exact h
  | 24, _ =>
    have h := dig_24 (M.pt 0 N) (M.pt 1 N) (M.pt 2 N) (M.pt 3 N) w (M.pt_nonneg _ _) (M.pt_lt _ _)
    have e := dig_part N 3 0 (by omega)
    rw [show ((256 ^ 0 : Nat) : Int) = 1 from rfl, Int.ediv_one] at e
    rw [e] at h
    exact h
  | 25, _ =>
    have h := dig_25 (M.pt 0 N) (M.pt 1 N) (M.pt 2 N) (M.pt 3 N) w (M.pt_nonneg _ _) (M.pt_lt _ _)
    have e := dig_part N 3 1 (by omega)
    rw [show ((256 ^ 1 : Nat) : Int) = 256 from rfl] at e
    rw [e] at h
    exact h
  | 26, _ =>
    have h := dig_26 (M.pt 0 N) (M.pt 1 N) (M.pt 2 N) (M.pt 3 N) w (M.pt_nonneg _ _) (M.pt_lt _ _)
    have e := dig_part N 3 2 (by omega)
    rw [show ((256 ^ 2 : Nat) : Int) = 65536 from rfl] at e
    rw [e] at h
    exact h
  | 27, _ =>
    have h := dig_27 (M.pt 0 N) (M.pt 1 N) (M.pt 2 N) (M.pt 3 N) w (M.pt_nonneg _ _) (M.pt_lt _ _)
    have e := dig_part N 3 3 (by omega)
    rw [show ((256 ^ 3 : Nat) : Int) = 16777216 from rfl] at e
    rw [e] at h
    exact h
  | 28, _ =>
    have h := dig_28 (M.pt 0 N) (M.pt 1 N) (M.pt 2 N) (M.pt 3 N) w (M.pt_nonneg _ _) (M.pt_lt _ _)
    have e := dig_part N 3 4 (by omega)
    rw [show ((256 ^ 4 : Nat) : Int) = 4294967296 from rfl] at e
    rw [e] at h
    exact h
  | 29, _ =>
    have h := dig_29 (M.pt 0 N) (M.pt 1 N) (M.pt 2 N) (M.pt 3 N) w (M.pt_nonneg _ _) (M.pt_lt _ _)
    have e := dig_part N 3 5 (by omega)
    rw [show ((256 ^ 5 : Nat) : Int) = 1099511627776 from rfl] at e
    rw [e] at h
    exact h
  | 30, _ =>
    have h := dig_30 (M.pt 0 N) (M.pt 1 N) (M.pt 2 N) (M.pt 3 N) w (M.pt_nonneg _ _) (M.pt_lt _ _)
    have e := dig_part N 3 6 (by omega)
    rw [show ((256 ^ 6 : Nat) : Int) = 281474976710656 from rfl] at e
    rw [e] at h
    exact h
  | 31, _ =>
    have h := dig_31 (M.pt 0 N) (M.pt 1 N) (M.pt 2 N) (M.pt 3 N) w (M.pt_nonneg _ _) (M.pt_lt _ _)
    have e := dig_part N 3 7 (by omega)
    rw [show ((256 ^ 7 : Nat) : Int) = 72057594037927936 from rfl] at e
    rw [e] at h
    exact h
  | k + 32, h => exact absurd h (by omega)
end Go.Proofs.YtmlkccbhdhgoeaaDoor
