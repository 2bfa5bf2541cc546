/- Plain arithmetic: numbers and their bytes, the lowest one first; a number's bytes without zeros ahead, as bytes of 64 bits. -/
import Derived.Test.YtmcchfgblecgoaaDoorM2
import Derived.Lib.Strings
namespace Go.Proofs.YtmcchfgblecgoaaDoor.M
open Go

/-- The number of bytes, the lowest one first. -/
def led : List UInt8 → Nat
  | [] => 0
  | c :: l => c.toNat + 256 * led l
/-- k bytes of a number, the lowest one first. -/
def le : Nat → Nat → List UInt8
  | 0, _ => []
  | k + 1, N => UInt8.ofNat (N % 256) :: le k (N / 256)
theorem le_length (k N : Nat) : (le k N).length = k := by
  induction k generalizing N with
  | zero => rfl
  | succ k ih => simp [le, ih]
theorem led_lt (l : List UInt8) : led l < 256 ^ l.length := by
  induction l with
  | nil => simp [led]
  | cons c l ih =>
    have := c.toNat_lt
    simp only [led, List.length_cons, Nat.pow_succ]
    omega
theorem led_le (k N : Nat) (h : N < 256 ^ k) : led (le k N) = N := by
  induction k generalizing N with
  | zero => simp at h; subst h; rfl
  | succ k ih =>
    rw [le, led, ih _ (by rw [Nat.pow_succ] at h; omega)]
    have : (UInt8.ofNat (N % 256)).toNat = N % 256 := by simp
    omega
theorem le_led (l : List UInt8) : le l.length (led l) = l := by
  induction l with
  | nil => rfl
  | cons c l ih =>
    have hc := c.toNat_lt
    simp only [List.length_cons, le, led]
    rw [show (c.toNat + 256 * led l) / 256 = led l by omega, show (c.toNat + 256 * led l) % 256 = c.toNat by omega, ih]
    simp
theorem led_snoc (l : List UInt8) (c : UInt8) : led (l ++ [c]) = led l + c.toNat * 256 ^ l.length := by
  induction l with
  | nil => simp [led]
  | cons d l ih =>
    simp only [List.cons_append, led, ih, List.length_cons, Nat.pow_succ]
    rw [Nat.mul_add, ← Nat.add_assoc, show 256 * (c.toNat * 256 ^ l.length) = c.toNat * (256 ^ l.length * 256) by rw [Nat.mul_comm (256 ^ l.length), Nat.mul_left_comm]]
theorem le_get (k N i : Nat) (h : i < k) : (le k N).getD i 0 = UInt8.ofNat (N / 256 ^ i % 256) := by
  induction k generalizing N i with
  | zero => omega
  | succ k ih =>
    cases i with
    | zero => simp [le]
    | succ i =>
      simp only [le, List.getD_cons_succ]
      rw [ih _ _ (by omega), Nat.div_div_eq_div_mul, Nat.pow_succ, Nat.mul_comm]

/-- What is read of at most 8 bytes: the number, and the error's. -/
def ub (l : List UInt8) : Nat × Nat := if 8 < l.length then (0, 5) else if Lib.hasPrefix l [0] then (0, 8) else (dg l, 0)
/-- What is read of 1 to 8 bytes, the lowest one first. -/
def ul (l : List UInt8) : Nat × Nat := if 1 ≤ l.length ∧ l.length ≤ 8 then (led l, 0) else (0, 2)
/-- What is written of so many bytes. -/
def lw (N : Nat) (width : Int) : List UInt8 × Nat := if 1 ≤ width ∧ width ≤ 8 ∧ (tr (f32 N)).length ≤ width then (le width.toNat N, 0) else ([], 1)

theorem led_lt8 {l : List UInt8} (h : l.length ≤ 8) : led l < 18446744073709551616 :=
  Nat.lt_of_lt_of_le (led_lt l) (show 256 ^ l.length ≤ 256 ^ 8 from Nat.pow_le_pow_right (by omega) h)
theorem dg_lt8 {l : List UInt8} (h : l.length ≤ 8) : dg l < 18446744073709551616 :=
  Nat.lt_of_lt_of_le (dg_lt l) (show 256 ^ l.length ≤ 256 ^ 8 from Nat.pow_le_pow_right (by omega) h)
theorem ub_lt (l : List UInt8) : (ub l).1 < 18446744073709551616 := by
  unfold ub
  split
  · simp
  · split
    · simp
    · exact dg_lt8 (by omega)
theorem ul_lt (l : List UInt8) : (ul l).1 < 18446744073709551616 := by
  unfold ul
  split
  · exact led_lt8 (by omega)
  · simp
end Go.Proofs.YtmcchfgblecgoaaDoor.M
