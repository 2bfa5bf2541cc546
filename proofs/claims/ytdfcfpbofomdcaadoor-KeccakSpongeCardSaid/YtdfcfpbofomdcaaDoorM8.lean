/- Plain arithmetic: what is put behind a text; a text's sum, block by block; the model's rotation. -/
import Derived.Test.YtdfcfpbofomdcaaDoorM7
import Derived.Laws.Bits64b
namespace Go.Proofs.YtdfcfpbofomdcaaDoor.M
open Go

/-- What is put behind n bytes. -/
def padL (n : Nat) : List UInt8 := if n % 136 = 135 then [129] else 1 :: (List.replicate (134 - n % 136) 0 ++ [128])
theorem padL_length (n : Nat) : (padL n).length = 136 - n % 136 := by
  have := Nat.mod_lt n (show 0 < 136 by omega)
  unfold padL
  split
  · simp; omega
  · simp; omega
theorem padL_mul (n : Nat) : (n + (padL n).length) % 136 = 0 := by
  rw [padL_length]
  omega
/-- A text without what was put behind it, from its end on. -/
def unpad : List UInt8 → List UInt8
  | [] => []
  | c :: r => if c = 129 then r else (r.dropWhile (· == 0)).tail
theorem drop_zeros (k : Nat) (r : List UInt8) : (List.replicate k (0 : UInt8) ++ 1 :: r).dropWhile (· == 0) = 1 :: r := by
  induction k with
  | zero => simp
  | succ k ih => exact ih
theorem unpad_pad (s : List UInt8) : unpad (s ++ padL s.length).reverse = s.reverse := by
  unfold padL
  split
  · rw [List.reverse_append]
    simp [unpad]
  · have e : (s ++ 1 :: (List.replicate (134 - s.length % 136) 0 ++ [128])).reverse = 128 :: (List.replicate (134 - s.length % 136) (0 : UInt8) ++ 1 :: s.reverse) := by simp
    rw [e, unpad, if_neg (by decide), drop_zeros]
    rfl
theorem pad_inj {s t : List UInt8} (h : s ++ padL s.length = t ++ padL t.length) : s = t := by
  have h1 := unpad_pad s
  rw [h, unpad_pad t] at h1
  exact (List.reverse_inj.1 h1).symm

/-- Eight bytes, the lowest one first. -/
def oct (l : List UInt8) : Nat := l.foldr (fun c n => c.toNat + 256 * n) 0
/-- A block is put to a state. -/
def absL (a : List Nat) (b : List UInt8) : List Nat := lanesOf fun i => if i < 17 then gl a i ^^^ oct ((b.drop (8 * i)).take 8) else gl a i
/-- The blocks of a text, k of them. -/
def blocksL : Nat → List Nat → List UInt8 → List Nat
  | 0, a, _ => a
  | k + 1, a, t => blocksL k (permL (absL a (t.take 136))) (t.drop 136)
/-- The first 32 bytes of a state. -/
def outL (a : List Nat) : List UInt8 := (List.range 32).map fun i => UInt8.ofNat (gl a (i / 8) / 256 ^ (i % 8) % 256)
def sumL (s : List UInt8) : List UInt8 := outL (blocksL ((s.length + (padL s.length).length) / 136) (List.replicate 25 0) (s ++ padL s.length))
theorem sum_none : sumL [] = [0xc5, 0xd2, 0x46, 0x01, 0x86, 0xf7, 0x23, 0x3c, 0x92, 0x7e, 0x7d, 0xb2, 0xdc, 0xc7, 0x03, 0xc0, 0xe5, 0x00, 0xb6, 0x53, 0xca, 0x82, 0x27, 0x3b, 0x7b, 0xfa, 0xd8, 0x04, 0x5d, 0x85, 0xa4, 0x70] := by decide +kernel
theorem sum_abc : sumL [97, 98, 99] = [0x4e, 0x03, 0x65, 0x7a, 0xea, 0x45, 0xa9, 0x4f, 0xc7, 0xd4, 0x7b, 0xa8, 0x26, 0xc8, 0xd6, 0x67, 0xc0, 0xd1, 0xe6, 0xe3, 0x3a, 0x64, 0xa0, 0x36, 0xec, 0x44, 0xf5, 0x8f, 0xa1, 0x2d, 0x6c, 0x45] := by decide +kernel

/-- The model's rotation: shifted up, and what falls off put below. -/
theorem rot_model {n k : Nat} (hn : n < 18446744073709551616) (hk : k < 64) :
    bits BinOp.or IntKind.u64 (IntKind.u64.wrap ((n : Int) * 2 ^ k)) ((n : Int) / 2 ^ (64 - k)) = ((rotN n k : Nat) : Int) := by
  have e1 : IntKind.u64.wrap ((n : Int) * 2 ^ k) = ((n * 2 ^ k % 18446744073709551616 : Nat) : Int) := by
    rw [IntKind.wrap_u64, show (n : Int) * 2 ^ k = ((n * 2 ^ k : Nat) : Int) by simp]
    omega
  have e2 : (n : Int) / 2 ^ (64 - k) = ((n / 2 ^ (64 - k) : Nat) : Int) := by simp
  rw [e1, e2, bits_or_u64_nat _ _ (Nat.mod_lt _ (by omega)) (Nat.lt_of_le_of_lt (Nat.div_le_self _ _) hn)]
  congr 1
  unfold rotN
  rw [Nat.mod_eq_of_lt hk, Nat.shiftLeft_eq, Nat.shiftRight_eq_div_pow, show (18446744073709551616 : Nat) = 2 ^ 64 from rfl]
  apply Nat.eq_of_testBit_eq
  intro i
  simp only [Nat.testBit_or, Nat.testBit_mod_two_pow]
  by_cases hi : i < 64
  · simp [hi]
  · have : (n / 2 ^ (64 - k)).testBit i = false := Nat.testBit_lt_two_pow (Nat.lt_of_lt_of_le (Nat.lt_of_le_of_lt (Nat.div_le_self _ _) hn) (show 2 ^ 64 ≤ 2 ^ i from Nat.pow_le_pow_right (by omega) (by omega)))
    simp [hi, this]

/-- A block is put to a state byte by byte. -/
def absB (a : List Nat) (i c : Nat) : List Nat := lanesOf fun j => if j = i / 8 then gl a j ^^^ c * 2 ^ (8 * (i % 8)) else gl a j
theorem oct_snoc (l : List UInt8) (c : UInt8) : oct (l ++ [c]) = oct l + c.toNat * 256 ^ l.length := by
  induction l with
  | nil => simp [oct]
  | cons d l ih =>
    have e : oct (d :: l ++ [c]) = d.toNat + 256 * oct (l ++ [c]) := rfl
    have e2 : oct (d :: l) = d.toNat + 256 * oct l := rfl
    rw [e, ih, e2, List.length_cons, Nat.pow_succ, Nat.mul_add, ← Nat.add_assoc, show 256 * (c.toNat * 256 ^ l.length) = c.toNat * (256 ^ l.length * 256) by rw [Nat.mul_comm (256 ^ l.length), Nat.mul_left_comm]]
theorem oct_lt (l : List UInt8) : oct l < 256 ^ l.length := by
  induction l with
  | nil => simp [oct]
  | cons d l ih =>
    have e : oct (d :: l) = d.toNat + 256 * oct l := rfl
    have := d.toNat_lt
    rw [e, List.length_cons, Nat.pow_succ]
    omega
theorem xor_high {a k : Nat} (c : Nat) (h : a < 2 ^ k) : a ^^^ c * 2 ^ k = a + c * 2 ^ k := by
  apply Nat.eq_of_testBit_eq
  intro i
  rw [Nat.add_comm, Nat.mul_comm c, Nat.testBit_two_pow_mul_add c h, Nat.testBit_xor, Nat.testBit_two_pow_mul]
  by_cases hi : i < k
  · simp [hi, Nat.not_le.2 hi]
  · have : a.testBit i = false := Nat.testBit_lt_two_pow (Nat.lt_of_lt_of_le h (Nat.pow_le_pow_right (by omega) (by omega)))
    simp [hi, this, Nat.not_lt.1 hi]
/-- When m bytes of a block have been put. -/
def absP (a : List Nat) (b : List UInt8) (m : Nat) : List Nat := lanesOf fun j => if j < 17 then gl a j ^^^ oct ((b.drop (8 * j)).take (min 8 (m - 8 * j))) else gl a j
theorem absP_zero {a : List Nat} (ha : a.length = 25) (b : List UInt8) : absP a b 0 = a := by
  refine lanes_ext (of_length _) ha fun i hi => ?_
  unfold absP
  rw [gl_of _ hi]
  simp [oct]
theorem absP_succ (a : List Nat) (b : List UInt8) (m : Nat) (hm : m < 136) (hb : m < b.length) : absB (absP a b m) m (b.getD m 0).toNat = absP a b (m + 1) := by
  refine lanes_ext (of_length _) (of_length _) fun j hj => ?_
  unfold absB
  rw [gl_of _ hj]
  have e : ∀ m, gl (absP a b m) j = if j < 17 then gl a j ^^^ oct ((b.drop (8 * j)).take (min 8 (m - 8 * j))) else gl a j := fun m => by unfold absP; rw [gl_of _ hj]
  rw [e m, e (m + 1)]
  by_cases h : j = m / 8
  · have hj17 : j < 17 := by omega
    rw [if_pos h, if_pos hj17, if_pos hj17]
    have e1 : min 8 (m - 8 * j) = m % 8 := by omega
    have e2 : min 8 (m + 1 - 8 * j) = m % 8 + 1 := by omega
    have hl : m % 8 < (b.drop (8 * j)).length := by rw [List.length_drop]; omega
    have hg : (b.drop (8 * j))[m % 8] = b.getD m 0 := by
      rw [List.getElem_drop, List.getD_eq_getElem?_getD, List.getElem?_eq_getElem hb, Option.getD_some]
      congr 1
      omega
    rw [e1, e2, List.take_succ_eq_append_getElem hl, hg, oct_snoc, Nat.xor_assoc]
    have hlen : ((b.drop (8 * j)).take (m % 8)).length = m % 8 := by rw [List.length_take]; omega
    have hlt := oct_lt ((b.drop (8 * j)).take (m % 8))
    rw [hlen] at hlt ⊢
    rw [show (256 : Nat) ^ (m % 8) = 2 ^ (8 * (m % 8)) by rw [Nat.pow_mul]] at hlt ⊢
    rw [xor_high _ hlt]
  · rw [if_neg h]
    by_cases hj17 : j < 17
    · rw [if_pos hj17, if_pos hj17]
      rcases Nat.lt_or_ge m (8 * j) with h1 | h1
      · rw [show m - 8 * j = 0 by omega, show m + 1 - 8 * j = 0 by omega]
      · rw [show min 8 (m - 8 * j) = 8 by omega, show min 8 (m + 1 - 8 * j) = 8 by omega]
    · rw [if_neg hj17, if_neg hj17]
theorem absP_all (a : List Nat) (b : List UInt8) : absP a b 136 = absL a b := by
  refine lanes_ext (of_length _) (of_length _) fun j hj => ?_
  unfold absP absL
  rw [gl_of _ hj, gl_of _ hj]
  by_cases h : j < 17
  · rw [if_pos h, if_pos h, show min 8 (136 - 8 * j) = 8 by omega]
  · rw [if_neg h, if_neg h]
theorem oct_lt64 (l : List UInt8) (h : l.length ≤ 8) : oct l < 18446744073709551616 :=
  Nat.lt_of_lt_of_le (oct_lt l) (show 256 ^ l.length ≤ 256 ^ 8 from Nat.pow_le_pow_right (by omega) h)
theorem absP_lanes {a : List Nat} (ha : Lanes a) (b : List UInt8) (m : Nat) : Lanes (absP a b m) := lanes_of fun j _ => by
  by_cases h : j < 17
  · simp only [h, if_true]
    exact xor_lt64 (ha.2 _) (oct_lt64 _ (by rw [List.length_take]; omega))
  · simp only [h, if_false]
    exact ha.2 _
theorem zero_lanes : Lanes (List.replicate 25 0) := ⟨by simp, fun i => by
  unfold gl
  rw [List.getD_eq_getElem?_getD, List.getElem?_replicate]
  split <;> simp⟩
end Go.Proofs.YtdfcfpbofomdcaaDoor.M
