/- Plain arithmetic: the rounds over 25 lanes, as lists of numbers; no two states have the same one behind a round. Plain arithmetic: what is put behind a text; a text's sum, block by block; the model's rotation. Plain: the root of chunks. Plain arithmetic: a number below 2^256 and its four parts of 64 bits; the carries of a sum and of a difference. Plain arithmetic: numbers and their bytes, the highest one first. Plain arithmetic: items, their bytes, how deep they are, what is wrong with them; no item's bytes begin another one's. Plain arithmetic: how deep an item may stand; heads by their lengths; alike. Plain arithmetic: how many items an item holds; what its bytes come to at most; parts by their places. Plain arithmetic: what the statements of layer 4 lean on. Plain: types and values. Plain: what holds of types and values. Plain: rows of types and of values, part by part. Plain: a type and those in it, each with all in it, one behind the other. Plain: how many bytes a fixed type has, one type behind the other. Plain arithmetic: numbers and their bytes, the lowest one first; a number's bytes without zeros ahead, as bytes of 64 bits. Plain: bits, eight in a byte. -/
import Derived.Laws.Bits64b
import Derived.Lib.Strings
namespace Go.Proofs.YtaajkbclojmbeaaGreatDoor.M

/-- Rotated up. -/
def rotN (n k : Nat) : Nat := (n <<< (k % 64) ||| n >>> (64 - k % 64)) % 18446744073709551616
def gl (a : List Nat) (i : Nat) : Nat := a.getD i 0
/-- 25 lanes of 64 bits. -/
def Lanes (a : List Nat) : Prop := a.length = 25 ∧ ∀ i, gl a i < 18446744073709551616
def lanesOf (f : Nat → Nat) : List Nat := (List.range 25).map f
def col (a : List Nat) (x : Nat) : Nat := gl a x ^^^ gl a (x + 5) ^^^ gl a (x + 10) ^^^ gl a (x + 15) ^^^ gl a (x + 20)
def mixL (a : List Nat) : List Nat := lanesOf fun i => gl a i ^^^ col a ((i % 5 + 4) % 5) ^^^ rotN (col a ((i % 5 + 1) % 5)) 1
def offs : List Nat := [0, 1, 62, 28, 27, 36, 44, 6, 55, 20, 3, 10, 43, 25, 39, 41, 45, 15, 21, 8, 18, 2, 61, 56, 14]
def turnL (a : List Nat) : List Nat := lanesOf fun i => rotN (gl a i) (gl offs i)
def moveL (a : List Nat) : List Nat := lanesOf fun j => gl a ((j % 5 + 3 * (j / 5)) % 5 + 5 * (j % 5))
def chiL (b : List Nat) : List Nat := lanesOf fun k => gl b k ^^^ ((gl b (k - k % 5 + (k % 5 + 1) % 5) ^^^ 18446744073709551615) &&& gl b (k - k % 5 + (k % 5 + 2) % 5))
def iotaL (n : Nat) (a : List Nat) : List Nat := lanesOf fun k => if k = 0 then gl a 0 ^^^ n else gl a k
def rcs : List Nat := [0x0000000000000001, 0x0000000000008082, 0x800000000000808A, 0x8000000080008000, 0x000000000000808B, 0x0000000080000001, 0x8000000080008081, 0x8000000000008009, 0x000000000000008A, 0x0000000000000088, 0x0000000080008009, 0x000000008000000A, 0x000000008000808B, 0x800000000000008B, 0x8000000000008089, 0x8000000000008003, 0x8000000000008002, 0x8000000000000080, 0x000000000000800A, 0x800000008000000A, 0x8000000080008081, 0x8000000000008080, 0x0000000080000001, 0x8000000080008008]
def rndL (n : Nat) (a : List Nat) : List Nat := iotaL n (chiL (moveL (turnL (mixL a))))
def permL (a : List Nat) : List Nat := rcs.foldl (fun a n => rndL n a) a

theorem gl_of (f : Nat → Nat) {i : Nat} (h : i < 25) : gl (lanesOf f) i = f i := by
  simp [gl, lanesOf, h]
theorem gl_out (f : Nat → Nat) {i : Nat} (h : 25 ≤ i) : gl (lanesOf f) i = 0 := by
  simp [gl, lanesOf, h]
theorem of_length (f : Nat → Nat) : (lanesOf f).length = 25 := by simp [lanesOf]
theorem lanes_of {f : Nat → Nat} (h : ∀ i, i < 25 → f i < 18446744073709551616) : Lanes (lanesOf f) := by
  refine ⟨of_length f, fun i => ?_⟩
  rcases Nat.lt_or_ge i 25 with hi | hi
  · rw [gl_of f hi]; exact h i hi
  · rw [gl_out f hi]; omega
theorem lanes_ext {a b : List Nat} (ha : a.length = 25) (hb : b.length = 25) (h : ∀ i, i < 25 → gl a i = gl b i) : a = b := by
  apply List.ext_getElem (by omega)
  intro i h1 h2
  have := h i (by omega)
  simpa [gl, h1, h2] using this

theorem xor_lt64 {a b : Nat} (ha : a < 18446744073709551616) (hb : b < 18446744073709551616) : a ^^^ b < 18446744073709551616 :=
  Nat.xor_lt_two_pow (n := 64) ha hb
theorem and_lt64 {a b : Nat} (hb : b < 18446744073709551616) : a &&& b < 18446744073709551616 := Nat.and_lt_two_pow (n := 64) a hb
theorem rot_lt (n k : Nat) : rotN n k < 18446744073709551616 := Nat.mod_lt _ (by omega)

/-! The columns: what is put to each lane tells the columns. -/

theorem col_lt {a : List Nat} (h : Lanes a) (x : Nat) : col a x < 18446744073709551616 :=
  xor_lt64 (xor_lt64 (xor_lt64 (xor_lt64 (h.2 _) (h.2 _)) (h.2 _)) (h.2 _)) (h.2 _)
theorem mix_lanes {a : List Nat} (h : Lanes a) : Lanes (mixL a) :=
  lanes_of fun _ _ => xor_lt64 (xor_lt64 (h.2 _) (col_lt h _)) (rot_lt _ _)
theorem turn_lanes (a : List Nat) : Lanes (turnL a) := lanes_of fun _ _ => rot_lt _ _
theorem move_lanes {a : List Nat} (ha : Lanes a) : Lanes (moveL a) := lanes_of fun _ _ => ha.2 _
theorem chi_lanes {a : List Nat} (ha : Lanes a) : Lanes (chiL a) := lanes_of fun _ _ => xor_lt64 (ha.2 _) (and_lt64 (ha.2 _))
theorem iota_lanes {a : List Nat} {n : Nat} (ha : Lanes a) (hn : n < 18446744073709551616) : Lanes (iotaL n a) := lanes_of fun k _ => by
  by_cases h : k = 0
  · simp only [h, if_true]; exact xor_lt64 (ha.2 _) hn
  · simp only [h, if_false]; exact ha.2 _
theorem rnd_lanes (a : List Nat) {n : Nat} (hn : n < 18446744073709551616) : Lanes (rndL n a) := iota_lanes (chi_lanes (move_lanes (turn_lanes _))) hn
theorem rnds_lanes (l : List Nat) (hl : ∀ n ∈ l, n < 18446744073709551616) : ∀ {a : List Nat}, Lanes a → Lanes (l.foldl (fun a n => rndL n a) a) := by
  induction l with
  | nil => exact fun ha => ha
  | cons n l ih => exact fun _ => ih (fun m hm => hl m (by simp [hm])) (rnd_lanes _ (hl n (by simp)))
theorem rcs_lt : ∀ n ∈ rcs, n < 18446744073709551616 := by decide
theorem perm_lanes {a : List Nat} (ha : Lanes a) : Lanes (permL a) := rnds_lanes rcs rcs_lt ha
end Go.Proofs.YtaajkbclojmbeaaGreatDoor.M
namespace Go.Proofs.YtaajkbclojmbeaaGreatDoor.M
open Go

/-- What is put behind n bytes. -/
def padL (n : Nat) : List UInt8 := if n % 136 = 135 then [129] else 1 :: (List.replicate (134 - n % 136) 0 ++ [128])
theorem padL_length (n : Nat) : (padL n).length = 136 - n % 136 := by
  have := Nat.mod_lt n (show 0 < 136 by omega)
  unfold padL
  split
  · simp; omega
  · simp; omega
theorem padL_mul (n : Nat) : (n + (padL n).length) % 136 = 0 := by
  rw [padL_length]
  omega
/-- Eight bytes, the lowest one first. -/
def oct (l : List UInt8) : Nat := l.foldr (fun c n => c.toNat + 256 * n) 0
/-- A block is put to a state. -/
def absL (a : List Nat) (b : List UInt8) : List Nat := lanesOf fun i => if i < 17 then gl a i ^^^ oct ((b.drop (8 * i)).take 8) else gl a i
/-- The blocks of a text, k of them. -/
def blocksL : Nat → List Nat → List UInt8 → List Nat
  | 0, a, _ => a
  | k + 1, a, t => blocksL k (permL (absL a (t.take 136))) (t.drop 136)
/-- The first 32 bytes of a state. -/
def outL (a : List Nat) : List UInt8 := (List.range 32).map fun i => UInt8.ofNat (gl a (i / 8) / 256 ^ (i % 8) % 256)
def sumL (s : List UInt8) : List UInt8 := outL (blocksL ((s.length + (padL s.length).length) / 136) (List.replicate 25 0) (s ++ padL s.length))
/-- The model's rotation: shifted up, and what falls off put below. -/
theorem rot_model {n k : Nat} (hn : n < 18446744073709551616) (hk : k < 64) :
    bits BinOp.or IntKind.u64 (IntKind.u64.wrap ((n : Int) * 2 ^ k)) ((n : Int) / 2 ^ (64 - k)) = ((rotN n k : Nat) : Int) := by
  have e1 : IntKind.u64.wrap ((n : Int) * 2 ^ k) = ((n * 2 ^ k % 18446744073709551616 : Nat) : Int) := by
    rw [IntKind.wrap_u64, show (n : Int) * 2 ^ k = ((n * 2 ^ k : Nat) : Int) by simp]
    omega
  have e2 : (n : Int) / 2 ^ (64 - k) = ((n / 2 ^ (64 - k) : Nat) : Int) := by simp
  rw [e1, e2, bits_or_u64_nat _ _ (Nat.mod_lt _ (by omega)) (Nat.lt_of_le_of_lt (Nat.div_le_self _ _) hn)]
  congr 1
  unfold rotN
  rw [Nat.mod_eq_of_lt hk, Nat.shiftLeft_eq, Nat.shiftRight_eq_div_pow, show (18446744073709551616 : Nat) = 2 ^ 64 from rfl]
  apply Nat.eq_of_testBit_eq
  intro i
  simp only [Nat.testBit_or, Nat.testBit_mod_two_pow]
  by_cases hi : i < 64
  · simp [hi]
  · have : (n / 2 ^ (64 - k)).testBit i = false := Nat.testBit_lt_two_pow (Nat.lt_of_lt_of_le (Nat.lt_of_le_of_lt (Nat.div_le_self _ _) hn) (show 2 ^ 64 ≤ 2 ^ i from Nat.pow_le_pow_right (by omega) (by omega)))
    simp [hi, this]

/-- A block is put to a state byte by byte. -/
def absB (a : List Nat) (i c : Nat) : List Nat := lanesOf fun j => if j = i / 8 then gl a j ^^^ c * 2 ^ (8 * (i % 8)) else gl a j
theorem oct_snoc (l : List UInt8) (c : UInt8) : oct (l ++ [c]) = oct l + c.toNat * 256 ^ l.length := by
  induction l with
  | nil => simp [oct]
  | cons d l ih =>
    have e : oct (d :: l ++ [c]) = d.toNat + 256 * oct (l ++ [c]) := rfl
    have e2 : oct (d :: l) = d.toNat + 256 * oct l := rfl
    rw [e, ih, e2, List.length_cons, Nat.pow_succ, Nat.mul_add, ← Nat.add_assoc, show 256 * (c.toNat * 256 ^ l.length) = c.toNat * (256 ^ l.length * 256) by rw [Nat.mul_comm (256 ^ l.length), Nat.mul_left_comm]]
theorem oct_lt (l : List UInt8) : oct l < 256 ^ l.length := by
  induction l with
  | nil => simp [oct]
  | cons d l ih =>
    have e : oct (d :: l) = d.toNat + 256 * oct l := rfl
    have := d.toNat_lt
    rw [e, List.length_cons, Nat.pow_succ]
    omega
theorem xor_high {a k : Nat} (c : Nat) (h : a < 2 ^ k) : a ^^^ c * 2 ^ k = a + c * 2 ^ k := by
  apply Nat.eq_of_testBit_eq
  intro i
  rw [Nat.add_comm, Nat.mul_comm c, Nat.testBit_two_pow_mul_add c h, Nat.testBit_xor, Nat.testBit_two_pow_mul]
  by_cases hi : i < k
  · simp [hi, Nat.not_le.2 hi]
  · have : a.testBit i = false := Nat.testBit_lt_two_pow (Nat.lt_of_lt_of_le h (Nat.pow_le_pow_right (by omega) (by omega)))
    simp [hi, this, Nat.not_lt.1 hi]
/-- When m bytes of a block have been put. -/
def absP (a : List Nat) (b : List UInt8) (m : Nat) : List Nat := lanesOf fun j => if j < 17 then gl a j ^^^ oct ((b.drop (8 * j)).take (min 8 (m - 8 * j))) else gl a j
theorem absP_zero {a : List Nat} (ha : a.length = 25) (b : List UInt8) : absP a b 0 = a := by
  refine lanes_ext (of_length _) ha fun i hi => ?_
  unfold absP
  rw [gl_of _ hi]
  simp [oct]
theorem absP_succ (a : List Nat) (b : List UInt8) (m : Nat) (hm : m < 136) (hb : m < b.length) : absB (absP a b m) m (b.getD m 0).toNat = absP a b (m + 1) := by
  refine lanes_ext (of_length _) (of_length _) fun j hj => ?_
  unfold absB
  rw [gl_of _ hj]
  have e : ∀ m, gl (absP a b m) j = if j < 17 then gl a j ^^^ oct ((b.drop (8 * j)).take (min 8 (m - 8 * j))) else gl a j := fun m => by unfold absP; rw [gl_of _ hj]
  rw [e m, e (m + 1)]
  by_cases h : j = m / 8
  · have hj17 : j < 17 := by omega
    rw [if_pos h, if_pos hj17, if_pos hj17]
    have e1 : min 8 (m - 8 * j) = m % 8 := by omega
    have e2 : min 8 (m + 1 - 8 * j) = m % 8 + 1 := by omega
    have hl : m % 8 < (b.drop (8 * j)).length := by rw [List.length_drop]; omega
    have hg : (b.drop (8 * j))[m % 8] = b.getD m 0 := by
      rw [List.getElem_drop, List.getD_eq_getElem?_getD, List.getElem?_eq_getElem hb, Option.getD_some]
      congr 1
      omega
    rw [e1, e2, List.take_succ_eq_append_getElem hl, hg, oct_snoc, Nat.xor_assoc]
    have hlen : ((b.drop (8 * j)).take (m % 8)).length = m % 8 := by rw [List.length_take]; omega
    have hlt := oct_lt ((b.drop (8 * j)).take (m % 8))
    rw [hlen] at hlt ⊢
    rw [show (256 : Nat) ^ (m % 8) = 2 ^ (8 * (m % 8)) by rw [Nat.pow_mul]] at hlt ⊢
    rw [xor_high _ hlt]
  · rw [if_neg h]
    by_cases hj17 : j < 17
    · rw [if_pos hj17, if_pos hj17]
      rcases Nat.lt_or_ge m (8 * j) with h1 | h1
      · rw [show m - 8 * j = 0 by omega, show m + 1 - 8 * j = 0 by omega]
      · rw [show min 8 (m - 8 * j) = 8 by omega, show min 8 (m + 1 - 8 * j) = 8 by omega]
    · rw [if_neg hj17, if_neg hj17]
theorem absP_all (a : List Nat) (b : List UInt8) : absP a b 136 = absL a b := by
  refine lanes_ext (of_length _) (of_length _) fun j hj => ?_
  unfold absP absL
  rw [gl_of _ hj, gl_of _ hj]
  by_cases h : j < 17
  · rw [if_pos h, if_pos h, show min 8 (136 - 8 * j) = 8 by omega]
  · rw [if_neg h, if_neg h]
theorem oct_lt64 (l : List UInt8) (h : l.length ≤ 8) : oct l < 18446744073709551616 :=
  Nat.lt_of_lt_of_le (oct_lt l) (show 256 ^ l.length ≤ 256 ^ 8 from Nat.pow_le_pow_right (by omega) h)
theorem absP_lanes {a : List Nat} (ha : Lanes a) (b : List UInt8) (m : Nat) : Lanes (absP a b m) := lanes_of fun j _ => by
  by_cases h : j < 17
  · simp only [h, if_true]
    exact xor_lt64 (ha.2 _) (oct_lt64 _ (by rw [List.length_take]; omega))
  · simp only [h, if_false]
    exact ha.2 _
theorem zero_lanes : Lanes (List.replicate 25 0) := ⟨by simp, fun i => by
  unfold gl
  rw [List.getD_eq_getElem?_getD, List.getElem?_replicate]
  split <;> simp⟩
end Go.Proofs.YtaajkbclojmbeaaGreatDoor.M
namespace Go.Proofs.YtaajkbclojmbeaaGreatDoor.M
open Go

/-- A chunk of zeros. -/
def z32 : List UInt8 := List.replicate 32 0
/-- Two and two, with z behind a last one that stands alone. -/
def halve (z : List UInt8) : List (List UInt8) → List (List UInt8)
  | [] => []
  | [a] => [sumL (a ++ z)]
  | a :: b :: r => sumL (a ++ b) :: halve z r
/-- The root of 2 ^ d chunks, with z behind. -/
def treeD : Nat → List (List UInt8) → List UInt8 → List UInt8
  | 0, l, z => l.headD z
  | d + 1, l, z => treeD d (halve z l) (sumL (z ++ z))
/-- How often so many are halved. -/
def dep (m : Nat) : Nat := if m ≤ 1 then 0 else if m ≤ 2 then 1 else if m ≤ 4 then 2 else if m ≤ 8 then 3 else if m ≤ 16 then 4 else if m ≤ 32 then 5 else if m ≤ 64 then 6 else if m ≤ 128 then 7 else if m ≤ 256 then 8 else 9
def treeT (l : List (List UInt8)) (most : Nat) : List UInt8 := treeD (dep most) l z32
def isC (s : List UInt8) : Bool := s.length == 32
/-- Tree, with its error. -/
def treeE (l : List (List UInt8)) (most : Int) : List UInt8 × Nat := if most < 1 ∨ 512 < most ∨ most < l.length ∨ l.all isC = false then ([], 1) else (treeT l most.toNat, 0)

theorem dep_lt {m d : Nat} (h : m ≤ 512) : d < dep m ↔ 2 ^ d < m := by
  have key : ∀ e : Nat, 2 ^ d < 2 ^ e ↔ d < e := fun e => Nat.pow_lt_pow_iff_right (by omega)
  have k0 := key 0; have k1 := key 1; have k2 := key 2; have k3 := key 3; have k4 := key 4; have k5 := key 5; have k6 := key 6; have k7 := key 7; have k8 := key 8; have k9 := key 9
  have kle : ∀ e : Nat, 2 ^ d ≤ 2 ^ e ↔ d ≤ e := fun e => Nat.pow_le_pow_iff_right (by omega)
  have l0 := kle 0; have l1 := kle 1; have l2 := kle 2; have l3 := kle 3; have l4 := kle 4; have l5 := kle 5; have l6 := kle 6; have l7 := kle 7; have l8 := kle 8; have l9 := kle 9
  clear key kle
  simp only [Nat.reducePow] at k0 k1 k2 k3 k4 k5 k6 k7 k8 k9 l0 l1 l2 l3 l4 l5 l6 l7 l8 l9
  unfold dep
  generalize 2 ^ d = p at *
  repeat' split
  all_goals omega
theorem dep_most {m : Nat} (h : m ≤ 512) : m ≤ 2 ^ dep m := by
  have := dep_lt (m := m) (d := dep m) h
  omega
theorem dep_le (m : Nat) : dep m ≤ 9 := by
  unfold dep
  repeat' split
  all_goals omega
theorem sum_length (s : List UInt8) : (sumL s).length = 32 := by unfold sumL outL; simp
theorem halve_length (z : List UInt8) : ∀ l : List (List UInt8), (halve z l).length = (l.length + 1) / 2
  | [] => rfl
  | [a] => by simp [halve]
  | a :: b :: r => by
    rw [halve, List.length_cons, halve_length z r, List.length_cons, List.length_cons]
    omega
theorem halve_all {z : List UInt8} : ∀ l : List (List UInt8), (halve z l).all isC = true
  | [] => rfl
  | [a] => by simp [halve, isC, sum_length]
  | a :: b :: r => by
    rw [halve, List.all_cons, halve_all r]
    simp [isC, sum_length]
theorem tree_length : ∀ (d : Nat) (l : List (List UInt8)) (z : List UInt8), l.all isC = true → z.length = 32 → (treeD d l z).length = 32
  | 0, l, z, hl, hz => by
    unfold treeD
    cases l with
    | nil => exact hz
    | cons a l =>
      simp [isC] at hl
      exact hl.1
  | d + 1, l, z, _, _ => tree_length d _ _ (halve_all l) (sum_length _)
/-- Each two of a row. -/
def pairUp : List (List UInt8) → List (List UInt8)
  | a :: b :: r => sumL (a ++ b) :: pairUp r
  | _ => []
theorem pairUp_zeros (z : List UInt8) : ∀ n : Nat, pairUp (List.replicate (2 * n) z) = List.replicate n (sumL (z ++ z))
  | 0 => rfl
  | n + 1 => by rw [show 2 * (n + 1) = 2 * n + 1 + 1 by omega, List.replicate_succ, List.replicate_succ, pairUp, pairUp_zeros z n, List.replicate_succ]
theorem pairUp_pad (z : List UInt8) : ∀ (n : Nat) (l : List (List UInt8)), l.length ≤ 2 * n → pairUp (l ++ List.replicate (2 * n - l.length) z) = halve z l ++ List.replicate (n - (halve z l).length) (sumL (z ++ z))
  | n, [], _ => by simpa [halve] using pairUp_zeros z n
  | 0, a :: r, h => by simp at h
  | n + 1, [a], _ => by
    rw [show 2 * (n + 1) - [a].length = 2 * n + 1 by simp; omega, List.replicate_succ]
    show pairUp (a :: z :: List.replicate (2 * n) z) = _
    rw [pairUp, pairUp_zeros, halve]
    simp
  | n + 1, a :: b :: r, h => by
    have ih := pairUp_pad z n r (by simp at h; omega)
    rw [show 2 * (n + 1) - (a :: b :: r).length = 2 * n - r.length by simp; omega]
    show pairUp (a :: b :: (r ++ List.replicate (2 * n - r.length) z)) = _
    rw [pairUp, ih, halve]
    simp
def ups : Nat → List (List UInt8) → List (List UInt8)
  | 0, l => l
  | d + 1, l => ups d (pairUp l)
/-- A row of chunks with zeros behind, summed up. -/
theorem ups_pad : ∀ (d : Nat) (l : List (List UInt8)) (z : List UInt8), l.length ≤ 2 ^ d → ups d (l ++ List.replicate (2 ^ d - l.length) z) = [treeD d l z]
  | 0, l, z, h => by
    match l, h with
    | [], _ => rfl
    | [a], _ => rfl
    | a :: b :: r, h => simp at h
  | d + 1, l, z, h => by
    have hp : 2 ^ (d + 1) = 2 * 2 ^ d := by rw [Nat.pow_succ]; omega
    rw [ups, hp, pairUp_pad z (2 ^ d) l (by omega), treeD]
    exact ups_pad d (halve z l) (sumL (z ++ z)) (by rw [halve_length]; omega)
end Go.Proofs.YtaajkbclojmbeaaGreatDoor.M
namespace Go.Proofs.YtaajkbclojmbeaaGreatDoor.M

/-- Part i of a number, the lowest one first. -/
def pt (i N : Nat) : Int := ((N / 18446744073709551616 ^ i % 18446744073709551616 : Nat) : Int)

/-- Below 2^256. -/
def In (N : Nat) : Prop := N < 115792089237316195423570985008687907853269984665640564039457584007913129639936

theorem pt_nonneg (i N : Nat) : 0 ≤ pt i N := by unfold pt; omega
theorem pt_lt (i N : Nat) : pt i N < 18446744073709551616 := by unfold pt; omega

theorem whole {N : Nat} (h : In N) : (N : Int) = pt 0 N + 18446744073709551616 * pt 1 N + 340282366920938463463374607431768211456 * pt 2 N + 6277101735386680763835789423207666416102355444464034512896 * pt 3 N := by
  unfold In at h
  unfold pt
  simp only [Nat.pow_zero, Nat.pow_one, Nat.div_one, show 18446744073709551616 ^ 2 = 340282366920938463463374607431768211456 from rfl, show 18446744073709551616 ^ 3 = 6277101735386680763835789423207666416102355444464034512896 from rfl]
  omega

theorem parts {N : Nat} {a b c d : Int} (ha : 0 ≤ a) (ha' : a < 18446744073709551616) (hb : 0 ≤ b) (hb' : b < 18446744073709551616) (hc : 0 ≤ c) (hc' : c < 18446744073709551616) (hd : 0 ≤ d) (hd' : d < 18446744073709551616)
    (h : (N : Int) = a + 18446744073709551616 * b + 340282366920938463463374607431768211456 * c + 6277101735386680763835789423207666416102355444464034512896 * d) :
    pt 0 N = a ∧ pt 1 N = b ∧ pt 2 N = c ∧ pt 3 N = d := by
  unfold pt
  simp only [Nat.pow_zero, Nat.pow_one, Nat.div_one, show 18446744073709551616 ^ 2 = 340282366920938463463374607431768211456 from rfl, show 18446744073709551616 ^ 3 = 6277101735386680763835789423207666416102355444464034512896 from rfl]
  omega

/-- Whatever four parts there are, they are some number's. -/
theorem some_number {a b c d : Int} (ha : 0 ≤ a) (ha' : a < 18446744073709551616) (hb : 0 ≤ b) (hb' : b < 18446744073709551616) (hc : 0 ≤ c) (hc' : c < 18446744073709551616) (hd : 0 ≤ d) (hd' : d < 18446744073709551616) :
    ∃ N, In N ∧ pt 0 N = a ∧ pt 1 N = b ∧ pt 2 N = c ∧ pt 3 N = d := by
  refine ⟨(a + 18446744073709551616 * b + 340282366920938463463374607431768211456 * c + 6277101735386680763835789423207666416102355444464034512896 * d).toNat, by unfold In; omega, parts ha ha' hb hb' hc hc' hd hd' (by omega)⟩

theorem pt_inj {A B : Nat} (hA : In A) (hB : In B) (h0 : pt 0 A = pt 0 B) (h1 : pt 1 A = pt 1 B) (h2 : pt 2 A = pt 2 B) (h3 : pt 3 A = pt 3 B) : A = B := by
  have := whole hA
  have := whole hB
  omega

def adC (x y c : Int) : Int := (x + y + c) / 18446744073709551616
def sbC (x y c : Int) : Int := if x < y + c then 1 else 0

/-- The carries of two numbers' parts. -/
def k1 (A B : Nat) : Int := adC (pt 0 A) (pt 0 B) 0
def k2 (A B : Nat) : Int := adC (pt 1 A) (pt 1 B) (k1 A B)
def k3 (A B : Nat) : Int := adC (pt 2 A) (pt 2 B) (k2 A B)
def k4 (A B : Nat) : Int := adC (pt 3 A) (pt 3 B) (k3 A B)
/-- The borrows. -/
def j1 (A B : Nat) : Int := sbC (pt 0 A) (pt 0 B) 0
def j2 (A B : Nat) : Int := sbC (pt 1 A) (pt 1 B) (j1 A B)
end Go.Proofs.YtaajkbclojmbeaaGreatDoor.M
namespace Go.Proofs.YtaajkbclojmbeaaGreatDoor.M

/-- The number of bytes, behind a number. -/
def dgA (n : Nat) : List UInt8 → Nat
  | [] => n
  | c :: l => dgA (n * 256 + c.toNat) l
/-- The number of bytes. -/
def dg (l : List UInt8) : Nat := dgA 0 l

theorem dgA_append (n : Nat) (l r : List UInt8) : dgA n (l ++ r) = dgA (dgA n l) r := by
  induction l generalizing n with
  | nil => rfl
  | cons c l ih => exact ih _
theorem dgA_eq (n : Nat) (l : List UInt8) : dgA n l = n * 256 ^ l.length + dg l := by
  induction l generalizing n with
  | nil => simp [dgA, dg]
  | cons c l ih =>
    have e1 : dgA n (c :: l) = dgA (n * 256 + c.toNat) l := rfl
    have e2 : dg (c :: l) = dgA (0 * 256 + c.toNat) l := rfl
    rw [e1, e2, ih, ih (0 * 256 + c.toNat), List.length_cons, Nat.pow_succ, Nat.zero_mul, Nat.zero_add]
    have : (n * 256 + c.toNat) * 256 ^ l.length = n * (256 ^ l.length * 256) + c.toNat * 256 ^ l.length := by
      rw [Nat.add_mul, Nat.mul_assoc, Nat.mul_comm 256]
    rw [this]
    omega
theorem dg_append (l r : List UInt8) : dg (l ++ r) = dg l * 256 ^ r.length + dg r := by
  unfold dg
  rw [dgA_append, dgA_eq]
  rfl
theorem dg_snoc (l : List UInt8) (c : UInt8) : dg (l ++ [c]) = dg l * 256 + c.toNat := by
  rw [dg_append]
  simp [dg, dgA]
theorem dg_lt (l : List UInt8) : dg l < 256 ^ l.length := by
  induction l with
  | nil => simp [dg, dgA]
  | cons c l ih =>
    have e : dg (c :: l) = dgA (0 * 256 + c.toNat) l := rfl
    rw [e, dgA_eq, List.length_cons, Nat.pow_succ]
    have hc := c.toNat_lt
    have : (0 * 256 + c.toNat) * 256 ^ l.length ≤ 255 * 256 ^ l.length := Nat.mul_le_mul_right _ (by omega)
    omega
theorem dg_zeros (k : Nat) (l : List UInt8) : dg (List.replicate k 0 ++ l) = dg l := by
  induction k with
  | zero => rfl
  | succ k ih => exact ih

/-- k bytes of a number. -/
def be : Nat → Nat → List UInt8
  | 0, _ => []
  | k + 1, N => be k (N / 256) ++ [UInt8.ofNat (N % 256)]
theorem be_length (k N : Nat) : (be k N).length = k := by
  induction k generalizing N with
  | zero => rfl
  | succ k ih => simp [be, ih]
theorem dg_be (k N : Nat) (h : N < 256 ^ k) : dg (be k N) = N := by
  induction k generalizing N with
  | zero => simp at h; subst h; rfl
  | succ k ih =>
    rw [be, dg_snoc, ih _ (by rw [Nat.pow_succ] at h; omega)]
    have : (UInt8.ofNat (N % 256)).toNat = N % 256 := by simp
    omega
theorem be_add (j k N : Nat) : be (j + k) N = be j (N / 256 ^ k) ++ be k N := by
  induction k generalizing N with
  | zero => simp [be]
  | succ k ih =>
    rw [← Nat.add_assoc, be, ih, be, ← List.append_assoc, Nat.div_div_eq_div_mul, Nat.pow_succ, Nat.mul_comm]
theorem be_mod (k N : Nat) : be k (N % 256 ^ k) = be k N := by
  induction k generalizing N with
  | zero => rfl
  | succ k ih =>
    rw [be, be, ← ih (N / 256)]
    have e1 : N % 256 ^ (k + 1) / 256 = N / 256 % 256 ^ k := by
      rw [Nat.pow_succ, Nat.mul_comm, Nat.mod_mul_right_div_self]
    have e2 : N % 256 ^ (k + 1) % 256 = N % 256 := Nat.mod_mod_of_dvd _ ⟨256 ^ k, by rw [Nat.pow_succ, Nat.mul_comm]⟩
    rw [e1, e2]
theorem be8_eq (n : Nat) : be 8 n = [UInt8.ofNat (n / 72057594037927936 % 256), UInt8.ofNat (n / 281474976710656 % 256), UInt8.ofNat (n / 1099511627776 % 256), UInt8.ofNat (n / 4294967296 % 256), UInt8.ofNat (n / 16777216 % 256), UInt8.ofNat (n / 65536 % 256), UInt8.ofNat (n / 256 % 256), UInt8.ofNat (n % 256)] := by
  simp only [be, Nat.div_div_eq_div_mul, List.nil_append, List.cons_append, Nat.reduceMul]

/-- A word's 32 bytes. -/
def f32 (N : Nat) : List UInt8 := be 32 N
theorem f32_length (N : Nat) : (f32 N).length = 32 := be_length 32 N
theorem in_pow {N : Nat} : In N ↔ N < 256 ^ 32 := by unfold In; rfl
theorem dg_f32 {N : Nat} (h : In N) : dg (f32 N) = N := dg_be 32 N (in_pow.1 h)
/-- The 32 bytes, part by part. -/
theorem f32_parts {N : Nat} (_h : In N) : f32 N = be 8 (pt 3 N).toNat ++ be 8 (pt 2 N).toNat ++ be 8 (pt 1 N).toNat ++ be 8 (pt 0 N).toNat := by
  have e : ∀ i, be 8 (pt i N).toNat = be 8 (N / 18446744073709551616 ^ i) := by
    intro i
    unfold pt
    rw [Int.toNat_natCast, show (18446744073709551616 : Nat) = 256 ^ 8 from rfl, be_mod]
  rw [e 0, e 1, e 2, e 3]
  have q1 : N / 256 ^ 8 / 256 ^ 8 = N / 18446744073709551616 ^ 2 := by rw [Nat.div_div_eq_div_mul]
  have q2 : N / 18446744073709551616 ^ 2 / 256 ^ 8 = N / 18446744073709551616 ^ 3 := by rw [Nat.div_div_eq_div_mul]
  unfold f32
  rw [show 32 = 24 + 8 from rfl, be_add, show 24 = 16 + 8 from rfl, be_add, show 16 = 8 + 8 from rfl, be_add, q1, q2, Nat.pow_zero, Nat.div_one, Nat.pow_one]

/-- Without zeros ahead. -/
def tr (l : List UInt8) : List UInt8 := l.dropWhile (· == 0)
theorem tr_split (l : List UInt8) : ∃ k, l = List.replicate k 0 ++ tr l := by
  induction l with
  | nil => exact ⟨0, rfl⟩
  | cons c l ih =>
    by_cases h : c = 0
    · subst h
      obtain ⟨k, hk⟩ := ih
      refine ⟨k + 1, ?_⟩
      rw [List.replicate_succ, List.cons_append]
      have : tr (0 :: l) = tr l := rfl
      rw [this, ← hk]
    · exact ⟨0, by simp [tr, h]⟩
theorem dg_tr (l : List UInt8) : dg (tr l) = dg l := by
  obtain ⟨k, hk⟩ := tr_split l
  have := dg_zeros k (tr l)
  rw [← hk] at this
  exact this.symm
theorem tr_length_le (l : List UInt8) : (tr l).length ≤ l.length := by
  obtain ⟨k, hk⟩ := tr_split l
  have := congrArg List.length hk
  simp at this
  omega
theorem tr_head (l : List UInt8) : ∀ c r, tr l = c :: r → c ≠ 0 := by
  induction l with
  | nil => intro c r h; cases h
  | cons d l ih =>
    intro c r h
    by_cases hd : d = 0
    · subst hd; exact ih c r h
    · have : tr (d :: l) = d :: l := by simp [tr, hd]
      rw [this] at h
      cases h
      exact hd
theorem tr_zeros (k : Nat) (l : List UInt8) (h : ∀ c r, l = c :: r → c ≠ 0) : tr (List.replicate k 0 ++ l) = l := by
  induction k with
  | zero =>
    cases l with
    | nil => rfl
    | cons c r => simp [tr, h c r rfl]
  | succ k ih => exact ih

/-- How long a number's bytes are. -/
theorem tr_small {N : Nat} (h : In N) : (tr (f32 N)).length ≤ 8 ↔ N < 18446744073709551616 := by
  have e := dg_tr (f32 N)
  rw [dg_f32 h] at e
  constructor
  · intro hl
    rw [← e]
    exact Nat.lt_of_lt_of_le (dg_lt _) (show 256 ^ (tr (f32 N)).length ≤ 256 ^ 8 from Nat.pow_le_pow_right (by omega) hl)
  · intro hN
    rcases Nat.lt_or_ge 8 (tr (f32 N)).length with hl | hl
    · exfalso
      match ht : tr (f32 N) with
      | [] => rw [ht] at hl; simp at hl
      | c :: r =>
        have hc := tr_head _ c r ht
        rw [ht] at e hl
        have e2 : dg (c :: r) = dgA (0 * 256 + c.toNat) r := rfl
        rw [e2, dgA_eq] at e
        have hc1 : 1 ≤ c.toNat := by
          rcases Nat.eq_zero_or_pos c.toNat with h0 | h0
          · exact absurd (UInt8.toNat.inj (by simpa using h0)) hc
          · exact h0
        have hp : 256 ^ 8 ≤ 256 ^ r.length := Nat.pow_le_pow_right (by omega) (by simp at hl; omega)
        have : 1 * 256 ^ r.length ≤ (0 * 256 + c.toNat) * 256 ^ r.length := Nat.mul_le_mul_right _ (by omega)
        have h8 : (256 : Nat) ^ 8 = 18446744073709551616 := rfl
        omega
    · exact hl
end Go.Proofs.YtaajkbclojmbeaaGreatDoor.M
namespace Go.Proofs.YtaajkbclojmbeaaGreatDoor.M

/-- The digits of a number, no more than are needed. -/
def ben (n : Nat) : List UInt8 := tr (f32 n)
theorem in64' {n : Nat} (h : n < 18446744073709551616) : In n := by unfold In; omega
theorem ben_le {n : Nat} (h : n < 18446744073709551616) : (ben n).length ≤ 8 := (tr_small (in64' h)).2 h
/-- A head of a length. -/
def hdL (n p : Nat) : List UInt8 := if n < 56 then [UInt8.ofNat (p + n)] else UInt8.ofNat (p + 55 + (ben n).length) :: ben n
/-- An item: bytes, or a list of items; or what is neither. -/
inductive It where
  | mk (list : Bool) (bytes : List UInt8) (items : List It)

mutual
def bytesI : It → List UInt8
  | .mk true _ xs => hdL (bytesIs xs).length 192 ++ bytesIs xs
  | .mk false b _ => if b.length = 1 ∧ (b.headD 0).toNat < 128 then b else hdL b.length 128 ++ b
def bytesIs : List It → List UInt8
  | [] => []
  | x :: xs => bytesI x ++ bytesIs xs
end
end Go.Proofs.YtaajkbclojmbeaaGreatDoor.M
namespace Go.Proofs.YtaajkbclojmbeaaGreatDoor.M

end Go.Proofs.YtaajkbclojmbeaaGreatDoor.M
namespace Go.Proofs.YtaajkbclojmbeaaGreatDoor.M

theorem hdL_9 {n p : Nat} (hn : n < 18446744073709551616) : 1 ≤ (hdL n p).length ∧ (hdL n p).length ≤ 9 := by
  unfold hdL
  have h3 := ben_le hn
  by_cases h : n < 56
  · rw [if_pos h]; simp
  · rw [if_neg h]
    simp only [List.length_cons]
    omega
end Go.Proofs.YtaajkbclojmbeaaGreatDoor.M
namespace Go.Proofs.YtaajkbclojmbeaaGreatDoor.M

theorem size_one (x : It) (h : (bytesI x).length < 18446744073709551616) : (bytesI (.mk true [] [x])).length ≤ (bytesI x).length + 9 := by
  have e : bytesIs [x] = bytesI x := by rw [bytesIs, bytesIs, List.append_nil]
  rw [bytesI, e, List.length_append]
  have := (hdL_9 (n := (bytesI x).length) (p := 192) h).2
  omega
end Go.Proofs.YtaajkbclojmbeaaGreatDoor.M
namespace Go.Proofs.YtaajkbclojmbeaaGreatDoor.M
open Go

inductive Ty | mk (k n : Int) (ins : List Ty)
inductive Va | mk (num : Nat) (bits : List Bool) (items : List Va) (pick : Int)
def Ty.k : Ty → Int | .mk k _ _ => k
def Ty.n : Ty → Int | .mk _ n _ => n
def Ty.ins : Ty → List Ty | .mk _ _ ins => ins
instance : Inhabited Ty := ⟨.mk 0 0 []⟩

def formT (k n : Int) (m : Nat) : Bool :=
  if k = 1 then m == 0 && (n == 1 || n == 2 || n == 4 || n == 8 || n == 32)
  else if k = 2 then m == 0 && n == 0
  else if k = 3 ∨ k = 4 then m == 1 && decide (1 ≤ n) && decide (n ≤ 512)
  else if k = 5 ∨ k = 6 then m == 0 && decide (1 ≤ n) && decide (n ≤ 512)
  else if k = 7 then n == 0 && decide (1 ≤ m) && decide (m ≤ 16)
  else n == 0 && decide (1 ≤ m) && decide (m ≤ 8)

mutual
def cntT : Ty → Nat
  | .mk _ _ ins => 1 + cntTs ins
def cntTs : List Ty → Nat
  | [] => 0
  | t :: ts => cntT t + cntTs ts
end
mutual
def cntV : Va → Nat
  | .mk _ bits items _ => 1 + bits.length / 8 + cntVs items
def cntVs : List Va → Nat
  | [] => 0
  | v :: vs => cntV v + cntVs vs
end
mutual
def chkT (d : Nat) : Ty → Nat
  | .mk k n ins => if k < 1 ∨ 8 < k then 9 else if formT k n ins.length = false then 2 else if 6 ≤ d then 7 else chkTs (d + 1) ins
def chkTs (d : Nat) : List Ty → Nat
  | [] => 0
  | t :: ts => if chkT d t ≠ 0 then chkT d t else chkTs d ts
end
mutual
def fixT : Ty → Bool
  | .mk k _ ins => if k = 4 ∨ k = 6 ∨ k = 8 then false else fixTs ins
def fixTs : List Ty → Bool
  | [] => true
  | t :: ts => if fixT t = false then false else fixTs ts
end
mutual
def szT : Ty → Nat
  | .mk k n ins => if k = 1 then n.toNat else if k = 2 then 1 else if k = 5 then (n.toNat + 7) / 8 else if k = 3 then n.toNat * szTs ins else szTs ins
def szTs : List Ty → Nat
  | [] => 0
  | t :: ts => szT t + szTs ts
end
def fixedT (t : Ty) : Bool := if chkT 0 t = 0 then fixT t else false
def sizeT (t : Ty) : Nat := if fixedT t = true then szT t else 0

def ofV (k n : Int) (m : Nat) : Va → Bool
  | .mk num bits items pick =>
    if k = 1 then bits.length == 0 && items.length == 0 && pick == 0 && decide (((tr (f32 num)).length : Int) ≤ n)
    else if k = 2 then bits.length == 0 && items.length == 0 && pick == 0 && (num == 0 || num == 1)
    else if k = 3 then num == 0 && bits.length == 0 && pick == 0 && decide ((items.length : Int) = n)
    else if k = 4 then num == 0 && bits.length == 0 && pick == 0
    else if k = 5 then num == 0 && items.length == 0 && pick == 0 && decide ((bits.length : Int) = n)
    else if k = 6 then num == 0 && items.length == 0 && pick == 0
    else if k = 7 then num == 0 && bits.length == 0 && pick == 0 && items.length == m
    else num == 0 && bits.length == 0 && items.length == 1 && decide (0 ≤ pick) && decide (pick < m)
/-- The type of an item, by its place. -/
def inT (k : Int) (ins : List Ty) (pick : Int) (i : Nat) : Ty := if k = 7 then ins[i]?.getD default else if k = 8 then ins[pick.toNat]?.getD default else ins[0]?.getD default
mutual
def fitV (t : Ty) : Va → Nat
  | .mk num bits items pick =>
    if (t.k = 4 ∧ t.n < items.length) ∨ (t.k = 6 ∧ t.n < bits.length) then 5
    else if ofV t.k t.n t.ins.length (.mk num bits items pick) = false then 2
    else fitVs t.k t.ins pick 0 items
def fitVs (k : Int) (ins : List Ty) (pick : Int) (i : Nat) : List Va → Nat
  | [] => 0
  | v :: vs => if fitV (inT k ins pick i) v ≠ 0 then fitV (inT k ins pick i) v else fitVs k ins pick (i + 1) vs
end
def fitsV (t : Ty) (v : Va) : Nat := if chkT 0 t = 0 then fitV t v else chkT 0 t
theorem chkTs_ok {d : Nat} : ∀ {ts : List Ty}, chkTs d ts = 0 ↔ ∀ t ∈ ts, chkT d t = 0
  | [] => by simp [chkTs]
  | t :: ts => by
    rw [chkTs]
    by_cases h : chkT d t = 0
    · rw [if_neg (by simp [h]), chkTs_ok]
      simp [h]
    · rw [if_pos h]
      simp [h]
theorem chkT_ok {d : Nat} {k n : Int} {ins : List Ty} : chkT d (.mk k n ins) = 0 ↔ (1 ≤ k ∧ k ≤ 8) ∧ formT k n ins.length = true ∧ d < 6 ∧ chkTs (d + 1) ins = 0 := by
  rw [chkT]
  by_cases h1 : k < 1 ∨ 8 < k
  · rw [if_pos h1]; constructor
    · intro h; cases h
    · rintro ⟨h, _⟩; omega
  · rw [if_neg h1]
    by_cases h2 : formT k n ins.length = false
    · rw [if_pos h2]; constructor
      · intro h; cases h
      · rintro ⟨_, h, _⟩; rw [h2] at h; cases h
    · rw [if_neg h2]
      by_cases h3 : 6 ≤ d
      · rw [if_pos h3]; constructor
        · intro h; cases h
        · rintro ⟨_, _, h, _⟩; omega
      · rw [if_neg h3]
        rw [Bool.not_eq_false] at h2
        constructor
        · intro h; exact ⟨by omega, h2, by omega, h⟩
        · rintro ⟨_, _, _, h⟩; exact h
theorem fixTs_ok : ∀ {ts : List Ty}, fixTs ts = true ↔ ∀ t ∈ ts, fixT t = true
  | [] => by simp [fixTs]
  | t :: ts => by
    rw [fixTs]
    by_cases h : fixT t = true
    · rw [if_neg (by simp [h]), fixTs_ok]
      simp [h]
    · rw [if_pos (by simpa using h)]
      simp [h]
/-- As deep, or less deep. -/
theorem chkT_mono : ∀ (t : Ty) (d e : Nat), chkT d t = 0 → e ≤ d → chkT e t = 0
  | .mk k n ins, d, e, h, hed => by
    obtain ⟨h1, h2, h3, h4⟩ := chkT_ok.1 h
    exact chkT_ok.2 ⟨h1, h2, by omega, chkTs_ok.2 fun t ht => chkT_mono t (d + 1) (e + 1) (chkTs_ok.1 h4 t ht) (by omega)⟩
termination_by t => SizeOf.sizeOf t
decreasing_by have := List.sizeOf_lt_of_mem ht; simp; omega
/-- What stands in a type that is one is one. -/
theorem chkT_in {k n : Int} {ins : List Ty} {t : Ty} (h : chkT 0 (.mk k n ins) = 0) (ht : t ∈ ins) : chkT 0 t = 0 :=
  chkT_mono t 1 0 (chkTs_ok.1 (chkT_ok.1 h).2.2.2 t ht) (by omega)
/-- How many bytes at most: so that no sum is too great. -/
theorem szT_most : ∀ (t : Ty) (d : Nat), chkT d t = 0 → szT t ≤ 64 * 512 ^ (6 - d)
  | .mk k n ins, d, h => by
    obtain ⟨h1, h2, h3, h4⟩ := chkT_ok.1 h
    have hin : ∀ t ∈ ins, szT t ≤ 64 * 512 ^ (6 - (d + 1)) := fun t ht => szT_most t (d + 1) (chkTs_ok.1 h4 t ht)
    have hsum : szTs ins ≤ ins.length * (64 * 512 ^ (6 - (d + 1))) := by
      have : ∀ ts : List Ty, (∀ t ∈ ts, szT t ≤ 64 * 512 ^ (6 - (d + 1))) → szTs ts ≤ ts.length * (64 * 512 ^ (6 - (d + 1))) := fun ts => by
        induction ts with
        | nil => intro _; simp [szTs]
        | cons t ts ih =>
          intro hm
          have g1 := hm t (by simp)
          have g2 := ih fun u hu => hm u (by simp [hu])
          rw [szTs, List.length_cons, Nat.add_mul]
          omega
      exact this ins hin
    have hpow : 512 ^ (6 - d) = 512 ^ (6 - (d + 1)) * 512 := by
      rw [show 6 - d = (6 - (d + 1)) + 1 by omega, Nat.pow_succ]
    have hpos : 1 ≤ 512 ^ (6 - (d + 1)) := Nat.one_le_pow _ _ (by omega)
    rw [hpow]
    generalize 512 ^ (6 - (d + 1)) = p at *
    unfold formT at h2
    rw [szT]
    split
    · rename_i e
      rw [if_pos e] at h2
      simp at h2
      rcases h2.2 with (((h | h) | h) | h) | h <;> omega
    · rename_i e1
      rw [if_neg e1] at h2
      split
      · omega
      · rename_i e2
        rw [if_neg e2] at h2
        split
        · rename_i e
          rw [if_neg (by omega), if_pos (by omega)] at h2
          simp at h2
          omega
        · rename_i e5
          split
          · rename_i e3
            rw [if_pos (by omega)] at h2
            simp at h2
            have h7 : ins.length = 1 := h2.1.1
            rw [h7, Nat.one_mul] at hsum
            have h8 : n.toNat ≤ 512 := by omega
            calc n.toNat * szTs ins ≤ 512 * (64 * p) := Nat.mul_le_mul h8 hsum
              _ = 64 * (p * 512) := by omega
          · rename_i e3
            have hl : ins.length ≤ 512 := by
              simp only [Bool.and_eq_true, beq_iff_eq, decide_eq_true_eq, Bool.ite_eq_true_distrib] at h2
              split at h2
              · omega
              · split at h2
                · omega
                · split at h2 <;> omega
            calc szTs ins ≤ ins.length * (64 * p) := hsum
              _ ≤ 512 * (64 * p) := Nat.mul_le_mul_right _ hl
              _ = 64 * (p * 512) := by omega
termination_by t => SizeOf.sizeOf t
decreasing_by have := List.sizeOf_lt_of_mem ht; simp; omega
end Go.Proofs.YtaajkbclojmbeaaGreatDoor.M
namespace Go.Proofs.YtaajkbclojmbeaaGreatDoor.M
open Go

theorem fitV_eq (k n : Int) (ins : List Ty) (num : Nat) (bits : List Bool) (items : List Va) (pick : Int) : fitV (.mk k n ins) (.mk num bits items pick) =
    if (k = 4 ∧ n < items.length) ∨ (k = 6 ∧ n < bits.length) then 5 else if ofV k n ins.length (.mk num bits items pick) = false then 2 else fitVs k ins pick 0 items := by
  rw [fitV]
  rfl

theorem fitsV_in {t : Ty} {v : Va} (h : chkT 0 t = 0) : fitsV t v = fitV t v := by rw [fitsV, if_pos h]
theorem fitsV_fits {t : Ty} {v : Va} (h : fitsV t v = 0) : chkT 0 t = 0 := by
  rw [fitsV] at h
  by_cases h1 : chkT 0 t = 0
  · exact h1
  · rw [if_neg h1] at h; exact h

/-! Fixed types. -/
theorem fixedT_ok {t : Ty} : fixedT t = true ↔ chkT 0 t = 0 ∧ fixT t = true := by
  unfold fixedT
  split <;> simp_all
theorem sizeT_fix {t : Ty} (h : fixedT t = true) : sizeT t = szT t := by rw [sizeT, if_pos h]
theorem sizeT_non {t : Ty} (h : fixedT t = false) : sizeT t = 0 := by rw [sizeT, if_neg (by simp [h])]
theorem fixedT_none {t : Ty} (h : chkT 0 t ≠ 0) : fixedT t = false := by rw [fixedT, if_neg h]
theorem fixedT_parts {k n : Int} {ins : List Ty} (hc : chkT 0 (.mk k n ins) = 0) (hk : ¬ (k = 4 ∨ k = 6 ∨ k = 8)) : fixedT (.mk k n ins) = ins.all fixedT := by
  rw [Bool.eq_iff_iff, List.all_eq_true, fixedT_ok, fixT, if_neg hk, fixTs_ok]
  constructor
  · rintro ⟨_, h⟩ x hx
    exact fixedT_ok.2 ⟨chkT_in hc hx, h x hx⟩
  · intro h
    exact ⟨hc, fun x hx => (fixedT_ok.1 (h x hx)).2⟩
end Go.Proofs.YtaajkbclojmbeaaGreatDoor.M
namespace Go.Proofs.YtaajkbclojmbeaaGreatDoor.M
open Go

theorem row_next {α : Type} {xs : List α} {k : Nat} {x : α} (h : xs[k]? = some x) : xs.take (k + 1) = xs.take k ++ [x] := by rw [List.take_add_one, h]; rfl
theorem row_parts {α : Type} {xs : List α} {k : Nat} {x : α} (h : xs[k]? = some x) : ∃ ys, xs = xs.take k ++ x :: ys :=
  ⟨xs.drop (k + 1), by
    have hk := (List.getElem?_eq_some_iff.1 h).1
    have hx := (List.getElem?_eq_some_iff.1 h).2
    rw [← hx, ← List.drop_eq_getElem_cons hk, List.take_append_drop]⟩

theorem cntT_pos (x : Ty) : 1 ≤ cntT x := by cases x; rw [cntT]; omega
theorem length_cntT : ∀ xs : List Ty, xs.length ≤ cntTs xs
  | [] => Nat.zero_le _
  | x :: xs => by
    rw [cntTs, List.length_cons]
    have h1 := cntT_pos x
    have h2 := length_cntT xs
    omega
theorem cntTs_append (xs ys : List Ty) : cntTs (xs ++ ys) = cntTs xs + cntTs ys := by
  induction xs with
  | nil => simp [cntTs]
  | cons x xs ih => rw [List.cons_append, cntTs, cntTs, ih, Nat.add_assoc]
theorem cntTs_next {xs : List Ty} {k : Nat} {x : Ty} (h : xs[k]? = some x) : cntTs (xs.take (k + 1)) = cntTs (xs.take k) + cntT x := by
  rw [row_next h, cntTs_append]; simp [cntTs]
theorem cntT_part : ∀ {xs : List Ty} {x : Ty}, x ∈ xs → cntT x ≤ cntTs xs
  | y :: ys, x, h => by
    rw [cntTs]
    rcases List.mem_cons.1 h with rfl | h
    · omega
    · have := cntT_part h; omega
theorem cntV_pos (x : Va) : 1 ≤ cntV x := by cases x; rw [cntV]; omega
theorem length_cntV : ∀ xs : List Va, xs.length ≤ cntVs xs
  | [] => Nat.zero_le _
  | x :: xs => by
    rw [cntVs, List.length_cons]
    have h1 := cntV_pos x
    have h2 := length_cntV xs
    omega
theorem cntVs_append (xs ys : List Va) : cntVs (xs ++ ys) = cntVs xs + cntVs ys := by
  induction xs with
  | nil => simp [cntVs]
  | cons x xs ih => rw [List.cons_append, cntVs, cntVs, ih, Nat.add_assoc]
theorem cntVs_next {xs : List Va} {k : Nat} {x : Va} (h : xs[k]? = some x) : cntVs (xs.take (k + 1)) = cntVs (xs.take k) + cntV x := by
  rw [row_next h, cntVs_append]; simp [cntVs]
theorem cntV_part : ∀ {xs : List Va} {x : Va}, x ∈ xs → cntV x ≤ cntVs xs
  | y :: ys, x, h => by
    rw [cntVs]
    rcases List.mem_cons.1 h with rfl | h
    · omega
    · have := cntV_part h; omega

theorem chkTs_append (d : Nat) (xs ys : List Ty) : chkTs d (xs ++ ys) = if chkTs d xs ≠ 0 then chkTs d xs else chkTs d ys := by
  induction xs with
  | nil => simp [chkTs]
  | cons x xs ih =>
    rw [List.cons_append, chkTs, chkTs, ih]
    by_cases h1 : chkT d x ≠ 0
    · rw [if_pos h1, if_pos h1, if_pos h1]
    · rw [if_neg h1, if_neg h1]
theorem chkTs_next {d : Nat} {xs : List Ty} {k : Nat} {x : Ty} (h : xs[k]? = some x) (h0 : chkTs d (xs.take k) = 0) : chkTs d (xs.take (k + 1)) = chkT d x := by
  rw [row_next h, chkTs_append, h0, if_neg (by simp), chkTs, chkTs]
  by_cases h1 : chkT d x ≠ 0
  · rw [if_pos h1]
  · rw [if_neg h1]; omega
theorem chkTs_first {d : Nat} {xs : List Ty} {k : Nat} {x : Ty} (h : xs[k]? = some x) (h0 : chkTs d (xs.take k) = 0) (h1 : chkT d x ≠ 0) : chkTs d xs = chkT d x := by
  obtain ⟨ys, e⟩ := row_parts h
  rw [e, chkTs_append, h0, if_neg (by simp), chkTs, if_pos h1]
theorem fixTs_append (xs ys : List Ty) : fixTs (xs ++ ys) = (fixTs xs && fixTs ys) := by
  induction xs with
  | nil => simp [fixTs]
  | cons x xs ih =>
    rw [List.cons_append, fixTs, fixTs, ih]
    cases fixT x <;> simp
theorem fixTs_next {xs : List Ty} {k : Nat} {x : Ty} (h : xs[k]? = some x) (h0 : fixTs (xs.take k) = true) : fixTs (xs.take (k + 1)) = fixT x := by
  rw [row_next h, fixTs_append, h0, fixTs, fixTs]
  cases fixT x <;> rfl
theorem fixTs_first {xs : List Ty} {k : Nat} {x : Ty} (h : xs[k]? = some x) (h1 : fixT x = false) : fixTs xs = false := by
  obtain ⟨ys, e⟩ := row_parts h
  rw [e, fixTs_append, fixTs, h1]
  simp
theorem szTs_append (xs ys : List Ty) : szTs (xs ++ ys) = szTs xs + szTs ys := by
  induction xs with
  | nil => simp [szTs]
  | cons x xs ih => rw [List.cons_append, szTs, szTs, ih, Nat.add_assoc]
theorem szTs_next {xs : List Ty} {k : Nat} {x : Ty} (h : xs[k]? = some x) : szTs (xs.take (k + 1)) = szTs (xs.take k) + szT x := by
  rw [row_next h, szTs_append]; simp [szTs]
theorem szTs_part (xs : List Ty) (k : Nat) : szTs (xs.take k) ≤ szTs xs := by
  have := szTs_append (xs.take k) (xs.drop k)
  rw [List.take_append_drop] at this
  omega
theorem fitVs_append (k : Int) (ins : List Ty) (pick : Int) (i : Nat) (xs ys : List Va) : fitVs k ins pick i (xs ++ ys) = if fitVs k ins pick i xs ≠ 0 then fitVs k ins pick i xs else fitVs k ins pick (i + xs.length) ys := by
  induction xs generalizing i with
  | nil => simp [fitVs]
  | cons x xs ih =>
    rw [List.cons_append, fitVs, fitVs, ih]
    by_cases h1 : fitV (inT k ins pick i) x ≠ 0
    · rw [if_pos h1, if_pos h1, if_pos h1]
    · rw [if_neg h1, if_neg h1, List.length_cons, show i + 1 + xs.length = i + (xs.length + 1) by omega]
theorem fitVs_next {k : Int} {ins : List Ty} {pick : Int} {xs : List Va} {j : Nat} {x : Va} (h : xs[j]? = some x) (h0 : fitVs k ins pick 0 (xs.take j) = 0) : fitVs k ins pick 0 (xs.take (j + 1)) = fitV (inT k ins pick j) x := by
  have hk := (List.getElem?_eq_some_iff.1 h).1
  rw [row_next h, fitVs_append, h0, if_neg (by simp), fitVs, fitVs, List.length_take, show 0 + min j xs.length = j by omega]
  by_cases h1 : fitV (inT k ins pick j) x ≠ 0
  · rw [if_pos h1]
  · rw [if_neg h1]; omega
theorem fitVs_first {k : Int} {ins : List Ty} {pick : Int} {xs : List Va} {j : Nat} {x : Va} (h : xs[j]? = some x) (h0 : fitVs k ins pick 0 (xs.take j) = 0) (h1 : fitV (inT k ins pick j) x ≠ 0) : fitVs k ins pick 0 xs = fitV (inT k ins pick j) x := by
  have hk := (List.getElem?_eq_some_iff.1 h).1
  obtain ⟨ys, e⟩ := row_parts h
  have hl : (xs.take j).length = j := by rw [List.length_take]; omega
  generalize xs.take j = zs at *
  subst e
  rw [fitVs_append, h0, if_neg (by simp), fitVs, hl, Nat.zero_add, if_pos h1]
end Go.Proofs.YtaajkbclojmbeaaGreatDoor.M
namespace Go.Proofs.YtaajkbclojmbeaaGreatDoor.M
open Go

mutual
def flat (d : Nat) : Ty → List (Nat × Ty)
  | .mk k n ins => (d, .mk k n ins) :: flats (d + 1) ins
def flats (d : Nat) : List Ty → List (Nat × Ty)
  | [] => []
  | t :: ts => flat d t ++ flats d ts
end
theorem flats_append (d : Nat) (xs ys : List Ty) : flats d (xs ++ ys) = flats d xs ++ flats d ys := by
  induction xs with
  | nil => simp [flats]
  | cons x xs ih => rw [List.cons_append, flats, flats, ih, List.append_assoc]
theorem flats_next {d : Nat} {xs : List Ty} {k : Nat} {x : Ty} (h : xs[k]? = some x) : flats d (xs.take (k + 1)) = flats d (xs.take k) ++ flat d x := by
  rw [row_next h, flats_append]; simp [flats]
theorem flats_part {d : Nat} {xs : List Ty} {k : Nat} {x : Ty} (h : xs[k]? = some x) : ∃ zs, flats d xs = flats d (xs.take k) ++ flat d x ++ zs := by
  obtain ⟨ys, e⟩ := row_parts h
  exact ⟨flats d ys, by
    generalize hz : xs.take k = zs at *
    subst e
    rw [flats_append, flats, List.append_assoc]⟩

/-- What is wrong with a type itself, that stands in so many. -/
def ownE (p : Nat × Ty) : Nat := match p.2 with
  | .mk k n ins => if k < 1 ∨ 8 < k then 9 else if formT k n ins.length = false then 2 else if p.1 = 6 then 7 else 0
/-- The first that is not nought. -/
def fstE : List (Nat × Ty) → Nat
  | [] => 0
  | p :: ps => if ownE p ≠ 0 then ownE p else fstE ps
theorem fstE_append (xs ys : List (Nat × Ty)) : fstE (xs ++ ys) = if fstE xs ≠ 0 then fstE xs else fstE ys := by
  induction xs with
  | nil => simp [fstE]
  | cons x xs ih =>
    rw [List.cons_append, fstE, fstE, ih]
    by_cases h1 : ownE x ≠ 0
    · rw [if_pos h1, if_pos h1, if_pos h1]
    · rw [if_neg h1, if_neg h1]
theorem fstE_ok : ∀ {xs : List (Nat × Ty)}, fstE xs = 0 ↔ ∀ x ∈ xs, ownE x = 0
  | [] => by simp [fstE]
  | x :: xs => by
    rw [fstE]
    by_cases h1 : ownE x ≠ 0
    · rw [if_pos h1]
      constructor
      · intro h; exact absurd h h1
      · intro h; exact absurd (h x (by simp)) h1
    · rw [if_neg h1, fstE_ok]
      have h1 : ownE x = 0 := by omega
      simp [h1]
mutual
theorem chkT_flat : ∀ (t : Ty) (d : Nat), d ≤ 6 → chkT d t = fstE (flat d t)
  | .mk k n ins, d, hd => by
    rw [chkT, flat, fstE, ownE]
    by_cases h1 : k < 1 ∨ 8 < k
    · simp [h1]
    · by_cases h2 : formT k n ins.length = false
      · simp [h1, h2]
      · by_cases h3 : d = 6
        · simp [h1, h2, h3]
        · have h4 : ¬ 6 ≤ d := by omega
          have h5 := chkTs_flat ins (d + 1) (by omega)
          simp only [if_neg h1, if_neg h2, if_neg h3, if_neg h4, h5]
          simp
theorem chkTs_flat : ∀ (ts : List Ty) (d : Nat), d ≤ 6 → chkTs d ts = fstE (flats d ts)
  | [], d, _ => by simp [chkTs, flats, fstE]
  | t :: ts, d, hd => by rw [chkTs, flats, fstE_append, chkT_flat t d hd, chkTs_flat ts d hd]
end
theorem chk_all {t : Ty} {d : Nat} (hd : d ≤ 6) : chkT d t = 0 ↔ ∀ y ∈ flat d t, ownE y = 0 := by rw [chkT_flat t d hd, fstE_ok]
theorem chk_first {t : Ty} {d : Nat} (hd : d ≤ 6) {ys zs : List (Nat × Ty)} {y : Nat × Ty} (h : flat d t = ys ++ y :: zs) (h0 : ∀ x ∈ ys, ownE x = 0) (h1 : ownE y ≠ 0) : chkT d t = ownE y := by
  rw [chkT_flat t d hd, h, fstE_append, if_neg (by rw [fstE_ok.2 h0]; simp), fstE, if_pos h1]
/-- Of a type that is one: what stands in it stands no deeper than it may. -/
theorem flat_deep : ∀ (t : Ty) (d : Nat), chkT d t = 0 → ∀ y ∈ flat d t, d ≤ y.1 ∧ y.1 < 6 ∧ (∃ e, chkT e y.2 = 0)
  | .mk k n ins, d, h, y, hy => by
    rw [flat, List.mem_cons] at hy
    have hk := chkT_ok.1 h
    rcases hy with rfl | hy
    · exact ⟨Nat.le_refl _, hk.2.2.1, d, h⟩
    · have key : ∀ ts : List Ty, (∀ t ∈ ts, t ∈ ins) → y ∈ flats (d + 1) ts → ∃ t ∈ ts, y ∈ flat (d + 1) t := fun ts => by
        induction ts with
        | nil => intro _ h; simp [flats] at h
        | cons t ts ih =>
          intro hm h
          rw [flats, List.mem_append] at h
          rcases h with h | h
          · exact ⟨t, by simp, h⟩
          · obtain ⟨u, hu, h⟩ := ih (fun v hv => hm v (by simp [hv])) h
            exact ⟨u, by simp [hu], h⟩
      obtain ⟨t, ht, hy⟩ := key ins (fun _ h => h) hy
      obtain ⟨h1, h2, h3⟩ := flat_deep t (d + 1) (chkTs_ok.1 hk.2.2.2 t ht) y hy
      exact ⟨by omega, h2, h3⟩
termination_by t => SizeOf.sizeOf t
decreasing_by have := List.sizeOf_lt_of_mem ht; simp; omega

/-- Is a type itself fixed? -/
def isFix (p : Nat × Ty) : Bool := !(p.2.k == 4 || p.2.k == 6 || p.2.k == 8)
mutual
theorem fixT_flat : ∀ (t : Ty) (d : Nat), fixT t = (flat d t).all isFix
  | .mk k n ins, d => by
    rw [fixT, flat, List.all_cons, isFix, fixTs_flat ins (d + 1)]
    by_cases h1 : k = 4 ∨ k = 6 ∨ k = 8
    · rw [if_pos h1]
      rcases h1 with rfl | rfl | rfl <;> simp [Ty.k]
    · rw [if_neg h1]
      have : (k == 4 || k == 6 || k == 8) = false := by simp; omega
      simp [Ty.k, this]
theorem fixTs_flat : ∀ (ts : List Ty) (d : Nat), fixTs ts = (flats d ts).all isFix
  | [], d => by simp [fixTs, flats]
  | t :: ts, d => by
    rw [fixTs, flats, List.all_append, ← fixT_flat t d, ← fixTs_flat ts d]
    cases fixT t <;> simp
end
end Go.Proofs.YtaajkbclojmbeaaGreatDoor.M
namespace Go.Proofs.YtaajkbclojmbeaaGreatDoor.M
open Go

def oneN : Ty → Nat
  | .mk k n _ => if k = 1 then n.toNat else if k = 2 then 1 else if k = 5 then (n.toNat + 7) / 8 else 0
def eachN : Ty → Nat
  | .mk k n _ => if k = 3 then n.toNat else if k = 7 then 1 else 0
/-- So much till now; so many at each depth. -/
abbrev St := Nat × (Nat → Nat)
def stp (s : St) (p : Nat × Ty) : St := (s.1 + s.2 p.1 * oneN p.2, fun i => if i = p.1 + 1 then s.2 p.1 * eachN p.2 else s.2 i)
def st0 : St := (0, fun i => if i = 0 then 1 else 0)

theorem szT_one {k n : Int} {ins : List Ty} (h : chkT 0 (.mk k n ins) = 0 ∨ ∃ e, chkT e (.mk k n ins) = 0) (hf : fixT (.mk k n ins) = true) : szT (.mk k n ins) = oneN (.mk k n ins) + eachN (.mk k n ins) * szTs ins := by
  have hk : (1 ≤ k ∧ k ≤ 8) ∧ formT k n ins.length = true := by
    rcases h with h | ⟨e, h⟩
    · exact ⟨(chkT_ok.1 h).1, (chkT_ok.1 h).2.1⟩
    · exact ⟨(chkT_ok.1 h).1, (chkT_ok.1 h).2.1⟩
  have hnil : ins.length = 0 → szTs ins = 0 := fun h => by rw [List.eq_nil_of_length_eq_zero h]; rfl
  rw [fixT] at hf
  by_cases h4 : k = 4 ∨ k = 6 ∨ k = 8
  · rw [if_pos h4] at hf; cases hf
  · rw [szT, oneN, eachN]
    obtain ⟨⟨h1, h2⟩, h3⟩ := hk
    unfold formT at h3
    by_cases e1 : k = 1
    · subst e1; simp
    · by_cases e2 : k = 2
      · subst e2; simp
      · by_cases e3 : k = 3
        · subst e3; simp
        · by_cases e5 : k = 5
          · subst e5; simp
          · obtain rfl : k = 7 := by omega
            simp

theorem foldl_more : ∀ (L : List (Nat × Ty)) (s : St), s.1 ≤ (L.foldl stp s).1
  | [], _ => Nat.le_refl _
  | p :: L, s => Nat.le_trans (Nat.le_add_right _ _) (foldl_more L (stp s p))
mutual
theorem flat_sum : ∀ (t : Ty) (d e : Nat) (s : St), chkT e t = 0 → fixT t = true → ((flat d t).foldl stp s).1 = s.1 + s.2 d * szT t ∧ ∀ i, i ≤ d → ((flat d t).foldl stp s).2 i = s.2 i
  | .mk k n ins, d, e, s, hc, hf => by
    have hsz := szT_one (.inr ⟨e, hc⟩) hf
    have hfs : fixTs ins = true := by
      rw [fixT] at hf
      by_cases h4 : k = 4 ∨ k = 6 ∨ k = 8
      · rw [if_pos h4] at hf; cases hf
      · rwa [if_neg h4] at hf
    obtain ⟨h1, h2⟩ := flats_sum ins (d + 1) (e + 1) (stp s (d, .mk k n ins)) (chkT_ok.1 hc).2.2.2 hfs
    rw [flat, List.foldl_cons]
    refine ⟨?_, fun i hi => ?_⟩
    · rw [h1, hsz]
      simp only [stp, if_true]
      rw [Nat.mul_add, Nat.mul_assoc, Nat.add_assoc]
    · rw [h2 i (by omega)]
      simp only [stp]
      rw [if_neg (by omega)]
theorem flats_sum : ∀ (ts : List Ty) (d e : Nat) (s : St), chkTs e ts = 0 → fixTs ts = true → ((flats d ts).foldl stp s).1 = s.1 + s.2 d * szTs ts ∧ ∀ i, i ≤ d → ((flats d ts).foldl stp s).2 i = s.2 i
  | [], d, e, s, _, _ => by simp [flats, szTs]
  | t :: ts, d, e, s, hc, hf => by
    have hc' := chkTs_ok.1 hc
    have hf' := fixTs_ok.1 hf
    obtain ⟨h1, h2⟩ := flat_sum t d e s (hc' t (by simp)) (hf' t (by simp))
    obtain ⟨h3, h4⟩ := flats_sum ts d e ((flat d t).foldl stp s) (chkTs_ok.2 fun u hu => hc' u (by simp [hu])) (fixTs_ok.2 fun u hu => hf' u (by simp [hu]))
    rw [flats, List.foldl_append]
    refine ⟨?_, fun i hi => (h4 i hi).trans (h2 i hi)⟩
    rw [h3, h1, h2 d (Nat.le_refl _), szTs, Nat.mul_add, Nat.add_assoc]
end
/-- All of it. -/
theorem flat_size {t : Ty} (hc : chkT 0 t = 0) (hf : fixT t = true) : ((flat 0 t).foldl stp st0).1 = szT t := by
  have := (flat_sum t 0 0 st0 hc hf).1
  simpa [st0] using this

/-- How many items at most. -/
theorem each_most {p : Nat × Ty} (h : ∃ e, chkT e p.2 = 0) : eachN p.2 ≤ 512 ∧ oneN p.2 ≤ 64 := by
  obtain ⟨d, ⟨k, n, ins⟩⟩ := p
  obtain ⟨e, h⟩ := h
  have hk := (chkT_ok.1 h).2.1
  have h8 := (chkT_ok.1 h).1
  unfold formT at hk
  show eachN (.mk k n ins) ≤ 512 ∧ oneN (.mk k n ins) ≤ 64
  rw [eachN, oneN]
  by_cases e1 : k = 1
  · subst e1; simp at hk ⊢; rcases hk.2 with (((h | h) | h) | h) | h <;> omega
  · by_cases e2 : k = 2
    · subst e2; simp
    · by_cases e3 : k = 3
      · subst e3; simp at hk ⊢; omega
      · by_cases e5 : k = 5
        · subst e5; simp at hk ⊢; omega
        · by_cases e7 : k = 7
          · subst e7; simp
          · simp [e1, e2, e3, e5, e7]
theorem many_most : ∀ (L : List (Nat × Ty)) (s : St), (∀ p ∈ L, ∃ e, chkT e p.2 = 0) → (∀ i, s.2 i ≤ 512 ^ i) → ∀ i, (L.foldl stp s).2 i ≤ 512 ^ i
  | [], _, _, h => h
  | p :: L, s, hL, h => by
    refine many_most L (stp s p) (fun q hq => hL q (by simp [hq])) fun i => ?_
    simp only [stp]
    by_cases hi : i = p.1 + 1
    · rw [if_pos hi, hi, Nat.pow_succ]
      exact Nat.mul_le_mul (h p.1) (each_most (hL p (by simp))).1
    · rw [if_neg hi]; exact h i
/-- What a round reckons with. -/
theorem round_most {t : Ty} (hc : chkT 0 t = 0) (hf : fixT t = true) {ys zs : List (Nat × Ty)} {y : Nat × Ty} (h : flat 0 t = ys ++ y :: zs) :
    y.1 < 6 ∧ (∃ e, chkT e y.2 = 0) ∧ fixT t = true ∧ isFix y = true ∧ (ys.foldl stp st0).1 ≤ 1152921504606846976 ∧ (ys.foldl stp st0).2 y.1 * oneN y.2 ≤ 2251799813685248 ∧ (ys.foldl stp st0).2 y.1 * eachN y.2 ≤ 18014398509481984 ∧ (ys.foldl stp st0).1 + (ys.foldl stp st0).2 y.1 * oneN y.2 ≤ 1152921504606846976 ∧ oneN y.2 ≤ 64 ∧ eachN y.2 ≤ 512 ∧ (ys.foldl stp st0).2 y.1 ≤ 35184372088832 := by
  have hd := fun p hp => flat_deep t 0 hc p hp
  obtain ⟨_, h6, he⟩ := hd y (by rw [h]; simp)
  have hsz := flat_size hc hf
  have hm := szT_most t 0 hc
  rw [h, List.foldl_append, List.foldl_cons] at hsz
  have g1 := foldl_more zs (stp (ys.foldl stp st0) y)
  rw [hsz] at g1
  have g2 : (stp (ys.foldl stp st0) y).1 = (ys.foldl stp st0).1 + (ys.foldl stp st0).2 y.1 * oneN y.2 := rfl
  rw [g2] at g1
  have g3 := many_most ys st0 (fun p hp => (hd p (by rw [h]; simp [hp])).2.2) (fun i => by
    simp only [st0]
    by_cases hi : i = 0
    · rw [if_pos hi]; exact Nat.one_le_pow _ _ (by omega)
    · rw [if_neg hi]; exact Nat.zero_le _) y.1
  have g4 : 512 ^ y.1 ≤ 512 ^ 5 := Nat.pow_le_pow_right (by omega) (by omega)
  obtain ⟨g5, g6⟩ := each_most he
  have hp5 : (512 : Nat) ^ 5 = 35184372088832 := by decide
  have hp6 : (64 : Nat) * 512 ^ (6 - 0) = 1152921504606846976 := by decide
  have g7 : (ys.foldl stp st0).2 y.1 ≤ 35184372088832 := by omega
  refine ⟨h6, he, hf, ?_, by omega, ?_, ?_, by omega, g6, g5, g7⟩
  · have := hf
    rw [fixT_flat t 0, h, List.all_append, List.all_cons] at this
    simp at this
    exact this.2.1
  · exact Nat.le_trans (Nat.mul_le_mul g7 g6) (by decide)
  · exact Nat.le_trans (Nat.mul_le_mul g7 g5) (by decide)
end Go.Proofs.YtaajkbclojmbeaaGreatDoor.M
namespace Go.Proofs.YtaajkbclojmbeaaGreatDoor.M
open Go

/-- The number of bytes, the lowest one first. -/
def led : List UInt8 → Nat
  | [] => 0
  | c :: l => c.toNat + 256 * led l
/-- k bytes of a number, the lowest one first. -/
def le : Nat → Nat → List UInt8
  | 0, _ => []
  | k + 1, N => UInt8.ofNat (N % 256) :: le k (N / 256)
theorem le_length (k N : Nat) : (le k N).length = k := by
  induction k generalizing N with
  | zero => rfl
  | succ k ih => simp [le, ih]
theorem led_lt (l : List UInt8) : led l < 256 ^ l.length := by
  induction l with
  | nil => simp [led]
  | cons c l ih =>
    have := c.toNat_lt
    simp only [led, List.length_cons, Nat.pow_succ]
    omega
theorem led_le (k N : Nat) (h : N < 256 ^ k) : led (le k N) = N := by
  induction k generalizing N with
  | zero => simp at h; subst h; rfl
  | succ k ih =>
    rw [le, led, ih _ (by rw [Nat.pow_succ] at h; omega)]
    have : (UInt8.ofNat (N % 256)).toNat = N % 256 := by simp
    omega
theorem le_led (l : List UInt8) : le l.length (led l) = l := by
  induction l with
  | nil => rfl
  | cons c l ih =>
    have hc := c.toNat_lt
    simp only [List.length_cons, le, led]
    rw [show (c.toNat + 256 * led l) / 256 = led l by omega, show (c.toNat + 256 * led l) % 256 = c.toNat by omega, ih]
    simp
theorem le_get (k N i : Nat) (h : i < k) : (le k N).getD i 0 = UInt8.ofNat (N / 256 ^ i % 256) := by
  induction k generalizing N i with
  | zero => omega
  | succ k ih =>
    cases i with
    | zero => simp [le]
    | succ i =>
      simp only [le, List.getD_cons_succ]
      rw [ih _ _ (by omega), Nat.div_div_eq_div_mul, Nat.pow_succ, Nat.mul_comm]

/-- What is read of at most 8 bytes: the number, and the error's. -/
def ub (l : List UInt8) : Nat × Nat := if 8 < l.length then (0, 5) else if Lib.hasPrefix l [0] then (0, 8) else (dg l, 0)
/-- What is read of 1 to 8 bytes, the lowest one first. -/
def ul (l : List UInt8) : Nat × Nat := if 1 ≤ l.length ∧ l.length ≤ 8 then (led l, 0) else (0, 2)
/-- What is written of so many bytes. -/
def lw (N : Nat) (width : Int) : List UInt8 × Nat := if 1 ≤ width ∧ width ≤ 8 ∧ (tr (f32 N)).length ≤ width then (le width.toNat N, 0) else ([], 1)

end Go.Proofs.YtaajkbclojmbeaaGreatDoor.M
namespace Go.Proofs.YtaajkbclojmbeaaGreatDoor.M
open Go

/-- The number of eight bits, the first one the lowest. -/
def bn (f : Nat → Bool) : Nat := (f 0).toNat + 2 * (f 1).toNat + 4 * (f 2).toNat + 8 * (f 3).toNat + 16 * (f 4).toNat + 32 * (f 5).toNat + 64 * (f 6).toNat + 128 * (f 7).toNat
theorem bn_lt (f : Nat → Bool) : bn f < 256 := by
  have h : ∀ b : Bool, b.toNat ≤ 1 := fun b => by cases b <;> decide
  have := h (f 0); have := h (f 1); have := h (f 2); have := h (f 3); have := h (f 4); have := h (f 5); have := h (f 6); have := h (f 7)
  unfold bn
  omega
theorem bit_eight : ∀ b0 b1 b2 b3 b4 b5 b6 b7 : Bool, ∀ i : Fin 8, (b0.toNat + 2 * b1.toNat + 4 * b2.toNat + 8 * b3.toNat + 16 * b4.toNat + 32 * b5.toNat + 64 * b6.toNat + 128 * b7.toNat) / 2 ^ i.val % 2 = (match i with | 0 => b0 | 1 => b1 | 2 => b2 | 3 => b3 | 4 => b4 | 5 => b5 | 6 => b6 | 7 => b7).toNat := by
  decide +kernel
theorem bn_bit (f : Nat → Bool) (i : Nat) (hi : i < 8) : bn f / 2 ^ i % 2 = (f i).toNat := by
  have := bit_eight (f 0) (f 1) (f 2) (f 3) (f 4) (f 5) (f 6) (f 7) ⟨i, hi⟩
  unfold bn
  rw [this]
  match i, hi with
  | 0, _ => rfl
  | 1, _ => rfl
  | 2, _ => rfl
  | 3, _ => rfl
  | 4, _ => rfl
  | 5, _ => rfl
  | 6, _ => rfl
  | 7, _ => rfl
/-- The bit of a number, at a place. -/
def nb (c i : Nat) : Bool := c / 2 ^ i % 2 == 1
theorem bool_nat (b : Bool) : (b.toNat == 1) = b := by cases b <;> rfl
theorem nb_bn (f : Nat → Bool) {i : Nat} (hi : i < 8) : nb (bn f) i = f i := by unfold nb; rw [bn_bit f i hi, bool_nat]
theorem bn_nb_fin : ∀ c : Fin 256, bn (nb c.val) = c.val := by decide +kernel
theorem bn_nb {c : Nat} (h : c < 256) : bn (nb c) = c := bn_nb_fin ⟨c, h⟩
theorem bn_ext {f g : Nat → Bool} (h : ∀ i, i < 8 → f i = g i) : bn f = bn g := by
  unfold bn
  rw [h 0 (by omega), h 1 (by omega), h 2 (by omega), h 3 (by omega), h 4 (by omega), h 5 (by omega), h 6 (by omega), h 7 (by omega)]

/-- Bits as bytes, with zeros behind. -/
def packB (l : List Bool) : List UInt8 := (List.range ((l.length + 7) / 8)).map fun j => UInt8.ofNat (bn fun i => l.getD (8 * j + i) false)
/-- The bit at a place of bytes. -/
def bitAt (s : List UInt8) (i : Nat) : Bool := nb (s.getD (i / 8) 0).toNat (i % 8)
/-- So many bits. -/
def unpackB (s : List UInt8) (n : Nat) : List Bool := (List.range n).map (bitAt s)
theorem pack_length (l : List Bool) : (packB l).length = (l.length + 7) / 8 := by simp [packB]
theorem unpack_length (s : List UInt8) (n : Nat) : (unpackB s n).length = n := by simp [unpackB]
theorem pack_get (l : List Bool) {j : Nat} (hj : j < (l.length + 7) / 8) : (packB l).getD j 0 = UInt8.ofNat (bn fun i => l.getD (8 * j + i) false) := by
  unfold packB
  rw [List.getD_eq_getElem?_getD, List.getElem?_map, List.getElem?_range hj]
  rfl
theorem unpack_get (s : List UInt8) {n i : Nat} (hi : i < n) : (unpackB s n).getD i false = bitAt s i := by
  unfold unpackB
  rw [List.getD_eq_getElem?_getD, List.getElem?_map, List.getElem?_range hi]
  rfl
theorem unpack_over (s : List UInt8) {n i : Nat} (hi : n ≤ i) : (unpackB s n).getD i false = false := by
  rw [List.getD_eq_getElem?_getD, List.getElem?_eq_none (by rw [unpack_length]; exact hi)]
  rfl
theorem ofNat_bn (f : Nat → Bool) : (UInt8.ofNat (bn f)).toNat = bn f := by
  have := bn_lt f
  simp
  omega
/-- The bits of packed bits: and zeros behind. -/
theorem bit_pack (l : List Bool) (i : Nat) : bitAt (packB l) i = l.getD i false := by
  unfold bitAt
  by_cases hj : i / 8 < (l.length + 7) / 8
  · rw [pack_get l hj, ofNat_bn, nb_bn _ (by omega), show 8 * (i / 8) + i % 8 = i by omega]
  · rw [List.getD_eq_getElem?_getD, List.getElem?_eq_none (by rw [pack_length]; omega), List.getD_eq_getElem?_getD, List.getElem?_eq_none (by omega)]
    simp [nb]
theorem unpack_pack (l : List Bool) : unpackB (packB l) l.length = l := by
  apply List.ext_getElem?
  intro i
  by_cases hi : i < l.length
  · have h1 := unpack_get (packB l) hi
    rw [bit_pack] at h1
    have h2 : i < (unpackB (packB l) l.length).length := by rw [unpack_length]; exact hi
    rw [List.getD_eq_getElem?_getD, List.getD_eq_getElem?_getD, List.getElem?_eq_getElem h2, List.getElem?_eq_getElem hi] at h1
    rw [List.getElem?_eq_getElem h2, List.getElem?_eq_getElem hi]
    exact congrArg some h1
  · rw [List.getElem?_eq_none (by rw [unpack_length]; omega), List.getElem?_eq_none (by omega)]
theorem getD_ext {s t : List UInt8} (hl : s.length = t.length) (h : ∀ j, j < s.length → s.getD j 0 = t.getD j 0) : s = t := by
  apply List.ext_getElem?
  intro j
  by_cases hj : j < s.length
  · have h1 := h j hj
    rw [List.getD_eq_getElem?_getD, List.getD_eq_getElem?_getD, List.getElem?_eq_getElem hj, List.getElem?_eq_getElem (by omega)] at h1
    rw [List.getElem?_eq_getElem hj, List.getElem?_eq_getElem (by omega)]
    exact congrArg some h1
  · rw [List.getElem?_eq_none (by omega), List.getElem?_eq_none (by omega)]
/-- Bytes are their bits. -/
theorem bytes_bits {s t : List UInt8} (hl : s.length = t.length) (h : ∀ i, i < 8 * s.length → bitAt s i = bitAt t i) : s = t := by
  apply getD_ext hl
  intro j hj
  have key : (s.getD j 0).toNat = (t.getD j 0).toNat := by
    rw [← bn_nb (s.getD j 0).toNat_lt, ← bn_nb (t.getD j 0).toNat_lt]
    apply bn_ext
    intro i hi
    have := h (8 * j + i) (by omega)
    unfold bitAt at this
    rwa [show (8 * j + i) / 8 = j by omega, show (8 * j + i) % 8 = i by omega] at this
  exact UInt8.toNat_inj.1 key
/-- Packed anew: where no bit behind is set. -/
theorem pack_unpack {s : List UInt8} {n : Nat} (hl : s.length = (n + 7) / 8) (h : ∀ i, n ≤ i → i < 8 * s.length → bitAt s i = false) : packB (unpackB s n) = s := by
  apply bytes_bits
  · rw [pack_length, unpack_length, hl]
  · intro i hi
    rw [pack_length, unpack_length] at hi
    rw [bit_pack]
    by_cases hn : i < n
    · exact unpack_get s hn
    · rw [unpack_over s (by omega)]
      exact (h i (by omega) (by omega)).symm

/-- The highest bit that is set, below a place. -/
def topB (s : List UInt8) : Nat → Option Nat
  | 0 => none
  | n + 1 => if bitAt s n = true then some n else topB s n
theorem top_some : ∀ {n m : Nat} {s : List UInt8}, topB s n = some m → m < n ∧ bitAt s m = true ∧ ∀ i, m < i → i < n → bitAt s i = false
  | 0, m, s, h => by cases h
  | n + 1, m, s, h => by
    rw [topB] at h
    split at h
    · rename_i hb
      cases h
      exact ⟨by omega, hb, fun i h1 h2 => by omega⟩
    · rename_i hb
      obtain ⟨h1, h2, h3⟩ := top_some h
      refine ⟨by omega, h2, fun i h4 h5 => ?_⟩
      by_cases hi : i = n
      · rw [hi]; exact Bool.not_eq_true _ ▸ hb
      · exact h3 i h4 (by omega)
theorem top_is : ∀ {n m : Nat} {s : List UInt8}, m < n → bitAt s m = true → (∀ i, m < i → i < n → bitAt s i = false) → topB s n = some m
  | 0, m, s, h, _, _ => by omega
  | n + 1, m, s, h, hb, ho => by
    rw [topB]
    by_cases hm : m = n
    · rw [← hm, if_pos hb]
    · rw [if_neg (by rw [ho n (by omega) (by omega)]; simp)]
      exact top_is (by omega) hb fun i h1 h2 => ho i h1 (by omega)
/-- A bit list's bytes. -/
def listB (l : List Bool) : List UInt8 := packB (l ++ [true])
theorem listB_length (l : List Bool) : (listB l).length = l.length / 8 + 1 := by
  unfold listB
  rw [pack_length, List.length_append, List.length_singleton]
  omega
theorem listB_bit (l : List Bool) (i : Nat) : bitAt (listB l) i = (l ++ [true]).getD i false := bit_pack _ _
theorem listB_at (l : List Bool) : bitAt (listB l) l.length = true := by
  rw [listB_bit, List.getD_eq_getElem?_getD, List.getElem?_append_right (Nat.le_refl _)]
  simp
theorem listB_over (l : List Bool) {i : Nat} (h : l.length < i) : bitAt (listB l) i = false := by
  rw [listB_bit, List.getD_eq_getElem?_getD, List.getElem?_eq_none (by simp; omega)]
  rfl
theorem listB_in (l : List Bool) {i : Nat} (h : i < l.length) : bitAt (listB l) i = l.getD i false := by
  rw [listB_bit, List.getD_eq_getElem?_getD, List.getD_eq_getElem?_getD, List.getElem?_append_left h]
/-- What is told of a bit list's bytes: how many bits, or none. -/
theorem listB_top (l : List Bool) : topB (listB l) (8 * (listB l).length) = some l.length :=
  top_is (by rw [listB_length]; omega) (listB_at l) fun i h _ => listB_over l h
theorem unpack_listB (l : List Bool) : unpackB (listB l) l.length = l := by
  apply List.ext_getElem?
  intro i
  by_cases hi : i < l.length
  · have h1 := unpack_get (listB l) hi
    rw [listB_in l hi] at h1
    have h2 : i < (unpackB (listB l) l.length).length := by rw [unpack_length]; exact hi
    rw [List.getD_eq_getElem?_getD, List.getD_eq_getElem?_getD, List.getElem?_eq_getElem h2, List.getElem?_eq_getElem hi] at h1
    rw [List.getElem?_eq_getElem h2, List.getElem?_eq_getElem hi]
    exact congrArg some h1
  · rw [List.getElem?_eq_none (by rw [unpack_length]; omega), List.getElem?_eq_none (by omega)]
/-- A bit list's bytes: the last one is not 0. -/
theorem listB_unpack {s : List UInt8} {m : Nat} (h : topB s (8 * s.length) = some m) (hlast : 8 * (s.length - 1) ≤ m) : listB (unpackB s m) = s := by
  obtain ⟨h1, h2, h3⟩ := top_some h
  apply bytes_bits
  · rw [listB_length, unpack_length]; omega
  · intro i hi
    rw [listB_length, unpack_length] at hi
    by_cases ha : i < m
    · rw [listB_in _ (by rw [unpack_length]; exact ha), unpack_get s ha]
    · by_cases hb : i = m
      · subst hb
        have := listB_at (unpackB s i)
        rw [unpack_length] at this
        rw [this, h2]
      · rw [listB_over _ (by rw [unpack_length]; omega), h3 i (by omega) (by omega)]
end Go.Proofs.YtaajkbclojmbeaaGreatDoor.M
