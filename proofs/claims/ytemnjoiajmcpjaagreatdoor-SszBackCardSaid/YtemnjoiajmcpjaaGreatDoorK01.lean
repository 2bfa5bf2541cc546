/- Plain arithmetic: a number below 2^256 and its four parts of 64 bits; the carries of a sum and of a difference. Plain arithmetic: numbers and their bytes, the highest one first. Plain arithmetic: items, their bytes, how deep they are, what is wrong with them; no item's bytes begin another one's. Plain arithmetic: how deep an item may stand; heads by their lengths; alike. Plain arithmetic: how many items an item holds; what its bytes come to at most; parts by their places. Plain arithmetic: what the statements of layer 4 lean on. Plain: types and values. Plain: what holds of types and values. What every seat leans on. Words as values. How types and values lie in memory. Plain: rows of types and of values, part by part. -/
import Derived.Test.YtemnjoiajmcpjaaGreatDoorProg
import Derived.WalkKit
import Derived.Below
import Derived.Laws.Externs
import Derived.Laws.ResultCell
import Derived.Deep.QuietTactic
import Derived.BigQuiet
import Derived.RegionTactic
import Derived.BigRegion
import Derived.LoopTactic
import Derived.LoopN
import Derived.Lib.Hide
namespace Go.Proofs.YtemnjoiajmcpjaaGreatDoor.M

/-- Part i of a number, the lowest one first. -/
def pt (i N : Nat) : Int := ((N / 18446744073709551616 ^ i % 18446744073709551616 : Nat) : Int)

/-- Below 2^256. -/
def In (N : Nat) : Prop := N < 115792089237316195423570985008687907853269984665640564039457584007913129639936

theorem pt_nonneg (i N : Nat) : 0 ≤ pt i N := by unfold pt; omega
theorem pt_lt (i N : Nat) : pt i N < 18446744073709551616 := by unfold pt; omega

theorem whole {N : Nat} (h : In N) : (N : Int) = pt 0 N + 18446744073709551616 * pt 1 N + 340282366920938463463374607431768211456 * pt 2 N + 6277101735386680763835789423207666416102355444464034512896 * pt 3 N := by
  unfold In at h
  unfold pt
  simp only [Nat.pow_zero, Nat.pow_one, Nat.div_one, show 18446744073709551616 ^ 2 = 340282366920938463463374607431768211456 from rfl, show 18446744073709551616 ^ 3 = 6277101735386680763835789423207666416102355444464034512896 from rfl]
  omega

theorem parts {N : Nat} {a b c d : Int} (ha : 0 ≤ a) (ha' : a < 18446744073709551616) (hb : 0 ≤ b) (hb' : b < 18446744073709551616) (hc : 0 ≤ c) (hc' : c < 18446744073709551616) (hd : 0 ≤ d) (hd' : d < 18446744073709551616)
    (h : (N : Int) = a + 18446744073709551616 * b + 340282366920938463463374607431768211456 * c + 6277101735386680763835789423207666416102355444464034512896 * d) :
    pt 0 N = a ∧ pt 1 N = b ∧ pt 2 N = c ∧ pt 3 N = d := by
  unfold pt
  simp only [Nat.pow_zero, Nat.pow_one, Nat.div_one, show 18446744073709551616 ^ 2 = 340282366920938463463374607431768211456 from rfl, show 18446744073709551616 ^ 3 = 6277101735386680763835789423207666416102355444464034512896 from rfl]
  omega

/-- Whatever four parts there are, they are some number's. -/
theorem some_number {a b c d : Int} (ha : 0 ≤ a) (ha' : a < 18446744073709551616) (hb : 0 ≤ b) (hb' : b < 18446744073709551616) (hc : 0 ≤ c) (hc' : c < 18446744073709551616) (hd : 0 ≤ d) (hd' : d < 18446744073709551616) :
    ∃ N, In N ∧ pt 0 N = a ∧ pt 1 N = b ∧ pt 2 N = c ∧ pt 3 N = d := by
  refine ⟨(a + 18446744073709551616 * b + 340282366920938463463374607431768211456 * c + 6277101735386680763835789423207666416102355444464034512896 * d).toNat, by unfold In; omega, parts ha ha' hb hb' hc hc' hd hd' (by omega)⟩

theorem pt_inj {A B : Nat} (hA : In A) (hB : In B) (h0 : pt 0 A = pt 0 B) (h1 : pt 1 A = pt 1 B) (h2 : pt 2 A = pt 2 B) (h3 : pt 3 A = pt 3 B) : A = B := by
  have := whole hA
  have := whole hB
  omega

def adS (x y c : Int) : Int := (x + y + c) % 18446744073709551616
def adC (x y c : Int) : Int := (x + y + c) / 18446744073709551616
def sbS (x y c : Int) : Int := (x - y - c) % 18446744073709551616
def sbC (x y c : Int) : Int := if x < y + c then 1 else 0

theorem ad_eq (x y c : Int) : x + y + c = adS x y c + 18446744073709551616 * adC x y c := by unfold adS adC; omega
theorem adS_lo (x y c : Int) : 0 ≤ adS x y c := by unfold adS; omega
theorem adS_hi (x y c : Int) : adS x y c < 18446744073709551616 := by unfold adS; omega
theorem adC_01 {x y c : Int} (hx : 0 ≤ x) (hx' : x < 18446744073709551616) (hy : 0 ≤ y) (hy' : y < 18446744073709551616) (hc : 0 ≤ c) (hc' : c ≤ 1) : 0 ≤ adC x y c ∧ adC x y c ≤ 1 := by unfold adC; omega
theorem sb_eq {x y c : Int} (hx : 0 ≤ x) (hx' : x < 18446744073709551616) (hy : 0 ≤ y) (hy' : y < 18446744073709551616) (hc : 0 ≤ c) (hc' : c ≤ 1) : x - y - c = sbS x y c - 18446744073709551616 * sbC x y c := by
  unfold sbS sbC
  split <;> omega
theorem sbS_lo (x y c : Int) : 0 ≤ sbS x y c := by unfold sbS; omega
theorem sbS_hi (x y c : Int) : sbS x y c < 18446744073709551616 := by unfold sbS; omega
theorem sbC_01 (x y c : Int) : 0 ≤ sbC x y c ∧ sbC x y c ≤ 1 := by unfold sbC; split <;> omega

/-- The carries of two numbers' parts. -/
def k1 (A B : Nat) : Int := adC (pt 0 A) (pt 0 B) 0
def k2 (A B : Nat) : Int := adC (pt 1 A) (pt 1 B) (k1 A B)
def k3 (A B : Nat) : Int := adC (pt 2 A) (pt 2 B) (k2 A B)
def k4 (A B : Nat) : Int := adC (pt 3 A) (pt 3 B) (k3 A B)
theorem k1_01 (A B : Nat) : 0 ≤ k1 A B ∧ k1 A B ≤ 1 := adC_01 (pt_nonneg _ _) (pt_lt _ _) (pt_nonneg _ _) (pt_lt _ _) (by omega) (by omega)
theorem k2_01 (A B : Nat) : 0 ≤ k2 A B ∧ k2 A B ≤ 1 := adC_01 (pt_nonneg _ _) (pt_lt _ _) (pt_nonneg _ _) (pt_lt _ _) (k1_01 A B).1 (k1_01 A B).2
theorem k3_01 (A B : Nat) : 0 ≤ k3 A B ∧ k3 A B ≤ 1 := adC_01 (pt_nonneg _ _) (pt_lt _ _) (pt_nonneg _ _) (pt_lt _ _) (k2_01 A B).1 (k2_01 A B).2
theorem k4_01 (A B : Nat) : 0 ≤ k4 A B ∧ k4 A B ≤ 1 := adC_01 (pt_nonneg _ _) (pt_lt _ _) (pt_nonneg _ _) (pt_lt _ _) (k3_01 A B).1 (k3_01 A B).2

theorem add_all {A B : Nat} (hA : In A) (hB : In B) :
    (A : Int) + B = adS (pt 0 A) (pt 0 B) 0 + 18446744073709551616 * adS (pt 1 A) (pt 1 B) (k1 A B) + 340282366920938463463374607431768211456 * adS (pt 2 A) (pt 2 B) (k2 A B) + 6277101735386680763835789423207666416102355444464034512896 * adS (pt 3 A) (pt 3 B) (k3 A B) + 115792089237316195423570985008687907853269984665640564039457584007913129639936 * k4 A B := by
  have e0 := whole hA
  have e1 := whole hB
  have r0 : _ = _ + _ * k1 A B := ad_eq (pt 0 A) (pt 0 B) 0
  have r1 : _ = _ + _ * k2 A B := ad_eq (pt 1 A) (pt 1 B) (k1 A B)
  have r2 : _ = _ + _ * k3 A B := ad_eq (pt 2 A) (pt 2 B) (k2 A B)
  have r3 : _ = _ + _ * k4 A B := ad_eq (pt 3 A) (pt 3 B) (k3 A B)
  omega

theorem add_no {A B : Nat} (hA : In A) (hB : In B) (h : In (A + B)) :
    (k4 A B != 0) = false ∧ adS (pt 0 A) (pt 0 B) 0 = pt 0 (A + B) ∧ adS (pt 1 A) (pt 1 B) (k1 A B) = pt 1 (A + B) ∧ adS (pt 2 A) (pt 2 B) (k2 A B) = pt 2 (A + B) ∧ adS (pt 3 A) (pt 3 B) (k3 A B) = pt 3 (A + B) := by
  have e := add_all hA hB
  have k := k4_01 A B
  have l0 := adS_lo (pt 0 A) (pt 0 B) 0
  have l1 := adS_lo (pt 1 A) (pt 1 B) (k1 A B)
  have l2 := adS_lo (pt 2 A) (pt 2 B) (k2 A B)
  have l3 := adS_lo (pt 3 A) (pt 3 B) (k3 A B)
  have h0 := adS_hi (pt 0 A) (pt 0 B) 0
  have h1 := adS_hi (pt 1 A) (pt 1 B) (k1 A B)
  have h2 := adS_hi (pt 2 A) (pt 2 B) (k2 A B)
  have h3 := adS_hi (pt 3 A) (pt 3 B) (k3 A B)
  unfold In at h
  have kz : k4 A B = 0 := by omega
  rw [kz] at e ⊢
  obtain ⟨p0, p1, p2, p3⟩ := parts (N := A + B) l0 h0 l1 h1 l2 h2 l3 h3 (by rw [Int.natCast_add, e]; omega)
  exact ⟨rfl, p0.symm, p1.symm, p2.symm, p3.symm⟩

theorem add_yes {A B : Nat} (hA : In A) (hB : In B) (h : ¬ In (A + B)) : (k4 A B != 0) = true := by
  have e := add_all hA hB
  have k := k4_01 A B
  have h0 := adS_hi (pt 0 A) (pt 0 B) 0
  have h1 := adS_hi (pt 1 A) (pt 1 B) (k1 A B)
  have h2 := adS_hi (pt 2 A) (pt 2 B) (k2 A B)
  have h3 := adS_hi (pt 3 A) (pt 3 B) (k3 A B)
  unfold In at h
  rw [bne_iff_ne]
  intro kz
  omega

/-- The borrows. -/
def j1 (A B : Nat) : Int := sbC (pt 0 A) (pt 0 B) 0
def j2 (A B : Nat) : Int := sbC (pt 1 A) (pt 1 B) (j1 A B)
def j3 (A B : Nat) : Int := sbC (pt 2 A) (pt 2 B) (j2 A B)
def j4 (A B : Nat) : Int := sbC (pt 3 A) (pt 3 B) (j3 A B)
theorem j1_01 (A B : Nat) : 0 ≤ j1 A B ∧ j1 A B ≤ 1 := sbC_01 _ _ _
theorem j2_01 (A B : Nat) : 0 ≤ j2 A B ∧ j2 A B ≤ 1 := sbC_01 _ _ _
theorem j3_01 (A B : Nat) : 0 ≤ j3 A B ∧ j3 A B ≤ 1 := sbC_01 _ _ _
theorem j4_01 (A B : Nat) : 0 ≤ j4 A B ∧ j4 A B ≤ 1 := sbC_01 _ _ _

theorem sub_all {A B : Nat} (hA : In A) (hB : In B) :
    (A : Int) - B = sbS (pt 0 A) (pt 0 B) 0 + 18446744073709551616 * sbS (pt 1 A) (pt 1 B) (j1 A B) + 340282366920938463463374607431768211456 * sbS (pt 2 A) (pt 2 B) (j2 A B) + 6277101735386680763835789423207666416102355444464034512896 * sbS (pt 3 A) (pt 3 B) (j3 A B) - 115792089237316195423570985008687907853269984665640564039457584007913129639936 * j4 A B := by
  have e0 := whole hA
  have e1 := whole hB
  have r0 : _ = _ - _ * j1 A B := sb_eq (pt_nonneg 0 A) (pt_lt 0 A) (pt_nonneg 0 B) (pt_lt 0 B) (Int.le_refl 0) (by omega)
  have r1 : _ = _ - _ * j2 A B := sb_eq (pt_nonneg 1 A) (pt_lt 1 A) (pt_nonneg 1 B) (pt_lt 1 B) (j1_01 A B).1 (j1_01 A B).2
  have r2 : _ = _ - _ * j3 A B := sb_eq (pt_nonneg 2 A) (pt_lt 2 A) (pt_nonneg 2 B) (pt_lt 2 B) (j2_01 A B).1 (j2_01 A B).2
  have r3 : _ = _ - _ * j4 A B := sb_eq (pt_nonneg 3 A) (pt_lt 3 A) (pt_nonneg 3 B) (pt_lt 3 B) (j3_01 A B).1 (j3_01 A B).2
  omega

theorem sub_no {A B : Nat} (hA : In A) (hB : In B) (h : B ≤ A) :
    (j4 A B != 0) = false ∧ sbS (pt 0 A) (pt 0 B) 0 = pt 0 (A - B) ∧ sbS (pt 1 A) (pt 1 B) (j1 A B) = pt 1 (A - B) ∧ sbS (pt 2 A) (pt 2 B) (j2 A B) = pt 2 (A - B) ∧ sbS (pt 3 A) (pt 3 B) (j3 A B) = pt 3 (A - B) := by
  have e := sub_all hA hB
  have k := j4_01 A B
  have l0 := sbS_lo (pt 0 A) (pt 0 B) 0
  have l1 := sbS_lo (pt 1 A) (pt 1 B) (j1 A B)
  have l2 := sbS_lo (pt 2 A) (pt 2 B) (j2 A B)
  have l3 := sbS_lo (pt 3 A) (pt 3 B) (j3 A B)
  have h0 := sbS_hi (pt 0 A) (pt 0 B) 0
  have h1 := sbS_hi (pt 1 A) (pt 1 B) (j1 A B)
  have h2 := sbS_hi (pt 2 A) (pt 2 B) (j2 A B)
  have h3 := sbS_hi (pt 3 A) (pt 3 B) (j3 A B)
  unfold In at hA hB
  have kz : j4 A B = 0 := by omega
  rw [kz] at e ⊢
  obtain ⟨p0, p1, p2, p3⟩ := parts (N := A - B) l0 h0 l1 h1 l2 h2 l3 h3 (by rw [Int.ofNat_sub h, e]; omega)
  exact ⟨rfl, p0.symm, p1.symm, p2.symm, p3.symm⟩

theorem sub_yes {A B : Nat} (hA : In A) (hB : In B) (h : A < B) : (j4 A B != 0) = true := by
  have e := sub_all hA hB
  have k := j4_01 A B
  have l0 := sbS_lo (pt 0 A) (pt 0 B) 0
  have l1 := sbS_lo (pt 1 A) (pt 1 B) (j1 A B)
  have l2 := sbS_lo (pt 2 A) (pt 2 B) (j2 A B)
  have l3 := sbS_lo (pt 3 A) (pt 3 B) (j3 A B)
  rw [bne_iff_ne]
  intro kz
  omega
end Go.Proofs.YtemnjoiajmcpjaaGreatDoor.M
namespace Go.Proofs.YtemnjoiajmcpjaaGreatDoor.M

/-- The number of bytes, behind a number. -/
def dgA (n : Nat) : List UInt8 → Nat
  | [] => n
  | c :: l => dgA (n * 256 + c.toNat) l
/-- The number of bytes. -/
def dg (l : List UInt8) : Nat := dgA 0 l

theorem dgA_append (n : Nat) (l r : List UInt8) : dgA n (l ++ r) = dgA (dgA n l) r := by
  induction l generalizing n with
  | nil => rfl
  | cons c l ih => exact ih _
theorem dgA_eq (n : Nat) (l : List UInt8) : dgA n l = n * 256 ^ l.length + dg l := by
  induction l generalizing n with
  | nil => simp [dgA, dg]
  | cons c l ih =>
    have e1 : dgA n (c :: l) = dgA (n * 256 + c.toNat) l := rfl
    have e2 : dg (c :: l) = dgA (0 * 256 + c.toNat) l := rfl
    rw [e1, e2, ih, ih (0 * 256 + c.toNat), List.length_cons, Nat.pow_succ, Nat.zero_mul, Nat.zero_add]
    have : (n * 256 + c.toNat) * 256 ^ l.length = n * (256 ^ l.length * 256) + c.toNat * 256 ^ l.length := by
      rw [Nat.add_mul, Nat.mul_assoc, Nat.mul_comm 256]
    rw [this]
    omega
theorem dg_append (l r : List UInt8) : dg (l ++ r) = dg l * 256 ^ r.length + dg r := by
  unfold dg
  rw [dgA_append, dgA_eq]
  rfl
theorem dg_snoc (l : List UInt8) (c : UInt8) : dg (l ++ [c]) = dg l * 256 + c.toNat := by
  rw [dg_append]
  simp [dg, dgA]
theorem dg_lt (l : List UInt8) : dg l < 256 ^ l.length := by
  induction l with
  | nil => simp [dg, dgA]
  | cons c l ih =>
    have e : dg (c :: l) = dgA (0 * 256 + c.toNat) l := rfl
    rw [e, dgA_eq, List.length_cons, Nat.pow_succ]
    have hc := c.toNat_lt
    have : (0 * 256 + c.toNat) * 256 ^ l.length ≤ 255 * 256 ^ l.length := Nat.mul_le_mul_right _ (by omega)
    omega
theorem dg_8 {l : List UInt8} (h : l.length = 8) : dg l < 18446744073709551616 := by
  have := dg_lt l
  rw [h, show (256 : Nat) ^ 8 = 18446744073709551616 from rfl] at this
  exact this
theorem dg_app8 {r : List UInt8} (h : r.length = 8) (l : List UInt8) : dg (l ++ r) = dg l * 18446744073709551616 + dg r := by
  rw [dg_append, h, show (256 : Nat) ^ 8 = 18446744073709551616 from rfl]
theorem dg_zeros (k : Nat) (l : List UInt8) : dg (List.replicate k 0 ++ l) = dg l := by
  induction k with
  | zero => rfl
  | succ k ih => exact ih

/-- k bytes of a number. -/
def be : Nat → Nat → List UInt8
  | 0, _ => []
  | k + 1, N => be k (N / 256) ++ [UInt8.ofNat (N % 256)]
theorem be_length (k N : Nat) : (be k N).length = k := by
  induction k generalizing N with
  | zero => rfl
  | succ k ih => simp [be, ih]
theorem dg_be (k N : Nat) (h : N < 256 ^ k) : dg (be k N) = N := by
  induction k generalizing N with
  | zero => simp at h; subst h; rfl
  | succ k ih =>
    rw [be, dg_snoc, ih _ (by rw [Nat.pow_succ] at h; omega)]
    have : (UInt8.ofNat (N % 256)).toNat = N % 256 := by simp
    omega
theorem be_dg (l : List UInt8) : be l.length (dg l) = l := by
  obtain ⟨r, rfl⟩ : ∃ r, l = List.reverse r := ⟨l.reverse, by simp⟩
  induction r with
  | nil => rfl
  | cons c r ih =>
    rw [List.reverse_cons, dg_snoc, List.length_append, List.length_singleton, be]
    have hc := c.toNat_lt
    rw [show (dg r.reverse * 256 + c.toNat) / 256 = dg r.reverse by omega, show (dg r.reverse * 256 + c.toNat) % 256 = c.toNat by omega, ih]
    simp
theorem be_add (j k N : Nat) : be (j + k) N = be j (N / 256 ^ k) ++ be k N := by
  induction k generalizing N with
  | zero => simp [be]
  | succ k ih =>
    rw [← Nat.add_assoc, be, ih, be, ← List.append_assoc, Nat.div_div_eq_div_mul, Nat.pow_succ, Nat.mul_comm]
theorem be_mod (k N : Nat) : be k (N % 256 ^ k) = be k N := by
  induction k generalizing N with
  | zero => rfl
  | succ k ih =>
    rw [be, be, ← ih (N / 256)]
    have e1 : N % 256 ^ (k + 1) / 256 = N / 256 % 256 ^ k := by
      rw [Nat.pow_succ, Nat.mul_comm, Nat.mod_mul_right_div_self]
    have e2 : N % 256 ^ (k + 1) % 256 = N % 256 := Nat.mod_mod_of_dvd _ ⟨256 ^ k, by rw [Nat.pow_succ, Nat.mul_comm]⟩
    rw [e1, e2]
theorem be8_eq (n : Nat) : be 8 n = [UInt8.ofNat (n / 72057594037927936 % 256), UInt8.ofNat (n / 281474976710656 % 256), UInt8.ofNat (n / 1099511627776 % 256), UInt8.ofNat (n / 4294967296 % 256), UInt8.ofNat (n / 16777216 % 256), UInt8.ofNat (n / 65536 % 256), UInt8.ofNat (n / 256 % 256), UInt8.ofNat (n % 256)] := by
  simp only [be, Nat.div_div_eq_div_mul, List.nil_append, List.cons_append, Nat.reduceMul]

/-- A word's 32 bytes. -/
def f32 (N : Nat) : List UInt8 := be 32 N
theorem f32_length (N : Nat) : (f32 N).length = 32 := be_length 32 N
theorem in_pow {N : Nat} : In N ↔ N < 256 ^ 32 := by unfold In; rfl
theorem dg_f32 {N : Nat} (h : In N) : dg (f32 N) = N := dg_be 32 N (in_pow.1 h)
theorem f32_dg {l : List UInt8} (h : l.length = 32) : f32 (dg l) = l := by
  have := be_dg l
  rw [h] at this
  exact this
theorem in_dg {l : List UInt8} (h : l.length ≤ 32) : In (dg l) := by
  rw [in_pow]
  exact Nat.lt_of_lt_of_le (dg_lt l) (Nat.pow_le_pow_right (by omega) h)
theorem f32_inj {A B : Nat} (hA : In A) (hB : In B) (h : f32 A = f32 B) : A = B := by
  rw [← dg_f32 hA, ← dg_f32 hB, h]

/-- The 32 bytes, part by part. -/
theorem f32_parts {N : Nat} (_h : In N) : f32 N = be 8 (pt 3 N).toNat ++ be 8 (pt 2 N).toNat ++ be 8 (pt 1 N).toNat ++ be 8 (pt 0 N).toNat := by
  have e : ∀ i, be 8 (pt i N).toNat = be 8 (N / 18446744073709551616 ^ i) := by
    intro i
    unfold pt
    rw [Int.toNat_natCast, show (18446744073709551616 : Nat) = 256 ^ 8 from rfl, be_mod]
  rw [e 0, e 1, e 2, e 3]
  have q1 : N / 256 ^ 8 / 256 ^ 8 = N / 18446744073709551616 ^ 2 := by rw [Nat.div_div_eq_div_mul]
  have q2 : N / 18446744073709551616 ^ 2 / 256 ^ 8 = N / 18446744073709551616 ^ 3 := by rw [Nat.div_div_eq_div_mul]
  unfold f32
  rw [show 32 = 24 + 8 from rfl, be_add, show 24 = 16 + 8 from rfl, be_add, show 16 = 8 + 8 from rfl, be_add, q1, q2, Nat.pow_zero, Nat.div_one, Nat.pow_one]

/-- Without zeros ahead. -/
def tr (l : List UInt8) : List UInt8 := l.dropWhile (· == 0)
theorem tr_split (l : List UInt8) : ∃ k, l = List.replicate k 0 ++ tr l := by
  induction l with
  | nil => exact ⟨0, rfl⟩
  | cons c l ih =>
    by_cases h : c = 0
    · subst h
      obtain ⟨k, hk⟩ := ih
      refine ⟨k + 1, ?_⟩
      rw [List.replicate_succ, List.cons_append]
      have : tr (0 :: l) = tr l := rfl
      rw [this, ← hk]
    · exact ⟨0, by simp [tr, h]⟩
theorem dg_tr (l : List UInt8) : dg (tr l) = dg l := by
  obtain ⟨k, hk⟩ := tr_split l
  have := dg_zeros k (tr l)
  rw [← hk] at this
  exact this.symm
theorem tr_length_le (l : List UInt8) : (tr l).length ≤ l.length := by
  obtain ⟨k, hk⟩ := tr_split l
  have := congrArg List.length hk
  simp at this
  omega
theorem tr_head (l : List UInt8) : ∀ c r, tr l = c :: r → c ≠ 0 := by
  induction l with
  | nil => intro c r h; cases h
  | cons d l ih =>
    intro c r h
    by_cases hd : d = 0
    · subst hd; exact ih c r h
    · have : tr (d :: l) = d :: l := by simp [tr, hd]
      rw [this] at h
      cases h
      exact hd
theorem tr_zeros (k : Nat) (l : List UInt8) (h : ∀ c r, l = c :: r → c ≠ 0) : tr (List.replicate k 0 ++ l) = l := by
  induction k with
  | zero =>
    cases l with
    | nil => rfl
    | cons c r => simp [tr, h c r rfl]
  | succ k ih => exact ih

/-- How long a number's bytes are. -/
theorem tr_small {N : Nat} (h : In N) : (tr (f32 N)).length ≤ 8 ↔ N < 18446744073709551616 := by
  have e := dg_tr (f32 N)
  rw [dg_f32 h] at e
  constructor
  · intro hl
    rw [← e]
    exact Nat.lt_of_lt_of_le (dg_lt _) (show 256 ^ (tr (f32 N)).length ≤ 256 ^ 8 from Nat.pow_le_pow_right (by omega) hl)
  · intro hN
    rcases Nat.lt_or_ge 8 (tr (f32 N)).length with hl | hl
    · exfalso
      match ht : tr (f32 N) with
      | [] => rw [ht] at hl; simp at hl
      | c :: r =>
        have hc := tr_head _ c r ht
        rw [ht] at e hl
        have e2 : dg (c :: r) = dgA (0 * 256 + c.toNat) r := rfl
        rw [e2, dgA_eq] at e
        have hc1 : 1 ≤ c.toNat := by
          rcases Nat.eq_zero_or_pos c.toNat with h0 | h0
          · exact absurd (UInt8.toNat.inj (by simpa using h0)) hc
          · exact h0
        have hp : 256 ^ 8 ≤ 256 ^ r.length := Nat.pow_le_pow_right (by omega) (by simp at hl; omega)
        have : 1 * 256 ^ r.length ≤ (0 * 256 + c.toNat) * 256 ^ r.length := Nat.mul_le_mul_right _ (by omega)
        have h8 : (256 : Nat) ^ 8 = 18446744073709551616 := rfl
        omega
    · exact hl
end Go.Proofs.YtemnjoiajmcpjaaGreatDoor.M
namespace Go.Proofs.YtemnjoiajmcpjaaGreatDoor.M

/-- The digits of a number, no more than are needed. -/
def ben (n : Nat) : List UInt8 := tr (f32 n)
theorem in64' {n : Nat} (h : n < 18446744073709551616) : In n := by unfold In; omega
theorem dg_ben {n : Nat} (h : n < 18446744073709551616) : dg (ben n) = n := by unfold ben; rw [dg_tr, dg_f32 (in64' h)]
theorem ben_le {n : Nat} (h : n < 18446744073709551616) : (ben n).length ≤ 8 := (tr_small (in64' h)).2 h
theorem ben_inj {m n : Nat} (hm : m < 18446744073709551616) (hn : n < 18446744073709551616) (h : ben m = ben n) : m = n := by rw [← dg_ben hm, h, dg_ben hn]
theorem ben_pos {n : Nat} (h : n < 18446744073709551616) (h0 : 0 < n) : 1 ≤ (ben n).length := by
  rcases Nat.eq_zero_or_pos (ben n).length with h1 | h1
  · have h2 := dg_ben h
    rw [List.eq_nil_of_length_eq_zero h1] at h2
    simp [dg, dgA] at h2
    omega
  · exact h1
/-- How many digits a length of a few bytes has. -/
theorem ben_width {n k : Nat} (h : n < 18446744073709551616) (_hk : k ≤ 8) : (ben n).length ≤ k ↔ n < 256 ^ k := by
  constructor
  · intro hl
    rw [← dg_ben h]
    exact Nat.lt_of_lt_of_le (dg_lt _) (Nat.pow_le_pow_right (by omega) hl)
  · intro hn
    rcases Nat.lt_or_ge k (ben n).length with hlt | hge
    · exfalso
      have hne : ben n ≠ [] := fun e => by rw [e] at hlt; simp at hlt
      obtain ⟨c, r, e⟩ := List.exists_cons_of_ne_nil hne
      have hc : c ≠ 0 := tr_head _ c r e
      have hd := dg_ben h
      rw [e] at hd hlt
      have h1 : dg (c :: r) = c.toNat * 256 ^ r.length + dg r := by
        rw [show c :: r = [c] ++ r from rfl, dg_append]
        simp [dg, dgA]
      have hc1 : 1 ≤ c.toNat := by
        rcases Nat.eq_zero_or_pos c.toNat with h0 | h0
        · exact absurd (UInt8.toNat_inj.1 (by simpa using h0)) hc
        · exact h0
      have h2 : 256 ^ k ≤ 256 ^ r.length := Nat.pow_le_pow_right (by omega) (by simp at hlt; omega)
      have h3 : 256 ^ r.length ≤ c.toNat * 256 ^ r.length := Nat.le_mul_of_pos_left _ hc1
      omega
    · exact hge

/-- A head of a length. -/
def hdL (n p : Nat) : List UInt8 := if n < 56 then [UInt8.ofNat (p + n)] else UInt8.ofNat (p + 55 + (ben n).length) :: ben n
theorem hdL_ne (n p : Nat) : hdL n p ≠ [] := by unfold hdL; split <;> simp
theorem ofNat_inj {a b : Nat} (ha : a < 256) (hb : b < 256) (h : UInt8.ofNat a = UInt8.ofNat b) : a = b := by
  have := congrArg UInt8.toNat h
  rwa [UInt8.toNat_ofNat_of_lt' ha, UInt8.toNat_ofNat_of_lt' hb] at this
theorem hd_first {n p : Nat} (hn : n < 18446744073709551616) : ∃ k r, hdL n p = UInt8.ofNat (p + k) :: r ∧ k < 64 ∧ ((n < 56 ∧ k = n ∧ r = []) ∨ (56 ≤ n ∧ k = 55 + (ben n).length ∧ 56 ≤ k ∧ r = ben n)) := by
  unfold hdL
  by_cases h : n < 56
  · rw [if_pos h]
    exact ⟨n, [], rfl, by omega, .inl ⟨h, rfl, rfl⟩⟩
  · rw [if_neg h]
    have h1 := ben_le hn
    have h2 := ben_pos hn (by omega)
    exact ⟨55 + (ben n).length, ben n, by rw [Nat.add_assoc], by omega, .inr ⟨by omega, rfl, by omega, rfl⟩⟩
theorem hd_apart {m n p q : Nat} {r s : List UInt8} (hm : m < 18446744073709551616) (hn : n < 18446744073709551616) (hp : p = 128 ∨ p = 192) (hq : q = 128 ∨ q = 192) (h : hdL m p ++ r = hdL n q ++ s) : p = q ∧ m = n ∧ r = s := by
  obtain ⟨k, x, e1, hk, c1⟩ := hd_first (p := p) hm
  obtain ⟨l, y, e2, hl, c2⟩ := hd_first (p := q) hn
  rw [e1, e2, List.cons_append, List.cons_append] at h
  obtain ⟨h0, h1⟩ := List.cons.inj h
  have hpk : p + k < 256 := by omega
  have hql : q + l < 256 := by omega
  have h2 := ofNat_inj hpk hql h0
  have hpq : p = q ∧ k = l := by omega
  obtain ⟨rfl, rfl⟩ := hpq
  refine ⟨rfl, ?_⟩
  rcases c1 with ⟨a1, a2, a3⟩ | ⟨a1, a2, a3, a4⟩ <;> rcases c2 with ⟨b1, b2, b3⟩ | ⟨b1, b2, b3, b4⟩
  · subst a3 b3
    exact ⟨by omega, by simpa using h1⟩
  · omega
  · omega
  · rw [a4, b4] at h1
    clear a4 b4 e1 e2 h h0 h2
    have hlen : (ben m).length = (ben n).length := by omega
    obtain ⟨h3, h4⟩ := List.append_inj h1 hlen
    exact ⟨ben_inj hm hn h3, h4⟩

/-- An item: bytes, or a list of items; or what is neither. -/
inductive It where
  | mk (list : Bool) (bytes : List UInt8) (items : List It)

mutual
def bytesI : It → List UInt8
  | .mk true _ xs => hdL (bytesIs xs).length 192 ++ bytesIs xs
  | .mk false b _ => if b.length = 1 ∧ (b.headD 0).toNat < 128 then b else hdL b.length 128 ++ b
def bytesIs : List It → List UInt8
  | [] => []
  | x :: xs => bytesI x ++ bytesIs xs
end
mutual
def deepI : It → Nat
  | .mk true _ xs => deepIs xs + 1
  | .mk false _ _ => 0
def deepIs : List It → Nat
  | [] => 0
  | x :: xs => max (deepI x) (deepIs xs)
end
mutual
/-- What is wrong with an item that stands in so many lists. -/
def formI (d : Nat) : It → Nat
  | .mk l b xs => if (l = true ∧ b ≠ []) ∨ (l = false ∧ xs ≠ []) then 2 else if l = false then 0 else if 12 ≤ d then 7 else if 512 < xs.length then 5 else formIs (d + 1) xs
def formIs (d : Nat) : List It → Nat
  | [] => 0
  | x :: xs => if formI d x ≠ 0 then formI d x else formIs d xs
end
def checkI (x : It) : Nat := if formI 0 x = 0 ∧ 65536 < (bytesI x).length then 5 else formI 0 x
def encodeI (x : It) : List UInt8 × Nat := if checkI x = 0 then (bytesI x, 0) else ([], checkI x)

theorem formI_ok {d : Nat} {l : Bool} {b : List UInt8} {xs : List It} (h : formI d (.mk l b xs) = 0) : (l = true → b = [] ∧ d < 12 ∧ xs.length ≤ 512 ∧ formIs (d + 1) xs = 0) ∧ (l = false → xs = []) := by
  unfold formI at h
  split at h
  · cases h
  · rename_i h1
    have hb : l = true → b = [] := fun hl => by
      rcases List.eq_nil_or_concat b with e | ⟨_, _, e⟩
      · exact e
      · exact absurd (.inl ⟨hl, by rw [e]; simp⟩) h1
    have hx : l = false → xs = [] := fun hl => by
      cases xs with
      | nil => rfl
      | cons x xs => exact absurd (.inr ⟨hl, by simp⟩) h1
    refine ⟨fun hl => ?_, hx⟩
    rw [if_neg (by rw [hl]; simp)] at h
    split at h
    · cases h
    · rename_i h2
      split at h
      · cases h
      · rename_i h3
        exact ⟨hb hl, by omega, by omega, h⟩
theorem formIs_ok {d : Nat} {x : It} {xs : List It} (h : formIs d (x :: xs) = 0) : formI d x = 0 ∧ formIs d xs = 0 := by
  unfold formIs at h
  split at h
  · rename_i h1; exact absurd h h1
  · rename_i h1; exact ⟨by omega, h⟩

theorem bytesI_ne (x : It) (h : (bytesI x).length = 0) : False := by
  have h' := List.eq_nil_of_length_eq_zero h
  match x with
  | .mk true _ xs =>
    rw [bytesI] at h'
    exact hdL_ne _ _ (List.append_eq_nil_iff.1 h').1
  | .mk false b _ =>
    rw [bytesI] at h'
    split at h'
    · rename_i h1; rw [h'] at h1; simp at h1
    · exact hdL_ne _ _ (List.append_eq_nil_iff.1 h').1

/-- The first byte of bytes' own, and of a list's. -/
theorem short_first {b : List UInt8} (h : b.length = 1 ∧ (b.headD 0).toNat < 128) : ∃ c, b = [c] ∧ c.toNat < 128 := by
  obtain ⟨h1, h2⟩ := h
  match b, h1 with
  | [c], _ => exact ⟨c, rfl, h2⟩
theorem hd_high {n p : Nat} (hn : n < 18446744073709551616) (hp : p = 128 ∨ p = 192) {c : UInt8} {r s : List UInt8} (h : hdL n p ++ r = c :: s) : 128 ≤ c.toNat := by
  obtain ⟨k, x, e1, hk, _⟩ := hd_first (p := p) hn
  rw [e1, List.cons_append] at h
  obtain ⟨h0, _⟩ := List.cons.inj h
  rw [← h0, UInt8.toNat_ofNat_of_lt' (by show p + k < 256; omega)]
  omega

mutual
/-- **NO ITEM'S BYTES BEGIN ANOTHER ONE'S**, whatever stands behind. -/
theorem bytes_apart : ∀ (a b : It) (d e : Nat) (r s : List UInt8), formI d a = 0 → formI e b = 0 → (bytesI a).length < 18446744073709551616 → (bytesI b).length < 18446744073709551616 → bytesI a ++ r = bytesI b ++ s → a = b ∧ r = s
  | .mk la ba xs, .mk lb bb ys, d, e, r, s, ha, hb, la64, lb64, h => by
    obtain ⟨ha1, ha2⟩ := formI_ok ha
    obtain ⟨hb1, hb2⟩ := formI_ok hb
    cases la <;> cases lb
    · obtain rfl := ha2 rfl
      obtain rfl := hb2 rfl
      rw [bytesI] at la64 lb64 h
      rw [bytesI] at h
      by_cases h1 : ba.length = 1 ∧ (ba.headD 0).toNat < 128
      · rw [if_pos h1] at h la64
        obtain ⟨c, rfl, hc⟩ := short_first h1
        by_cases h2 : bb.length = 1 ∧ (bb.headD 0).toNat < 128
        · rw [if_pos h2] at h
          obtain ⟨c', rfl, hc'⟩ := short_first h2
          simp only [List.cons_append, List.nil_append, List.cons.injEq] at h
          obtain ⟨rfl, rfl⟩ := h
          exact ⟨rfl, rfl⟩
        · rw [if_neg h2] at h lb64
          rw [List.append_assoc] at h
          have := hd_high (by rw [List.length_append] at lb64; omega) (.inl rfl) h.symm
          omega
      · rw [if_neg h1] at h la64
        by_cases h2 : bb.length = 1 ∧ (bb.headD 0).toNat < 128
        · rw [if_pos h2] at h
          obtain ⟨c', rfl, hc'⟩ := short_first h2
          rw [List.append_assoc] at h
          have := hd_high (by rw [List.length_append] at la64; omega) (.inl rfl) h
          omega
        · rw [if_neg h2] at h lb64
          rw [List.append_assoc, List.append_assoc] at h
          rw [List.length_append] at la64 lb64
          obtain ⟨_, h3, h4⟩ := hd_apart (by omega) (by omega) (.inl rfl) (.inl rfl) h
          obtain ⟨h5, h6⟩ := List.append_inj h4 h3
          exact ⟨by rw [h5], h6⟩
    · obtain rfl := ha2 rfl
      rw [bytesI] at la64 h
      rw [bytesI] at lb64 h
      rw [List.length_append] at lb64
      rw [List.append_assoc] at h
      by_cases h1 : ba.length = 1 ∧ (ba.headD 0).toNat < 128
      · rw [if_pos h1] at h
        obtain ⟨c, rfl, hc⟩ := short_first h1
        have := hd_high (by omega) (.inr rfl) h.symm
        omega
      · rw [if_neg h1] at h la64
        rw [List.append_assoc] at h
        rw [List.length_append] at la64
        have := (hd_apart (by omega) (by omega) (.inl rfl) (.inr rfl) h).1
        omega
    · obtain rfl := hb2 rfl
      rw [bytesI] at la64 h
      rw [bytesI] at lb64 h
      rw [List.length_append] at la64
      rw [List.append_assoc] at h
      by_cases h1 : bb.length = 1 ∧ (bb.headD 0).toNat < 128
      · rw [if_pos h1] at h
        obtain ⟨c, rfl, hc⟩ := short_first h1
        have := hd_high (by omega) (.inr rfl) h
        omega
      · rw [if_neg h1] at h lb64
        rw [List.append_assoc] at h
        rw [List.length_append] at lb64
        have := (hd_apart (by omega) (by omega) (.inr rfl) (.inl rfl) h).1
        omega
    · obtain ⟨rfl, _, _, ha3⟩ := ha1 rfl
      obtain ⟨rfl, _, _, hb3⟩ := hb1 rfl
      rw [bytesI] at la64 lb64 h
      rw [bytesI] at h
      rw [List.length_append] at la64 lb64
      rw [List.append_assoc, List.append_assoc] at h
      obtain ⟨_, h3, h4⟩ := hd_apart (by omega) (by omega) (.inr rfl) (.inr rfl) h
      obtain ⟨h5, h6⟩ := List.append_inj h4 h3
      have := all_apart xs ys (d + 1) (e + 1) ha3 hb3 (by omega) (by omega) h5
      exact ⟨by rw [this], h6⟩
theorem all_apart : ∀ (xs ys : List It) (d e : Nat), formIs d xs = 0 → formIs e ys = 0 → (bytesIs xs).length < 18446744073709551616 → (bytesIs ys).length < 18446744073709551616 → bytesIs xs = bytesIs ys → xs = ys
  | [], [], _, _, _, _, _, _, _ => rfl
  | [], y :: ys, _, _, _, _, _, _, h => by
    simp only [bytesIs] at h
    exact (bytesI_ne y (by rw [(List.append_eq_nil_iff.1 h.symm).1]; rfl)).elim
  | x :: xs, [], _, _, _, _, _, _, h => by
    simp only [bytesIs] at h
    exact (bytesI_ne x (by rw [(List.append_eq_nil_iff.1 h).1]; rfl)).elim
  | x :: xs, y :: ys, d, e, hx, hy, lx, ly, h => by
    rw [bytesIs] at lx ly h
    rw [bytesIs] at h
    rw [List.length_append] at lx ly
    obtain ⟨h1, h2⟩ := formIs_ok hx
    obtain ⟨h3, h4⟩ := formIs_ok hy
    obtain ⟨h5, h6⟩ := bytes_apart x y d e _ _ h1 h3 (by omega) (by omega) h
    rw [h5, all_apart xs ys d e h2 h4 (by omega) (by omega) h6]
end
end Go.Proofs.YtemnjoiajmcpjaaGreatDoor.M
namespace Go.Proofs.YtemnjoiajmcpjaaGreatDoor.M

mutual
/-- What is right in some lists is right in more, or too deep. -/
theorem formI_deep : ∀ (x : It) (d e : Nat), formI d x = 0 → d ≤ e → e ≤ 12 → formI e x = if deepI x + e ≤ 12 then 0 else 7
  | .mk false b xs, d, e, h, _, he => by
    obtain ⟨_, h2⟩ := formI_ok h
    obtain rfl := h2 rfl
    rw [deepI, if_pos (by omega), formI]
    simp
  | .mk true b xs, d, e, h, hde, he => by
    obtain ⟨h1, _⟩ := formI_ok h
    obtain ⟨rfl, h3, h4, h5⟩ := h1 rfl
    rw [deepI, formI]
    rw [if_neg (by simp), if_neg (by simp)]
    by_cases h12 : 12 ≤ e
    · rw [if_pos h12, if_neg (by omega)]
    · rw [if_neg h12, if_neg (by omega), formIs_deep xs (d + 1) (e + 1) h5 (by omega) (by omega)]
      by_cases hq : deepIs xs + (e + 1) ≤ 12
      · rw [if_pos hq, if_pos (by omega)]
      · rw [if_neg hq, if_neg (by omega)]
theorem formIs_deep : ∀ (xs : List It) (d e : Nat), formIs d xs = 0 → d ≤ e → e ≤ 12 → formIs e xs = if deepIs xs + e ≤ 12 then 0 else 7
  | [], _, e, _, _, he => by rw [formIs, deepIs, if_pos (by omega)]
  | x :: xs, d, e, h, hde, he => by
    obtain ⟨h1, h2⟩ := formIs_ok h
    rw [formIs, deepIs, formI_deep x d e h1 hde he, formIs_deep xs d e h2 hde he]
    by_cases hx : deepI x + e ≤ 12
    · rw [if_pos hx, if_neg (by simp)]
      by_cases hq : deepIs xs + e ≤ 12
      · rw [if_pos hq, if_pos (by omega)]
      · rw [if_neg hq, if_neg (by omega)]
    · rw [if_neg hx, if_pos (by simp), if_neg (by omega)]
end
mutual
theorem formI_mono : ∀ (x : It) (d e : Nat), formI d x = 0 → e ≤ d → formI e x = 0
  | .mk false b xs, d, e, h, _ => by
    obtain ⟨_, h2⟩ := formI_ok h
    obtain rfl := h2 rfl
    rw [formI]
    simp
  | .mk true b xs, d, e, h, hde => by
    obtain ⟨h1, _⟩ := formI_ok h
    obtain ⟨rfl, h3, h4, h5⟩ := h1 rfl
    rw [formI, if_neg (by simp), if_neg (by simp), if_neg (by omega), if_neg (by omega)]
    exact formIs_mono xs (d + 1) (e + 1) h5 (by omega)
theorem formIs_mono : ∀ (xs : List It) (d e : Nat), formIs d xs = 0 → e ≤ d → formIs e xs = 0
  | [], _, _, _, _ => by rw [formIs]
  | x :: xs, d, e, h, hde => by
    obtain ⟨h1, h2⟩ := formIs_ok h
    rw [formIs, formI_mono x d e h1 hde, if_neg (by simp)]
    exact formIs_mono xs d e h2 hde
end
theorem checkI_ok {x : It} : checkI x = 0 ↔ formI 0 x = 0 ∧ (bytesI x).length ≤ 65536 := by
  unfold checkI
  by_cases h : formI 0 x = 0 ∧ 65536 < (bytesI x).length
  · rw [if_pos h]
    exact ⟨fun h' => (by cases h'), fun h' => by omega⟩
  · rw [if_neg h]
    exact ⟨fun h' => ⟨h', by omega⟩, fun h' => h'.1⟩
/-- A right item is no deeper than 12. -/
theorem deep_12 {x : It} (h : formI 0 x = 0) : deepI x ≤ 12 := by
  have := formI_deep x 0 0 h (Nat.le_refl _) (by omega)
  rw [h] at this
  split at this
  · omega
  · cases this
/-- A list of one right item. -/
theorem list_one {x : It} (h : formI 0 x = 0) : formI 0 (.mk true [] [x]) = if deepI x < 12 then 0 else 7 := by
  rw [formI, if_neg (by simp), if_neg (by simp), if_neg (by omega), if_neg (by simp), formIs_deep [x] 0 1 (by rw [formIs, h, formIs]; simp) (by omega) (by omega)]
  have e : deepIs [x] = deepI x := by rw [deepIs, deepIs]; omega
  rw [e]
  by_cases hq : deepI x < 12
  · rw [if_pos hq, if_pos (by omega)]
  · rw [if_neg hq, if_neg (by omega)]

theorem hdL_length {n p : Nat} (hn : n ≤ 65536) : 1 ≤ (hdL n p).length ∧ (hdL n p).length ≤ 4 ∧ ((hdL n p).length = 1 ↔ n < 56) := by
  unfold hdL
  have h3 : (ben n).length ≤ 3 := (ben_width (by omega) (by omega)).2 (by omega)
  by_cases h : n < 56
  · rw [if_pos h]; simp [h]
  · have := ben_pos (n := n) (by omega) (by omega)
    rw [if_neg h]
    simp only [List.length_cons]
    omega
mutual
theorem part_size : ∀ (xs : List It) (x : It), x ∈ xs → (bytesI x).length ≤ (bytesIs xs).length
  | [], _, h => by cases h
  | y :: ys, x, h => by
    rw [bytesIs, List.length_append]
    rcases List.mem_cons.1 h with rfl | h
    · omega
    · have := part_size ys x h; omega
end
theorem part_form : ∀ {xs : List It} {d : Nat}, formIs d xs = 0 → ∀ x ∈ xs, formI d x = 0
  | [], _, _, _, h => by cases h
  | y :: ys, d, hf, x, h => by
    obtain ⟨h1, h2⟩ := formIs_ok hf
    rcases List.mem_cons.1 h with rfl | h
    · exact h1
    · exact part_form h2 x h
/-- The parts of a right list are right. -/
theorem part_check {xs : List It} {x : It} {b : List UInt8} (h : checkI (.mk true b xs) = 0) (hx : x ∈ xs) : checkI x = 0 := by
  obtain ⟨h1, h2⟩ := checkI_ok.1 h
  obtain ⟨h3, _⟩ := formI_ok h1
  obtain ⟨_, _, _, h4⟩ := h3 rfl
  rw [bytesI, List.length_append] at h2
  exact checkI_ok.2 ⟨formI_mono x 1 0 (part_form h4 x hx) (by omega), by have := part_size xs x hx; omega⟩
theorem bytesIs_append (xs ys : List It) : bytesIs (xs ++ ys) = bytesIs xs ++ bytesIs ys := by
  induction xs with
  | nil => rfl
  | cons x xs ih => rw [List.cons_append, bytesIs, bytesIs, ih, List.append_assoc]

mutual
def sameI : It → It → Bool
  | .mk la ba xs, .mk lb bb ys => la == lb && (ba == bb && (xs.length == ys.length && sameIs xs ys))
def sameIs : List It → List It → Bool
  | x :: xs, y :: ys => sameI x y && sameIs xs ys
  | _, _ => true
end
mutual
theorem sameI_iff : ∀ (x y : It), sameI x y = true ↔ x = y
  | .mk la ba xs, .mk lb bb ys => by
    rw [sameI]
    simp only [Bool.and_eq_true, beq_iff_eq, It.mk.injEq]
    constructor
    · rintro ⟨h1, h2, h3, h4⟩
      exact ⟨h1, h2, (sameIs_iff xs ys h3).1 h4⟩
    · rintro ⟨h1, h2, h3⟩
      subst h3
      exact ⟨h1, h2, rfl, (sameIs_iff xs xs rfl).2 rfl⟩
theorem sameIs_iff : ∀ (xs ys : List It), xs.length = ys.length → (sameIs xs ys = true ↔ xs = ys)
  | [], [], _ => by simp [sameIs]
  | x :: xs, y :: ys, h => by
    rw [sameIs]
    simp only [Bool.and_eq_true, List.cons.injEq]
    rw [sameI_iff x y, sameIs_iff xs ys (by simpa using h)]
end
/-- Two right items: their bytes, and whether they are alike. -/
theorem apart_same {a b : It} (ha : checkI a = 0) (hb : checkI b = 0) : (bytesI a = bytesI b ↔ sameI a b = true) ∧ ((bytesI b).take (bytesI a).length = bytesI a ↔ sameI a b = true) := by
  obtain ⟨a1, a2⟩ := checkI_ok.1 ha
  obtain ⟨b1, b2⟩ := checkI_ok.1 hb
  have key : ∀ r s, bytesI a ++ r = bytesI b ++ s → a = b := fun r s h => (bytes_apart a b 0 0 r s a1 b1 (by omega) (by omega) h).1
  rw [sameI_iff]
  refine ⟨⟨fun h => key [] [] (by rw [h]), fun h => by rw [h]⟩, ⟨fun h => ?_, fun h => by rw [h]; simp⟩⟩
  refine key ((bytesI b).drop (bytesI a).length) [] ?_
  rw [List.append_nil]
  exact (congrArg (· ++ (bytesI b).drop (bytesI a).length) h.symm).trans (List.take_append_drop _ _)

theorem ben_one {n : Nat} (h0 : 0 < n) (h : n < 256) : ben n = [UInt8.ofNat n] := by
  have h1 := ben_pos (n := n) (by omega) h0
  have h2 := (ben_width (n := n) (k := 1) (by omega) (by omega)).2 (by omega)
  have hd := dg_ben (n := n) (by omega)
  match hb : ben n with
  | [] => rw [hb] at h1; simp at h1
  | [c] =>
    rw [hb] at hd
    have : c.toNat = n := by simpa [dg, dgA] using hd
    rw [← this, UInt8.ofNat_toNat]
  | _ :: _ :: _ => rw [hb] at h2; simp at h2
theorem ben_two {n : Nat} (h0 : 256 ≤ n) (h : n < 65536) : ben n = [UInt8.ofNat (n / 256), UInt8.ofNat (n % 256)] := by
  have h1 : ¬ (ben n).length ≤ 1 := fun hl => by have := (ben_width (n := n) (k := 1) (by omega) (by omega)).1 hl; omega
  have h2 := (ben_width (n := n) (k := 2) (by omega) (by omega)).2 (by omega)
  have hd := dg_ben (n := n) (by omega)
  match hb : ben n with
  | [] => rw [hb] at h1; simp at h1
  | [_] => rw [hb] at h1; simp at h1
  | [c, d] =>
    rw [hb] at hd
    have hd' : c.toNat * 256 + d.toNat = n := by simpa [dg, dgA] using hd
    have hdl := d.toNat_lt
    have e1 : n / 256 = c.toNat := by omega
    have e2 : n % 256 = d.toNat := by omega
    rw [e1, e2, UInt8.ofNat_toNat, UInt8.ofNat_toNat]
  | _ :: _ :: _ :: _ => rw [hb] at h2; simp at h2
/-- Bytes as an item: with their head. -/
theorem short_one {b : List UInt8} {c : UInt8} (h : b = [c]) (hc : c.toNat < 128) : bytesI (.mk false b []) = b := by
  subst h
  rw [bytesI, if_pos ⟨rfl, hc⟩]
theorem short_55 {b : List UInt8} (h1 : ¬ (b.length = 1 ∧ (b.headD 0).toNat < 128)) (h : b.length < 56) : bytesI (.mk false b []) = UInt8.ofNat (128 + b.length) :: b := by
  rw [bytesI, if_neg h1, hdL, if_pos h]
  rfl
theorem short_255 {b : List UInt8} (h : 56 ≤ b.length) (h2 : b.length < 256) : bytesI (.mk false b []) = 184 :: UInt8.ofNat b.length :: b := by
  rw [bytesI, if_neg (by omega), hdL, if_neg (by omega), ben_one (by omega) h2]
  rfl
theorem short_long {b : List UInt8} (h : 256 ≤ b.length) (h2 : b.length < 65536) : bytesI (.mk false b []) = 185 :: UInt8.ofNat (b.length / 256) :: UInt8.ofNat (b.length % 256) :: b := by
  rw [bytesI, if_neg (by omega), hdL, if_neg (by omega), ben_two h h2]
  rfl
end Go.Proofs.YtemnjoiajmcpjaaGreatDoor.M
namespace Go.Proofs.YtemnjoiajmcpjaaGreatDoor.M

mutual
def cntI : It → Nat
  | .mk _ _ xs => 1 + cntIs xs
def cntIs : List It → Nat
  | [] => 0
  | x :: xs => cntI x + cntIs xs
end
mutual
/-- No bytes in it are longer than any string. -/
def smI : It → Prop
  | .mk _ b xs => b.length ≤ 140737488355328 ∧ smIs xs
def smIs : List It → Prop
  | [] => True
  | x :: xs => smI x ∧ smIs xs
end
theorem hdL_9 {n p : Nat} (hn : n < 18446744073709551616) : 1 ≤ (hdL n p).length ∧ (hdL n p).length ≤ 9 := by
  unfold hdL
  have h3 := ben_le hn
  by_cases h : n < 56
  · rw [if_pos h]; simp
  · rw [if_neg h]
    simp only [List.length_cons]
    omega
mutual
theorem bytesI_most : ∀ x : It, smI x → cntI x ≤ 1000 → (bytesI x).length ≤ cntI x * 140737488355337
  | .mk true b xs, hs, hc => by
    rw [cntI] at hc ⊢
    rw [smI] at hs
    have h1 := bytesIs_most xs hs.2 (by omega)
    rw [bytesI, List.length_append]
    have h2 := (hdL_9 (n := (bytesIs xs).length) (p := 192) (by omega)).2
    omega
  | .mk false b xs, hs, hc => by
    rw [cntI] at hc ⊢
    rw [smI] at hs
    rw [bytesI]
    split
    · omega
    · rw [List.length_append]
      have h2 := (hdL_9 (n := b.length) (p := 128) (by omega)).2
      omega
theorem bytesIs_most : ∀ xs : List It, smIs xs → cntIs xs ≤ 1000 → (bytesIs xs).length ≤ cntIs xs * 140737488355337
  | [], _, _ => by simp [bytesIs]
  | x :: xs, hs, hc => by
    rw [cntIs] at hc ⊢
    rw [smIs] at hs
    have h1 := bytesI_most x hs.1 (by omega)
    have h2 := bytesIs_most xs hs.2 (by omega)
    rw [bytesIs, List.length_append]
    omega
end
mutual
theorem deepI_most : ∀ x : It, deepI x ≤ cntI x
  | .mk true b xs => by
    rw [deepI, cntI]
    have := deepIs_most xs
    omega
  | .mk false b xs => by rw [deepI]; omega
theorem deepIs_most : ∀ xs : List It, deepIs xs ≤ cntIs xs
  | [] => by rw [deepIs, cntIs]; omega
  | x :: xs => by
    rw [deepIs, cntIs]
    have h1 := deepI_most x
    have h2 := deepIs_most xs
    omega
end
theorem cntI_pos (x : It) : 1 ≤ cntI x := by cases x; rw [cntI]; omega
theorem length_cnt : ∀ xs : List It, xs.length ≤ cntIs xs
  | [] => Nat.zero_le _
  | x :: xs => by
    rw [cntIs, List.length_cons]
    have h1 := cntI_pos x
    have h2 := length_cnt xs
    omega
theorem cntIs_append (xs ys : List It) : cntIs (xs ++ ys) = cntIs xs + cntIs ys := by
  induction xs with
  | nil => simp [cntIs]
  | cons x xs ih => rw [List.cons_append, cntIs, cntIs, ih, Nat.add_assoc]
theorem deepIs_append (xs ys : List It) : deepIs (xs ++ ys) = max (deepIs xs) (deepIs ys) := by
  induction xs with
  | nil => simp [deepIs]
  | cons x xs ih => rw [List.cons_append, deepIs, deepIs, ih, Nat.max_assoc]
theorem take_next {xs : List It} {k : Nat} {x : It} (h : xs[k]? = some x) : xs.take (k + 1) = xs.take k ++ [x] := by
  rw [List.take_add_one, h]; rfl
theorem bytesIs_next {xs : List It} {k : Nat} {x : It} (h : xs[k]? = some x) : bytesIs (xs.take (k + 1)) = bytesIs (xs.take k) ++ bytesI x := by
  rw [take_next h, bytesIs_append]; simp [bytesIs]
theorem cntIs_next {xs : List It} {k : Nat} {x : It} (h : xs[k]? = some x) : cntIs (xs.take (k + 1)) = cntIs (xs.take k) + cntI x := by
  rw [take_next h, cntIs_append]; simp [cntIs]
theorem deepIs_next {xs : List It} {k : Nat} {x : It} (h : xs[k]? = some x) : deepIs (xs.take (k + 1)) = max (deepIs (xs.take k)) (deepI x) := by
  rw [take_next h, deepIs_append]; simp [deepIs]
theorem bytesIs_part (xs : List It) (k : Nat) : (bytesIs (xs.take k)).length ≤ (bytesIs xs).length := by
  have := bytesIs_append (xs.take k) (xs.drop k)
  rw [List.take_append_drop] at this
  rw [this, List.length_append]; omega
theorem deepIs_part (xs : List It) (k : Nat) : deepIs (xs.take k) ≤ deepIs xs := by
  have := deepIs_append (xs.take k) (xs.drop k)
  rw [List.take_append_drop] at this
  omega
theorem deepI_part : ∀ {xs : List It} {x : It}, x ∈ xs → deepI x ≤ deepIs xs
  | y :: ys, x, h => by
    rw [deepIs]
    rcases List.mem_cons.1 h with rfl | h
    · omega
    · have := deepI_part h; omega
theorem cntI_part : ∀ {xs : List It} {x : It}, x ∈ xs → cntI x ≤ cntIs xs
  | y :: ys, x, h => by
    rw [cntIs]
    rcases List.mem_cons.1 h with rfl | h
    · omega
    · have := cntI_part h; omega
theorem smI_part : ∀ {xs : List It} {x : It}, smIs xs → x ∈ xs → smI x
  | y :: ys, x, hs, h => by
    rw [smIs] at hs
    rcases List.mem_cons.1 h with rfl | h
    · exact hs.1
    · exact smI_part hs.2 h

theorem formIs_append (d : Nat) (xs ys : List It) : formIs d (xs ++ ys) = if formIs d xs ≠ 0 then formIs d xs else formIs d ys := by
  induction xs with
  | nil => simp [formIs]
  | cons x xs ih =>
    rw [List.cons_append, formIs, formIs, ih]
    by_cases h1 : formI d x ≠ 0
    · rw [if_pos h1, if_pos h1, if_pos h1]
    · rw [if_neg h1, if_neg h1]
theorem formIs_next {d : Nat} {xs : List It} {k : Nat} {x : It} (h : xs[k]? = some x) (h0 : formIs d (xs.take k) = 0) : formIs d (xs.take (k + 1)) = formI d x := by
  rw [take_next h, formIs_append, h0, if_neg (by simp), formIs, formIs]
  split <;> omega
theorem formIs_first {d : Nat} {xs : List It} {k : Nat} {x : It} (h : xs[k]? = some x) (h0 : formIs d (xs.take k) = 0) (h1 : formI d x ≠ 0) : formIs d xs = formI d x := by
  have h2 := formIs_append d (xs.take (k + 1)) (xs.drop (k + 1))
  rw [List.take_append_drop, formIs_next h h0, if_pos h1] at h2
  exact h2

theorem sameIs_next : ∀ {xs ys : List It} {k : Nat} {x y : It}, xs[k]? = some x → ys[k]? = some y → sameIs (xs.take (k + 1)) (ys.take (k + 1)) = (sameIs (xs.take k) (ys.take k) && sameI x y)
  | x' :: xs, y' :: ys, 0, x, y, h, g => by
    simp at h g
    subst h g
    simp [sameIs]
  | x' :: xs, y' :: ys, k + 1, x, y, h, g => by
    simp at h g
    simp only [List.take_succ_cons, sameIs]
    rw [sameIs_next h g, Bool.and_assoc]
theorem sameIs_all {xs ys : List It} (h : xs.length = ys.length) : sameIs (xs.take xs.length) (ys.take xs.length) = sameIs xs ys := by
  rw [List.take_length, h, List.take_length]
theorem sameIs_no : ∀ {xs ys : List It} {k : Nat} {x y : It}, xs[k]? = some x → ys[k]? = some y → sameI x y = false → sameIs xs ys = false
  | x' :: xs, y' :: ys, 0, x, y, h, g, e => by
    simp at h g
    subst h g
    simp [sameIs, e]
  | x' :: xs, y' :: ys, k + 1, x, y, h, g, e => by
    simp at h g
    rw [sameIs, sameIs_no h g e, Bool.and_false]
end Go.Proofs.YtemnjoiajmcpjaaGreatDoor.M
namespace Go.Proofs.YtemnjoiajmcpjaaGreatDoor.M

theorem encode_ok {x : It} (h : checkI x = 0) : encodeI x = (bytesI x, 0) := by unfold encodeI; rw [if_pos h]
theorem encode_no {x : It} (h : checkI x ≠ 0) : encodeI x = ([], checkI x) := by unfold encodeI; rw [if_neg h]
theorem few_size {x : It} (h : cntI x ≤ 120) (hs : smI x) : (bytesI x).length ≤ 20000000000000000 := by
  have := bytesI_most x hs (by omega)
  omega
mutual
theorem formI_le : ∀ (x : It) (d : Nat), formI d x ≤ 7
  | .mk l b xs, d => by
    have := formIs_le xs (d + 1)
    rw [formI]
    split
    · omega
    · split
      · omega
      · split
        · omega
        · split <;> omega
theorem formIs_le : ∀ (xs : List It) (d : Nat), formIs d xs ≤ 7
  | [], d => by rw [formIs]; omega
  | x :: xs, d => by
    have h1 := formI_le x d
    have h2 := formIs_le xs d
    rw [formIs]
    split <;> omega
end
theorem checkI_le (x : It) : checkI x ≤ 7 := by
  unfold checkI
  have := formI_le x 0
  split <;> omega
theorem deep_one (x : It) : deepI (.mk true [] [x]) = deepI x + 1 := by rw [deepI, deepIs, deepIs]; omega
theorem size_one (x : It) (h : (bytesI x).length < 18446744073709551616) : (bytesI (.mk true [] [x])).length ≤ (bytesI x).length + 9 := by
  have e : bytesIs [x] = bytesI x := by rw [bytesIs, bytesIs, List.append_nil]
  rw [bytesI, e, List.length_append]
  have := (hdL_9 (n := (bytesI x).length) (p := 192) h).2
  omega
theorem check_one {x : It} (h : checkI x = 0) (hs : (bytesI x).length ≤ 60000) : checkI (.mk true [] [x]) = if deepI x < 12 then 0 else 7 := by
  have h1 := checkI_ok.1 h
  have h2 := list_one h1.1
  have h3 := size_one x (by omega)
  unfold checkI
  rw [h2]
  by_cases hd : deepI x < 12
  · rw [if_pos hd, if_neg (by omega)]
  · rw [if_neg hd, if_neg (by omega)]
/-- Short bytes are an item. -/
theorem check_short {b : List UInt8} (h : b.length ≤ 3000) : checkI (.mk false b []) = 0 := by
  refine checkI_ok.2 ⟨by rw [formI]; simp, ?_⟩
  rw [bytesI]
  split
  · omega
  · rw [List.length_append]
    have := (hdL_9 (n := b.length) (p := 128) (by omega)).2
    omega
end Go.Proofs.YtemnjoiajmcpjaaGreatDoor.M
namespace Go.Proofs.YtemnjoiajmcpjaaGreatDoor.M
open Go

inductive Ty | mk (k n : Int) (ins : List Ty)
inductive Va | mk (num : Nat) (bits : List Bool) (items : List Va) (pick : Int)
def Ty.k : Ty → Int | .mk k _ _ => k
def Ty.n : Ty → Int | .mk _ n _ => n
def Ty.ins : Ty → List Ty | .mk _ _ ins => ins
instance : Inhabited Ty := ⟨.mk 0 0 []⟩

def formT (k n : Int) (m : Nat) : Bool :=
  if k = 1 then m == 0 && (n == 1 || n == 2 || n == 4 || n == 8 || n == 32)
  else if k = 2 then m == 0 && n == 0
  else if k = 3 ∨ k = 4 then m == 1 && decide (1 ≤ n) && decide (n ≤ 512)
  else if k = 5 ∨ k = 6 then m == 0 && decide (1 ≤ n) && decide (n ≤ 512)
  else if k = 7 then n == 0 && decide (1 ≤ m) && decide (m ≤ 16)
  else n == 0 && decide (1 ≤ m) && decide (m ≤ 8)

mutual
def cntT : Ty → Nat
  | .mk _ _ ins => 1 + cntTs ins
def cntTs : List Ty → Nat
  | [] => 0
  | t :: ts => cntT t + cntTs ts
end
mutual
def cntV : Va → Nat
  | .mk _ bits items _ => 1 + bits.length / 8 + cntVs items
def cntVs : List Va → Nat
  | [] => 0
  | v :: vs => cntV v + cntVs vs
end
mutual
def chkT (d : Nat) : Ty → Nat
  | .mk k n ins => if k < 1 ∨ 8 < k then 9 else if formT k n ins.length = false then 2 else if 6 ≤ d then 7 else chkTs (d + 1) ins
def chkTs (d : Nat) : List Ty → Nat
  | [] => 0
  | t :: ts => if chkT d t ≠ 0 then chkT d t else chkTs d ts
end
mutual
def fixT : Ty → Bool
  | .mk k _ ins => if k = 4 ∨ k = 6 ∨ k = 8 then false else fixTs ins
def fixTs : List Ty → Bool
  | [] => true
  | t :: ts => if fixT t = false then false else fixTs ts
end
mutual
def szT : Ty → Nat
  | .mk k n ins => if k = 1 then n.toNat else if k = 2 then 1 else if k = 5 then (n.toNat + 7) / 8 else if k = 3 then n.toNat * szTs ins else szTs ins
def szTs : List Ty → Nat
  | [] => 0
  | t :: ts => szT t + szTs ts
end
def fixedT (t : Ty) : Bool := if chkT 0 t = 0 then fixT t else false
def sizeT (t : Ty) : Nat := if fixedT t = true then szT t else 0

def ofV (k n : Int) (m : Nat) : Va → Bool
  | .mk num bits items pick =>
    if k = 1 then bits.length == 0 && items.length == 0 && pick == 0 && decide (((tr (f32 num)).length : Int) ≤ n)
    else if k = 2 then bits.length == 0 && items.length == 0 && pick == 0 && (num == 0 || num == 1)
    else if k = 3 then num == 0 && bits.length == 0 && pick == 0 && decide ((items.length : Int) = n)
    else if k = 4 then num == 0 && bits.length == 0 && pick == 0
    else if k = 5 then num == 0 && items.length == 0 && pick == 0 && decide ((bits.length : Int) = n)
    else if k = 6 then num == 0 && items.length == 0 && pick == 0
    else if k = 7 then num == 0 && bits.length == 0 && pick == 0 && items.length == m
    else num == 0 && bits.length == 0 && items.length == 1 && decide (0 ≤ pick) && decide (pick < m)
/-- The type of an item, by its place. -/
def inT (k : Int) (ins : List Ty) (pick : Int) (i : Nat) : Ty := if k = 7 then ins[i]?.getD default else if k = 8 then ins[pick.toNat]?.getD default else ins[0]?.getD default
mutual
def fitV (t : Ty) : Va → Nat
  | .mk num bits items pick =>
    if (t.k = 4 ∧ t.n < items.length) ∨ (t.k = 6 ∧ t.n < bits.length) then 5
    else if ofV t.k t.n t.ins.length (.mk num bits items pick) = false then 2
    else fitVs t.k t.ins pick 0 items
def fitVs (k : Int) (ins : List Ty) (pick : Int) (i : Nat) : List Va → Nat
  | [] => 0
  | v :: vs => if fitV (inT k ins pick i) v ≠ 0 then fitV (inT k ins pick i) v else fitVs k ins pick (i + 1) vs
end
def fitsV (t : Ty) (v : Va) : Nat := if chkT 0 t = 0 then fitV t v else chkT 0 t
mutual
def sameV : Va → Va → Bool
  | .mk a b c d, .mk a' b' c' d' => a == a' && d == d' && b == b' && (c.length == c'.length && sameVs c c')
def sameVs : List Va → List Va → Bool
  | v :: vs, u :: us => sameV v u && sameVs vs us
  | _, _ => true
end

theorem chkTs_ok {d : Nat} : ∀ {ts : List Ty}, chkTs d ts = 0 ↔ ∀ t ∈ ts, chkT d t = 0
  | [] => by simp [chkTs]
  | t :: ts => by
    rw [chkTs]
    by_cases h : chkT d t = 0
    · rw [if_neg (by simp [h]), chkTs_ok]
      simp [h]
    · rw [if_pos h]
      simp [h]
theorem chkT_ok {d : Nat} {k n : Int} {ins : List Ty} : chkT d (.mk k n ins) = 0 ↔ (1 ≤ k ∧ k ≤ 8) ∧ formT k n ins.length = true ∧ d < 6 ∧ chkTs (d + 1) ins = 0 := by
  rw [chkT]
  by_cases h1 : k < 1 ∨ 8 < k
  · rw [if_pos h1]; constructor
    · intro h; cases h
    · rintro ⟨h, _⟩; omega
  · rw [if_neg h1]
    by_cases h2 : formT k n ins.length = false
    · rw [if_pos h2]; constructor
      · intro h; cases h
      · rintro ⟨_, h, _⟩; rw [h2] at h; cases h
    · rw [if_neg h2]
      by_cases h3 : 6 ≤ d
      · rw [if_pos h3]; constructor
        · intro h; cases h
        · rintro ⟨_, _, h, _⟩; omega
      · rw [if_neg h3]
        rw [Bool.not_eq_false] at h2
        constructor
        · intro h; exact ⟨by omega, h2, by omega, h⟩
        · rintro ⟨_, _, _, h⟩; exact h
theorem fixTs_ok : ∀ {ts : List Ty}, fixTs ts = true ↔ ∀ t ∈ ts, fixT t = true
  | [] => by simp [fixTs]
  | t :: ts => by
    rw [fixTs]
    by_cases h : fixT t = true
    · rw [if_neg (by simp [h]), fixTs_ok]
      simp [h]
    · rw [if_pos (by simpa using h)]
      simp [h]
/-- As deep, or less deep. -/
theorem chkT_mono : ∀ (t : Ty) (d e : Nat), chkT d t = 0 → e ≤ d → chkT e t = 0
  | .mk k n ins, d, e, h, hed => by
    obtain ⟨h1, h2, h3, h4⟩ := chkT_ok.1 h
    exact chkT_ok.2 ⟨h1, h2, by omega, chkTs_ok.2 fun t ht => chkT_mono t (d + 1) (e + 1) (chkTs_ok.1 h4 t ht) (by omega)⟩
termination_by t => SizeOf.sizeOf t
decreasing_by have := List.sizeOf_lt_of_mem ht; simp; omega
/-- What stands in a type that is one is one. -/
theorem chkT_in {k n : Int} {ins : List Ty} {t : Ty} (h : chkT 0 (.mk k n ins) = 0) (ht : t ∈ ins) : chkT 0 t = 0 :=
  chkT_mono t 1 0 (chkTs_ok.1 (chkT_ok.1 h).2.2.2 t ht) (by omega)
/-- Deeper: what is one there is one, or too deep. -/
theorem chkT_deep : ∀ (t : Ty) (d e : Nat), d ≤ e → chkT d t = 0 → chkT e t = 0 ∨ chkT e t = 7
  | .mk k n ins, d, e, hde, h => by
    obtain ⟨h1, h2, h3, h4⟩ := chkT_ok.1 h
    rw [chkT, if_neg (by omega), if_neg (by rw [h2]; simp)]
    by_cases h5 : 6 ≤ e
    · rw [if_pos h5]; exact .inr rfl
    · rw [if_neg h5]
      have : ∀ ts : List Ty, (∀ t ∈ ts, t ∈ ins) → chkTs (e + 1) ts = 0 ∨ chkTs (e + 1) ts = 7 := fun ts => by
        induction ts with
        | nil => intro _; exact .inl rfl
        | cons t ts ih =>
          intro hm
          have ht := hm t (by simp)
          rw [chkTs]
          rcases chkT_deep t (d + 1) (e + 1) (by omega) (chkTs_ok.1 h4 t ht) with h6 | h6
          · rw [if_neg (by simp [h6])]
            exact ih fun u hu => hm u (by simp [hu])
          · rw [if_pos (by simp [h6])]
            exact .inr h6
      exact this ins fun t ht => ht
termination_by t => SizeOf.sizeOf t
decreasing_by have := List.sizeOf_lt_of_mem ht; simp; omega
/-- What is none is none in more types, either. -/
theorem chkT_none {n : Int} {t : Ty} (h : chkT 0 t ≠ 0) : chkT 0 (.mk 4 n [t]) ≠ 0 := fun h2 =>
  h (chkT_in h2 (by simp))
theorem chkT_list {n : Int} {t : Ty} (hn : 1 ≤ n ∧ n ≤ 512) (h : chkT 0 t = 0) : chkT 0 (.mk 4 n [t]) = 0 ∨ chkT 0 (.mk 4 n [t]) = 7 := by
  rw [chkT, if_neg (by omega), if_neg (by simp [formT, hn.1, hn.2]), if_neg (by omega), chkTs, chkTs]
  rcases chkT_deep t 0 1 (by omega) h with h6 | h6
  · rw [if_neg (by simp [h6])]; exact .inl rfl
  · rw [if_pos (by simp [h6])]; exact .inr h6

/-- How many bytes at most: so that no sum is too great. -/
theorem szT_most : ∀ (t : Ty) (d : Nat), chkT d t = 0 → szT t ≤ 64 * 512 ^ (6 - d)
  | .mk k n ins, d, h => by
    obtain ⟨h1, h2, h3, h4⟩ := chkT_ok.1 h
    have hin : ∀ t ∈ ins, szT t ≤ 64 * 512 ^ (6 - (d + 1)) := fun t ht => szT_most t (d + 1) (chkTs_ok.1 h4 t ht)
    have hsum : szTs ins ≤ ins.length * (64 * 512 ^ (6 - (d + 1))) := by
      have : ∀ ts : List Ty, (∀ t ∈ ts, szT t ≤ 64 * 512 ^ (6 - (d + 1))) → szTs ts ≤ ts.length * (64 * 512 ^ (6 - (d + 1))) := fun ts => by
        induction ts with
        | nil => intro _; simp [szTs]
        | cons t ts ih =>
          intro hm
          have g1 := hm t (by simp)
          have g2 := ih fun u hu => hm u (by simp [hu])
          rw [szTs, List.length_cons, Nat.add_mul]
          omega
      exact this ins hin
    have hpow : 512 ^ (6 - d) = 512 ^ (6 - (d + 1)) * 512 := by
      rw [show 6 - d = (6 - (d + 1)) + 1 by omega, Nat.pow_succ]
    have hpos : 1 ≤ 512 ^ (6 - (d + 1)) := Nat.one_le_pow _ _ (by omega)
    rw [hpow]
    generalize 512 ^ (6 - (d + 1)) = p at *
    unfold formT at h2
    rw [szT]
    split
    · rename_i e
      rw [if_pos e] at h2
      simp at h2
      rcases h2.2 with (((h | h) | h) | h) | h <;> omega
    · rename_i e1
      rw [if_neg e1] at h2
      split
      · omega
      · rename_i e2
        rw [if_neg e2] at h2
        split
        · rename_i e
          rw [if_neg (by omega), if_pos (by omega)] at h2
          simp at h2
          omega
        · rename_i e5
          split
          · rename_i e3
            rw [if_pos (by omega)] at h2
            simp at h2
            have h7 : ins.length = 1 := h2.1.1
            rw [h7, Nat.one_mul] at hsum
            have h8 : n.toNat ≤ 512 := by omega
            calc n.toNat * szTs ins ≤ 512 * (64 * p) := Nat.mul_le_mul h8 hsum
              _ = 64 * (p * 512) := by omega
          · rename_i e3
            have hl : ins.length ≤ 512 := by
              simp only [Bool.and_eq_true, beq_iff_eq, decide_eq_true_eq, Bool.ite_eq_true_distrib] at h2
              split at h2
              · omega
              · split at h2
                · omega
                · split at h2 <;> omega
            calc szTs ins ≤ ins.length * (64 * p) := hsum
              _ ≤ 512 * (64 * p) := Nat.mul_le_mul_right _ hl
              _ = 64 * (p * 512) := by omega
termination_by t => SizeOf.sizeOf t
decreasing_by have := List.sizeOf_lt_of_mem ht; simp; omega
end Go.Proofs.YtemnjoiajmcpjaaGreatDoor.M
namespace Go.Proofs.YtemnjoiajmcpjaaGreatDoor.M
open Go

theorem fitVs_ok {k : Int} {ins : List Ty} {pick : Int} : ∀ {vs : List Va} {i : Nat}, fitVs k ins pick i vs = 0 ↔ ∀ j v, vs[j]? = some v → fitV (inT k ins pick (i + j)) v = 0
  | [], i => by simp [fitVs]
  | v :: vs, i => by
    rw [fitVs]
    by_cases h : fitV (inT k ins pick i) v = 0
    · rw [if_neg (by simp [h]), fitVs_ok]
      constructor
      · intro h2 j u hj
        cases j with
        | zero => simp at hj; subst hj; exact h
        | succ j =>
          rw [show i + (j + 1) = i + 1 + j by omega]
          exact h2 j u (by simpa using hj)
      · intro h2 j u hj
        have := h2 (j + 1) u (by simpa using hj)
        rwa [show i + (j + 1) = i + 1 + j by omega] at this
    · rw [if_pos h]
      constructor
      · intro h2; exact absurd h2 h
      · intro h2; exact absurd (h2 0 v rfl) h

theorem fitV_eq (k n : Int) (ins : List Ty) (num : Nat) (bits : List Bool) (items : List Va) (pick : Int) : fitV (.mk k n ins) (.mk num bits items pick) =
    if (k = 4 ∧ n < items.length) ∨ (k = 6 ∧ n < bits.length) then 5 else if ofV k n ins.length (.mk num bits items pick) = false then 2 else fitVs k ins pick 0 items := by
  rw [fitV]
  rfl

/-- Which type an item of a value is held to. -/
def partK (k : Int) (m i : Nat) : Nat := if k = 7 then min i (m - 1) else 0
def manyP (k n : Int) (m l : Nat) : Bool := if k = 3 then decide ((l : Int) = n) else if k = 7 then decide (l = m) else decide ((l : Int) ≤ n)
theorem fitsV_in {t : Ty} {v : Va} (h : chkT 0 t = 0) : fitsV t v = fitV t v := by rw [fitsV, if_pos h]
theorem fitsV_fits {t : Ty} {v : Va} (h : fitsV t v = 0) : chkT 0 t = 0 := by
  rw [fitsV] at h
  by_cases h1 : chkT 0 t = 0
  · exact h1
  · rw [if_neg h1] at h; exact h

theorem fit_parts {k n : Int} {ins : List Ty} {num : Nat} {bits : List Bool} {items : List Va} {pick : Int} (hk : k = 3 ∨ k = 4 ∨ k = 7) (hc : chkT 0 (.mk k n ins) = 0) :
    fitsV (.mk k n ins) (.mk num bits items pick) = 0 ↔ (bits.length = 0 ∧ pick = 0 ∧ num = 0) ∧ (∀ i v, items[i]? = some v → fitsV (ins[partK k ins.length i]?.getD default) v = 0) ∧ manyP k n ins.length items.length = true := by
  obtain ⟨h1, h2, h3, h4⟩ := chkT_ok.1 hc
  have hchk : ∀ x ∈ ins, chkT 0 x = 0 := fun x hx => chkT_in hc hx
  rw [fitsV_in hc, fitV_eq]
  have hin : ins ≠ [] := fun e => by
    subst e
    rcases hk with rfl | rfl | rfl <;> simp [formT] at h2
  have hpos : 0 < ins.length := List.length_pos_iff.2 hin
  -- the type of an item
  have hty : ∀ i, (k = 7 → i < ins.length) → ∃ x, x ∈ ins ∧ ins[partK k ins.length i]?.getD default = x ∧ inT k ins pick i = x := fun i hi => by
    have hp : partK k ins.length i < ins.length := by unfold partK; split <;> omega
    refine ⟨ins[partK k ins.length i], List.getElem_mem _, by rw [List.getElem?_eq_getElem hp]; rfl, ?_⟩
    unfold inT
    by_cases h7 : k = 7
    · rw [if_pos h7]
      have : partK k ins.length i = i := by unfold partK; rw [if_pos h7]; have := hi h7; omega
      simp only [this]
      rw [List.getElem?_eq_getElem (hi h7)]; rfl
    · rw [if_neg h7, if_neg (by omega)]
      have : partK k ins.length i = 0 := by unfold partK; rw [if_neg h7]
      simp only [this]
      rw [List.getElem?_eq_getElem hpos]; rfl
  have hrow : (k = 7 → items.length = ins.length) → (fitVs k ins pick 0 items = 0 ↔ ∀ i v, items[i]? = some v → fitsV (ins[partK k ins.length i]?.getD default) v = 0) := fun hl => by
    rw [fitVs_ok]
    constructor
    · intro h i v hv
      have hiv := (List.getElem?_eq_some_iff.1 hv).1
      obtain ⟨x, hx, e1, e2⟩ := hty i fun h7 => by have := hl h7; omega
      have := h i v hv
      rw [Nat.zero_add, e2] at this
      rw [e1, fitsV_in (hchk x hx)]
      exact this
    · intro h i v hv
      have hiv := (List.getElem?_eq_some_iff.1 hv).1
      obtain ⟨x, hx, e1, e2⟩ := hty i fun h7 => by have := hl h7; omega
      have := h i v hv
      rw [e1, fitsV_in (hchk x hx)] at this
      rw [Nat.zero_add, e2]
      exact this
  rcases hk with rfl | rfl | rfl
  · rw [if_neg (by omega)]
    simp only [ofV, manyP]
    by_cases hb : (num = 0 ∧ bits.length = 0 ∧ pick = 0) ∧ (items.length : Int) = n
    · obtain ⟨⟨hn, hb1, hb2⟩, hb3⟩ := hb
      rw [if_neg (by simp [hn, hb1, hb2, hb3]), hrow (by omega)]
      simp [hn, hb1, hb2, hb3]
    · rw [if_pos (by simp; intro e1 e2 e3; exact fun e4 => hb ⟨⟨e1, by simp [e2], e3⟩, e4⟩)]
      constructor
      · intro h; cases h
      · rintro ⟨⟨e1, e2, e3⟩, _, e4⟩
        exact absurd ⟨⟨e3, e1, e2⟩, by simpa using e4⟩ hb
  · by_cases hlong : n < (items.length : Int)
    · rw [if_pos (.inl ⟨rfl, hlong⟩)]
      constructor
      · intro h; cases h
      · rintro ⟨_, _, h⟩
        simp [manyP] at h
        omega
    · rw [if_neg (by omega)]
      simp only [ofV, manyP]
      by_cases hb : num = 0 ∧ bits.length = 0 ∧ pick = 0
      · obtain ⟨hn, hb1, hb2⟩ := hb
        rw [if_neg (by simp [hn, hb1, hb2]), hrow (by omega)]
        simp [hn, hb1, hb2]
        intro _; omega
      · rw [if_pos (by simp; intro e1 e2 e3; exact hb ⟨e1, by simp [e2], e3⟩)]
        constructor
        · intro h; cases h
        · rintro ⟨⟨e1, e2, e3⟩, _⟩
          exact absurd ⟨e3, e1, e2⟩ hb
  · rw [if_neg (by omega)]
    simp only [ofV, manyP]
    by_cases hb : (num = 0 ∧ bits.length = 0 ∧ pick = 0) ∧ items.length = ins.length
    · obtain ⟨⟨hn, hb1, hb2⟩, hb3⟩ := hb
      rw [if_neg (by simp [hn, hb1, hb2, hb3]), hrow (fun _ => hb3)]
      simp [hn, hb1, hb2, hb3]
    · rw [if_pos (by simp; intro e1 e2 e3; exact fun e4 => hb ⟨⟨e1, by simp [e2], e3⟩, e4⟩)]
      constructor
      · intro h; cases h
      · rintro ⟨⟨e1, e2, e3⟩, _, e4⟩
        exact absurd ⟨⟨e3, e1, e2⟩, by simpa using e4⟩ hb

/-! Fixed types. -/
theorem szTs_mem : ∀ {ts : List Ty} {t : Ty}, t ∈ ts → szT t ≤ szTs ts
  | u :: ts, t, h => by
    rw [szTs]
    rcases List.mem_cons.1 h with rfl | h
    · omega
    · have := szTs_mem h; omega
theorem szT_pos : ∀ (t : Ty) (d : Nat), chkT d t = 0 → fixT t = true → 1 ≤ szT t
  | .mk k n ins, d, h, hf => by
    obtain ⟨h1, h2, h3, h4⟩ := chkT_ok.1 h
    rw [fixT] at hf
    by_cases hk : k = 4 ∨ k = 6 ∨ k = 8
    · rw [if_pos hk] at hf; cases hf
    · rw [if_neg hk] at hf
      have hne : (k = 3 ∨ k = 7) → 1 ≤ szTs ins := fun hk2 => by
        have hpos : 0 < ins.length := by
          rcases Nat.eq_zero_or_pos ins.length with h0 | h0
          · rw [h0] at h2
            rcases hk2 with rfl | rfl <;> simp [formT] at h2
          · exact h0
        have ht : ins[0] ∈ ins := List.getElem_mem hpos
        exact Nat.le_trans (szT_pos ins[0] (d + 1) (chkTs_ok.1 h4 _ ht) (fixTs_ok.1 hf _ ht)) (szTs_mem ht)
      unfold formT at h2
      rw [szT]
      split
      · rename_i e
        rw [if_pos e] at h2
        simp at h2
        rcases h2.2 with (((h | h) | h) | h) | h <;> omega
      · rename_i e1
        rw [if_neg e1] at h2
        split
        · omega
        · rename_i e2
          rw [if_neg e2] at h2
          split
          · rename_i e
            rw [if_neg (by omega), if_pos (by omega)] at h2
            simp at h2
            omega
          · rename_i e5
            split
            · rename_i e3
              rw [if_pos (by omega)] at h2
              simp at h2
              exact Nat.mul_le_mul (show 1 ≤ n.toNat by omega) (hne (.inl e3))
            · exact hne (.inr (by omega))
termination_by t => SizeOf.sizeOf t
decreasing_by have := List.sizeOf_lt_of_mem ht; simp; omega

theorem fixedT_ok {t : Ty} : fixedT t = true ↔ chkT 0 t = 0 ∧ fixT t = true := by
  unfold fixedT
  split <;> simp_all
theorem sizeT_fix {t : Ty} (h : fixedT t = true) : sizeT t = szT t := by rw [sizeT, if_pos h]
theorem sizeT_non {t : Ty} (h : fixedT t = false) : sizeT t = 0 := by rw [sizeT, if_neg (by simp [h])]
theorem fixedT_none {t : Ty} (h : chkT 0 t ≠ 0) : fixedT t = false := by rw [fixedT, if_neg h]
theorem fixedT_kind {k n : Int} {ins : List Ty} (h : k = 4 ∨ k = 6 ∨ k = 8) : fixedT (.mk k n ins) = false := by
  rw [fixedT, fixT, if_pos h]
  split <;> rfl
theorem fixedT_parts {k n : Int} {ins : List Ty} (hc : chkT 0 (.mk k n ins) = 0) (hk : ¬ (k = 4 ∨ k = 6 ∨ k = 8)) : fixedT (.mk k n ins) = ins.all fixedT := by
  rw [Bool.eq_iff_iff, List.all_eq_true, fixedT_ok, fixT, if_neg hk, fixTs_ok]
  constructor
  · rintro ⟨_, h⟩ x hx
    exact fixedT_ok.2 ⟨chkT_in hc hx, h x hx⟩
  · intro h
    exact ⟨hc, fun x hx => (fixedT_ok.1 (h x hx)).2⟩
/-- What those in a type come to. -/
def sumT : List Ty → Nat
  | [] => 0
  | t :: ts => sizeT t + sumT ts
theorem sumT_fix : ∀ {ts : List Ty}, ts.all fixedT = true → sumT ts = szTs ts
  | [], _ => rfl
  | t :: ts, h => by
    rw [List.all_cons, Bool.and_eq_true] at h
    rw [sumT, szTs, sizeT_fix h.1, sumT_fix h.2]
theorem sizeT_most (t : Ty) : sizeT t ≤ 64 * 512 ^ 6 := by
  unfold sizeT
  split
  · rename_i h
    exact szT_most t 0 (fixedT_ok.1 h).1
  · omega
/-- The size of a fixed type that others stand in. -/
theorem size_parts {k n : Int} {ins : List Ty} (hc : chkT 0 (.mk k n ins) = 0) (hk : ¬ (k = 4 ∨ k = 6 ∨ k = 8)) (ha : ins.all fixedT = true) :
    fixedT (.mk k n ins) = true ∧ 1 ≤ sizeT (.mk k n ins) ∧ (ins.length = 0 ∨ sizeT (.mk k n ins) = if k = 3 then sumT ins * n.toNat else sumT ins) := by
  have hf : fixedT (.mk k n ins) = true := by rw [fixedT_parts hc hk]; exact ha
  obtain ⟨_, hf2⟩ := fixedT_ok.1 hf
  obtain ⟨h1, h2, h3, h4⟩ := chkT_ok.1 hc
  refine ⟨hf, by rw [sizeT_fix hf]; exact szT_pos _ 0 hc hf2, ?_⟩
  rw [sizeT_fix hf, sumT_fix ha, szT]
  unfold formT at h2
  split
  · rename_i e
    rw [if_pos e] at h2
    simp at h2
    exact .inl (by simp [h2.1])
  · rename_i e1
    rw [if_neg e1] at h2
    split
    · rename_i e
      rw [if_pos e] at h2
      simp at h2
      exact .inl (by simp [h2.1])
    · rename_i e2
      rw [if_neg e2] at h2
      split
      · rename_i e
        rw [if_neg (by omega), if_pos (by omega)] at h2
        simp at h2
        exact .inl (by simp [h2.1.1])
      · split
        · exact .inr (Nat.mul_comm _ _)
        · exact .inr rfl
/-- Nothing is of a list, if it is one. -/
theorem fits_nil {n : Int} {t : Ty} : fitsV (.mk 4 n [t]) (.mk 0 [] [] 0) = chkT 0 (.mk 4 n [t]) := by
  rw [fitsV]
  split
  · rename_i h
    obtain ⟨h1, h2, h3, h4⟩ := chkT_ok.1 h
    simp [formT] at h2
    rw [h, fitV_eq]
    simp [ofV, fitVs]
    omega
  · rfl
end Go.Proofs.YtemnjoiajmcpjaaGreatDoor.M
namespace Go.Proofs.YtemnjoiajmcpjaaGreatDoor
open Go Go.RowKit

theorem bcell {W w1 : World} (hb : Below W.heap.size W w1) : (∀ b o, b < W.heap.size → w1.cell? ⟨b, o, none⟩ = W.cell? ⟨b, o, none⟩) ∧ (∀ b o, b < W.heap.size → w1.frozen? ⟨b, o, none⟩ = W.frozen? ⟨b, o, none⟩) :=
  ⟨fun b o h => hb.cell (p := ⟨b, o, none⟩) h, fun b o h => hb.frozen (p := ⟨b, o, none⟩) h⟩

theorem cat_eq (a b : List UInt8) : ((⟨a.toArray⟩ : ByteArray) ++ (⟨b.toArray⟩ : ByteArray)) = ⟨(a ++ b).toArray⟩ := by
  apply ByteArray.ext
  simp

end Go.Proofs.YtemnjoiajmcpjaaGreatDoor
namespace Go.Proofs.YtemnjoiajmcpjaaGreatDoor
open Go Go.RowKit

/-- A word as a value. -/
abbrev wd (a b c d : Int) : Value := .agg #[.int .u64 a, .int .u64 b, .int .u64 c, .int .u64 d]

/-- A number's word. -/
abbrev wn (N : Nat) : Value := wd (M.pt 0 N) (M.pt 1 N) (M.pt 2 N) (M.pt 3 N)

end Go.Proofs.YtemnjoiajmcpjaaGreatDoor
namespace Go.Proofs.YtemnjoiajmcpjaaGreatDoor
open Go Go.RowKit

/-- What a slice of types leads to, in the first n blocks. -/
inductive LayT (w : World) (n : Nat) : List M.Ty → Value → Prop
  | nil_ {a : Option Addr} {cap : Nat} (hm : cap ≤ maxLen) : LayT w n [] (.slice a 0 cap)
  | row {ts : List M.Ty} {b o cap : Nat} (V : Nat → Value) (hb : b < n) (hc : ts.length ≤ cap) (hm : cap ≤ maxLen)
      (c0 : ∀ (i : Nat) (k m : Int) (us : List M.Ty), ts[i]? = some (M.Ty.mk k m us) → w.cell? ⟨b, o + i * 3, none⟩ = some (.int .i64 k))
      (c1 : ∀ (i : Nat) (k m : Int) (us : List M.Ty), ts[i]? = some (M.Ty.mk k m us) → w.cell? ⟨b, o + i * 3 + 1, none⟩ = some (.int .i64 m))
      (c2 : ∀ (i : Nat) (k m : Int) (us : List M.Ty), ts[i]? = some (M.Ty.mk k m us) → w.cell? ⟨b, o + i * 3 + 2, none⟩ = some (V i))
      (r : ∀ (i : Nat) (k m : Int) (us : List M.Ty), ts[i]? = some (M.Ty.mk k m us) → LayT w n us (V i)) : LayT w n ts (.slice (some ⟨b, o, none⟩) ts.length cap)
theorem LayT.from_ {w W : World} {n : Nat} {ts : List M.Ty} {v : Value} (h : LayT w n ts v) (hb : Below n w W) : LayT W n ts v := by
  induction h with
  | nil_ hm => exact .nil_ hm
  | row V hlt hc hm c0 c1 c2 _ ih =>
    exact .row V hlt hc hm (fun i l d ys e => (hb.cell (p := ⟨_, _, _⟩) hlt).trans (c0 i l d ys e)) (fun i l d ys e => (hb.cell (p := ⟨_, _, _⟩) hlt).trans (c1 i l d ys e)) (fun i l d ys e => (hb.cell (p := ⟨_, _, _⟩) hlt).trans (c2 i l d ys e)) ih
theorem LayT.mono {w : World} {n m : Nat} {ts : List M.Ty} {v : Value} (h : LayT w n ts v) (hnm : n ≤ m) : LayT w m ts v := by
  induction h with
  | nil_ hm => exact .nil_ hm
  | row V hlt hc hm c0 c1 c2 _ ih => exact .row V (by omega) hc hm c0 c1 c2 ih
theorem LayT.slice {w : World} {n : Nat} {ts : List M.Ty} {v : Value} (h : LayT w n ts v) : ∃ a cap, v = .slice a ts.length cap ∧ ts.length ≤ cap ∧ cap ≤ maxLen := by
  cases h with
  | nil_ hm => exact ⟨_, _, rfl, Nat.zero_le _, hm⟩
  | row V hlt hc hm c0 c1 c2 r => exact ⟨_, _, rfl, hc, hm⟩
/-- One type of a slice. -/
theorem LayT.at_ {w : World} {n i : Nat} {ts : List M.Ty} {a : Option Addr} {cap : Nat} (h : LayT w n ts (.slice a ts.length cap)) (hi : i < ts.length) : ∃ b o k m us au cu, a = some ⟨b, o, none⟩ ∧ b < n ∧ ts[i]? = some (.mk k m us) ∧
    w.cell? ⟨b, o + i * 3, none⟩ = some (.int .i64 k) ∧ w.cell? ⟨b, o + i * 3 + 1, none⟩ = some (.int .i64 m) ∧ w.cell? ⟨b, o + i * 3 + 2, none⟩ = some (.slice au us.length cu) ∧ LayT w n us (.slice au us.length cu) := by
  cases h with
  | nil_ hm => simp at hi
  | @row _ b o cap V hlt hc hm c0 c1 c2 r =>
    obtain ⟨k, m, us, e⟩ : ∃ k m us, ts[i]? = some (.mk k m us) := by
      rw [List.getElem?_eq_getElem hi]
      obtain ⟨k, m, us⟩ := ts[i]
      exact ⟨k, m, us, rfl⟩
    obtain ⟨au, cu, hV, _, _⟩ := (r i k m us e).slice
    exact ⟨b, o, k, m, us, au, cu, rfl, hlt, e, c0 i k m us e, c1 i k m us e, hV ▸ c2 i k m us e, hV ▸ r i k m us e⟩
/-- A type as a value. -/
abbrev tv (k m : Int) (v : Value) : Value := .agg #[.int .i64 k, .int .i64 m, v]
/-- The box of a type. -/
structure BoxT (W : World) (S : Nat) (k m : Int) (v : Value) : Prop where
  c0 : W.cell? ⟨S, 0, none⟩ = some (.int .i64 k)
  c1 : W.cell? ⟨S, 1, none⟩ = some (.int .i64 m)
  c2 : W.cell? ⟨S, 2, none⟩ = some v
theorem BoxT.new (w : World) (k m : Int) (v : Value) (t : TypeId) : BoxT (w.alloc (.cells #[.int .i64 k, .int .i64 m, v] t)) w.heap.size k m v := ⟨by simp [go_sem], by simp [go_sem], by simp [go_sem]⟩
theorem BoxT.from_ {w W : World} {S n : Nat} {k m : Int} {v : Value} (h : BoxT w S k m v) (hb : Below n w W) (hS : S < n) : BoxT W S k m v :=
  ⟨(hb.cell (p := ⟨S, 0, none⟩) hS).trans h.c0, (hb.cell (p := ⟨S, 1, none⟩) hS).trans h.c1, (hb.cell (p := ⟨S, 2, none⟩) hS).trans h.c2⟩
theorem size_ty {ts : List M.Ty} {i : Nat} {x : M.Ty} (h : ts[i]? = some x) : SizeOf.sizeOf x < SizeOf.sizeOf ts := List.sizeOf_lt_of_mem (List.mem_of_getElem? h)

/-- What a slice of bits leads to. -/
inductive LayB (w : World) (n : Nat) : List Bool → Value → Prop
  | nil_ {a : Option Addr} {cap : Nat} (hm : cap ≤ maxLen) : LayB w n [] (.slice a 0 cap)
  | row {bs : List Bool} {b o cap : Nat} (hb : b < n) (hc : bs.length ≤ cap) (hm : cap ≤ maxLen)
      (c : ∀ (i : Nat) (x : Bool), bs[i]? = some x → w.cell? ⟨b, o + i, none⟩ = some (.bool x)) : LayB w n bs (.slice (some ⟨b, o, none⟩) bs.length cap)
theorem LayB.from_ {w W : World} {n : Nat} {bs : List Bool} {v : Value} (h : LayB w n bs v) (hb : Below n w W) : LayB W n bs v := by
  cases h with
  | nil_ hm => exact .nil_ hm
  | row hbn hc hm c => exact .row hbn hc hm fun i s e => (hb.cell (p := ⟨_, _, none⟩) hbn).trans (c i s e)
theorem LayB.mono {w : World} {m n : Nat} {bs : List Bool} {v : Value} (h : LayB w m bs v) (hmn : m ≤ n) : LayB w n bs v := by
  cases h with
  | nil_ hm => exact .nil_ hm
  | row hbn hc hm c => exact .row (Nat.lt_of_lt_of_le hbn hmn) hc hm c
theorem LayB.slice {w : World} {n : Nat} {bs : List Bool} {v : Value} (h : LayB w n bs v) : ∃ a cap, v = .slice a bs.length cap ∧ bs.length ≤ cap ∧ cap ≤ maxLen := by
  cases h with
  | nil_ hm => exact ⟨_, _, rfl, Nat.zero_le _, hm⟩
  | row hbn hc hm c => exact ⟨_, _, rfl, hc, hm⟩
theorem LayB.at_ {w : World} {n : Nat} {bs : List Bool} {a : Option Addr} {cap i : Nat} (h : LayB w n bs (.slice a bs.length cap)) (hi : i < bs.length) : ∃ b o x, a = some ⟨b, o, none⟩ ∧ b < n ∧ bs[i]? = some x ∧ w.cell? ⟨b, o + i, none⟩ = some (.bool x) := by
  cases h with
  | nil_ hm => simp at hi
  | row hbn hc hm c => exact ⟨_, _, bs[i], rfl, hbn, List.getElem?_eq_getElem hi, c i _ (List.getElem?_eq_getElem hi)⟩

/-- The seven cells of a value. -/
structure Cells7 (w : World) (b o : Nat) (N : Nat) (u v : Value) (p : Int) : Prop where
  c0 : w.cell? ⟨b, o, none⟩ = some (.int .u64 (M.pt 0 N))
  c1 : w.cell? ⟨b, o + 1, none⟩ = some (.int .u64 (M.pt 1 N))
  c2 : w.cell? ⟨b, o + 2, none⟩ = some (.int .u64 (M.pt 2 N))
  c3 : w.cell? ⟨b, o + 3, none⟩ = some (.int .u64 (M.pt 3 N))
  c4 : w.cell? ⟨b, o + 4, none⟩ = some u
  c5 : w.cell? ⟨b, o + 5, none⟩ = some v
  c6 : w.cell? ⟨b, o + 6, none⟩ = some (.int .i64 p)
theorem Cells7.from_ {w W : World} {b o n N : Nat} {u v : Value} {p : Int} (h : Cells7 w b o N u v p) (hb : Below n w W) (hlt : b < n) : Cells7 W b o N u v p :=
  ⟨(hb.cell (p := ⟨b, o, none⟩) hlt).trans h.c0, (hb.cell (p := ⟨b, o + 1, none⟩) hlt).trans h.c1, (hb.cell (p := ⟨b, o + 2, none⟩) hlt).trans h.c2, (hb.cell (p := ⟨b, o + 3, none⟩) hlt).trans h.c3, (hb.cell (p := ⟨b, o + 4, none⟩) hlt).trans h.c4, (hb.cell (p := ⟨b, o + 5, none⟩) hlt).trans h.c5, (hb.cell (p := ⟨b, o + 6, none⟩) hlt).trans h.c6⟩
/-- What a slice of values leads to. -/
inductive LayV (w : World) (n : Nat) : List M.Va → Value → Prop
  | nil_ {a : Option Addr} {cap : Nat} (hm : cap ≤ maxLen) : LayV w n [] (.slice a 0 cap)
  | row {vs : List M.Va} {b o cap : Nat} (U V : Nat → Value) (hb : b < n) (hc : vs.length ≤ cap) (hm : cap ≤ maxLen)
      (hN : ∀ (i : Nat) (N : Nat) (bs : List Bool) (us : List M.Va) (p : Int), vs[i]? = some (M.Va.mk N bs us p) → M.In N)
      (c : ∀ (i : Nat) (N : Nat) (bs : List Bool) (us : List M.Va) (p : Int), vs[i]? = some (M.Va.mk N bs us p) → Cells7 w b (o + i * 7) N (U i) (V i) p)
      (rb : ∀ (i : Nat) (N : Nat) (bs : List Bool) (us : List M.Va) (p : Int), vs[i]? = some (M.Va.mk N bs us p) → LayB w n bs (U i))
      (r : ∀ (i : Nat) (N : Nat) (bs : List Bool) (us : List M.Va) (p : Int), vs[i]? = some (M.Va.mk N bs us p) → LayV w n us (V i)) : LayV w n vs (.slice (some ⟨b, o, none⟩) vs.length cap)
theorem LayV.from_ {w W : World} {n : Nat} {vs : List M.Va} {v : Value} (h : LayV w n vs v) (hb : Below n w W) : LayV W n vs v := by
  induction h with
  | nil_ hm => exact .nil_ hm
  | row U V hlt hc hm hN c rb _ ih => exact .row U V hlt hc hm hN (fun i N bs us p e => (c i N bs us p e).from_ hb hlt) (fun i N bs us p e => (rb i N bs us p e).from_ hb) ih
theorem LayV.mono {w : World} {n m : Nat} {vs : List M.Va} {v : Value} (h : LayV w n vs v) (hnm : n ≤ m) : LayV w m vs v := by
  induction h with
  | nil_ hm => exact .nil_ hm
  | row U V hlt hc hm hN c rb _ ih => exact .row U V (by omega) hc hm hN c (fun i N bs us p e => (rb i N bs us p e).mono hnm) ih
theorem LayV.slice {w : World} {n : Nat} {vs : List M.Va} {v : Value} (h : LayV w n vs v) : ∃ a cap, v = .slice a vs.length cap ∧ vs.length ≤ cap ∧ cap ≤ maxLen := by
  cases h with
  | nil_ hm => exact ⟨_, _, rfl, Nat.zero_le _, hm⟩
  | row U V hlt hc hm hN c rb r => exact ⟨_, _, rfl, hc, hm⟩
/-- What a value is made of: its number, its bits, its values. -/
structure Vl (w : World) (n : Nat) (N : Nat) (bs : List Bool) (us : List M.Va) (ab : Option Addr) (cb : Nat) (au : Option Addr) (cu : Nat) : Prop where
  hN : M.In N
  b : LayB w n bs (.slice ab bs.length cb)
  v : LayV w n us (.slice au us.length cu)
theorem Vl.from_ {w W : World} {n N : Nat} {bs : List Bool} {us : List M.Va} {ab : Option Addr} {cb : Nat} {au : Option Addr} {cu : Nat} (h : Vl w n N bs us ab cb au cu) (hb : Below n w W) : Vl W n N bs us ab cb au cu := ⟨h.hN, h.b.from_ hb, h.v.from_ hb⟩
theorem Vl.mono {w : World} {n m N : Nat} {bs : List Bool} {us : List M.Va} {ab : Option Addr} {cb : Nat} {au : Option Addr} {cu : Nat} (h : Vl w n N bs us ab cb au cu) (hnm : n ≤ m) : Vl w m N bs us ab cb au cu := ⟨h.hN, h.b.mono hnm, h.v.mono hnm⟩
/-- One value of a slice. -/
theorem LayV.at_ {w : World} {n i : Nat} {vs : List M.Va} {a : Option Addr} {cap : Nat} (h : LayV w n vs (.slice a vs.length cap)) (hi : i < vs.length) : ∃ b o N bs us p ab cb au cu, a = some ⟨b, o, none⟩ ∧ b < n ∧ vs[i]? = some (.mk N bs us p) ∧
    Cells7 w b (o + i * 7) N (.slice ab bs.length cb) (.slice au us.length cu) p ∧ Vl w n N bs us ab cb au cu := by
  cases h with
  | nil_ hm => simp at hi
  | @row _ b o cap U V hlt hc hm hN c rb r =>
    obtain ⟨N, bs, us, p, e⟩ : ∃ N bs us p, vs[i]? = some (.mk N bs us p) := by
      rw [List.getElem?_eq_getElem hi]
      obtain ⟨N, bs, us, p⟩ := vs[i]
      exact ⟨N, bs, us, p, rfl⟩
    obtain ⟨au, cu, hV, _, _⟩ := (r i N bs us p e).slice
    obtain ⟨ab, cb, hU, _, _⟩ := (rb i N bs us p e).slice
    exact ⟨b, o, N, bs, us, p, ab, cb, au, cu, rfl, hlt, e, hU ▸ hV ▸ c i N bs us p e, hN i N bs us p e, hU ▸ rb i N bs us p e, hV ▸ r i N bs us p e⟩
/-- A value as a value. -/
abbrev vv (N : Nat) (u v : Value) (p : Int) : Value := .agg #[.int .u64 (M.pt 0 N), .int .u64 (M.pt 1 N), .int .u64 (M.pt 2 N), .int .u64 (M.pt 3 N), u, v, .int .i64 p]
theorem Cells7.new (w : World) (N : Nat) (u v : Value) (p : Int) (t : TypeId) : Cells7 (w.alloc (.cells #[.int .u64 (M.pt 0 N), .int .u64 (M.pt 1 N), .int .u64 (M.pt 2 N), .int .u64 (M.pt 3 N), u, v, .int .i64 p] t)) w.heap.size 0 N u v p :=
  ⟨by simp [go_sem], by simp [go_sem], by simp [go_sem], by simp [go_sem], by simp [go_sem], by simp [go_sem], by simp [go_sem]⟩
theorem size_va {vs : List M.Va} {i : Nat} {x : M.Va} (h : vs[i]? = some x) : SizeOf.sizeOf x < SizeOf.sizeOf vs := List.sizeOf_lt_of_mem (List.mem_of_getElem? h)
end Go.Proofs.YtemnjoiajmcpjaaGreatDoor
namespace Go.Proofs.YtemnjoiajmcpjaaGreatDoor.M
open Go

theorem row_next {α : Type} {xs : List α} {k : Nat} {x : α} (h : xs[k]? = some x) : xs.take (k + 1) = xs.take k ++ [x] := by rw [List.take_add_one, h]; rfl
theorem row_parts {α : Type} {xs : List α} {k : Nat} {x : α} (h : xs[k]? = some x) : ∃ ys, xs = xs.take k ++ x :: ys :=
  ⟨xs.drop (k + 1), by
    have hk := (List.getElem?_eq_some_iff.1 h).1
    have hx := (List.getElem?_eq_some_iff.1 h).2
    rw [← hx, ← List.drop_eq_getElem_cons hk, List.take_append_drop]⟩

theorem cntT_pos (x : Ty) : 1 ≤ cntT x := by cases x; rw [cntT]; omega
theorem length_cntT : ∀ xs : List Ty, xs.length ≤ cntTs xs
  | [] => Nat.zero_le _
  | x :: xs => by
    rw [cntTs, List.length_cons]
    have h1 := cntT_pos x
    have h2 := length_cntT xs
    omega
theorem cntTs_append (xs ys : List Ty) : cntTs (xs ++ ys) = cntTs xs + cntTs ys := by
  induction xs with
  | nil => simp [cntTs]
  | cons x xs ih => rw [List.cons_append, cntTs, cntTs, ih, Nat.add_assoc]
theorem cntTs_next {xs : List Ty} {k : Nat} {x : Ty} (h : xs[k]? = some x) : cntTs (xs.take (k + 1)) = cntTs (xs.take k) + cntT x := by
  rw [row_next h, cntTs_append]; simp [cntTs]
theorem cntT_part : ∀ {xs : List Ty} {x : Ty}, x ∈ xs → cntT x ≤ cntTs xs
  | y :: ys, x, h => by
    rw [cntTs]
    rcases List.mem_cons.1 h with rfl | h
    · omega
    · have := cntT_part h; omega
theorem cntV_pos (x : Va) : 1 ≤ cntV x := by cases x; rw [cntV]; omega
theorem length_cntV : ∀ xs : List Va, xs.length ≤ cntVs xs
  | [] => Nat.zero_le _
  | x :: xs => by
    rw [cntVs, List.length_cons]
    have h1 := cntV_pos x
    have h2 := length_cntV xs
    omega
theorem cntVs_append (xs ys : List Va) : cntVs (xs ++ ys) = cntVs xs + cntVs ys := by
  induction xs with
  | nil => simp [cntVs]
  | cons x xs ih => rw [List.cons_append, cntVs, cntVs, ih, Nat.add_assoc]
theorem cntVs_next {xs : List Va} {k : Nat} {x : Va} (h : xs[k]? = some x) : cntVs (xs.take (k + 1)) = cntVs (xs.take k) + cntV x := by
  rw [row_next h, cntVs_append]; simp [cntVs]
theorem cntV_part : ∀ {xs : List Va} {x : Va}, x ∈ xs → cntV x ≤ cntVs xs
  | y :: ys, x, h => by
    rw [cntVs]
    rcases List.mem_cons.1 h with rfl | h
    · omega
    · have := cntV_part h; omega

theorem chkTs_append (d : Nat) (xs ys : List Ty) : chkTs d (xs ++ ys) = if chkTs d xs ≠ 0 then chkTs d xs else chkTs d ys := by
  induction xs with
  | nil => simp [chkTs]
  | cons x xs ih =>
    rw [List.cons_append, chkTs, chkTs, ih]
    by_cases h1 : chkT d x ≠ 0
    · rw [if_pos h1, if_pos h1, if_pos h1]
    · rw [if_neg h1, if_neg h1]
theorem chkTs_next {d : Nat} {xs : List Ty} {k : Nat} {x : Ty} (h : xs[k]? = some x) (h0 : chkTs d (xs.take k) = 0) : chkTs d (xs.take (k + 1)) = chkT d x := by
  rw [row_next h, chkTs_append, h0, if_neg (by simp), chkTs, chkTs]
  by_cases h1 : chkT d x ≠ 0
  · rw [if_pos h1]
  · rw [if_neg h1]; omega
theorem chkTs_first {d : Nat} {xs : List Ty} {k : Nat} {x : Ty} (h : xs[k]? = some x) (h0 : chkTs d (xs.take k) = 0) (h1 : chkT d x ≠ 0) : chkTs d xs = chkT d x := by
  obtain ⟨ys, e⟩ := row_parts h
  rw [e, chkTs_append, h0, if_neg (by simp), chkTs, if_pos h1]
theorem fixTs_append (xs ys : List Ty) : fixTs (xs ++ ys) = (fixTs xs && fixTs ys) := by
  induction xs with
  | nil => simp [fixTs]
  | cons x xs ih =>
    rw [List.cons_append, fixTs, fixTs, ih]
    cases fixT x <;> simp
theorem fixTs_next {xs : List Ty} {k : Nat} {x : Ty} (h : xs[k]? = some x) (h0 : fixTs (xs.take k) = true) : fixTs (xs.take (k + 1)) = fixT x := by
  rw [row_next h, fixTs_append, h0, fixTs, fixTs]
  cases fixT x <;> rfl
theorem fixTs_first {xs : List Ty} {k : Nat} {x : Ty} (h : xs[k]? = some x) (h1 : fixT x = false) : fixTs xs = false := by
  obtain ⟨ys, e⟩ := row_parts h
  rw [e, fixTs_append, fixTs, h1]
  simp
theorem szTs_append (xs ys : List Ty) : szTs (xs ++ ys) = szTs xs + szTs ys := by
  induction xs with
  | nil => simp [szTs]
  | cons x xs ih => rw [List.cons_append, szTs, szTs, ih, Nat.add_assoc]
theorem szTs_next {xs : List Ty} {k : Nat} {x : Ty} (h : xs[k]? = some x) : szTs (xs.take (k + 1)) = szTs (xs.take k) + szT x := by
  rw [row_next h, szTs_append]; simp [szTs]
theorem szTs_part (xs : List Ty) (k : Nat) : szTs (xs.take k) ≤ szTs xs := by
  have := szTs_append (xs.take k) (xs.drop k)
  rw [List.take_append_drop] at this
  omega
theorem sumT_append (xs ys : List Ty) : sumT (xs ++ ys) = sumT xs + sumT ys := by
  induction xs with
  | nil => simp [sumT]
  | cons x xs ih => rw [List.cons_append, sumT, sumT, ih, Nat.add_assoc]
theorem sumT_next {xs : List Ty} {k : Nat} {x : Ty} (h : xs[k]? = some x) : sumT (xs.take (k + 1)) = sumT (xs.take k) + sizeT x := by
  rw [row_next h, sumT_append]; simp [sumT]
theorem all_next {α : Type} {p : α → Bool} {xs : List α} {k : Nat} {x : α} (h : xs[k]? = some x) : (xs.take (k + 1)).all p = ((xs.take k).all p && p x) := by
  rw [row_next h, List.all_append]; simp

theorem fitVs_append (k : Int) (ins : List Ty) (pick : Int) (i : Nat) (xs ys : List Va) : fitVs k ins pick i (xs ++ ys) = if fitVs k ins pick i xs ≠ 0 then fitVs k ins pick i xs else fitVs k ins pick (i + xs.length) ys := by
  induction xs generalizing i with
  | nil => simp [fitVs]
  | cons x xs ih =>
    rw [List.cons_append, fitVs, fitVs, ih]
    by_cases h1 : fitV (inT k ins pick i) x ≠ 0
    · rw [if_pos h1, if_pos h1, if_pos h1]
    · rw [if_neg h1, if_neg h1, List.length_cons, show i + 1 + xs.length = i + (xs.length + 1) by omega]
theorem fitVs_next {k : Int} {ins : List Ty} {pick : Int} {xs : List Va} {j : Nat} {x : Va} (h : xs[j]? = some x) (h0 : fitVs k ins pick 0 (xs.take j) = 0) : fitVs k ins pick 0 (xs.take (j + 1)) = fitV (inT k ins pick j) x := by
  have hk := (List.getElem?_eq_some_iff.1 h).1
  rw [row_next h, fitVs_append, h0, if_neg (by simp), fitVs, fitVs, List.length_take, show 0 + min j xs.length = j by omega]
  by_cases h1 : fitV (inT k ins pick j) x ≠ 0
  · rw [if_pos h1]
  · rw [if_neg h1]; omega
theorem fitVs_first {k : Int} {ins : List Ty} {pick : Int} {xs : List Va} {j : Nat} {x : Va} (h : xs[j]? = some x) (h0 : fitVs k ins pick 0 (xs.take j) = 0) (h1 : fitV (inT k ins pick j) x ≠ 0) : fitVs k ins pick 0 xs = fitV (inT k ins pick j) x := by
  have hk := (List.getElem?_eq_some_iff.1 h).1
  obtain ⟨ys, e⟩ := row_parts h
  have hl : (xs.take j).length = j := by rw [List.length_take]; omega
  generalize xs.take j = zs at *
  subst e
  rw [fitVs_append, h0, if_neg (by simp), fitVs, hl, Nat.zero_add, if_pos h1]
theorem sameVs_next : ∀ {xs ys : List Va} {k : Nat} {x y : Va}, xs[k]? = some x → ys[k]? = some y → sameVs (xs.take (k + 1)) (ys.take (k + 1)) = (sameVs (xs.take k) (ys.take k) && sameV x y)
  | [], _, _, _, _, h, _ => by simp at h
  | _ :: _, [], _, _, _, _, h => by simp at h
  | a :: xs, b :: ys, 0, x, y, h, h' => by
    simp at h h'
    subst h h'
    simp [sameVs]
  | a :: xs, b :: ys, k + 1, x, y, h, h' => by
    have := sameVs_next (xs := xs) (ys := ys) (by simpa using h) (by simpa using h')
    rw [List.take_succ_cons, List.take_succ_cons, sameVs, this, List.take_succ_cons, List.take_succ_cons, sameVs, Bool.and_assoc]
theorem sameVs_first : ∀ {xs ys : List Va} {k : Nat} {x y : Va}, xs[k]? = some x → ys[k]? = some y → sameV x y = false → sameVs xs ys = false
  | [], _, _, _, _, h, _, _ => by simp at h
  | _ :: _, [], _, _, _, _, h, _ => by simp at h
  | a :: xs, b :: ys, 0, x, y, h, h', hf => by
    simp at h h'
    subst h h'
    simp [sameVs, hf]
  | a :: xs, b :: ys, k + 1, x, y, h, h', hf => by
    have := sameVs_first (xs := xs) (ys := ys) (by simpa using h) (by simpa using h') hf
    rw [sameVs, this, Bool.and_false]
theorem bits_first : ∀ {xs ys : List Bool} {k : Nat} {x y : Bool}, xs[k]? = some x → ys[k]? = some y → x ≠ y → (xs == ys) = false := by
  intro xs ys k x y h h' hf
  rw [beq_eq_false_iff_ne]
  intro e
  subst e
  rw [h] at h'
  cases h'
  exact hf rfl
end Go.Proofs.YtemnjoiajmcpjaaGreatDoor.M
