/- Plain arithmetic: a number below 2^256 and its four parts of 64 bits; the carries of a sum and of a difference; Plain arithmetic: numbers and their bytes, the highest one first; Plain arithmetic: numbers and their bytes, the lowest one first; a number's bytes without zeros ahead, as bytes of 64 bits; Plain arithmetic: how many digits a number has; Plain arithmetic: what is read of digits by 128; Plain arithmetic: what is written is read again, and nothing else; Plain arithmetic: items, their bytes, how deep they are, what is wrong with them; no item's bytes begin another one's; Plain arithmetic: how deep an item may stand; heads by their lengths; alike; Plain arithmetic: how many items an item holds; what its bytes come to at most; parts by their places; Plain arithmetic: what the statements of layer 4 lean on; Plain arithmetic: what a head tells; items read out of bytes; what is encoded is read, and nothing else; Plain arithmetic: what is read is encoded just so; bytes that are cut; the whole of decoding; Plain arithmetic: decoding, whole; bytes that are cut; places in bytes; How many items come to how many bytes; Plain arithmetic: what an item's fields are. -/
import Derived.Lib.Strings
namespace Go.Proofs.YtebkmlbpngpmdaaDoor.M

/-- Part i of a number, the lowest one first. -/
def pt (i N : Nat) : Int := ((N / 18446744073709551616 ^ i % 18446744073709551616 : Nat) : Int)

/-- Below 2^256. -/
def In (N : Nat) : Prop := N < 115792089237316195423570985008687907853269984665640564039457584007913129639936

theorem pt_nonneg (i N : Nat) : 0 ≤ pt i N := by unfold pt; omega
theorem pt_lt (i N : Nat) : pt i N < 18446744073709551616 := by unfold pt; omega

theorem whole {N : Nat} (h : In N) : (N : Int) = pt 0 N + 18446744073709551616 * pt 1 N + 340282366920938463463374607431768211456 * pt 2 N + 6277101735386680763835789423207666416102355444464034512896 * pt 3 N := by
  unfold In at h
  unfold pt
  simp only [Nat.pow_zero, Nat.pow_one, Nat.div_one, show 18446744073709551616 ^ 2 = 340282366920938463463374607431768211456 from rfl, show 18446744073709551616 ^ 3 = 6277101735386680763835789423207666416102355444464034512896 from rfl]
  omega

theorem parts {N : Nat} {a b c d : Int} (ha : 0 ≤ a) (ha' : a < 18446744073709551616) (hb : 0 ≤ b) (hb' : b < 18446744073709551616) (hc : 0 ≤ c) (hc' : c < 18446744073709551616) (hd : 0 ≤ d) (hd' : d < 18446744073709551616)
    (h : (N : Int) = a + 18446744073709551616 * b + 340282366920938463463374607431768211456 * c + 6277101735386680763835789423207666416102355444464034512896 * d) :
    pt 0 N = a ∧ pt 1 N = b ∧ pt 2 N = c ∧ pt 3 N = d := by
  unfold pt
  simp only [Nat.pow_zero, Nat.pow_one, Nat.div_one, show 18446744073709551616 ^ 2 = 340282366920938463463374607431768211456 from rfl, show 18446744073709551616 ^ 3 = 6277101735386680763835789423207666416102355444464034512896 from rfl]
  omega

/-- Whatever four parts there are, they are some number's. -/
theorem some_number {a b c d : Int} (ha : 0 ≤ a) (ha' : a < 18446744073709551616) (hb : 0 ≤ b) (hb' : b < 18446744073709551616) (hc : 0 ≤ c) (hc' : c < 18446744073709551616) (hd : 0 ≤ d) (hd' : d < 18446744073709551616) :
    ∃ N, In N ∧ pt 0 N = a ∧ pt 1 N = b ∧ pt 2 N = c ∧ pt 3 N = d := by
  refine ⟨(a + 18446744073709551616 * b + 340282366920938463463374607431768211456 * c + 6277101735386680763835789423207666416102355444464034512896 * d).toNat, by unfold In; omega, parts ha ha' hb hb' hc hc' hd hd' (by omega)⟩

theorem pt_inj {A B : Nat} (hA : In A) (hB : In B) (h0 : pt 0 A = pt 0 B) (h1 : pt 1 A = pt 1 B) (h2 : pt 2 A = pt 2 B) (h3 : pt 3 A = pt 3 B) : A = B := by
  have := whole hA
  have := whole hB
  omega

def adS (x y c : Int) : Int := (x + y + c) % 18446744073709551616
def adC (x y c : Int) : Int := (x + y + c) / 18446744073709551616
def sbS (x y c : Int) : Int := (x - y - c) % 18446744073709551616
def sbC (x y c : Int) : Int := if x < y + c then 1 else 0

theorem ad_eq (x y c : Int) : x + y + c = adS x y c + 18446744073709551616 * adC x y c := by unfold adS adC; omega
theorem adS_lo (x y c : Int) : 0 ≤ adS x y c := by unfold adS; omega
theorem adS_hi (x y c : Int) : adS x y c < 18446744073709551616 := by unfold adS; omega
theorem adC_01 {x y c : Int} (hx : 0 ≤ x) (hx' : x < 18446744073709551616) (hy : 0 ≤ y) (hy' : y < 18446744073709551616) (hc : 0 ≤ c) (hc' : c ≤ 1) : 0 ≤ adC x y c ∧ adC x y c ≤ 1 := by unfold adC; omega
theorem sb_eq {x y c : Int} (hx : 0 ≤ x) (hx' : x < 18446744073709551616) (hy : 0 ≤ y) (hy' : y < 18446744073709551616) (hc : 0 ≤ c) (hc' : c ≤ 1) : x - y - c = sbS x y c - 18446744073709551616 * sbC x y c := by
  unfold sbS sbC
  split <;> omega
theorem sbS_lo (x y c : Int) : 0 ≤ sbS x y c := by unfold sbS; omega
theorem sbS_hi (x y c : Int) : sbS x y c < 18446744073709551616 := by unfold sbS; omega
theorem sbC_01 (x y c : Int) : 0 ≤ sbC x y c ∧ sbC x y c ≤ 1 := by unfold sbC; split <;> omega

/-- The carries of two numbers' parts. -/
def k1 (A B : Nat) : Int := adC (pt 0 A) (pt 0 B) 0
def k2 (A B : Nat) : Int := adC (pt 1 A) (pt 1 B) (k1 A B)
def k3 (A B : Nat) : Int := adC (pt 2 A) (pt 2 B) (k2 A B)
def k4 (A B : Nat) : Int := adC (pt 3 A) (pt 3 B) (k3 A B)
theorem k1_01 (A B : Nat) : 0 ≤ k1 A B ∧ k1 A B ≤ 1 := adC_01 (pt_nonneg _ _) (pt_lt _ _) (pt_nonneg _ _) (pt_lt _ _) (by omega) (by omega)
theorem k2_01 (A B : Nat) : 0 ≤ k2 A B ∧ k2 A B ≤ 1 := adC_01 (pt_nonneg _ _) (pt_lt _ _) (pt_nonneg _ _) (pt_lt _ _) (k1_01 A B).1 (k1_01 A B).2
theorem k3_01 (A B : Nat) : 0 ≤ k3 A B ∧ k3 A B ≤ 1 := adC_01 (pt_nonneg _ _) (pt_lt _ _) (pt_nonneg _ _) (pt_lt _ _) (k2_01 A B).1 (k2_01 A B).2
theorem k4_01 (A B : Nat) : 0 ≤ k4 A B ∧ k4 A B ≤ 1 := adC_01 (pt_nonneg _ _) (pt_lt _ _) (pt_nonneg _ _) (pt_lt _ _) (k3_01 A B).1 (k3_01 A B).2

theorem add_all {A B : Nat} (hA : In A) (hB : In B) :
    (A : Int) + B = adS (pt 0 A) (pt 0 B) 0 + 18446744073709551616 * adS (pt 1 A) (pt 1 B) (k1 A B) + 340282366920938463463374607431768211456 * adS (pt 2 A) (pt 2 B) (k2 A B) + 6277101735386680763835789423207666416102355444464034512896 * adS (pt 3 A) (pt 3 B) (k3 A B) + 115792089237316195423570985008687907853269984665640564039457584007913129639936 * k4 A B := by
  have e0 := whole hA
  have e1 := whole hB
  have r0 : _ = _ + _ * k1 A B := ad_eq (pt 0 A) (pt 0 B) 0
  have r1 : _ = _ + _ * k2 A B := ad_eq (pt 1 A) (pt 1 B) (k1 A B)
  have r2 : _ = _ + _ * k3 A B := ad_eq (pt 2 A) (pt 2 B) (k2 A B)
  have r3 : _ = _ + _ * k4 A B := ad_eq (pt 3 A) (pt 3 B) (k3 A B)
  omega

theorem add_no {A B : Nat} (hA : In A) (hB : In B) (h : In (A + B)) :
    (k4 A B != 0) = false ∧ adS (pt 0 A) (pt 0 B) 0 = pt 0 (A + B) ∧ adS (pt 1 A) (pt 1 B) (k1 A B) = pt 1 (A + B) ∧ adS (pt 2 A) (pt 2 B) (k2 A B) = pt 2 (A + B) ∧ adS (pt 3 A) (pt 3 B) (k3 A B) = pt 3 (A + B) := by
  have e := add_all hA hB
  have k := k4_01 A B
  have l0 := adS_lo (pt 0 A) (pt 0 B) 0
  have l1 := adS_lo (pt 1 A) (pt 1 B) (k1 A B)
  have l2 := adS_lo (pt 2 A) (pt 2 B) (k2 A B)
  have l3 := adS_lo (pt 3 A) (pt 3 B) (k3 A B)
  have h0 := adS_hi (pt 0 A) (pt 0 B) 0
  have h1 := adS_hi (pt 1 A) (pt 1 B) (k1 A B)
  have h2 := adS_hi (pt 2 A) (pt 2 B) (k2 A B)
  have h3 := adS_hi (pt 3 A) (pt 3 B) (k3 A B)
  unfold In at h
  have kz : k4 A B = 0 := by omega
  rw [kz] at e ⊢
  obtain ⟨p0, p1, p2, p3⟩ := parts (N := A + B) l0 h0 l1 h1 l2 h2 l3 h3 (by rw [Int.natCast_add, e]; omega)
  exact ⟨rfl, p0.symm, p1.symm, p2.symm, p3.symm⟩

theorem add_yes {A B : Nat} (hA : In A) (hB : In B) (h : ¬ In (A + B)) : (k4 A B != 0) = true := by
  have e := add_all hA hB
  have k := k4_01 A B
  have h0 := adS_hi (pt 0 A) (pt 0 B) 0
  have h1 := adS_hi (pt 1 A) (pt 1 B) (k1 A B)
  have h2 := adS_hi (pt 2 A) (pt 2 B) (k2 A B)
  have h3 := adS_hi (pt 3 A) (pt 3 B) (k3 A B)
  unfold In at h
  rw [bne_iff_ne]
  intro kz
  omega

/-- The borrows. -/
def j1 (A B : Nat) : Int := sbC (pt 0 A) (pt 0 B) 0
def j2 (A B : Nat) : Int := sbC (pt 1 A) (pt 1 B) (j1 A B)
def j3 (A B : Nat) : Int := sbC (pt 2 A) (pt 2 B) (j2 A B)
def j4 (A B : Nat) : Int := sbC (pt 3 A) (pt 3 B) (j3 A B)
theorem j1_01 (A B : Nat) : 0 ≤ j1 A B ∧ j1 A B ≤ 1 := sbC_01 _ _ _
theorem j2_01 (A B : Nat) : 0 ≤ j2 A B ∧ j2 A B ≤ 1 := sbC_01 _ _ _
theorem j3_01 (A B : Nat) : 0 ≤ j3 A B ∧ j3 A B ≤ 1 := sbC_01 _ _ _
theorem j4_01 (A B : Nat) : 0 ≤ j4 A B ∧ j4 A B ≤ 1 := sbC_01 _ _ _

theorem sub_all {A B : Nat} (hA : In A) (hB : In B) :
    (A : Int) - B = sbS (pt 0 A) (pt 0 B) 0 + 18446744073709551616 * sbS (pt 1 A) (pt 1 B) (j1 A B) + 340282366920938463463374607431768211456 * sbS (pt 2 A) (pt 2 B) (j2 A B) + 6277101735386680763835789423207666416102355444464034512896 * sbS (pt 3 A) (pt 3 B) (j3 A B) - 115792089237316195423570985008687907853269984665640564039457584007913129639936 * j4 A B := by
  have e0 := whole hA
  have e1 := whole hB
  have r0 : _ = _ - _ * j1 A B := sb_eq (pt_nonneg 0 A) (pt_lt 0 A) (pt_nonneg 0 B) (pt_lt 0 B) (Int.le_refl 0) (by omega)
  have r1 : _ = _ - _ * j2 A B := sb_eq (pt_nonneg 1 A) (pt_lt 1 A) (pt_nonneg 1 B) (pt_lt 1 B) (j1_01 A B).1 (j1_01 A B).2
  have r2 : _ = _ - _ * j3 A B := sb_eq (pt_nonneg 2 A) (pt_lt 2 A) (pt_nonneg 2 B) (pt_lt 2 B) (j2_01 A B).1 (j2_01 A B).2
  have r3 : _ = _ - _ * j4 A B := sb_eq (pt_nonneg 3 A) (pt_lt 3 A) (pt_nonneg 3 B) (pt_lt 3 B) (j3_01 A B).1 (j3_01 A B).2
  omega

theorem sub_no {A B : Nat} (hA : In A) (hB : In B) (h : B ≤ A) :
    (j4 A B != 0) = false ∧ sbS (pt 0 A) (pt 0 B) 0 = pt 0 (A - B) ∧ sbS (pt 1 A) (pt 1 B) (j1 A B) = pt 1 (A - B) ∧ sbS (pt 2 A) (pt 2 B) (j2 A B) = pt 2 (A - B) ∧ sbS (pt 3 A) (pt 3 B) (j3 A B) = pt 3 (A - B) := by
  have e := sub_all hA hB
  have k := j4_01 A B
  have l0 := sbS_lo (pt 0 A) (pt 0 B) 0
  have l1 := sbS_lo (pt 1 A) (pt 1 B) (j1 A B)
  have l2 := sbS_lo (pt 2 A) (pt 2 B) (j2 A B)
  have l3 := sbS_lo (pt 3 A) (pt 3 B) (j3 A B)
  have h0 := sbS_hi (pt 0 A) (pt 0 B) 0
  have h1 := sbS_hi (pt 1 A) (pt 1 B) (j1 A B)
  have h2 := sbS_hi (pt 2 A) (pt 2 B) (j2 A B)
  have h3 := sbS_hi (pt 3 A) (pt 3 B) (j3 A B)
  unfold In at hA hB
  have kz : j4 A B = 0 := by omega
  rw [kz] at e ⊢
  obtain ⟨p0, p1, p2, p3⟩ := parts (N := A - B) l0 h0 l1 h1 l2 h2 l3 h3 (by rw [Int.ofNat_sub h, e]; omega)
  exact ⟨rfl, p0.symm, p1.symm, p2.symm, p3.symm⟩

theorem sub_yes {A B : Nat} (hA : In A) (hB : In B) (h : A < B) : (j4 A B != 0) = true := by
  have e := sub_all hA hB
  have k := j4_01 A B
  have l0 := sbS_lo (pt 0 A) (pt 0 B) 0
  have l1 := sbS_lo (pt 1 A) (pt 1 B) (j1 A B)
  have l2 := sbS_lo (pt 2 A) (pt 2 B) (j2 A B)
  have l3 := sbS_lo (pt 3 A) (pt 3 B) (j3 A B)
  rw [bne_iff_ne]
  intro kz
  omega
end Go.Proofs.YtebkmlbpngpmdaaDoor.M
namespace Go.Proofs.YtebkmlbpngpmdaaDoor.M

/-- The number of bytes, behind a number. -/
def dgA (n : Nat) : List UInt8 → Nat
  | [] => n
  | c :: l => dgA (n * 256 + c.toNat) l
/-- The number of bytes. -/
def dg (l : List UInt8) : Nat := dgA 0 l

theorem dgA_append (n : Nat) (l r : List UInt8) : dgA n (l ++ r) = dgA (dgA n l) r := by
  induction l generalizing n with
  | nil => rfl
  | cons c l ih => exact ih _
theorem dgA_eq (n : Nat) (l : List UInt8) : dgA n l = n * 256 ^ l.length + dg l := by
  induction l generalizing n with
  | nil => simp [dgA, dg]
  | cons c l ih =>
    have e1 : dgA n (c :: l) = dgA (n * 256 + c.toNat) l := rfl
    have e2 : dg (c :: l) = dgA (0 * 256 + c.toNat) l := rfl
    rw [e1, e2, ih, ih (0 * 256 + c.toNat), List.length_cons, Nat.pow_succ, Nat.zero_mul, Nat.zero_add]
    have : (n * 256 + c.toNat) * 256 ^ l.length = n * (256 ^ l.length * 256) + c.toNat * 256 ^ l.length := by
      rw [Nat.add_mul, Nat.mul_assoc, Nat.mul_comm 256]
    rw [this]
    omega
theorem dg_append (l r : List UInt8) : dg (l ++ r) = dg l * 256 ^ r.length + dg r := by
  unfold dg
  rw [dgA_append, dgA_eq]
  rfl
theorem dg_snoc (l : List UInt8) (c : UInt8) : dg (l ++ [c]) = dg l * 256 + c.toNat := by
  rw [dg_append]
  simp [dg, dgA]
theorem dg_lt (l : List UInt8) : dg l < 256 ^ l.length := by
  induction l with
  | nil => simp [dg, dgA]
  | cons c l ih =>
    have e : dg (c :: l) = dgA (0 * 256 + c.toNat) l := rfl
    rw [e, dgA_eq, List.length_cons, Nat.pow_succ]
    have hc := c.toNat_lt
    have : (0 * 256 + c.toNat) * 256 ^ l.length ≤ 255 * 256 ^ l.length := Nat.mul_le_mul_right _ (by omega)
    omega
theorem dg_8 {l : List UInt8} (h : l.length = 8) : dg l < 18446744073709551616 := by
  have := dg_lt l
  rw [h, show (256 : Nat) ^ 8 = 18446744073709551616 from rfl] at this
  exact this
theorem dg_app8 {r : List UInt8} (h : r.length = 8) (l : List UInt8) : dg (l ++ r) = dg l * 18446744073709551616 + dg r := by
  rw [dg_append, h, show (256 : Nat) ^ 8 = 18446744073709551616 from rfl]
theorem dg_zeros (k : Nat) (l : List UInt8) : dg (List.replicate k 0 ++ l) = dg l := by
  induction k with
  | zero => rfl
  | succ k ih => exact ih

/-- k bytes of a number. -/
def be : Nat → Nat → List UInt8
  | 0, _ => []
  | k + 1, N => be k (N / 256) ++ [UInt8.ofNat (N % 256)]
theorem be_length (k N : Nat) : (be k N).length = k := by
  induction k generalizing N with
  | zero => rfl
  | succ k ih => simp [be, ih]
theorem dg_be (k N : Nat) (h : N < 256 ^ k) : dg (be k N) = N := by
  induction k generalizing N with
  | zero => simp at h; subst h; rfl
  | succ k ih =>
    rw [be, dg_snoc, ih _ (by rw [Nat.pow_succ] at h; omega)]
    have : (UInt8.ofNat (N % 256)).toNat = N % 256 := by simp
    omega
theorem be_dg (l : List UInt8) : be l.length (dg l) = l := by
  obtain ⟨r, rfl⟩ : ∃ r, l = List.reverse r := ⟨l.reverse, by simp⟩
  induction r with
  | nil => rfl
  | cons c r ih =>
    rw [List.reverse_cons, dg_snoc, List.length_append, List.length_singleton, be]
    have hc := c.toNat_lt
    rw [show (dg r.reverse * 256 + c.toNat) / 256 = dg r.reverse by omega, show (dg r.reverse * 256 + c.toNat) % 256 = c.toNat by omega, ih]
    simp
theorem be_add (j k N : Nat) : be (j + k) N = be j (N / 256 ^ k) ++ be k N := by
  induction k generalizing N with
  | zero => simp [be]
  | succ k ih =>
    rw [← Nat.add_assoc, be, ih, be, ← List.append_assoc, Nat.div_div_eq_div_mul, Nat.pow_succ, Nat.mul_comm]
theorem be_mod (k N : Nat) : be k (N % 256 ^ k) = be k N := by
  induction k generalizing N with
  | zero => rfl
  | succ k ih =>
    rw [be, be, ← ih (N / 256)]
    have e1 : N % 256 ^ (k + 1) / 256 = N / 256 % 256 ^ k := by
      rw [Nat.pow_succ, Nat.mul_comm, Nat.mod_mul_right_div_self]
    have e2 : N % 256 ^ (k + 1) % 256 = N % 256 := Nat.mod_mod_of_dvd _ ⟨256 ^ k, by rw [Nat.pow_succ, Nat.mul_comm]⟩
    rw [e1, e2]
theorem be8_eq (n : Nat) : be 8 n = [UInt8.ofNat (n / 72057594037927936 % 256), UInt8.ofNat (n / 281474976710656 % 256), UInt8.ofNat (n / 1099511627776 % 256), UInt8.ofNat (n / 4294967296 % 256), UInt8.ofNat (n / 16777216 % 256), UInt8.ofNat (n / 65536 % 256), UInt8.ofNat (n / 256 % 256), UInt8.ofNat (n % 256)] := by
  simp only [be, Nat.div_div_eq_div_mul, List.nil_append, List.cons_append, Nat.reduceMul]

/-- A word's 32 bytes. -/
def f32 (N : Nat) : List UInt8 := be 32 N
theorem f32_length (N : Nat) : (f32 N).length = 32 := be_length 32 N
theorem in_pow {N : Nat} : In N ↔ N < 256 ^ 32 := by unfold In; rfl
theorem dg_f32 {N : Nat} (h : In N) : dg (f32 N) = N := dg_be 32 N (in_pow.1 h)
theorem f32_dg {l : List UInt8} (h : l.length = 32) : f32 (dg l) = l := by
  have := be_dg l
  rw [h] at this
  exact this
theorem in_dg {l : List UInt8} (h : l.length ≤ 32) : In (dg l) := by
  rw [in_pow]
  exact Nat.lt_of_lt_of_le (dg_lt l) (Nat.pow_le_pow_right (by omega) h)
theorem f32_inj {A B : Nat} (hA : In A) (hB : In B) (h : f32 A = f32 B) : A = B := by
  rw [← dg_f32 hA, ← dg_f32 hB, h]

/-- The 32 bytes, part by part. -/
theorem f32_parts {N : Nat} (_h : In N) : f32 N = be 8 (pt 3 N).toNat ++ be 8 (pt 2 N).toNat ++ be 8 (pt 1 N).toNat ++ be 8 (pt 0 N).toNat := by
  have e : ∀ i, be 8 (pt i N).toNat = be 8 (N / 18446744073709551616 ^ i) := by
    intro i
    unfold pt
    rw [Int.toNat_natCast, show (18446744073709551616 : Nat) = 256 ^ 8 from rfl, be_mod]
  rw [e 0, e 1, e 2, e 3]
  have q1 : N / 256 ^ 8 / 256 ^ 8 = N / 18446744073709551616 ^ 2 := by rw [Nat.div_div_eq_div_mul]
  have q2 : N / 18446744073709551616 ^ 2 / 256 ^ 8 = N / 18446744073709551616 ^ 3 := by rw [Nat.div_div_eq_div_mul]
  unfold f32
  rw [show 32 = 24 + 8 from rfl, be_add, show 24 = 16 + 8 from rfl, be_add, show 16 = 8 + 8 from rfl, be_add, q1, q2, Nat.pow_zero, Nat.div_one, Nat.pow_one]

/-- Without zeros ahead. -/
def tr (l : List UInt8) : List UInt8 := l.dropWhile (· == 0)
theorem tr_split (l : List UInt8) : ∃ k, l = List.replicate k 0 ++ tr l := by
  induction l with
  | nil => exact ⟨0, rfl⟩
  | cons c l ih =>
    by_cases h : c = 0
    · subst h
      obtain ⟨k, hk⟩ := ih
      refine ⟨k + 1, ?_⟩
      rw [List.replicate_succ, List.cons_append]
      have : tr (0 :: l) = tr l := rfl
      rw [this, ← hk]
    · exact ⟨0, by simp [tr, h]⟩
theorem dg_tr (l : List UInt8) : dg (tr l) = dg l := by
  obtain ⟨k, hk⟩ := tr_split l
  have := dg_zeros k (tr l)
  rw [← hk] at this
  exact this.symm
theorem tr_length_le (l : List UInt8) : (tr l).length ≤ l.length := by
  obtain ⟨k, hk⟩ := tr_split l
  have := congrArg List.length hk
  simp at this
  omega
theorem tr_head (l : List UInt8) : ∀ c r, tr l = c :: r → c ≠ 0 := by
  induction l with
  | nil => intro c r h; cases h
  | cons d l ih =>
    intro c r h
    by_cases hd : d = 0
    · subst hd; exact ih c r h
    · have : tr (d :: l) = d :: l := by simp [tr, hd]
      rw [this] at h
      cases h
      exact hd
theorem tr_zeros (k : Nat) (l : List UInt8) (h : ∀ c r, l = c :: r → c ≠ 0) : tr (List.replicate k 0 ++ l) = l := by
  induction k with
  | zero =>
    cases l with
    | nil => rfl
    | cons c r => simp [tr, h c r rfl]
  | succ k ih => exact ih

/-- How long a number's bytes are. -/
theorem tr_small {N : Nat} (h : In N) : (tr (f32 N)).length ≤ 8 ↔ N < 18446744073709551616 := by
  have e := dg_tr (f32 N)
  rw [dg_f32 h] at e
  constructor
  · intro hl
    rw [← e]
    exact Nat.lt_of_lt_of_le (dg_lt _) (show 256 ^ (tr (f32 N)).length ≤ 256 ^ 8 from Nat.pow_le_pow_right (by omega) hl)
  · intro hN
    rcases Nat.lt_or_ge 8 (tr (f32 N)).length with hl | hl
    · exfalso
      match ht : tr (f32 N) with
      | [] => rw [ht] at hl; simp at hl
      | c :: r =>
        have hc := tr_head _ c r ht
        rw [ht] at e hl
        have e2 : dg (c :: r) = dgA (0 * 256 + c.toNat) r := rfl
        rw [e2, dgA_eq] at e
        have hc1 : 1 ≤ c.toNat := by
          rcases Nat.eq_zero_or_pos c.toNat with h0 | h0
          · exact absurd (UInt8.toNat.inj (by simpa using h0)) hc
          · exact h0
        have hp : 256 ^ 8 ≤ 256 ^ r.length := Nat.pow_le_pow_right (by omega) (by simp at hl; omega)
        have : 1 * 256 ^ r.length ≤ (0 * 256 + c.toNat) * 256 ^ r.length := Nat.mul_le_mul_right _ (by omega)
        have h8 : (256 : Nat) ^ 8 = 18446744073709551616 := rfl
        omega
    · exact hl
end Go.Proofs.YtebkmlbpngpmdaaDoor.M
namespace Go.Proofs.YtebkmlbpngpmdaaDoor.M
open Go

/-- The number of bytes, the lowest one first. -/
def led : List UInt8 → Nat
  | [] => 0
  | c :: l => c.toNat + 256 * led l
/-- k bytes of a number, the lowest one first. -/
def le : Nat → Nat → List UInt8
  | 0, _ => []
  | k + 1, N => UInt8.ofNat (N % 256) :: le k (N / 256)
theorem le_length (k N : Nat) : (le k N).length = k := by
  induction k generalizing N with
  | zero => rfl
  | succ k ih => simp [le, ih]
theorem led_lt (l : List UInt8) : led l < 256 ^ l.length := by
  induction l with
  | nil => simp [led]
  | cons c l ih =>
    have := c.toNat_lt
    simp only [led, List.length_cons, Nat.pow_succ]
    omega
theorem led_le (k N : Nat) (h : N < 256 ^ k) : led (le k N) = N := by
  induction k generalizing N with
  | zero => simp at h; subst h; rfl
  | succ k ih =>
    rw [le, led, ih _ (by rw [Nat.pow_succ] at h; omega)]
    have : (UInt8.ofNat (N % 256)).toNat = N % 256 := by simp
    omega
theorem le_led (l : List UInt8) : le l.length (led l) = l := by
  induction l with
  | nil => rfl
  | cons c l ih =>
    have hc := c.toNat_lt
    simp only [List.length_cons, le, led]
    rw [show (c.toNat + 256 * led l) / 256 = led l by omega, show (c.toNat + 256 * led l) % 256 = c.toNat by omega, ih]
    simp
theorem led_snoc (l : List UInt8) (c : UInt8) : led (l ++ [c]) = led l + c.toNat * 256 ^ l.length := by
  induction l with
  | nil => simp [led]
  | cons d l ih =>
    simp only [List.cons_append, led, ih, List.length_cons, Nat.pow_succ]
    rw [Nat.mul_add, ← Nat.add_assoc, show 256 * (c.toNat * 256 ^ l.length) = c.toNat * (256 ^ l.length * 256) by rw [Nat.mul_comm (256 ^ l.length), Nat.mul_left_comm]]
theorem le_get (k N i : Nat) (h : i < k) : (le k N).getD i 0 = UInt8.ofNat (N / 256 ^ i % 256) := by
  induction k generalizing N i with
  | zero => omega
  | succ k ih =>
    cases i with
    | zero => simp [le]
    | succ i =>
      simp only [le, List.getD_cons_succ]
      rw [ih _ _ (by omega), Nat.div_div_eq_div_mul, Nat.pow_succ, Nat.mul_comm]

/-- What is read of at most 8 bytes: the number, and the error's. -/
def ub (l : List UInt8) : Nat × Nat := if 8 < l.length then (0, 5) else if Lib.hasPrefix l [0] then (0, 8) else (dg l, 0)
/-- What is read of 1 to 8 bytes, the lowest one first. -/
def ul (l : List UInt8) : Nat × Nat := if 1 ≤ l.length ∧ l.length ≤ 8 then (led l, 0) else (0, 2)
/-- What is written of so many bytes. -/
def lw (N : Nat) (width : Int) : List UInt8 × Nat := if 1 ≤ width ∧ width ≤ 8 ∧ (tr (f32 N)).length ≤ width then (le width.toNat N, 0) else ([], 1)

theorem led_lt8 {l : List UInt8} (h : l.length ≤ 8) : led l < 18446744073709551616 :=
  Nat.lt_of_lt_of_le (led_lt l) (show 256 ^ l.length ≤ 256 ^ 8 from Nat.pow_le_pow_right (by omega) h)
theorem dg_lt8 {l : List UInt8} (h : l.length ≤ 8) : dg l < 18446744073709551616 :=
  Nat.lt_of_lt_of_le (dg_lt l) (show 256 ^ l.length ≤ 256 ^ 8 from Nat.pow_le_pow_right (by omega) h)
theorem ub_lt (l : List UInt8) : (ub l).1 < 18446744073709551616 := by
  unfold ub
  split
  · simp
  · split
    · simp
    · exact dg_lt8 (by omega)
theorem ul_lt (l : List UInt8) : (ul l).1 < 18446744073709551616 := by
  unfold ul
  split
  · exact led_lt8 (by omega)
  · simp
end Go.Proofs.YtebkmlbpngpmdaaDoor.M
namespace Go.Proofs.YtebkmlbpngpmdaaDoor.M

/-- How many digits of S bits a number has, one at least. -/
def nd (S : Nat) : Nat → Nat → Nat
  | 0, _ => 1
  | f + 1, N => if N < 2 ^ S then 1 else nd S f (N / 2 ^ S) + 1

theorem nd_pos (S f N : Nat) : 1 ≤ nd S f N := by
  cases f with
  | zero => exact Nat.le_refl _
  | succ f => unfold nd; split <;> omega
theorem nd_le (S f N : Nat) : nd S f N ≤ f + 1 := by
  induction f generalizing N with
  | zero => exact Nat.le_refl _
  | succ f ih =>
    unfold nd
    split
    · omega
    · have := ih (N / 2 ^ S)
      omega
theorem nd_low (S f N i : Nat) (h1 : 1 ≤ i) (h2 : i < nd S f N) : N / 2 ^ (S * i) ≠ 0 := by
  induction f generalizing N i with
  | zero => simp [nd] at h2; omega
  | succ f ih =>
    unfold nd at h2
    split at h2
    · omega
    · rename_i hN
      obtain ⟨i, rfl⟩ : ∃ k, i = k + 1 := ⟨i - 1, by omega⟩
      rw [Nat.mul_succ, Nat.add_comm, Nat.pow_add, ← Nat.div_div_eq_div_mul]
      by_cases hi : i = 0
      · subst hi
        rw [Nat.mul_zero, Nat.pow_zero, Nat.div_one]
        have := Nat.div_pos (Nat.not_lt.1 hN) (Nat.two_pow_pos S)
        omega
      · exact ih _ _ (by omega) (by omega)
theorem nd_high (S f N : Nat) (h : N < 2 ^ (S * (f + 1))) : N / 2 ^ (S * nd S f N) = 0 := by
  induction f generalizing N with
  | zero =>
    simp only [nd]
    exact Nat.div_eq_of_lt (by simpa using h)
  | succ f ih =>
    unfold nd
    split
    · rename_i hN
      rw [Nat.mul_one]
      exact Nat.div_eq_of_lt hN
    · rw [Nat.mul_succ, Nat.add_comm, Nat.pow_add, ← Nat.div_div_eq_div_mul]
      refine ih _ ?_
      rw [Nat.mul_succ, Nat.add_comm, Nat.pow_add] at h
      exact Nat.div_lt_of_lt_mul h

/-- Digits by 128. -/
def nd7 (N : Nat) : Nat := nd 7 9 N
def nd8 (N : Nat) : Nat := nd 8 7 N
theorem nd7_high {N : Nat} (h : N < 18446744073709551616) : N / 2 ^ (7 * nd7 N) = 0 := nd_high 7 9 N (Nat.lt_trans h (by decide))
theorem nd8_high {N : Nat} (h : N < 18446744073709551616) : N / 2 ^ (8 * nd8 N) = 0 := nd_high 8 7 N h
theorem nd8_width {N k : Nat} (hk : 1 ≤ k) (h : N < 256 ^ k) : nd8 N ≤ k := by
  rcases Nat.lt_or_ge k (nd8 N) with hlt | hge
  · exfalso
    refine nd_low 8 7 N k hk hlt (Nat.div_eq_of_lt ?_)
    rw [Nat.pow_mul]
    exact h
  · exact hge

/-- A number has so few bytes just where it is so small. -/
theorem tr_width {N k : Nat} (hN : In N) : (tr (f32 N)).length ≤ k ↔ N < 256 ^ k := by
  have e := dg_tr (f32 N)
  rw [dg_f32 hN] at e
  constructor
  · intro hl
    rw [← e]
    exact Nat.lt_of_lt_of_le (dg_lt _) (Nat.pow_le_pow_right (by omega) hl)
  · intro h
    rcases Nat.lt_or_ge k (tr (f32 N)).length with hl | hl
    · exfalso
      match ht : tr (f32 N) with
      | [] => rw [ht] at hl; simp at hl
      | c :: r =>
        have hc := tr_head _ c r ht
        rw [ht] at e hl
        have e2 : dg (c :: r) = dgA (0 * 256 + c.toNat) r := rfl
        rw [e2, dgA_eq] at e
        have hc1 : 1 ≤ c.toNat := by
          rcases Nat.eq_zero_or_pos c.toNat with h0 | h0
          · exact absurd (UInt8.toNat.inj (by simpa using h0)) hc
          · exact h0
        have hp : 256 ^ k ≤ 256 ^ r.length := Nat.pow_le_pow_right (by omega) (by simp at hl; omega)
        have : 1 * 256 ^ r.length ≤ (0 * 256 + c.toNat) * 256 ^ r.length := Nat.mul_le_mul_right _ (by omega)
        omega
    · exact hl

/-- Digits by 128, the lowest one first, 128 more in each but the last one. -/
def vr : Nat → Nat → List UInt8
  | 0, N => [UInt8.ofNat N]
  | f + 1, N => if N < 128 then [UInt8.ofNat N] else UInt8.ofNat (N % 128 + 128) :: vr f (N / 128)
def vrn (N : Nat) : List UInt8 := vr 9 N
theorem vr_length (f N : Nat) : (vr f N).length = nd 7 f N := by
  induction f generalizing N with
  | zero => rfl
  | succ f ih =>
    unfold vr nd
    by_cases h : N < 128
    · rw [if_pos h, if_pos h]; rfl
    · rw [if_neg h, if_neg h, List.length_cons, ih]
theorem vr_get (f N i : Nat) (hi : i < nd 7 f N) : (vr f N).getD i 0 = if i + 1 = nd 7 f N then UInt8.ofNat (N / 2 ^ (7 * i)) else UInt8.ofNat (N / 2 ^ (7 * i) % 128 + 128) := by
  induction f generalizing N i with
  | zero =>
    simp only [nd] at hi ⊢
    obtain rfl : i = 0 := by omega
    simp [vr]
  | succ f ih =>
    unfold vr nd
    unfold nd at hi
    by_cases h : N < 128
    · rw [if_pos (show N < 2 ^ 7 from h)] at hi
      obtain rfl : i = 0 := by omega
      rw [if_pos h, if_pos (show N < 2 ^ 7 from h)]
      simp
    · rw [if_neg (show ¬ N < 2 ^ 7 from h)] at hi
      rw [if_neg h, if_neg (show ¬ N < 2 ^ 7 from h)]
      cases i with
      | zero =>
        have := nd_pos 7 f (N / 2 ^ 7)
        rw [if_neg (by omega)]
        simp
      | succ i =>
        have hp : 2 ^ (7 * (i + 1)) = 2 ^ 7 * 2 ^ (7 * i) := by rw [Nat.mul_succ, Nat.add_comm, Nat.pow_add]
        rw [List.getD_cons_succ, show N / 128 = N / 2 ^ 7 from rfl, ih _ _ (by omega), hp, ← Nat.div_div_eq_div_mul]
        by_cases hl : i + 1 = nd 7 f (N / 2 ^ 7)
        · rw [if_pos hl, if_pos (by omega)]
        · rw [if_neg hl, if_neg (by omega)]
end Go.Proofs.YtebkmlbpngpmdaaDoor.M
namespace Go.Proofs.YtebkmlbpngpmdaaDoor.M

/-- What is wrong with the byte at place i, that no last one is ahead of. -/
def ftc (i : Nat) : Option UInt8 → Nat
  | none => 3
  | some c => if i = 9 ∧ 1 < c.toNat then 5 else if 0 < i ∧ c.toNat = 0 then 8 else 0
def ft (l : List UInt8) (i : Nat) : Nat := ftc i l[i]?
/-- How many digits there are from place i on, and what is wrong behind them. -/
def kc : Nat → List UInt8 → Nat × Nat
  | _, [] => (0, 3)
  | i, c :: r => if i = 9 ∧ 1 < c.toNat then (0, 5) else if 0 < i ∧ c.toNat = 0 then (0, 8) else if c.toNat < 128 then (1, 0) else ((kc (i + 1) r).1 + 1, (kc (i + 1) r).2)
/-- The number of digits. -/
def vd : List UInt8 → Nat
  | [] => 0
  | c :: r => c.toNat % 128 + 128 * vd r

theorem kc_spec (l : List UInt8) (i : Nat) (hi : i ≤ 9) :
    i + (kc i l).1 ≤ 10 ∧ (kc i l).1 ≤ l.length ∧ (∀ j, j < (kc i l).1 → ftc (i + j) l[j]? = 0) ∧
    ((kc i l).2 = 0 → 1 ≤ (kc i l).1 ∧ (∀ j, j + 1 = (kc i l).1 → (l.getD j 0).toNat < 128) ∧ ∀ j, j + 1 < (kc i l).1 → 128 ≤ (l.getD j 0).toNat) ∧
    ((kc i l).2 ≠ 0 → i + (kc i l).1 < 10 ∧ ftc (i + (kc i l).1) l[(kc i l).1]? = (kc i l).2 ∧ ∀ j, j < (kc i l).1 → 128 ≤ (l.getD j 0).toNat) := by
  induction l generalizing i with
  | nil =>
    simp only [kc]
    refine ⟨by omega, by simp, fun j h => absurd h (by omega), fun h => absurd h (by omega), fun _ => ⟨by omega, by simp [ftc], fun j h => absurd h (by omega)⟩⟩
  | cons c r ih =>
    unfold kc
    by_cases h5 : i = 9 ∧ 1 < c.toNat
    · rw [if_pos h5]
      refine ⟨by omega, by simp, fun j h => absurd h (by simp), fun h => absurd h (by simp), fun _ => ⟨by simp; omega, by simp [ftc, h5], fun j h => absurd h (by simp)⟩⟩
    · rw [if_neg h5]
      by_cases h8 : 0 < i ∧ c.toNat = 0
      · rw [if_pos h8]
        refine ⟨by simp; omega, by simp, fun j h => absurd h (by simp), fun h => absurd h (by simp), fun _ => ⟨?_, ?_, fun j h => absurd h (by simp)⟩⟩
        · simp
          omega
        · simp only [Nat.add_zero, List.getElem?_cons_zero, ftc]
          rw [if_neg h5, if_pos h8]
      · rw [if_neg h8]
        by_cases hc : c.toNat < 128
        · rw [if_pos hc]
          refine ⟨by simp; omega, by simp, fun j h => ?_, fun _ => ⟨by simp, fun j h => ?_, fun j h => ?_⟩, fun h => absurd rfl h⟩
          · obtain rfl : j = 0 := by simp at h; omega
            simp only [Nat.add_zero, List.getElem?_cons_zero, ftc]
            rw [if_neg h5, if_neg h8]
          · obtain rfl : j = 0 := by simp at h; omega
            simpa using hc
          · simp at h
        · rw [if_neg hc]
          have hi9 : i ≤ 8 := by
            rcases Nat.lt_or_ge 8 i with h | h
            · exact absurd ⟨by omega, by omega⟩ h5
            · exact h
          obtain ⟨a1, a2, a3, a4, a5⟩ := ih (i + 1) (by omega)
          generalize kc (i + 1) r = q at a1 a2 a3 a4 a5
          obtain ⟨k, e⟩ := q
          simp only at a1 a2 a3 a4 a5 ⊢
          refine ⟨by omega, by simp; omega, fun j h => ?_, fun h => ⟨by omega, fun j hj => ?_, fun j hj => ?_⟩, fun h => ⟨by omega, ?_, fun j hj => ?_⟩⟩
          · cases j with
            | zero =>
              simp only [Nat.add_zero, List.getElem?_cons_zero, ftc]
              rw [if_neg h5, if_neg h8]
            | succ j =>
              have := a3 j (by omega)
              rw [List.getElem?_cons_succ, ← this]
              congr 1
              omega
          · obtain ⟨b1, b2, b3⟩ := a4 h
            cases j with
            | zero => omega
            | succ j =>
              rw [List.getD_cons_succ]
              exact b2 j (by omega)
          · obtain ⟨b1, b2, b3⟩ := a4 h
            cases j with
            | zero => simp; omega
            | succ j =>
              rw [List.getD_cons_succ]
              exact b3 j (by omega)
          · have := (a5 h).2.1
            rw [List.getElem?_cons_succ, ← this]
            congr 1
            omega
          · cases j with
            | zero => simp; omega
            | succ j =>
              rw [List.getD_cons_succ]
              exact (a5 h).2.2 j (by omega)

theorem vd_lt (l : List UInt8) : vd l < 128 ^ l.length := by
  induction l with
  | nil => simp [vd]
  | cons c r ih =>
    simp only [vd, List.length_cons, Nat.pow_succ]
    omega
theorem vd_snoc (l : List UInt8) (c : UInt8) : vd (l ++ [c]) = vd l + c.toNat % 128 * 128 ^ l.length := by
  induction l with
  | nil => simp [vd]
  | cons d l ih =>
    simp only [List.cons_append, vd, ih, List.length_cons, Nat.pow_succ]
    rw [Nat.mul_add, ← Nat.add_assoc, show 128 * (c.toNat % 128 * 128 ^ l.length) = c.toNat % 128 * (128 ^ l.length * 128) by rw [Nat.mul_comm (128 ^ l.length), Nat.mul_left_comm]]

/-- What is read from a place on: the number, the place behind it, what is wrong. -/
def uv (l : List UInt8) (at_ : Int) : Nat × Int × Nat :=
  if 0 ≤ at_ ∧ at_ ≤ l.length then (if (kc 0 (l.drop at_.toNat)).2 = 0 then (vd ((l.drop at_.toNat).take (kc 0 (l.drop at_.toNat)).1), at_ + (kc 0 (l.drop at_.toNat)).1, 0) else (0, 0, (kc 0 (l.drop at_.toNat)).2)) else (0, 0, 1)
end Go.Proofs.YtebkmlbpngpmdaaDoor.M
namespace Go.Proofs.YtebkmlbpngpmdaaDoor.M
open Go

theorem pre0 {l : List UInt8} (h : ∀ c r, l = c :: r → c ≠ 0) : Lib.hasPrefix l [0] = false := by
  cases l with
  | nil => rfl
  | cons c r =>
    have := h c r rfl
    simp [Lib.hasPrefix, List.isPrefixOf, Ne.symm this]
theorem pre0' {l : List UInt8} (h : Lib.hasPrefix l [0] = false) : ∀ c r, l = c :: r → c ≠ 0 := by
  rintro c r rfl rfl
  simp [Lib.hasPrefix, List.isPrefixOf] at h

theorem in64 {N : Nat} (h : N < 18446744073709551616) : In N := by unfold In; omega

theorem ub_be {N : Nat} (h : N < 18446744073709551616) : ub (tr (f32 N)) = (N, 0) := by
  have h8 := (tr_small (in64 h)).2 h
  unfold ub
  rw [if_neg (by omega), pre0 (tr_head _), dg_tr, dg_f32 (in64 h)]
  rfl

theorem be_ub {l : List UInt8} (h : (ub l).2 = 0) : tr (f32 (ub l).1) = l := by
  unfold ub at h ⊢
  by_cases h8 : 8 < l.length
  · rw [if_pos h8] at h; simp at h
  · rw [if_neg h8] at h ⊢
    by_cases hp : Lib.hasPrefix l [0] = true
    · rw [if_pos hp] at h; simp at h
    · rw [if_neg hp]
      show tr (f32 (dg l)) = l
      rw [← dg_zeros (32 - l.length) l, f32_dg (by simp; omega)]
      exact tr_zeros _ l (pre0' (by simpa using hp))

theorem ul_lw {N : Nat} {width : Int} (hN : N < 18446744073709551616) (h : (lw N width).2 = 0) : ul (lw N width).1 = (N, 0) ∧ ((lw N width).1.length : Int) = width := by
  unfold lw at h ⊢
  by_cases hc : 1 ≤ width ∧ width ≤ 8 ∧ (tr (f32 N)).length ≤ width
  · rw [if_pos hc]
    obtain ⟨k, rfl⟩ : ∃ k : Nat, width = k := ⟨width.toNat, by omega⟩
    have hs : N < 256 ^ k := (tr_width (in64 hN)).1 (by omega)
    simp only [Int.toNat_natCast, le_length]
    refine ⟨?_, trivial⟩
    unfold ul
    rw [le_length, if_pos (by omega), led_le k N hs]
  · rw [if_neg hc] at h; simp at h

theorem lw_ul {l : List UInt8} (h : (ul l).2 = 0) : lw (ul l).1 l.length = (l, 0) := by
  unfold ul at h ⊢
  by_cases hc : 1 ≤ l.length ∧ l.length ≤ 8
  · rw [if_pos hc]
    have hb := led_lt8 hc.2
    have hs : (tr (f32 (led l))).length ≤ l.length := (tr_width (in64 hb)).2 (led_lt l)
    unfold lw
    rw [if_pos ⟨by omega, by omega, by simpa using hs⟩, Int.toNat_natCast, le_led]
  · rw [if_neg hc] at h; simp at h

theorem ofNat_toNat {n : Nat} (h : n < 256) : (UInt8.ofNat n).toNat = n := by
  simp
  omega

theorem kc_vr (f N : Nat) (r : List UInt8) (hf : f ≤ 9) (hN : N < 2 ^ (64 - 7 * (9 - f))) (hp : f < 9 → 0 < N) :
    kc (9 - f) (vr f N ++ r) = ((vr f N).length, 0) ∧ vd (vr f N) = N := by
  induction f generalizing N with
  | zero =>
    have h2 : N < 2 := by simpa using hN
    have h1 := hp (by omega)
    have e : (UInt8.ofNat N).toNat = N := ofNat_toNat (by omega)
    simp only [vr, List.singleton_append, kc, e, vd, List.length_singleton]
    rw [if_neg (by omega), if_neg (by omega), if_pos (by omega)]
    exact ⟨rfl, by omega⟩
  | succ f ih =>
    unfold vr
    by_cases h : N < 128
    · rw [if_pos h]
      have e : (UInt8.ofNat N).toNat = N := ofNat_toNat (by omega)
      simp only [List.singleton_append, kc, e, vd, List.length_singleton]
      rw [if_neg (by omega), if_neg (by omega), if_pos (by omega)]
      exact ⟨rfl, by omega⟩
    · rw [if_neg h]
      have hN2 : N / 128 < 2 ^ (64 - 7 * (9 - f)) := by
        rw [show 64 - 7 * (9 - (f + 1)) = 64 - 7 * (9 - f) + 7 by omega, Nat.pow_add] at hN
        exact Nat.div_lt_of_lt_mul (by rw [Nat.mul_comm]; exact hN)
      obtain ⟨i1, i2⟩ := ih (N / 128) (by omega) hN2 (fun _ => by omega)
      have e : (UInt8.ofNat (N % 128 + 128)).toNat = N % 128 + 128 := ofNat_toNat (by omega)
      have e9 : 9 - (f + 1) + 1 = 9 - f := by omega
      simp only [List.cons_append, kc, e, vd, List.length_cons, i2, e9, i1]
      rw [if_neg (by omega), if_neg (by omega), if_neg (by omega)]
      exact ⟨rfl, by omega⟩

theorem kc_vrn {N : Nat} (hN : N < 18446744073709551616) (r : List UInt8) : kc 0 (vrn N ++ r) = ((vrn N).length, 0) ∧ vd (vrn N) = N :=
  kc_vr 9 N r (by omega) hN (fun h => absurd h (by omega))

theorem uv_vrn {N : Nat} (hN : N < 18446744073709551616) (a b : List UInt8) : uv (a ++ vrn N ++ b) a.length = (N, ((a.length + (vrn N).length : Nat) : Int), 0) := by
  obtain ⟨h1, h2⟩ := kc_vrn hN b
  unfold uv
  rw [if_pos ⟨by omega, by simp; omega⟩, Int.toNat_natCast, List.append_assoc, List.drop_left, h1]
  simp [h2]

theorem vr_kc (l : List UInt8) (i : Nat) (hi : i ≤ 9) (h : (kc i l).2 = 0) : vr (9 - i) (vd (l.take (kc i l).1)) = l.take (kc i l).1 ∧ (0 < i → 0 < vd (l.take (kc i l).1)) ∧ vd (l.take (kc i l).1) < 2 ^ (64 - 7 * i) := by
  induction l generalizing i with
  | nil => simp [kc] at h
  | cons c r ih =>
    unfold kc at h ⊢
    by_cases h5 : i = 9 ∧ 1 < c.toNat
    · rw [if_pos h5] at h; simp at h
    · rw [if_neg h5] at h ⊢
      by_cases h8 : 0 < i ∧ c.toNat = 0
      · rw [if_pos h8] at h; simp at h
      · rw [if_neg h8] at h ⊢
        by_cases hc : c.toNat < 128
        · rw [if_pos hc]
          have e : vd (List.take 1 (c :: r)) = c.toNat := by simp [vd]; omega
          simp only [e]
          refine ⟨?_, fun h0 => by omega, ?_⟩
          · have hv : ∀ f, vr f c.toNat = [UInt8.ofNat c.toNat] := fun f => by
              cases f with
              | zero => rfl
              | succ f => unfold vr; rw [if_pos hc]
            rw [hv]
            simp
          · by_cases h9 : i = 9
            · subst h9
              have : ¬ 1 < c.toNat := fun h => h5 ⟨rfl, h⟩
              simp
              omega
            · exact Nat.lt_of_lt_of_le hc (show 2 ^ 7 ≤ _ from Nat.pow_le_pow_right (by omega) (by omega))
        · rw [if_neg hc] at h ⊢
          have hi8 : i ≤ 8 := by
            rcases Nat.lt_or_ge 8 i with h0 | h0
            · exact absurd ⟨by omega, by omega⟩ h5
            · exact h0
          obtain ⟨i1, i2, i3⟩ := ih (i + 1) (by omega) h
          have hpos := i2 (by omega)
          simp only [List.take_succ_cons, vd]
          generalize (kc (i + 1) r).1 = k at i1 i2 i3 hpos ⊢
          generalize hv : vd (List.take k r) = v at i1 i2 i3 hpos ⊢
          have hcl := c.toNat_lt
          refine ⟨?_, fun _ => by omega, ?_⟩
          · rw [show 9 - i = 9 - (i + 1) + 1 by omega, vr, if_neg (by omega)]
            rw [show (c.toNat % 128 + 128 * v) / 128 = v by omega, show (c.toNat % 128 + 128 * v) % 128 + 128 = c.toNat by omega, i1]
            simp
          · rw [show 64 - 7 * i = 64 - 7 * (i + 1) + 7 by omega, Nat.pow_add]
            omega

/-- What is read of digits: all that it says. -/
theorem uv_ok {l : List UInt8} {a : Int} (h : (uv l a).2.2 = 0) : 0 ≤ a ∧ a < (uv l a).2.1 ∧ (uv l a).2.1 ≤ l.length ∧ (uv l a).1 < 18446744073709551616 ∧ vrn (uv l a).1 = (l.drop a.toNat).take ((uv l a).2.1 - a).toNat := by
  unfold uv at h ⊢
  by_cases hc : 0 ≤ a ∧ a ≤ l.length
  · rw [if_pos hc] at h ⊢
    by_cases he : (kc 0 (l.drop a.toNat)).2 = 0
    · rw [if_pos he]
      obtain ⟨v1, _, v3⟩ := vr_kc (l.drop a.toNat) 0 (by omega) he
      obtain ⟨_, s2, _, s4, _⟩ := kc_spec (l.drop a.toNat) 0 (by omega)
      have h1 := (s4 he).1
      rw [List.length_drop] at s2
      refine ⟨hc.1, by simp; omega, by simp; omega, v3, ?_⟩
      simp only [show (a + ((kc 0 (l.drop a.toNat)).1 : Int) - a).toNat = (kc 0 (l.drop a.toNat)).1 by omega]
      exact v1
    · rw [if_neg he] at h; simp at h; exact absurd h he
  · rw [if_neg hc] at h; simp at h
theorem uv_no {l : List UInt8} {a : Int} (h : (uv l a).2.2 ≠ 0) : (uv l a).1 = 0 ∧ (uv l a).2.1 = 0 := by
  unfold uv at h ⊢
  by_cases hc : 0 ≤ a ∧ a ≤ l.length
  · rw [if_pos hc] at h ⊢
    by_cases he : (kc 0 (l.drop a.toNat)).2 = 0
    · rw [if_pos he] at h; simp at h
    · rw [if_neg he]; simp
  · rw [if_neg hc]; simp
theorem uv_lt (l : List UInt8) (a : Int) : (uv l a).1 < 18446744073709551616 := by
  by_cases h : (uv l a).2.2 = 0
  · exact (uv_ok h).2.2.2.1
  · rw [(uv_no h).1]; omega

theorem vrn_length (N : Nat) : 1 ≤ (vrn N).length ∧ (vrn N).length ≤ 10 := by
  unfold vrn
  rw [vr_length]
  exact ⟨nd_pos 7 9 N, nd_le 7 9 N⟩
theorem vrn_apart {m n : Nat} (hm : m < 18446744073709551616) (hn : n < 18446744073709551616) (h : (vrn n).take (vrn m).length = vrn m) : m = n := by
  have e : vrn n = vrn m ++ (vrn n).drop (vrn m).length := by
    have := (List.take_append_drop (vrn m).length (vrn n)).symm
    rw [h] at this
    exact this
  obtain ⟨a1, a2⟩ := kc_vrn hm ((vrn n).drop (vrn m).length)
  obtain ⟨b1, b2⟩ := kc_vrn hn []
  rw [List.append_nil] at b1
  rw [← e, b1] at a1
  have hl : (vrn n).length = (vrn m).length := congrArg Prod.fst a1
  rw [← hl, List.take_length] at h
  rw [← a2, ← b2, h]
end Go.Proofs.YtebkmlbpngpmdaaDoor.M
namespace Go.Proofs.YtebkmlbpngpmdaaDoor.M

/-- The digits of a number, no more than are needed. -/
def ben (n : Nat) : List UInt8 := tr (f32 n)
theorem in64' {n : Nat} (h : n < 18446744073709551616) : In n := by unfold In; omega
theorem dg_ben {n : Nat} (h : n < 18446744073709551616) : dg (ben n) = n := by unfold ben; rw [dg_tr, dg_f32 (in64' h)]
theorem ben_le {n : Nat} (h : n < 18446744073709551616) : (ben n).length ≤ 8 := (tr_small (in64' h)).2 h
theorem ben_inj {m n : Nat} (hm : m < 18446744073709551616) (hn : n < 18446744073709551616) (h : ben m = ben n) : m = n := by rw [← dg_ben hm, h, dg_ben hn]
theorem ben_pos {n : Nat} (h : n < 18446744073709551616) (h0 : 0 < n) : 1 ≤ (ben n).length := by
  rcases Nat.eq_zero_or_pos (ben n).length with h1 | h1
  · have h2 := dg_ben h
    rw [List.eq_nil_of_length_eq_zero h1] at h2
    simp [dg, dgA] at h2
    omega
  · exact h1
/-- How many digits a length of a few bytes has. -/
theorem ben_width {n k : Nat} (h : n < 18446744073709551616) (_hk : k ≤ 8) : (ben n).length ≤ k ↔ n < 256 ^ k := by
  constructor
  · intro hl
    rw [← dg_ben h]
    exact Nat.lt_of_lt_of_le (dg_lt _) (Nat.pow_le_pow_right (by omega) hl)
  · intro hn
    rcases Nat.lt_or_ge k (ben n).length with hlt | hge
    · exfalso
      have hne : ben n ≠ [] := fun e => by rw [e] at hlt; simp at hlt
      obtain ⟨c, r, e⟩ := List.exists_cons_of_ne_nil hne
      have hc : c ≠ 0 := tr_head _ c r e
      have hd := dg_ben h
      rw [e] at hd hlt
      have h1 : dg (c :: r) = c.toNat * 256 ^ r.length + dg r := by
        rw [show c :: r = [c] ++ r from rfl, dg_append]
        simp [dg, dgA]
      have hc1 : 1 ≤ c.toNat := by
        rcases Nat.eq_zero_or_pos c.toNat with h0 | h0
        · exact absurd (UInt8.toNat_inj.1 (by simpa using h0)) hc
        · exact h0
      have h2 : 256 ^ k ≤ 256 ^ r.length := Nat.pow_le_pow_right (by omega) (by simp at hlt; omega)
      have h3 : 256 ^ r.length ≤ c.toNat * 256 ^ r.length := Nat.le_mul_of_pos_left _ hc1
      omega
    · exact hge

/-- A head of a length. -/
def hdL (n p : Nat) : List UInt8 := if n < 56 then [UInt8.ofNat (p + n)] else UInt8.ofNat (p + 55 + (ben n).length) :: ben n
theorem hdL_ne (n p : Nat) : hdL n p ≠ [] := by unfold hdL; split <;> simp
theorem ofNat_inj {a b : Nat} (ha : a < 256) (hb : b < 256) (h : UInt8.ofNat a = UInt8.ofNat b) : a = b := by
  have := congrArg UInt8.toNat h
  rwa [UInt8.toNat_ofNat_of_lt' ha, UInt8.toNat_ofNat_of_lt' hb] at this
theorem hd_first {n p : Nat} (hn : n < 18446744073709551616) : ∃ k r, hdL n p = UInt8.ofNat (p + k) :: r ∧ k < 64 ∧ ((n < 56 ∧ k = n ∧ r = []) ∨ (56 ≤ n ∧ k = 55 + (ben n).length ∧ 56 ≤ k ∧ r = ben n)) := by
  unfold hdL
  by_cases h : n < 56
  · rw [if_pos h]
    exact ⟨n, [], rfl, by omega, .inl ⟨h, rfl, rfl⟩⟩
  · rw [if_neg h]
    have h1 := ben_le hn
    have h2 := ben_pos hn (by omega)
    exact ⟨55 + (ben n).length, ben n, by rw [Nat.add_assoc], by omega, .inr ⟨by omega, rfl, by omega, rfl⟩⟩
theorem hd_apart {m n p q : Nat} {r s : List UInt8} (hm : m < 18446744073709551616) (hn : n < 18446744073709551616) (hp : p = 128 ∨ p = 192) (hq : q = 128 ∨ q = 192) (h : hdL m p ++ r = hdL n q ++ s) : p = q ∧ m = n ∧ r = s := by
  obtain ⟨k, x, e1, hk, c1⟩ := hd_first (p := p) hm
  obtain ⟨l, y, e2, hl, c2⟩ := hd_first (p := q) hn
  rw [e1, e2, List.cons_append, List.cons_append] at h
  obtain ⟨h0, h1⟩ := List.cons.inj h
  have hpk : p + k < 256 := by omega
  have hql : q + l < 256 := by omega
  have h2 := ofNat_inj hpk hql h0
  have hpq : p = q ∧ k = l := by omega
  obtain ⟨rfl, rfl⟩ := hpq
  refine ⟨rfl, ?_⟩
  rcases c1 with ⟨a1, a2, a3⟩ | ⟨a1, a2, a3, a4⟩ <;> rcases c2 with ⟨b1, b2, b3⟩ | ⟨b1, b2, b3, b4⟩
  · subst a3 b3
    exact ⟨by omega, by simpa using h1⟩
  · omega
  · omega
  · rw [a4, b4] at h1
    clear a4 b4 e1 e2 h h0 h2
    have hlen : (ben m).length = (ben n).length := by omega
    obtain ⟨h3, h4⟩ := List.append_inj h1 hlen
    exact ⟨ben_inj hm hn h3, h4⟩

/-- An item: bytes, or a list of items; or what is neither. -/
inductive It where
  | mk (list : Bool) (bytes : List UInt8) (items : List It)

mutual
def bytesI : It → List UInt8
  | .mk true _ xs => hdL (bytesIs xs).length 192 ++ bytesIs xs
  | .mk false b _ => if b.length = 1 ∧ (b.headD 0).toNat < 128 then b else hdL b.length 128 ++ b
def bytesIs : List It → List UInt8
  | [] => []
  | x :: xs => bytesI x ++ bytesIs xs
end
mutual
def deepI : It → Nat
  | .mk true _ xs => deepIs xs + 1
  | .mk false _ _ => 0
def deepIs : List It → Nat
  | [] => 0
  | x :: xs => max (deepI x) (deepIs xs)
end
mutual
/-- What is wrong with an item that stands in so many lists. -/
def formI (d : Nat) : It → Nat
  | .mk l b xs => if (l = true ∧ b ≠ []) ∨ (l = false ∧ xs ≠ []) then 2 else if l = false then 0 else if 12 ≤ d then 7 else if 512 < xs.length then 5 else formIs (d + 1) xs
def formIs (d : Nat) : List It → Nat
  | [] => 0
  | x :: xs => if formI d x ≠ 0 then formI d x else formIs d xs
end
def checkI (x : It) : Nat := if formI 0 x = 0 ∧ 65536 < (bytesI x).length then 5 else formI 0 x
def encodeI (x : It) : List UInt8 × Nat := if checkI x = 0 then (bytesI x, 0) else ([], checkI x)

theorem formI_ok {d : Nat} {l : Bool} {b : List UInt8} {xs : List It} (h : formI d (.mk l b xs) = 0) : (l = true → b = [] ∧ d < 12 ∧ xs.length ≤ 512 ∧ formIs (d + 1) xs = 0) ∧ (l = false → xs = []) := by
  unfold formI at h
  split at h
  · cases h
  · rename_i h1
    have hb : l = true → b = [] := fun hl => by
      rcases List.eq_nil_or_concat b with e | ⟨_, _, e⟩
      · exact e
      · exact absurd (.inl ⟨hl, by rw [e]; simp⟩) h1
    have hx : l = false → xs = [] := fun hl => by
      cases xs with
      | nil => rfl
      | cons x xs => exact absurd (.inr ⟨hl, by simp⟩) h1
    refine ⟨fun hl => ?_, hx⟩
    rw [if_neg (by rw [hl]; simp)] at h
    split at h
    · cases h
    · rename_i h2
      split at h
      · cases h
      · rename_i h3
        exact ⟨hb hl, by omega, by omega, h⟩
theorem formIs_ok {d : Nat} {x : It} {xs : List It} (h : formIs d (x :: xs) = 0) : formI d x = 0 ∧ formIs d xs = 0 := by
  unfold formIs at h
  split at h
  · rename_i h1; exact absurd h h1
  · rename_i h1; exact ⟨by omega, h⟩

theorem bytesI_ne (x : It) (h : (bytesI x).length = 0) : False := by
  have h' := List.eq_nil_of_length_eq_zero h
  match x with
  | .mk true _ xs =>
    rw [bytesI] at h'
    exact hdL_ne _ _ (List.append_eq_nil_iff.1 h').1
  | .mk false b _ =>
    rw [bytesI] at h'
    split at h'
    · rename_i h1; rw [h'] at h1; simp at h1
    · exact hdL_ne _ _ (List.append_eq_nil_iff.1 h').1

/-- The first byte of bytes' own, and of a list's. -/
theorem short_first {b : List UInt8} (h : b.length = 1 ∧ (b.headD 0).toNat < 128) : ∃ c, b = [c] ∧ c.toNat < 128 := by
  obtain ⟨h1, h2⟩ := h
  match b, h1 with
  | [c], _ => exact ⟨c, rfl, h2⟩
theorem hd_high {n p : Nat} (hn : n < 18446744073709551616) (hp : p = 128 ∨ p = 192) {c : UInt8} {r s : List UInt8} (h : hdL n p ++ r = c :: s) : 128 ≤ c.toNat := by
  obtain ⟨k, x, e1, hk, _⟩ := hd_first (p := p) hn
  rw [e1, List.cons_append] at h
  obtain ⟨h0, _⟩ := List.cons.inj h
  rw [← h0, UInt8.toNat_ofNat_of_lt' (by show p + k < 256; omega)]
  omega

mutual
/-- **NO ITEM'S BYTES BEGIN ANOTHER ONE'S**, whatever stands behind. -/
theorem bytes_apart : ∀ (a b : It) (d e : Nat) (r s : List UInt8), formI d a = 0 → formI e b = 0 → (bytesI a).length < 18446744073709551616 → (bytesI b).length < 18446744073709551616 → bytesI a ++ r = bytesI b ++ s → a = b ∧ r = s
  | .mk la ba xs, .mk lb bb ys, d, e, r, s, ha, hb, la64, lb64, h => by
    obtain ⟨ha1, ha2⟩ := formI_ok ha
    obtain ⟨hb1, hb2⟩ := formI_ok hb
    cases la <;> cases lb
    · obtain rfl := ha2 rfl
      obtain rfl := hb2 rfl
      rw [bytesI] at la64 lb64 h
      rw [bytesI] at h
      by_cases h1 : ba.length = 1 ∧ (ba.headD 0).toNat < 128
      · rw [if_pos h1] at h la64
        obtain ⟨c, rfl, hc⟩ := short_first h1
        by_cases h2 : bb.length = 1 ∧ (bb.headD 0).toNat < 128
        · rw [if_pos h2] at h
          obtain ⟨c', rfl, hc'⟩ := short_first h2
          simp only [List.cons_append, List.nil_append, List.cons.injEq] at h
          obtain ⟨rfl, rfl⟩ := h
          exact ⟨rfl, rfl⟩
        · rw [if_neg h2] at h lb64
          rw [List.append_assoc] at h
          have := hd_high (by rw [List.length_append] at lb64; omega) (.inl rfl) h.symm
          omega
      · rw [if_neg h1] at h la64
        by_cases h2 : bb.length = 1 ∧ (bb.headD 0).toNat < 128
        · rw [if_pos h2] at h
          obtain ⟨c', rfl, hc'⟩ := short_first h2
          rw [List.append_assoc] at h
          have := hd_high (by rw [List.length_append] at la64; omega) (.inl rfl) h
          omega
        · rw [if_neg h2] at h lb64
          rw [List.append_assoc, List.append_assoc] at h
          rw [List.length_append] at la64 lb64
          obtain ⟨_, h3, h4⟩ := hd_apart (by omega) (by omega) (.inl rfl) (.inl rfl) h
          obtain ⟨h5, h6⟩ := List.append_inj h4 h3
          exact ⟨by rw [h5], h6⟩
    · obtain rfl := ha2 rfl
      rw [bytesI] at la64 h
      rw [bytesI] at lb64 h
      rw [List.length_append] at lb64
      rw [List.append_assoc] at h
      by_cases h1 : ba.length = 1 ∧ (ba.headD 0).toNat < 128
      · rw [if_pos h1] at h
        obtain ⟨c, rfl, hc⟩ := short_first h1
        have := hd_high (by omega) (.inr rfl) h.symm
        omega
      · rw [if_neg h1] at h la64
        rw [List.append_assoc] at h
        rw [List.length_append] at la64
        have := (hd_apart (by omega) (by omega) (.inl rfl) (.inr rfl) h).1
        omega
    · obtain rfl := hb2 rfl
      rw [bytesI] at la64 h
      rw [bytesI] at lb64 h
      rw [List.length_append] at la64
      rw [List.append_assoc] at h
      by_cases h1 : bb.length = 1 ∧ (bb.headD 0).toNat < 128
      · rw [if_pos h1] at h
        obtain ⟨c, rfl, hc⟩ := short_first h1
        have := hd_high (by omega) (.inr rfl) h
        omega
      · rw [if_neg h1] at h lb64
        rw [List.append_assoc] at h
        rw [List.length_append] at lb64
        have := (hd_apart (by omega) (by omega) (.inr rfl) (.inl rfl) h).1
        omega
    · obtain ⟨rfl, _, _, ha3⟩ := ha1 rfl
      obtain ⟨rfl, _, _, hb3⟩ := hb1 rfl
      rw [bytesI] at la64 lb64 h
      rw [bytesI] at h
      rw [List.length_append] at la64 lb64
      rw [List.append_assoc, List.append_assoc] at h
      obtain ⟨_, h3, h4⟩ := hd_apart (by omega) (by omega) (.inr rfl) (.inr rfl) h
      obtain ⟨h5, h6⟩ := List.append_inj h4 h3
      have := all_apart xs ys (d + 1) (e + 1) ha3 hb3 (by omega) (by omega) h5
      exact ⟨by rw [this], h6⟩
theorem all_apart : ∀ (xs ys : List It) (d e : Nat), formIs d xs = 0 → formIs e ys = 0 → (bytesIs xs).length < 18446744073709551616 → (bytesIs ys).length < 18446744073709551616 → bytesIs xs = bytesIs ys → xs = ys
  | [], [], _, _, _, _, _, _, _ => rfl
  | [], y :: ys, _, _, _, _, _, _, h => by
    simp only [bytesIs] at h
    exact (bytesI_ne y (by rw [(List.append_eq_nil_iff.1 h.symm).1]; rfl)).elim
  | x :: xs, [], _, _, _, _, _, _, h => by
    simp only [bytesIs] at h
    exact (bytesI_ne x (by rw [(List.append_eq_nil_iff.1 h).1]; rfl)).elim
  | x :: xs, y :: ys, d, e, hx, hy, lx, ly, h => by
    rw [bytesIs] at lx ly h
    rw [bytesIs] at h
    rw [List.length_append] at lx ly
    obtain ⟨h1, h2⟩ := formIs_ok hx
    obtain ⟨h3, h4⟩ := formIs_ok hy
    obtain ⟨h5, h6⟩ := bytes_apart x y d e _ _ h1 h3 (by omega) (by omega) h
    rw [h5, all_apart xs ys d e h2 h4 (by omega) (by omega) h6]
end
end Go.Proofs.YtebkmlbpngpmdaaDoor.M
namespace Go.Proofs.YtebkmlbpngpmdaaDoor.M

mutual
/-- What is right in some lists is right in more, or too deep. -/
theorem formI_deep : ∀ (x : It) (d e : Nat), formI d x = 0 → d ≤ e → e ≤ 12 → formI e x = if deepI x + e ≤ 12 then 0 else 7
  | .mk false b xs, d, e, h, _, he => by
    obtain ⟨_, h2⟩ := formI_ok h
    obtain rfl := h2 rfl
    rw [deepI, if_pos (by omega), formI]
    simp
  | .mk true b xs, d, e, h, hde, he => by
    obtain ⟨h1, _⟩ := formI_ok h
    obtain ⟨rfl, h3, h4, h5⟩ := h1 rfl
    rw [deepI, formI]
    rw [if_neg (by simp), if_neg (by simp)]
    by_cases h12 : 12 ≤ e
    · rw [if_pos h12, if_neg (by omega)]
    · rw [if_neg h12, if_neg (by omega), formIs_deep xs (d + 1) (e + 1) h5 (by omega) (by omega)]
      by_cases hq : deepIs xs + (e + 1) ≤ 12
      · rw [if_pos hq, if_pos (by omega)]
      · rw [if_neg hq, if_neg (by omega)]
theorem formIs_deep : ∀ (xs : List It) (d e : Nat), formIs d xs = 0 → d ≤ e → e ≤ 12 → formIs e xs = if deepIs xs + e ≤ 12 then 0 else 7
  | [], _, e, _, _, he => by rw [formIs, deepIs, if_pos (by omega)]
  | x :: xs, d, e, h, hde, he => by
    obtain ⟨h1, h2⟩ := formIs_ok h
    rw [formIs, deepIs, formI_deep x d e h1 hde he, formIs_deep xs d e h2 hde he]
    by_cases hx : deepI x + e ≤ 12
    · rw [if_pos hx, if_neg (by simp)]
      by_cases hq : deepIs xs + e ≤ 12
      · rw [if_pos hq, if_pos (by omega)]
      · rw [if_neg hq, if_neg (by omega)]
    · rw [if_neg hx, if_pos (by simp), if_neg (by omega)]
end
mutual
theorem formI_mono : ∀ (x : It) (d e : Nat), formI d x = 0 → e ≤ d → formI e x = 0
  | .mk false b xs, d, e, h, _ => by
    obtain ⟨_, h2⟩ := formI_ok h
    obtain rfl := h2 rfl
    rw [formI]
    simp
  | .mk true b xs, d, e, h, hde => by
    obtain ⟨h1, _⟩ := formI_ok h
    obtain ⟨rfl, h3, h4, h5⟩ := h1 rfl
    rw [formI, if_neg (by simp), if_neg (by simp), if_neg (by omega), if_neg (by omega)]
    exact formIs_mono xs (d + 1) (e + 1) h5 (by omega)
theorem formIs_mono : ∀ (xs : List It) (d e : Nat), formIs d xs = 0 → e ≤ d → formIs e xs = 0
  | [], _, _, _, _ => by rw [formIs]
  | x :: xs, d, e, h, hde => by
    obtain ⟨h1, h2⟩ := formIs_ok h
    rw [formIs, formI_mono x d e h1 hde, if_neg (by simp)]
    exact formIs_mono xs d e h2 hde
end
theorem checkI_ok {x : It} : checkI x = 0 ↔ formI 0 x = 0 ∧ (bytesI x).length ≤ 65536 := by
  unfold checkI
  by_cases h : formI 0 x = 0 ∧ 65536 < (bytesI x).length
  · rw [if_pos h]
    exact ⟨fun h' => (by cases h'), fun h' => by omega⟩
  · rw [if_neg h]
    exact ⟨fun h' => ⟨h', by omega⟩, fun h' => h'.1⟩
/-- A right item is no deeper than 12. -/
theorem deep_12 {x : It} (h : formI 0 x = 0) : deepI x ≤ 12 := by
  have := formI_deep x 0 0 h (Nat.le_refl _) (by omega)
  rw [h] at this
  split at this
  · omega
  · cases this
/-- A list of one right item. -/
theorem list_one {x : It} (h : formI 0 x = 0) : formI 0 (.mk true [] [x]) = if deepI x < 12 then 0 else 7 := by
  rw [formI, if_neg (by simp), if_neg (by simp), if_neg (by omega), if_neg (by simp), formIs_deep [x] 0 1 (by rw [formIs, h, formIs]; simp) (by omega) (by omega)]
  have e : deepIs [x] = deepI x := by rw [deepIs, deepIs]; omega
  rw [e]
  by_cases hq : deepI x < 12
  · rw [if_pos hq, if_pos (by omega)]
  · rw [if_neg hq, if_neg (by omega)]

theorem hdL_length {n p : Nat} (hn : n ≤ 65536) : 1 ≤ (hdL n p).length ∧ (hdL n p).length ≤ 4 ∧ ((hdL n p).length = 1 ↔ n < 56) := by
  unfold hdL
  have h3 : (ben n).length ≤ 3 := (ben_width (by omega) (by omega)).2 (by omega)
  by_cases h : n < 56
  · rw [if_pos h]; simp [h]
  · have := ben_pos (n := n) (by omega) (by omega)
    rw [if_neg h]
    simp only [List.length_cons]
    omega
mutual
theorem part_size : ∀ (xs : List It) (x : It), x ∈ xs → (bytesI x).length ≤ (bytesIs xs).length
  | [], _, h => by cases h
  | y :: ys, x, h => by
    rw [bytesIs, List.length_append]
    rcases List.mem_cons.1 h with rfl | h
    · omega
    · have := part_size ys x h; omega
end
theorem part_form : ∀ {xs : List It} {d : Nat}, formIs d xs = 0 → ∀ x ∈ xs, formI d x = 0
  | [], _, _, _, h => by cases h
  | y :: ys, d, hf, x, h => by
    obtain ⟨h1, h2⟩ := formIs_ok hf
    rcases List.mem_cons.1 h with rfl | h
    · exact h1
    · exact part_form h2 x h
/-- The parts of a right list are right. -/
theorem part_check {xs : List It} {x : It} {b : List UInt8} (h : checkI (.mk true b xs) = 0) (hx : x ∈ xs) : checkI x = 0 := by
  obtain ⟨h1, h2⟩ := checkI_ok.1 h
  obtain ⟨h3, _⟩ := formI_ok h1
  obtain ⟨_, _, _, h4⟩ := h3 rfl
  rw [bytesI, List.length_append] at h2
  exact checkI_ok.2 ⟨formI_mono x 1 0 (part_form h4 x hx) (by omega), by have := part_size xs x hx; omega⟩
theorem bytesIs_append (xs ys : List It) : bytesIs (xs ++ ys) = bytesIs xs ++ bytesIs ys := by
  induction xs with
  | nil => rfl
  | cons x xs ih => rw [List.cons_append, bytesIs, bytesIs, ih, List.append_assoc]

mutual
def sameI : It → It → Bool
  | .mk la ba xs, .mk lb bb ys => la == lb && (ba == bb && (xs.length == ys.length && sameIs xs ys))
def sameIs : List It → List It → Bool
  | x :: xs, y :: ys => sameI x y && sameIs xs ys
  | _, _ => true
end
mutual
theorem sameI_iff : ∀ (x y : It), sameI x y = true ↔ x = y
  | .mk la ba xs, .mk lb bb ys => by
    rw [sameI]
    simp only [Bool.and_eq_true, beq_iff_eq, It.mk.injEq]
    constructor
    · rintro ⟨h1, h2, h3, h4⟩
      exact ⟨h1, h2, (sameIs_iff xs ys h3).1 h4⟩
    · rintro ⟨h1, h2, h3⟩
      subst h3
      exact ⟨h1, h2, rfl, (sameIs_iff xs xs rfl).2 rfl⟩
theorem sameIs_iff : ∀ (xs ys : List It), xs.length = ys.length → (sameIs xs ys = true ↔ xs = ys)
  | [], [], _ => by simp [sameIs]
  | x :: xs, y :: ys, h => by
    rw [sameIs]
    simp only [Bool.and_eq_true, List.cons.injEq]
    rw [sameI_iff x y, sameIs_iff xs ys (by simpa using h)]
end
/-- Two right items: their bytes, and whether they are alike. -/
theorem apart_same {a b : It} (ha : checkI a = 0) (hb : checkI b = 0) : (bytesI a = bytesI b ↔ sameI a b = true) ∧ ((bytesI b).take (bytesI a).length = bytesI a ↔ sameI a b = true) := by
  obtain ⟨a1, a2⟩ := checkI_ok.1 ha
  obtain ⟨b1, b2⟩ := checkI_ok.1 hb
  have key : ∀ r s, bytesI a ++ r = bytesI b ++ s → a = b := fun r s h => (bytes_apart a b 0 0 r s a1 b1 (by omega) (by omega) h).1
  rw [sameI_iff]
  refine ⟨⟨fun h => key [] [] (by rw [h]), fun h => by rw [h]⟩, ⟨fun h => ?_, fun h => by rw [h]; simp⟩⟩
  refine key ((bytesI b).drop (bytesI a).length) [] ?_
  rw [List.append_nil]
  exact (congrArg (· ++ (bytesI b).drop (bytesI a).length) h.symm).trans (List.take_append_drop _ _)

theorem ben_one {n : Nat} (h0 : 0 < n) (h : n < 256) : ben n = [UInt8.ofNat n] := by
  have h1 := ben_pos (n := n) (by omega) h0
  have h2 := (ben_width (n := n) (k := 1) (by omega) (by omega)).2 (by omega)
  have hd := dg_ben (n := n) (by omega)
  match hb : ben n with
  | [] => rw [hb] at h1; simp at h1
  | [c] =>
    rw [hb] at hd
    have : c.toNat = n := by simpa [dg, dgA] using hd
    rw [← this, UInt8.ofNat_toNat]
  | _ :: _ :: _ => rw [hb] at h2; simp at h2
theorem ben_two {n : Nat} (h0 : 256 ≤ n) (h : n < 65536) : ben n = [UInt8.ofNat (n / 256), UInt8.ofNat (n % 256)] := by
  have h1 : ¬ (ben n).length ≤ 1 := fun hl => by have := (ben_width (n := n) (k := 1) (by omega) (by omega)).1 hl; omega
  have h2 := (ben_width (n := n) (k := 2) (by omega) (by omega)).2 (by omega)
  have hd := dg_ben (n := n) (by omega)
  match hb : ben n with
  | [] => rw [hb] at h1; simp at h1
  | [_] => rw [hb] at h1; simp at h1
  | [c, d] =>
    rw [hb] at hd
    have hd' : c.toNat * 256 + d.toNat = n := by simpa [dg, dgA] using hd
    have hdl := d.toNat_lt
    have e1 : n / 256 = c.toNat := by omega
    have e2 : n % 256 = d.toNat := by omega
    rw [e1, e2, UInt8.ofNat_toNat, UInt8.ofNat_toNat]
  | _ :: _ :: _ :: _ => rw [hb] at h2; simp at h2
/-- Bytes as an item: with their head. -/
theorem short_one {b : List UInt8} {c : UInt8} (h : b = [c]) (hc : c.toNat < 128) : bytesI (.mk false b []) = b := by
  subst h
  rw [bytesI, if_pos ⟨rfl, hc⟩]
theorem short_55 {b : List UInt8} (h1 : ¬ (b.length = 1 ∧ (b.headD 0).toNat < 128)) (h : b.length < 56) : bytesI (.mk false b []) = UInt8.ofNat (128 + b.length) :: b := by
  rw [bytesI, if_neg h1, hdL, if_pos h]
  rfl
theorem short_255 {b : List UInt8} (h : 56 ≤ b.length) (h2 : b.length < 256) : bytesI (.mk false b []) = 184 :: UInt8.ofNat b.length :: b := by
  rw [bytesI, if_neg (by omega), hdL, if_neg (by omega), ben_one (by omega) h2]
  rfl
theorem short_long {b : List UInt8} (h : 256 ≤ b.length) (h2 : b.length < 65536) : bytesI (.mk false b []) = 185 :: UInt8.ofNat (b.length / 256) :: UInt8.ofNat (b.length % 256) :: b := by
  rw [bytesI, if_neg (by omega), hdL, if_neg (by omega), ben_two h h2]
  rfl
end Go.Proofs.YtebkmlbpngpmdaaDoor.M
namespace Go.Proofs.YtebkmlbpngpmdaaDoor.M

mutual
def cntI : It → Nat
  | .mk _ _ xs => 1 + cntIs xs
def cntIs : List It → Nat
  | [] => 0
  | x :: xs => cntI x + cntIs xs
end
mutual
/-- No bytes in it are longer than any string. -/
def smI : It → Prop
  | .mk _ b xs => b.length ≤ 140737488355328 ∧ smIs xs
def smIs : List It → Prop
  | [] => True
  | x :: xs => smI x ∧ smIs xs
end
theorem hdL_9 {n p : Nat} (hn : n < 18446744073709551616) : 1 ≤ (hdL n p).length ∧ (hdL n p).length ≤ 9 := by
  unfold hdL
  have h3 := ben_le hn
  by_cases h : n < 56
  · rw [if_pos h]; simp
  · rw [if_neg h]
    simp only [List.length_cons]
    omega
mutual
theorem bytesI_most : ∀ x : It, smI x → cntI x ≤ 1000 → (bytesI x).length ≤ cntI x * 140737488355337
  | .mk true b xs, hs, hc => by
    rw [cntI] at hc ⊢
    rw [smI] at hs
    have h1 := bytesIs_most xs hs.2 (by omega)
    rw [bytesI, List.length_append]
    have h2 := (hdL_9 (n := (bytesIs xs).length) (p := 192) (by omega)).2
    omega
  | .mk false b xs, hs, hc => by
    rw [cntI] at hc ⊢
    rw [smI] at hs
    rw [bytesI]
    split
    · omega
    · rw [List.length_append]
      have h2 := (hdL_9 (n := b.length) (p := 128) (by omega)).2
      omega
theorem bytesIs_most : ∀ xs : List It, smIs xs → cntIs xs ≤ 1000 → (bytesIs xs).length ≤ cntIs xs * 140737488355337
  | [], _, _ => by simp [bytesIs]
  | x :: xs, hs, hc => by
    rw [cntIs] at hc ⊢
    rw [smIs] at hs
    have h1 := bytesI_most x hs.1 (by omega)
    have h2 := bytesIs_most xs hs.2 (by omega)
    rw [bytesIs, List.length_append]
    omega
end
mutual
theorem deepI_most : ∀ x : It, deepI x ≤ cntI x
  | .mk true b xs => by
    rw [deepI, cntI]
    have := deepIs_most xs
    omega
  | .mk false b xs => by rw [deepI]; omega
theorem deepIs_most : ∀ xs : List It, deepIs xs ≤ cntIs xs
  | [] => by rw [deepIs, cntIs]; omega
  | x :: xs => by
    rw [deepIs, cntIs]
    have h1 := deepI_most x
    have h2 := deepIs_most xs
    omega
end
theorem cntI_pos (x : It) : 1 ≤ cntI x := by cases x; rw [cntI]; omega
theorem length_cnt : ∀ xs : List It, xs.length ≤ cntIs xs
  | [] => Nat.zero_le _
  | x :: xs => by
    rw [cntIs, List.length_cons]
    have h1 := cntI_pos x
    have h2 := length_cnt xs
    omega
theorem cntIs_append (xs ys : List It) : cntIs (xs ++ ys) = cntIs xs + cntIs ys := by
  induction xs with
  | nil => simp [cntIs]
  | cons x xs ih => rw [List.cons_append, cntIs, cntIs, ih, Nat.add_assoc]
theorem deepIs_append (xs ys : List It) : deepIs (xs ++ ys) = max (deepIs xs) (deepIs ys) := by
  induction xs with
  | nil => simp [deepIs]
  | cons x xs ih => rw [List.cons_append, deepIs, deepIs, ih, Nat.max_assoc]
theorem take_next {xs : List It} {k : Nat} {x : It} (h : xs[k]? = some x) : xs.take (k + 1) = xs.take k ++ [x] := by
  rw [List.take_add_one, h]; rfl
theorem bytesIs_next {xs : List It} {k : Nat} {x : It} (h : xs[k]? = some x) : bytesIs (xs.take (k + 1)) = bytesIs (xs.take k) ++ bytesI x := by
  rw [take_next h, bytesIs_append]; simp [bytesIs]
theorem cntIs_next {xs : List It} {k : Nat} {x : It} (h : xs[k]? = some x) : cntIs (xs.take (k + 1)) = cntIs (xs.take k) + cntI x := by
  rw [take_next h, cntIs_append]; simp [cntIs]
theorem deepIs_next {xs : List It} {k : Nat} {x : It} (h : xs[k]? = some x) : deepIs (xs.take (k + 1)) = max (deepIs (xs.take k)) (deepI x) := by
  rw [take_next h, deepIs_append]; simp [deepIs]
theorem bytesIs_part (xs : List It) (k : Nat) : (bytesIs (xs.take k)).length ≤ (bytesIs xs).length := by
  have := bytesIs_append (xs.take k) (xs.drop k)
  rw [List.take_append_drop] at this
  rw [this, List.length_append]; omega
theorem deepIs_part (xs : List It) (k : Nat) : deepIs (xs.take k) ≤ deepIs xs := by
  have := deepIs_append (xs.take k) (xs.drop k)
  rw [List.take_append_drop] at this
  omega
theorem deepI_part : ∀ {xs : List It} {x : It}, x ∈ xs → deepI x ≤ deepIs xs
  | y :: ys, x, h => by
    rw [deepIs]
    rcases List.mem_cons.1 h with rfl | h
    · omega
    · have := deepI_part h; omega
theorem cntI_part : ∀ {xs : List It} {x : It}, x ∈ xs → cntI x ≤ cntIs xs
  | y :: ys, x, h => by
    rw [cntIs]
    rcases List.mem_cons.1 h with rfl | h
    · omega
    · have := cntI_part h; omega
theorem smI_part : ∀ {xs : List It} {x : It}, smIs xs → x ∈ xs → smI x
  | y :: ys, x, hs, h => by
    rw [smIs] at hs
    rcases List.mem_cons.1 h with rfl | h
    · exact hs.1
    · exact smI_part hs.2 h

theorem formIs_append (d : Nat) (xs ys : List It) : formIs d (xs ++ ys) = if formIs d xs ≠ 0 then formIs d xs else formIs d ys := by
  induction xs with
  | nil => simp [formIs]
  | cons x xs ih =>
    rw [List.cons_append, formIs, formIs, ih]
    by_cases h1 : formI d x ≠ 0
    · rw [if_pos h1, if_pos h1, if_pos h1]
    · rw [if_neg h1, if_neg h1]
theorem formIs_next {d : Nat} {xs : List It} {k : Nat} {x : It} (h : xs[k]? = some x) (h0 : formIs d (xs.take k) = 0) : formIs d (xs.take (k + 1)) = formI d x := by
  rw [take_next h, formIs_append, h0, if_neg (by simp), formIs, formIs]
  split <;> omega
theorem formIs_first {d : Nat} {xs : List It} {k : Nat} {x : It} (h : xs[k]? = some x) (h0 : formIs d (xs.take k) = 0) (h1 : formI d x ≠ 0) : formIs d xs = formI d x := by
  have h2 := formIs_append d (xs.take (k + 1)) (xs.drop (k + 1))
  rw [List.take_append_drop, formIs_next h h0, if_pos h1] at h2
  exact h2

theorem sameIs_next : ∀ {xs ys : List It} {k : Nat} {x y : It}, xs[k]? = some x → ys[k]? = some y → sameIs (xs.take (k + 1)) (ys.take (k + 1)) = (sameIs (xs.take k) (ys.take k) && sameI x y)
  | x' :: xs, y' :: ys, 0, x, y, h, g => by
    simp at h g
    subst h g
    simp [sameIs]
  | x' :: xs, y' :: ys, k + 1, x, y, h, g => by
    simp at h g
    simp only [List.take_succ_cons, sameIs]
    rw [sameIs_next h g, Bool.and_assoc]
theorem sameIs_all {xs ys : List It} (h : xs.length = ys.length) : sameIs (xs.take xs.length) (ys.take xs.length) = sameIs xs ys := by
  rw [List.take_length, h, List.take_length]
theorem sameIs_no : ∀ {xs ys : List It} {k : Nat} {x y : It}, xs[k]? = some x → ys[k]? = some y → sameI x y = false → sameIs xs ys = false
  | x' :: xs, y' :: ys, 0, x, y, h, g, e => by
    simp at h g
    subst h g
    simp [sameIs, e]
  | x' :: xs, y' :: ys, k + 1, x, y, h, g, e => by
    simp at h g
    rw [sameIs, sameIs_no h g e, Bool.and_false]
end Go.Proofs.YtebkmlbpngpmdaaDoor.M
namespace Go.Proofs.YtebkmlbpngpmdaaDoor.M

theorem encode_ok {x : It} (h : checkI x = 0) : encodeI x = (bytesI x, 0) := by unfold encodeI; rw [if_pos h]
theorem encode_no {x : It} (h : checkI x ≠ 0) : encodeI x = ([], checkI x) := by unfold encodeI; rw [if_neg h]
theorem few_size {x : It} (h : cntI x ≤ 120) (hs : smI x) : (bytesI x).length ≤ 20000000000000000 := by
  have := bytesI_most x hs (by omega)
  omega
mutual
theorem formI_le : ∀ (x : It) (d : Nat), formI d x ≤ 7
  | .mk l b xs, d => by
    have := formIs_le xs (d + 1)
    rw [formI]
    split
    · omega
    · split
      · omega
      · split
        · omega
        · split <;> omega
theorem formIs_le : ∀ (xs : List It) (d : Nat), formIs d xs ≤ 7
  | [], d => by rw [formIs]; omega
  | x :: xs, d => by
    have h1 := formI_le x d
    have h2 := formIs_le xs d
    rw [formIs]
    split <;> omega
end
theorem checkI_le (x : It) : checkI x ≤ 7 := by
  unfold checkI
  have := formI_le x 0
  split <;> omega
theorem deep_one (x : It) : deepI (.mk true [] [x]) = deepI x + 1 := by rw [deepI, deepIs, deepIs]; omega
theorem size_one (x : It) (h : (bytesI x).length < 18446744073709551616) : (bytesI (.mk true [] [x])).length ≤ (bytesI x).length + 9 := by
  have e : bytesIs [x] = bytesI x := by rw [bytesIs, bytesIs, List.append_nil]
  rw [bytesI, e, List.length_append]
  have := (hdL_9 (n := (bytesI x).length) (p := 192) h).2
  omega
theorem check_one {x : It} (h : checkI x = 0) (hs : (bytesI x).length ≤ 60000) : checkI (.mk true [] [x]) = if deepI x < 12 then 0 else 7 := by
  have h1 := checkI_ok.1 h
  have h2 := list_one h1.1
  have h3 := size_one x (by omega)
  unfold checkI
  rw [h2]
  by_cases hd : deepI x < 12
  · rw [if_pos hd, if_neg (by omega)]
  · rw [if_neg hd, if_neg (by omega)]
/-- Short bytes are an item. -/
theorem check_short {b : List UInt8} (h : b.length ≤ 3000) : checkI (.mk false b []) = 0 := by
  refine checkI_ok.2 ⟨by rw [formI]; simp, ?_⟩
  rw [bytesI]
  split
  · omega
  · rw [List.length_append]
    have := (hdL_9 (n := b.length) (p := 128) (by omega)).2
    omega
end Go.Proofs.YtebkmlbpngpmdaaDoor.M
namespace Go.Proofs.YtebkmlbpngpmdaaDoor.M

/-- What a head tells: how much of it there is, what is its own, whether it is a list's, what is wrong. -/
structure Hd where
  off : Nat
  n : Nat
  list : Bool
  e : Nat
def hdErr (e : Nat) : Hd := ⟨0, 0, false, e⟩
/-- A head whose length stands in m bytes. -/
def hdLong (r : List UInt8) (m : Nat) (l : Bool) : Hd :=
  if 3 < m then hdErr 5 else if r.length < m then hdErr 3 else if r.headD 0 = 0 ∨ dg (r.take m) < 56 then hdErr 8
  else if r.length < m + dg (r.take m) then hdErr 3 else ⟨1 + m, dg (r.take m), l, 0⟩
def hdT : List UInt8 → Hd
  | [] => hdErr 3
  | c :: r =>
    if c.toNat < 128 then ⟨0, 1, false, 0⟩
    else if c.toNat < 184 then (if r.length < c.toNat - 128 then hdErr 3 else if c.toNat = 129 ∧ (r.headD 0).toNat < 128 then hdErr 8 else ⟨1, c.toNat - 128, false, 0⟩)
    else if c.toNat < 192 then hdLong r (c.toNat - 183) false
    else if c.toNat < 248 then (if r.length < c.toNat - 192 then hdErr 3 else ⟨1, c.toNat - 192, true, 0⟩)
    else hdLong r (c.toNat - 247) true
/-- The same at a place. -/
def headL (s : List UInt8) (k : Nat) : Hd :=
  if s.length < k then hdErr 1 else if (hdT (s.drop k)).e = 0 then ⟨k + (hdT (s.drop k)).off, (hdT (s.drop k)).n, (hdT (s.drop k)).list, 0⟩ else hdErr (hdT (s.drop k)).e

def zeroI : It := .mk false [] []
mutual
/-- The item that begins these bytes, what is behind it, and what is wrong. -/
def readT : Nat → List UInt8 → Nat → It × List UInt8 × Nat
  | 0, _, _ => (zeroI, [], 3)
  | n + 1, t, d =>
    if 192 ≤ (t.headD 0).toNat ∧ 12 ≤ d then (zeroI, [], 7)
    else if (hdT t).e ≠ 0 then (zeroI, [], (hdT t).e)
    else if (hdT t).list = false then (.mk false ((t.drop (hdT t).off).take (hdT t).n) [], t.drop ((hdT t).off + (hdT t).n), 0)
    else if (itemsT n ((t.drop (hdT t).off).take (hdT t).n) (d + 1) 0).2 ≠ 0 then (zeroI, [], (itemsT n ((t.drop (hdT t).off).take (hdT t).n) (d + 1) 0).2)
    else (.mk true [] (itemsT n ((t.drop (hdT t).off).take (hdT t).n) (d + 1) 0).1, t.drop ((hdT t).off + (hdT t).n), 0)
/-- The items that these bytes are, k ahead of them. -/
def itemsT : Nat → List UInt8 → Nat → Nat → List It × Nat
  | 0, _, _, _ => ([], 3)
  | n + 1, t, d, k =>
    if t = [] then ([], 0)
    else if 512 ≤ k then ([], 5)
    else if (readT n t d).2.2 ≠ 0 then ([], (readT n t d).2.2)
    else if (itemsT n (readT n t d).2.1 d (k + 1)).2 ≠ 0 then ([], (itemsT n (readT n t d).2.1 d (k + 1)).2)
    else ((readT n t d).1 :: (itemsT n (readT n t d).2.1 d (k + 1)).1, 0)
end
def decodeL (s : List UInt8) : It × Nat :=
  if 65536 < s.length then (zeroI, 5)
  else if (readT (2 * s.length + 1) s 0).2.2 ≠ 0 then (zeroI, (readT (2 * s.length + 1) s 0).2.2)
  else if (readT (2 * s.length + 1) s 0).2.1 ≠ [] then (zeroI, 4)
  else ((readT (2 * s.length + 1) s 0).1, 0)

/-- Digits that are no more than are needed. -/
theorem ben_dg {l : List UInt8} (h : l.length ≤ 8) (h0 : ∀ c r, l = c :: r → c ≠ 0) : ben (dg l) = l := by
  unfold ben
  have h1 : (List.replicate (32 - l.length) (0 : UInt8) ++ l).length = 32 := by simp; omega
  have h2 := f32_dg h1
  rw [dg_zeros] at h2
  rw [h2, tr_zeros _ _ h0]
theorem ben_head {n : Nat} : ∀ c r, ben n = c :: r → c ≠ 0 := tr_head _
theorem ben_3 {n : Nat} (h : n ≤ 65536) (h56 : 56 ≤ n) : 1 ≤ (ben n).length ∧ (ben n).length ≤ 3 := ⟨ben_pos (by omega) (by omega), (ben_width (by omega) (by omega)).2 (by omega)⟩

theorem hdLong_ben {n : Nat} {own r : List UInt8} {l : Bool} (hn : own.length = n) (h : n ≤ 65536) (h56 : 56 ≤ n) : hdLong (ben n ++ (own ++ r)) (ben n).length l = ⟨1 + (ben n).length, n, l, 0⟩ := by
  obtain ⟨h1, h3⟩ := ben_3 h h56
  have hd : dg ((ben n ++ (own ++ r)).take (ben n).length) = n := by rw [List.take_left]; exact dg_ben (by omega)
  have hh : (ben n ++ (own ++ r)).headD 0 ≠ 0 := by
    cases hb : ben n with
    | nil => rw [hb] at h1; simp at h1
    | cons c s => simpa using ben_head c s hb
  unfold hdLong
  rw [hd, if_neg (by omega), if_neg (by rw [List.length_append]; omega), if_neg (by intro h'; rcases h' with h' | h'; exact hh h'; omega), if_neg (by simp only [List.length_append]; omega)]
theorem hdT_list {own r : List UInt8} (h : own.length ≤ 65536) : hdT (hdL own.length 192 ++ (own ++ r)) = ⟨(hdL own.length 192).length, own.length, true, 0⟩ := by
  unfold hdL
  by_cases h56 : own.length < 56
  · rw [if_pos h56, List.singleton_append, hdT]
    have e : (UInt8.ofNat (192 + own.length)).toNat = 192 + own.length := UInt8.toNat_ofNat_of_lt' (by show 192 + own.length < 256; omega)
    rw [e, if_neg (by omega), if_neg (by omega), if_neg (by omega), if_pos (by omega), if_neg (by rw [List.length_append]; omega)]
    simp
  · obtain ⟨h1, h3⟩ := ben_3 h (by omega)
    rw [if_neg h56, List.cons_append, hdT]
    have e : (UInt8.ofNat (192 + 55 + (ben own.length).length)).toNat = 247 + (ben own.length).length := by rw [UInt8.toNat_ofNat_of_lt' (by show 192 + 55 + (ben own.length).length < 256; omega)]
    rw [e, if_neg (by omega), if_neg (by omega), if_neg (by omega), if_neg (by omega), show 247 + (ben own.length).length - 247 = (ben own.length).length by omega, hdLong_ben rfl h (by omega)]
    simp only [List.length_cons, Nat.add_comm]
theorem hdT_bytes {own r : List UInt8} (h : own.length ≤ 65536) (hs : ¬ (own.length = 1 ∧ (own.headD 0).toNat < 128)) : hdT (hdL own.length 128 ++ (own ++ r)) = ⟨(hdL own.length 128).length, own.length, false, 0⟩ := by
  unfold hdL
  by_cases h56 : own.length < 56
  · rw [if_pos h56, List.singleton_append, hdT]
    have e : (UInt8.ofNat (128 + own.length)).toNat = 128 + own.length := UInt8.toNat_ofNat_of_lt' (by show 128 + own.length < 256; omega)
    rw [e, if_neg (by omega), if_pos (by omega), if_neg (by rw [List.length_append]; omega), if_neg ?_]
    · simp
    · rintro ⟨h1, h2⟩
      have h1' : own.length = 1 := by omega
      refine hs ⟨h1', ?_⟩
      match own, h1' with
      | [c], _ => simpa using h2
  · obtain ⟨h1, h3⟩ := ben_3 h (by omega)
    rw [if_neg h56, List.cons_append, hdT]
    have e : (UInt8.ofNat (128 + 55 + (ben own.length).length)).toNat = 183 + (ben own.length).length := by rw [UInt8.toNat_ofNat_of_lt' (by show 128 + 55 + (ben own.length).length < 256; omega)]
    rw [e, if_neg (by omega), if_neg (by omega), if_pos (by omega), show 183 + (ben own.length).length - 183 = (ben own.length).length by omega, hdLong_ben rfl h (by omega)]
    simp only [List.length_cons, Nat.add_comm]

/-- What a head of a right item tells. -/
def offI : It → Nat
  | .mk true _ xs => (hdL (bytesIs xs).length 192).length
  | .mk false b _ => if b.length = 1 ∧ (b.headD 0).toNat < 128 then 0 else (hdL b.length 128).length
def ownI : It → List UInt8
  | .mk true _ xs => bytesIs xs
  | .mk false b _ => b
def isL : It → Bool
  | .mk l _ _ => l
theorem bytes_split (x : It) : ∃ h, bytesI x = h ++ ownI x ∧ h.length = offI x := by
  match x with
  | .mk true _ xs => exact ⟨hdL (bytesIs xs).length 192, by rw [bytesI, ownI], by rw [offI]⟩
  | .mk false b _ =>
    by_cases hs : b.length = 1 ∧ (b.headD 0).toNat < 128
    · exact ⟨[], by rw [bytesI, ownI, if_pos hs]; rfl, by rw [offI, if_pos hs]; rfl⟩
    · exact ⟨hdL b.length 128, by rw [bytesI, ownI, if_neg hs], by rw [offI, if_neg hs]⟩
theorem hdT_item (x : It) (r : List UInt8) (h : (bytesI x).length ≤ 65536) : hdT (bytesI x ++ r) = ⟨offI x, (ownI x).length, isL x, 0⟩ := by
  match x with
  | .mk true _ xs =>
    rw [bytesI, List.length_append] at h
    rw [bytesI, List.append_assoc, hdT_list (by omega), offI, ownI, isL]
  | .mk false b _ =>
    by_cases hs : b.length = 1 ∧ (b.headD 0).toNat < 128
    · rw [bytesI, if_pos hs, offI, if_pos hs, ownI, isL]
      obtain ⟨c, rfl, hc⟩ := short_first hs
      rw [List.singleton_append, hdT, if_pos hc]
      rfl
    · rw [bytesI, if_neg hs, List.length_append] at h
      rw [bytesI, if_neg hs, offI, if_neg hs, ownI, isL, List.append_assoc, hdT_bytes (by omega) hs]
theorem bytes_len (x : It) : (bytesI x).length = offI x + (ownI x).length := by
  obtain ⟨h, e, hl⟩ := bytes_split x
  rw [e, List.length_append, hl]
theorem bytes_own (x : It) (r : List UInt8) : ((bytesI x ++ r).drop (offI x)).take (ownI x).length = ownI x ∧ (bytesI x ++ r).drop (offI x + (ownI x).length) = r := by
  obtain ⟨h, e, hl⟩ := bytes_split x
  rw [e, ← hl]
  refine ⟨by rw [List.append_assoc, List.drop_left, List.take_left], ?_⟩
  rw [← List.length_append, List.drop_left]
theorem bytes_first (x : It) (r : List UInt8) (h : (bytesI x).length < 18446744073709551616) : isL x = false → ((bytesI x ++ r).headD 0).toNat < 192 := by
  match x with
  | .mk true _ _ => intro h'; simp [isL] at h'
  | .mk false b _ =>
    intro _
    by_cases hs : b.length = 1 ∧ (b.headD 0).toNat < 128
    · rw [bytesI, if_pos hs]
      obtain ⟨c, rfl, hc⟩ := short_first hs
      simp; omega
    · rw [bytesI, if_neg hs, List.length_append] at h
      rw [bytesI, if_neg hs]
      obtain ⟨k, r', e, hk, _⟩ := hd_first (n := b.length) (p := 128) (by omega)
      rw [e]
      simp only [List.cons_append, List.headD_cons]
      rw [UInt8.toNat_ofNat_of_lt' (by show 128 + k < 256; omega)]
      omega

mutual
/-- **WHAT IS ENCODED IS READ**, whatever stands behind. -/
theorem read_back : ∀ (x : It) (d n : Nat) (r : List UInt8), formI d x = 0 → (bytesI x).length ≤ 65536 → 2 * (bytesI x).length + 1 ≤ n → readT n (bytesI x ++ r) d = (x, r, 0)
  | .mk false b xs, d, n, r, hf, hl, hn => by
    obtain ⟨m, rfl⟩ : ∃ m, n = m + 1 := ⟨n - 1, by omega⟩
    obtain ⟨_, h2⟩ := formI_ok hf
    obtain rfl := h2 rfl
    have e := hdT_item (.mk false b []) r hl
    have e1 := bytes_own (.mk false b []) r
    have e2 := bytes_first (.mk false b []) r (by omega) rfl
    rw [readT, e]
    rw [if_neg (by omega), if_neg (by simp)]
    have e3 : isL (.mk false b []) = false := rfl
    simp only [e3, if_true, e1.1, e1.2]
    rfl
  | .mk true b xs, d, n, r, hf, hl, hn => by
    obtain ⟨m, rfl⟩ : ∃ m, n = m + 1 := ⟨n - 1, by omega⟩
    obtain ⟨h1, _⟩ := formI_ok hf
    obtain ⟨rfl, h3, h4, h5⟩ := h1 rfl
    have e := hdT_item (.mk true [] xs) r hl
    have e1 := bytes_own (.mk true [] xs) r
    have hlen := bytes_len (.mk true [] xs)
    have hoff : 1 ≤ offI (.mk true [] xs) := by
      rw [offI]
      have := hdL_ne (bytesIs xs).length 192
      have := List.length_pos_iff.2 this
      omega
    have eo : ownI (.mk true [] xs) = bytesIs xs := by rw [ownI]
    have ei := items_back xs (d + 1) 0 m h5 (by rw [eo] at hlen; omega) (by omega) (by rw [eo] at hlen; omega)
    rw [readT, e]
    rw [if_neg (by omega), if_neg (by simp)]
    have e3 : isL (.mk true [] xs) = true := rfl
    rw [eo] at e1
    simp only [e3, eo, e1.1, e1.2, ei]
    simp
theorem items_back : ∀ (xs : List It) (d k n : Nat), formIs d xs = 0 → (bytesIs xs).length ≤ 65536 → k + xs.length ≤ 512 → 2 * (bytesIs xs).length + 2 ≤ n → itemsT n (bytesIs xs) d k = (xs, 0)
  | [], d, k, n, _, _, _, hn => by
    obtain ⟨m, rfl⟩ : ∃ m, n = m + 1 := ⟨n - 1, by omega⟩
    rw [bytesIs, itemsT, if_pos rfl]
  | x :: xs, d, k, n, hf, hl, hk, hn => by
    obtain ⟨m, rfl⟩ : ∃ m, n = m + 1 := ⟨n - 1, by omega⟩
    obtain ⟨h1, h2⟩ := formIs_ok hf
    have hne : bytesIs (x :: xs) ≠ [] := by
      rw [bytesIs]
      intro h
      exact bytesI_ne x (by rw [(List.append_eq_nil_iff.1 h).1]; rfl)
    have hp : 1 ≤ (bytesI x).length := Nat.pos_of_ne_zero (fun h => bytesI_ne x h)
    rw [List.length_cons] at hk
    rw [bytesIs, List.length_append] at hl hn
    have e1 := read_back x d m (bytesIs xs) h1 (by omega) (by omega)
    have e2 := items_back xs d (k + 1) m h2 (by omega) (by omega) (by omega)
    rw [itemsT, if_neg hne, if_neg (by omega)]
    rw [bytesIs, e1]
    simp [e2]
end
end Go.Proofs.YtebkmlbpngpmdaaDoor.M
namespace Go.Proofs.YtebkmlbpngpmdaaDoor.M

theorem hdLong_ok {r : List UInt8} {m : Nat} {l : Bool} (h : (hdLong r m l).e = 0) : m ≤ 3 ∧ m ≤ r.length ∧ r.headD 0 ≠ 0 ∧ 56 ≤ dg (r.take m) ∧ m + dg (r.take m) ≤ r.length ∧ hdLong r m l = ⟨1 + m, dg (r.take m), l, 0⟩ := by
  unfold hdLong at h ⊢
  by_cases h1 : 3 < m
  · rw [if_pos h1] at h; cases h
  · rw [if_neg h1] at h ⊢
    by_cases h2 : r.length < m
    · rw [if_pos h2] at h; cases h
    · rw [if_neg h2] at h ⊢
      by_cases h3 : r.headD 0 = 0 ∨ dg (r.take m) < 56
      · rw [if_pos h3] at h; cases h
      · rw [if_neg h3] at h ⊢
        by_cases h4 : r.length < m + dg (r.take m)
        · rw [if_pos h4] at h; cases h
        · rw [if_neg h4]
          exact ⟨by omega, by omega, fun h => h3 (.inl h), by omega, by omega, rfl⟩
theorem of_toNat {c : UInt8} {k : Nat} (h : c.toNat = k) : UInt8.ofNat k = c := by rw [← h, UInt8.ofNat_toNat]
theorem hdL_long {r : List UInt8} {m p : Nat} {c : UInt8} (h3 : m ≤ 3) (hm : m ≤ r.length) (h1 : 1 ≤ m) (h0 : r.headD 0 ≠ 0) (h56 : 56 ≤ dg (r.take m)) (hc : c.toNat = p + 55 + m) : c :: r.take m = hdL (dg (r.take m)) p := by
  have hb : ben (dg (r.take m)) = r.take m := by
    refine ben_dg (by rw [List.length_take]; omega) ?_
    intro c' s hs
    cases r with
    | nil => simp at hm; omega
    | cons c0 r0 =>
      obtain ⟨m', rfl⟩ : ∃ m', m = m' + 1 := ⟨m - 1, by omega⟩
      simp at hs h0
      rw [← hs.1]; exact h0
  have hl : (r.take m).length = m := by rw [List.length_take]; omega
  unfold hdL
  rw [if_neg (by omega), hb, hl, of_toNat hc]

/-- What a head that is right tells. -/
theorem hdT_ok {t : List UInt8} (h : (hdT t).e = 0) : (hdT t).off + (hdT t).n ≤ t.length ∧ 1 ≤ (hdT t).off + (hdT t).n ∧ (hdT t).off ≤ 4 ∧
    ((hdT t).list = true → t.take (hdT t).off = hdL (hdT t).n 192 ∧ 192 ≤ (t.headD 0).toNat ∧ 1 ≤ (hdT t).off) ∧
    ((hdT t).list = false → ((hdT t).off = 0 ∧ (hdT t).n = 1 ∧ (t.headD 0).toNat < 128) ∨ (t.take (hdT t).off = hdL (hdT t).n 128 ∧ ¬ ((hdT t).n = 1 ∧ ((t.drop (hdT t).off).headD 0).toNat < 128))) := by
  cases t with
  | nil => cases h
  | cons c r =>
    have hc := c.toNat_lt
    by_cases h1 : c.toNat < 128
    · have e : hdT (c :: r) = ⟨0, 1, false, 0⟩ := by rw [hdT, if_pos h1]
      rw [e]
      simp [h1]
    · by_cases h2 : c.toNat < 184
      · rw [hdT, if_neg h1, if_pos h2] at h
        by_cases h3 : r.length < c.toNat - 128
        · rw [if_pos h3] at h; cases h
        · rw [if_neg h3] at h
          by_cases h4 : c.toNat = 129 ∧ (r.headD 0).toNat < 128
          · rw [if_pos h4] at h; cases h
          · have e : hdT (c :: r) = ⟨1, c.toNat - 128, false, 0⟩ := by rw [hdT, if_neg h1, if_pos h2, if_neg h3, if_neg h4]
            rw [e]
            refine ⟨by simp only [List.length_cons]; omega, by simp only; omega, by simp only; omega, by simp, fun _ => .inr ⟨?_, ?_⟩⟩
            · simp only
              unfold hdL
              rw [if_pos (by omega), of_toNat (c := c) (by omega)]
              rfl
            · simp only [List.drop_one, List.tail_cons]
              rintro ⟨h5, h6⟩
              exact h4 ⟨by omega, h6⟩
      · by_cases h3 : c.toNat < 192
        · have e : hdT (c :: r) = hdLong r (c.toNat - 183) false := by rw [hdT, if_neg h1, if_neg h2, if_pos h3]
          rw [e] at h ⊢
          obtain ⟨k1, k2, k3, k4, k5, k6⟩ := hdLong_ok h
          rw [k6]
          refine ⟨by simp only [List.length_cons]; omega, by simp only; omega, by simp only; omega, by simp, fun _ => .inr ⟨?_, ?_⟩⟩
          · simp only [Nat.add_comm 1, List.take_succ_cons]
            exact hdL_long k1 k2 (by omega) k3 k4 (by omega)
          · simp only; omega
        · by_cases h4 : c.toNat < 248
          · rw [hdT, if_neg h1, if_neg h2, if_neg h3, if_pos h4] at h
            by_cases h5 : r.length < c.toNat - 192
            · rw [if_pos h5] at h; cases h
            · have e : hdT (c :: r) = ⟨1, c.toNat - 192, true, 0⟩ := by rw [hdT, if_neg h1, if_neg h2, if_neg h3, if_pos h4, if_neg h5]
              rw [e]
              refine ⟨by simp only [List.length_cons]; omega, by simp only; omega, by simp only; omega, fun _ => ⟨?_, ?_, ?_⟩, by simp⟩
              · simp only
                unfold hdL
                rw [if_pos (by omega), of_toNat (c := c) (by omega)]
                rfl
              · simp; omega
              · simp
          · have e : hdT (c :: r) = hdLong r (c.toNat - 247) true := by rw [hdT, if_neg h1, if_neg h2, if_neg h3, if_neg h4]
            rw [e] at h ⊢
            obtain ⟨k1, k2, k3, k4, k5, k6⟩ := hdLong_ok h
            rw [k6]
            refine ⟨by simp only [List.length_cons]; omega, by simp only; omega, by simp only; omega, fun _ => ⟨?_, ?_, ?_⟩, by simp⟩
            · simp only [Nat.add_comm 1, List.take_succ_cons]
              exact hdL_long k1 k2 (by omega) k3 k4 (by omega)
            · simp; omega
            · simp

theorem three_parts (t : List UInt8) (a b : Nat) : t.take a ++ ((t.drop a).take b ++ t.drop (a + b)) = t := by
  rw [← List.drop_drop, List.take_append_drop, List.take_append_drop]
theorem read_zero {n : Nat} {t : List UInt8} {d : Nat} (h : (readT n t d).2.2 ≠ 0) : (readT n t d).1 = zeroI := by
  cases n with
  | zero => rw [readT]
  | succ n =>
    rw [readT] at h ⊢
    split
    · rfl
    · split
      · rfl
      · split
        · rename_i h1 h2 h3
          rw [if_neg h1, if_neg h2, if_pos h3] at h
          exact absurd rfl h
        · split
          · rfl
          · rename_i h1 h2 h3 h4
            rw [if_neg h1, if_neg h2, if_neg h3, if_neg h4] at h
            exact absurd rfl h

/-- **WHAT IS READ IS ENCODED JUST SO.** -/
theorem only_n (n : Nat) : (∀ (t : List UInt8) (d : Nat), (readT n t d).2.2 = 0 → t = bytesI (readT n t d).1 ++ (readT n t d).2.1 ∧ formI d (readT n t d).1 = 0) ∧
    (∀ (t : List UInt8) (d k : Nat), (itemsT n t d k).2 = 0 → t = bytesIs (itemsT n t d k).1 ∧ formIs d (itemsT n t d k).1 = 0 ∧ ((itemsT n t d k).1 = [] ∨ k + (itemsT n t d k).1.length ≤ 512)) := by
  induction n with
  | zero => exact ⟨fun t d h => by simp [readT] at h, fun t d k h => by simp [itemsT] at h⟩
  | succ n ih =>
    constructor
    · intro t d h
      rw [readT] at h ⊢
      by_cases h1 : 192 ≤ (t.headD 0).toNat ∧ 12 ≤ d
      · rw [if_pos h1] at h; cases h
      · rw [if_neg h1] at h ⊢
        by_cases h2 : (hdT t).e ≠ 0
        · rw [if_pos h2] at h; exact absurd h h2
        · rw [if_neg h2] at h ⊢
          obtain ⟨k1, k2, k3, k4, k5⟩ := hdT_ok (t := t) (by omega)
          have hown : ((t.drop (hdT t).off).take (hdT t).n).length = (hdT t).n := by rw [List.length_take, List.length_drop]; omega
          have h3p := three_parts t (hdT t).off (hdT t).n
          by_cases h3 : (hdT t).list = false
          · rw [if_pos h3]
            refine ⟨?_, by rw [formI]; simp⟩
            simp only
            rw [bytesI]
            rcases k5 h3 with ⟨a1, a2, a3⟩ | ⟨a1, a2⟩
            · rw [if_pos]
              · rw [a1] at h3p ⊢
                simp only [List.take_zero, List.nil_append] at h3p
                exact h3p.symm
              · rw [hown, a1, a2]
                refine ⟨rfl, ?_⟩
                cases t with
                | nil => simp at k1; omega
                | cons c r => simpa using a3
            · rw [if_neg]
              · rw [hown, ← a1, List.append_assoc]
                exact h3p.symm
              · rw [hown]
                rintro ⟨b1, b2⟩
                refine a2 ⟨b1, ?_⟩
                rw [b1] at b2
                cases hq : t.drop (hdT t).off with
                | nil => simp
                | cons c r => rw [hq] at b2; simpa using b2
          · have hl : (hdT t).list = true := by simpa using h3
            rw [if_neg h3] at h ⊢
            by_cases h4 : (itemsT n ((t.drop (hdT t).off).take (hdT t).n) (d + 1) 0).2 ≠ 0
            · rw [if_pos h4] at h; exact absurd h h4
            · rw [if_neg h4]
              obtain ⟨i1, i2, i3⟩ := ih.2 ((t.drop (hdT t).off).take (hdT t).n) (d + 1) 0 (by omega)
              obtain ⟨a1, a2, a3⟩ := k4 hl
              generalize (itemsT n ((t.drop (hdT t).off).take (hdT t).n) (d + 1) 0).1 = xs at *
              refine ⟨?_, ?_⟩
              · simp only
                rw [bytesI, ← i1, hown, ← a1, List.append_assoc]
                exact h3p.symm
              · simp only
                rw [formI, if_neg (by simp), if_neg (by simp), if_neg (by omega), if_neg ?_]
                · exact i2
                · rcases i3 with rfl | i3
                  · simp
                  · omega
    · intro t d k h
      rw [itemsT] at h ⊢
      by_cases h1 : t = []
      · rw [if_pos h1]
        exact ⟨by rw [h1]; rfl, by rw [formIs], .inl rfl⟩
      · rw [if_neg h1] at h ⊢
        by_cases h2 : 512 ≤ k
        · rw [if_pos h2] at h; cases h
        · rw [if_neg h2] at h ⊢
          by_cases h3 : (readT n t d).2.2 ≠ 0
          · rw [if_pos h3] at h; exact absurd h h3
          · rw [if_neg h3] at h ⊢
            by_cases h4 : (itemsT n (readT n t d).2.1 d (k + 1)).2 ≠ 0
            · rw [if_pos h4] at h; exact absurd h h4
            · rw [if_neg h4]
              obtain ⟨r1, r2⟩ := ih.1 t d (by omega)
              obtain ⟨i1, i2, i3⟩ := ih.2 (readT n t d).2.1 d (k + 1) (by omega)
              refine ⟨?_, ?_, .inr ?_⟩
              · simp only
                rw [bytesIs, ← i1]
                exact r1
              · simp only
                rw [formIs, r2, if_neg (by simp)]
                exact i2
              · simp only [List.length_cons]
                rcases i3 with e | i3
                · rw [e]; simp; omega
                · omega
end Go.Proofs.YtebkmlbpngpmdaaDoor.M
namespace Go.Proofs.YtebkmlbpngpmdaaDoor.M

theorem hdLong_cut {n j : Nat} {own : List UInt8} {l : Bool} (hn : own.length = n) (h : n ≤ 65536) (h56 : 56 ≤ n) (hj : j < (ben n).length + n) : (hdLong ((ben n ++ own).take j) (ben n).length l).e = 3 := by
  obtain ⟨h1, h3⟩ := ben_3 h h56
  unfold hdLong
  rw [if_neg (by omega)]
  have hlen : ((ben n ++ own).take j).length = j := by rw [List.length_take, List.length_append]; omega
  by_cases hj1 : j < (ben n).length
  · rw [if_pos (by rw [hlen]; exact hj1)]; rfl
  · have e : (ben n ++ own).take j = ben n ++ own.take (j - (ben n).length) := by rw [List.take_append, List.take_of_length_le (by omega)]
    rw [if_neg (by rw [hlen]; exact hj1), hlen, e, List.take_left, dg_ben (by omega), if_neg ?_, if_pos (by omega)]
    · rfl
    · intro h'
      rcases h' with h' | h'
      · cases hb : ben n with
        | nil => rw [hb] at h1; simp at h1
        | cons c s => rw [hb] at h'; exact ben_head c s hb (by simpa using h')
      · omega
theorem cut_head {own : List UInt8} {p j : Nat} (hp : p = 128 ∨ p = 192) (h : own.length ≤ 65536) (hj : j < (hdL own.length p ++ own).length) : (hdT ((hdL own.length p ++ own).take j)).e = 3 := by
  cases j with
  | zero => rfl
  | succ j =>
    unfold hdL at hj ⊢
    by_cases h56 : own.length < 56
    · rw [if_pos h56] at hj ⊢
      simp only [List.singleton_append, List.take_succ_cons, List.length_cons] at hj ⊢
      have hlen : (own.take j).length = j := by rw [List.length_take]; omega
      have e : (UInt8.ofNat (p + own.length)).toNat = p + own.length := UInt8.toNat_ofNat_of_lt' (by show p + own.length < 256; omega)
      rw [hdT, e]
      rcases hp with rfl | rfl
      · rw [if_neg (by omega), if_pos (by omega), if_pos (by omega)]; rfl
      · rw [if_neg (by omega), if_neg (by omega), if_neg (by omega), if_pos (by omega), if_pos (by omega)]; rfl
    · obtain ⟨h1, h3⟩ := ben_3 h (by omega)
      rw [if_neg h56] at hj ⊢
      simp only [List.cons_append, List.take_succ_cons, List.length_cons, List.length_append] at hj ⊢
      have e : (UInt8.ofNat (p + 55 + (ben own.length).length)).toNat = p + 55 + (ben own.length).length := UInt8.toNat_ofNat_of_lt' (by show p + 55 + (ben own.length).length < 256; omega)
      rw [hdT, e]
      rcases hp with rfl | rfl
      · rw [if_neg (by omega), if_neg (by omega), if_pos (by omega), show 128 + 55 + (ben own.length).length - 183 = (ben own.length).length by omega]
        exact hdLong_cut rfl h (by omega) (by omega)
      · rw [if_neg (by omega), if_neg (by omega), if_neg (by omega), if_neg (by omega), show 192 + 55 + (ben own.length).length - 247 = (ben own.length).length by omega]
        exact hdLong_cut rfl h (by omega) (by omega)
/-- Bytes that are cut are no item's. -/
theorem cut_item (x : It) (j : Nat) (h : (bytesI x).length ≤ 65536) (hj : j < (bytesI x).length) : (hdT ((bytesI x).take j)).e = 3 := by
  match x with
  | .mk true _ xs =>
    rw [bytesI] at h hj ⊢
    rw [List.length_append] at h
    exact cut_head (.inr rfl) (by omega) hj
  | .mk false b _ =>
    rw [bytesI] at h hj ⊢
    by_cases hs : b.length = 1 ∧ (b.headD 0).toNat < 128
    · rw [if_pos hs] at hj ⊢
      have : j = 0 := by omega
      subst this
      rfl
    · rw [if_neg hs] at h hj ⊢
      rw [List.length_append] at h
      exact cut_head (.inl rfl) (by omega) hj

theorem dec_back {x : It} (h : checkI x = 0) : decodeL (bytesI x) = (x, 0) := by
  obtain ⟨h1, h2⟩ := checkI_ok.1 h
  have e := read_back x 0 (2 * (bytesI x).length + 1) [] h1 h2 (Nat.le_refl _)
  rw [List.append_nil] at e
  unfold decodeL
  rw [if_neg (by omega), e]
  simp
theorem dec_more {x : It} {r : List UInt8} (h : checkI x = 0) (hr : r ≠ []) : decodeL (bytesI x ++ r) = (zeroI, if 65536 < (bytesI x).length + r.length then 5 else 4) := by
  obtain ⟨h1, h2⟩ := checkI_ok.1 h
  unfold decodeL
  rw [List.length_append]
  by_cases hl : 65536 < (bytesI x).length + r.length
  · rw [if_pos hl, if_pos hl]
  · rw [if_neg hl, if_neg hl, read_back x 0 _ r h1 h2 (by omega)]
    simp [hr]
theorem dec_cut {x : It} {j : Nat} (h : checkI x = 0) (hj : j < (bytesI x).length) : decodeL ((bytesI x).take j) = (zeroI, 3) := by
  obtain ⟨h1, h2⟩ := checkI_ok.1 h
  have h3 := cut_item x j h2 hj
  have e : readT (2 * ((bytesI x).take j).length + 1) ((bytesI x).take j) 0 = (zeroI, [], 3) := by
    rw [readT, if_neg (by omega), if_pos (by omega), h3]
  unfold decodeL
  rw [if_neg (by rw [List.length_take]; omega), e]
  simp
theorem dec_only {s : List UInt8} (h : (decodeL s).2 = 0) : bytesI (decodeL s).1 = s ∧ checkI (decodeL s).1 = 0 := by
  unfold decodeL at h ⊢
  by_cases h1 : 65536 < s.length
  · rw [if_pos h1] at h; cases h
  · rw [if_neg h1] at h ⊢
    by_cases h2 : (readT (2 * s.length + 1) s 0).2.2 ≠ 0
    · rw [if_pos h2] at h; exact absurd h h2
    · rw [if_neg h2] at h ⊢
      by_cases h3 : (readT (2 * s.length + 1) s 0).2.1 ≠ []
      · rw [if_pos h3] at h; cases h
      · rw [if_neg h3]
        obtain ⟨a1, a2⟩ := (only_n (2 * s.length + 1)).1 s 0 (by omega)
        have h3' : (readT (2 * s.length + 1) s 0).2.1 = [] := Classical.not_not.1 h3
        rw [h3', List.append_nil] at a1
        refine ⟨a1.symm, checkI_ok.2 ⟨a2, ?_⟩⟩
        simp only
        rw [← a1]
        omega
theorem dec_no {s : List UInt8} (h : (decodeL s).2 ≠ 0) : (decodeL s).1 = zeroI := by
  unfold decodeL at h ⊢
  split
  · rfl
  · split
    · rfl
    · split
      · rfl
      · rename_i h1 h2 h3
        rw [if_neg h1, if_neg h2, if_neg h3] at h
        exact absurd rfl h
theorem hdT_e_le (t : List UInt8) : (hdT t).e ≤ 8 := by
  have hl : ∀ r m l, (hdLong r m l).e ≤ 8 := by
    intro r m l
    unfold hdLong
    repeat' split
    all_goals simp [hdErr]
  cases t with
  | nil => simp [hdT, hdErr]
  | cons c r =>
    rw [hdT]
    repeat' split
    all_goals first | exact hl _ _ _ | simp [hdErr]
theorem headL_e_le (s : List UInt8) (k : Nat) : (headL s k).e ≤ 8 := by
  unfold headL
  have := hdT_e_le (s.drop k)
  split
  · simp [hdErr]
  · split
    · simp
    · exact this

/-- A head at a place: within the bytes, behind the place. -/
theorem headL_ok {s : List UInt8} {k : Nat} (h : (headL s k).e = 0) : k ≤ (headL s k).off ∧ (headL s k).off ≤ k + 4 ∧ k < (headL s k).off + (headL s k).n ∧ (headL s k).off + (headL s k).n ≤ s.length := by
  unfold headL at h ⊢
  by_cases h1 : s.length < k
  · rw [if_pos h1] at h; cases h
  · rw [if_neg h1] at h ⊢
    by_cases h2 : (hdT (s.drop k)).e = 0
    · rw [if_pos h2]
      obtain ⟨a1, a2, a3, _, _⟩ := hdT_ok h2
      rw [List.length_drop] at a1
      simp only
      omega
    · rw [if_neg h2] at h
      exact absurd h h2
theorem headL_no {s : List UInt8} {k : Nat} (h : (headL s k).e ≠ 0) : headL s k = hdErr (headL s k).e := by
  unfold headL at h ⊢
  split
  · rfl
  · split
    · rename_i h1 h2
      rw [if_neg h1, if_pos h2] at h
      exact absurd rfl h
    · rfl
/-- The head of an item at its place. -/
theorem headL_item (a : List UInt8) (x : It) (r : List UInt8) (h : (bytesI x).length ≤ 65536) : headL (a ++ (bytesI x ++ r)) a.length = ⟨a.length + offI x, (ownI x).length, isL x, 0⟩ := by
  unfold headL
  rw [if_neg (by rw [List.length_append]; omega), List.drop_left, hdT_item x r h]
  rfl
end Go.Proofs.YtebkmlbpngpmdaaDoor.M
namespace Go.Proofs.YtebkmlbpngpmdaaDoor
namespace M
mutual
theorem cnt_le : ∀ (x : It) (d : Nat), formI d x = 0 → cntI x ≤ (bytesI x).length
  | .mk true b xs, d, h => by
    obtain ⟨_, _, _, h4⟩ := (formI_ok h).1 rfl
    have := cnts_le xs (d + 1) h4
    have h1 := bytesI_ne (.mk true b xs)
    rw [cntI]
    rw [bytesI] at h1 ⊢
    by_cases hz : (bytesIs xs).length = 0
    · have := Nat.pos_of_ne_zero h1
      omega
    · have h2 : 1 ≤ (hdL (bytesIs xs).length 192).length := by
        unfold hdL
        split <;> simp
      rw [List.length_append]
      omega
  | .mk false b xs, d, h => by
    have := (formI_ok h).2 rfl
    subst this
    have h1 := Nat.pos_of_ne_zero fun h => bytesI_ne (.mk false b []) h
    rw [cntI, cntIs]
    omega
theorem cnts_le : ∀ (xs : List It) (d : Nat), formIs d xs = 0 → cntIs xs ≤ (bytesIs xs).length
  | [], _, _ => by simp [cntIs]
  | x :: xs, d, h => by
    obtain ⟨h1, h2⟩ := formIs_ok h
    have e1 := cnt_le x d h1
    have e2 := cnts_le xs d h2
    rw [cntIs, bytesIs, List.length_append]
    omega
end
end M
end Go.Proofs.YtebkmlbpngpmdaaDoor
namespace Go.Proofs.YtebkmlbpngpmdaaDoor.M
open Go

/-- A word read of bytes. -/
def pw (l : List UInt8) : Nat × Nat := if 32 < l.length then (0, 5) else if Lib.hasPrefix l [0] then (0, 8) else (dg l, 0)
theorem pw_word {N : Nat} (h : In N) : pw (tr (f32 N)) = (N, 0) := by
  have h8 : (tr (f32 N)).length ≤ 32 := by
    have := tr_length_le (f32 N)
    rw [f32_length] at this
    exact this
  unfold pw
  rw [if_neg (by omega), pre0 (tr_head _), dg_tr, dg_f32 h]
  rfl
theorem word_pw {l : List UInt8} (h : (pw l).2 = 0) : tr (f32 (pw l).1) = l ∧ In (pw l).1 := by
  unfold pw at h ⊢
  by_cases h8 : 32 < l.length
  · rw [if_pos h8] at h; simp at h
  · rw [if_neg h8] at h ⊢
    by_cases hp : Lib.hasPrefix l [0] = true
    · rw [if_pos hp] at h; simp at h
    · rw [if_neg hp]
      refine ⟨?_, in_dg (by omega)⟩
      show tr (f32 (dg l)) = l
      rw [← dg_zeros (32 - l.length) l, f32_dg (by simp; omega)]
      exact tr_zeros _ l (pre0' (by simpa using hp))
theorem pw_in (l : List UInt8) : In (pw l).1 := by
  unfold pw
  split
  · unfold In; omega
  · split
    · unfold In; omega
    · exact in_dg (by omega)

def textI (s : List UInt8) : It := .mk false s []
def boolI (v : Bool) : It := textI (if v then [1] else [])
def textsI (ls : List (List UInt8)) : It := .mk true [] (ls.map textI)
def listI (xs : List It) : It := .mk true [] xs
/-- What is read of bytes, and of a list. -/
def ofBytes {α : Type} (z : α) (f : List UInt8 → α × Nat) : It → α × Nat
  | .mk true _ _ => (z, 2)
  | .mk false d _ => f d
def within (n : Nat) (least most : Int) : Nat := if (n : Int) < least then 3 else if most < n then 5 else 0
theorem within_ok {n : Nat} {least most : Int} (h1 : least ≤ n) (h2 : (n : Int) ≤ most) : within n least most = 0 := by
  unfold within
  rw [if_neg (by omega), if_neg (by omega)]
def gText (least most : Int) (d : List UInt8) : List UInt8 × Nat := if within d.length least most ≠ 0 then ([], within d.length least most) else (d, 0)
def gBool (d : List UInt8) : Bool × Nat := if d = [] then (false, 0) else if d = [1] then (true, 0) else (false, 2)
def gAddr (d : List UInt8) : List UInt8 × Nat := if d = [] ∨ d.length = 20 then (d, 0) else ([], 2)
def getNumber : It → Nat × Nat := ofBytes 0 ub
def getWord : It → Nat × Nat := ofBytes 0 pw
def getText (least most : Int) : It → List UInt8 × Nat := ofBytes [] (gText least most)
def getBool : It → Bool × Nat := ofBytes false gBool
def getAddr : It → List UInt8 × Nat := ofBytes [] gAddr
def getList (least most : Int) : It → List It × Nat
  | .mk false _ _ => ([], 2)
  | .mk true _ xs => if within xs.length least most ≠ 0 then ([], within xs.length least most) else (xs, 0)
def getEach (least most : Int) : List It → List (List UInt8) × Nat
  | [] => ([], 0)
  | x :: xs => if (getText least most x).2 ≠ 0 then ([], (getText least most x).2) else if (getEach least most xs).2 ≠ 0 then ([], (getEach least most xs).2) else ((getText least most x).1 :: (getEach least most xs).1, 0)
def getTexts (many least most : Int) (x : It) : List (List UInt8) × Nat :=
  if (getList 0 many x).2 ≠ 0 then ([], (getList 0 many x).2) else getEach least most (getList 0 many x).1

theorem ofBytes_text {α : Type} (z : α) (f : List UInt8 → α × Nat) (d : List UInt8) : ofBytes z f (textI d) = f d := rfl
theorem number_back {n : Nat} (h : n < 18446744073709551616) : getNumber (textI (ben n)) = (n, 0) := by
  rw [getNumber, ofBytes_text]
  exact ub_be h
theorem word_back {N : Nat} (h : In N) : getWord (textI (tr (f32 N))) = (N, 0) := by
  rw [getWord, ofBytes_text]
  exact pw_word h
theorem text_back (s : List UInt8) : getText s.length s.length (textI s) = (s, 0) := by
  show gText _ _ s = _
  unfold gText within
  simp
theorem text_in (s : List UInt8) (least most : Int) (h1 : least ≤ s.length) (h2 : (s.length : Int) ≤ most) : getText least most (textI s) = (s, 0) := by
  show gText _ _ s = _
  unfold gText
  rw [within_ok h1 h2, if_neg (by simp)]
theorem bool_back (v : Bool) : getBool (boolI v) = (v, 0) := by cases v <;> rfl
theorem each_back (ls : List (List UInt8)) (most : Int) (h : ∀ s ∈ ls, (s.length : Int) ≤ most) : getEach 0 most (ls.map textI) = (ls, 0) := by
  induction ls with
  | nil => rfl
  | cons s ls ih =>
    have e := ih (fun x hx => h x (List.mem_cons_of_mem _ hx))
    have e1 := text_in s 0 most (by omega) (h s (by simp))
    rw [List.map_cons, getEach, e, e1]
    simp
theorem texts_back (ls : List (List UInt8)) (most : Int) (h : ∀ s ∈ ls, (s.length : Int) ≤ most) : getTexts ls.length 0 most (textsI ls) = (ls, 0) := by
  have e : getList 0 ls.length (textsI ls) = (ls.map textI, 0) := by
    show (if within (ls.map textI).length 0 ls.length ≠ 0 then _ else _) = _
    rw [List.length_map, within_ok (by omega) (by omega), if_neg (by simp)]
  unfold getTexts
  rw [e]
  exact each_back ls most h

/-! What is read of an item that is one is written just so. -/
theorem number_only {x : It} (hx : formI 0 x = 0) (h : (getNumber x).2 = 0) : textI (ben (getNumber x).1) = x := by
  match x with
  | .mk true _ _ => cases h
  | .mk false d xs =>
    obtain rfl := (formI_ok hx).2 rfl
    exact congrArg (fun b => It.mk false b []) (be_ub (l := d) h)
theorem word_only {x : It} (hx : formI 0 x = 0) (h : (getWord x).2 = 0) : textI (tr (f32 (getWord x).1)) = x := by
  match x with
  | .mk true _ _ => cases h
  | .mk false d xs =>
    obtain rfl := (formI_ok hx).2 rfl
    exact congrArg (fun b => It.mk false b []) (word_pw (l := d) h).1
theorem gText_ok {least most : Int} {d : List UInt8} (h : (gText least most d).2 = 0) : (gText least most d).1 = d := by
  unfold gText at h ⊢
  by_cases h1 : within d.length least most ≠ 0
  · rw [if_pos h1] at h; exact absurd h h1
  · rw [if_neg h1]
theorem text_only {x : It} {least most : Int} (hx : formI 0 x = 0) (h : (getText least most x).2 = 0) : textI (getText least most x).1 = x := by
  match x with
  | .mk true _ _ => cases h
  | .mk false d xs =>
    obtain rfl := (formI_ok hx).2 rfl
    exact congrArg (fun b => It.mk false b []) (gText_ok (d := d) h)
theorem bool_only {x : It} (hx : formI 0 x = 0) (h : (getBool x).2 = 0) : boolI (getBool x).1 = x := by
  match x with
  | .mk true _ _ => cases h
  | .mk false d xs =>
    obtain rfl := (formI_ok hx).2 rfl
    change (gBool d).2 = 0 at h
    show boolI (gBool d).1 = _
    unfold gBool at h ⊢
    by_cases h1 : d = []
    · rw [if_pos h1, h1]; rfl
    · rw [if_neg h1] at h ⊢
      by_cases h2 : d = [1]
      · rw [if_pos h2, h2]; rfl
      · rw [if_neg h2] at h; cases h
theorem addr_only {x : It} (hx : formI 0 x = 0) (h : (getAddr x).2 = 0) : textI (getAddr x).1 = x := by
  match x with
  | .mk true _ _ => cases h
  | .mk false d xs =>
    obtain rfl := (formI_ok hx).2 rfl
    change (gAddr d).2 = 0 at h
    show textI (gAddr d).1 = _
    unfold gAddr at h ⊢
    by_cases h1 : d = [] ∨ d.length = 20
    · rw [if_pos h1]; rfl
    · rw [if_neg h1] at h; cases h
theorem each_only {least most : Int} : ∀ {xs : List It} {k : Nat}, formIs k xs = 0 → (getEach least most xs).2 = 0 → (getEach least most xs).1.map textI = xs
  | [], _, _, _ => rfl
  | x :: xs, k, hx, h => by
    obtain ⟨h1, h2⟩ := formIs_ok hx
    rw [getEach] at h ⊢
    by_cases h3 : (getText least most x).2 ≠ 0
    · rw [if_pos h3] at h; exact absurd h h3
    · rw [if_neg h3] at h ⊢
      by_cases h4 : (getEach least most xs).2 ≠ 0
      · rw [if_pos h4] at h; exact absurd h h4
      · rw [if_neg h4]
        rw [List.map_cons, each_only h2 (by omega)]
        congr 1
        match x with
        | .mk true _ _ => simp [getText, ofBytes] at h3
        | .mk false d ys =>
          obtain rfl := (formI_ok h1).2 rfl
          exact congrArg (fun b => It.mk false b []) (gText_ok (d := d) (Decidable.not_not.1 h3))
theorem getList_ok {least most : Int} {x : It} (h : (getList least most x).2 = 0) : ∃ b xs, x = .mk true b xs ∧ (getList least most x).1 = xs := by
  match x with
  | .mk false _ _ => cases h
  | .mk true b xs =>
    refine ⟨b, xs, rfl, ?_⟩
    rw [getList] at h ⊢
    by_cases h1 : within xs.length least most ≠ 0
    · rw [if_pos h1] at h; exact absurd h h1
    · rw [if_neg h1]
theorem texts_only {x : It} {many least most : Int} (hx : formI 0 x = 0) (h : (getTexts many least most x).2 = 0) : textsI (getTexts many least most x).1 = x := by
  unfold getTexts at h ⊢
  by_cases h1 : (getList 0 many x).2 ≠ 0
  · rw [if_pos h1] at h; exact absurd h h1
  · rw [if_neg h1] at h ⊢
    obtain ⟨b, xs, rfl, e⟩ := getList_ok (by simpa using h1)
    rw [e] at h ⊢
    obtain ⟨rfl, _, _, h4⟩ := (formI_ok hx).1 rfl
    show It.mk true [] _ = _
    rw [each_only h4 h]
/-- Whether it is bytes. -/
theorem text_when {x : It} (hx : checkI x = 0) : (getText 0 70000 x).2 = 0 ↔ isL x = false := by
  obtain ⟨h1, h2⟩ := checkI_ok.1 hx
  match x with
  | .mk true _ _ => exact ⟨fun h => (by cases h), fun h => (by cases h)⟩
  | .mk false d xs =>
    obtain rfl := (formI_ok h1).2 rfl
    have hl : d.length ≤ 65536 := by
      have := bytes_len (.mk false d [])
      rw [ownI] at this
      omega
    refine ⟨fun _ => rfl, fun _ => ?_⟩
    have e := text_in d 0 70000 (by omega) (by omega)
    show (getText 0 70000 (textI d)).2 = 0
    rw [e]
end Go.Proofs.YtebkmlbpngpmdaaDoor.M
