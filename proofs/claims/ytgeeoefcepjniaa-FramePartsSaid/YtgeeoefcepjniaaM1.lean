/- Plain arithmetic: a number below 2^256 and its four parts of 64 bits; the carries of a sum and of a difference. -/
namespace Go.Proofs.Ytgeeoefcepjniaa.M

/-- Part i of a number, the lowest one first. -/
def pt (i N : Nat) : Int := ((N / 18446744073709551616 ^ i % 18446744073709551616 : Nat) : Int)

/-- Below 2^256. -/
def In (N : Nat) : Prop := N < 115792089237316195423570985008687907853269984665640564039457584007913129639936

theorem pt_nonneg (i N : Nat) : 0 ≤ pt i N := by unfold pt; omega
theorem pt_lt (i N : Nat) : pt i N < 18446744073709551616 := by unfold pt; omega

theorem whole {N : Nat} (h : In N) : (N : Int) = pt 0 N + 18446744073709551616 * pt 1 N + 340282366920938463463374607431768211456 * pt 2 N + 6277101735386680763835789423207666416102355444464034512896 * pt 3 N := by
  unfold In at h
  unfold pt
  simp only [Nat.pow_zero, Nat.pow_one, Nat.div_one, show 18446744073709551616 ^ 2 = 340282366920938463463374607431768211456 from rfl, show 18446744073709551616 ^ 3 = 6277101735386680763835789423207666416102355444464034512896 from rfl]
  omega

theorem parts {N : Nat} {a b c d : Int} (ha : 0 ≤ a) (ha' : a < 18446744073709551616) (hb : 0 ≤ b) (hb' : b < 18446744073709551616) (hc : 0 ≤ c) (hc' : c < 18446744073709551616) (hd : 0 ≤ d) (hd' : d < 18446744073709551616)
    (h : (N : Int) = a + 18446744073709551616 * b + 340282366920938463463374607431768211456 * c + 6277101735386680763835789423207666416102355444464034512896 * d) :
    pt 0 N = a ∧ pt 1 N = b ∧ pt 2 N = c ∧ pt 3 N = d := by
  unfold pt
  simp only [Nat.pow_zero, Nat.pow_one, Nat.div_one, show 18446744073709551616 ^ 2 = 340282366920938463463374607431768211456 from rfl, show 18446744073709551616 ^ 3 = 6277101735386680763835789423207666416102355444464034512896 from rfl]
  omega

/-- Whatever four parts there are, they are some number's. -/
theorem some_number {a b c d : Int} (ha : 0 ≤ a) (ha' : a < 18446744073709551616) (hb : 0 ≤ b) (hb' : b < 18446744073709551616) (hc : 0 ≤ c) (hc' : c < 18446744073709551616) (hd : 0 ≤ d) (hd' : d < 18446744073709551616) :
    ∃ N, In N ∧ pt 0 N = a ∧ pt 1 N = b ∧ pt 2 N = c ∧ pt 3 N = d := by
  refine ⟨(a + 18446744073709551616 * b + 340282366920938463463374607431768211456 * c + 6277101735386680763835789423207666416102355444464034512896 * d).toNat, by unfold In; omega, parts ha ha' hb hb' hc hc' hd hd' (by omega)⟩

theorem pt_inj {A B : Nat} (hA : In A) (hB : In B) (h0 : pt 0 A = pt 0 B) (h1 : pt 1 A = pt 1 B) (h2 : pt 2 A = pt 2 B) (h3 : pt 3 A = pt 3 B) : A = B := by
  have := whole hA
  have := whole hB
  omega

def adS (x y c : Int) : Int := (x + y + c) % 18446744073709551616
def adC (x y c : Int) : Int := (x + y + c) / 18446744073709551616
def sbS (x y c : Int) : Int := (x - y - c) % 18446744073709551616
def sbC (x y c : Int) : Int := if x < y + c then 1 else 0

theorem ad_eq (x y c : Int) : x + y + c = adS x y c + 18446744073709551616 * adC x y c := by unfold adS adC; omega
theorem adS_lo (x y c : Int) : 0 ≤ adS x y c := by unfold adS; omega
theorem adS_hi (x y c : Int) : adS x y c < 18446744073709551616 := by unfold adS; omega
theorem adC_01 {x y c : Int} (hx : 0 ≤ x) (hx' : x < 18446744073709551616) (hy : 0 ≤ y) (hy' : y < 18446744073709551616) (hc : 0 ≤ c) (hc' : c ≤ 1) : 0 ≤ adC x y c ∧ adC x y c ≤ 1 := by unfold adC; omega
theorem sb_eq {x y c : Int} (hx : 0 ≤ x) (hx' : x < 18446744073709551616) (hy : 0 ≤ y) (hy' : y < 18446744073709551616) (hc : 0 ≤ c) (hc' : c ≤ 1) : x - y - c = sbS x y c - 18446744073709551616 * sbC x y c := by
  unfold sbS sbC
  split <;> omega
theorem sbS_lo (x y c : Int) : 0 ≤ sbS x y c := by unfold sbS; omega
theorem sbS_hi (x y c : Int) : sbS x y c < 18446744073709551616 := by unfold sbS; omega
theorem sbC_01 (x y c : Int) : 0 ≤ sbC x y c ∧ sbC x y c ≤ 1 := by unfold sbC; split <;> omega

/-- The carries of two numbers' parts. -/
def k1 (A B : Nat) : Int := adC (pt 0 A) (pt 0 B) 0
def k2 (A B : Nat) : Int := adC (pt 1 A) (pt 1 B) (k1 A B)
def k3 (A B : Nat) : Int := adC (pt 2 A) (pt 2 B) (k2 A B)
def k4 (A B : Nat) : Int := adC (pt 3 A) (pt 3 B) (k3 A B)
theorem k1_01 (A B : Nat) : 0 ≤ k1 A B ∧ k1 A B ≤ 1 := adC_01 (pt_nonneg _ _) (pt_lt _ _) (pt_nonneg _ _) (pt_lt _ _) (by omega) (by omega)
theorem k2_01 (A B : Nat) : 0 ≤ k2 A B ∧ k2 A B ≤ 1 := adC_01 (pt_nonneg _ _) (pt_lt _ _) (pt_nonneg _ _) (pt_lt _ _) (k1_01 A B).1 (k1_01 A B).2
theorem k3_01 (A B : Nat) : 0 ≤ k3 A B ∧ k3 A B ≤ 1 := adC_01 (pt_nonneg _ _) (pt_lt _ _) (pt_nonneg _ _) (pt_lt _ _) (k2_01 A B).1 (k2_01 A B).2
theorem k4_01 (A B : Nat) : 0 ≤ k4 A B ∧ k4 A B ≤ 1 := adC_01 (pt_nonneg _ _) (pt_lt _ _) (pt_nonneg _ _) (pt_lt _ _) (k3_01 A B).1 (k3_01 A B).2

theorem add_all {A B : Nat} (hA : In A) (hB : In B) :
    (A : Int) + B = adS (pt 0 A) (pt 0 B) 0 + 18446744073709551616 * adS (pt 1 A) (pt 1 B) (k1 A B) + 340282366920938463463374607431768211456 * adS (pt 2 A) (pt 2 B) (k2 A B) + 6277101735386680763835789423207666416102355444464034512896 * adS (pt 3 A) (pt 3 B) (k3 A B) + 115792089237316195423570985008687907853269984665640564039457584007913129639936 * k4 A B := by
  have e0 := whole hA
  have e1 := whole hB
  have r0 : _ = _ + _ * k1 A B := ad_eq (pt 0 A) (pt 0 B) 0
  have r1 : _ = _ + _ * k2 A B := ad_eq (pt 1 A) (pt 1 B) (k1 A B)
  have r2 : _ = _ + _ * k3 A B := ad_eq (pt 2 A) (pt 2 B) (k2 A B)
  have r3 : _ = _ + _ * k4 A B := ad_eq (pt 3 A) (pt 3 B) (k3 A B)
  omega

theorem add_no {A B : Nat} (hA : In A) (hB : In B) (h : In (A + B)) :
    (k4 A B != 0) = false ∧ adS (pt 0 A) (pt 0 B) 0 = pt 0 (A + B) ∧ adS (pt 1 A) (pt 1 B) (k1 A B) = pt 1 (A + B) ∧ adS (pt 2 A) (pt 2 B) (k2 A B) = pt 2 (A + B) ∧ adS (pt 3 A) (pt 3 B) (k3 A B) = pt 3 (A + B) := by
  have e := add_all hA hB
  have k := k4_01 A B
  have l0 := adS_lo (pt 0 A) (pt 0 B) 0
  have l1 := adS_lo (pt 1 A) (pt 1 B) (k1 A B)
  have l2 := adS_lo (pt 2 A) (pt 2 B) (k2 A B)
  have l3 := adS_lo (pt 3 A) (pt 3 B) (k3 A B)
  have h0 := adS_hi (pt 0 A) (pt 0 B) 0
  have h1 := adS_hi (pt 1 A) (pt 1 B) (k1 A B)
  have h2 := adS_hi (pt 2 A) (pt 2 B) (k2 A B)
  have h3 := adS_hi (pt 3 A) (pt 3 B) (k3 A B)
  unfold In at h
  have kz : k4 A B = 0 := by omega
  rw [kz] at e ⊢
  obtain ⟨p0, p1, p2, p3⟩ := parts (N := A + B) l0 h0 l1 h1 l2 h2 l3 h3 (by rw [Int.natCast_add, e]; omega)
  exact ⟨rfl, p0.symm, p1.symm, p2.symm, p3.symm⟩

theorem add_yes {A B : Nat} (hA : In A) (hB : In B) (h : ¬ In (A + B)) : (k4 A B != 0) = true := by
  have e := add_all hA hB
  have k := k4_01 A B
  have h0 := adS_hi (pt 0 A) (pt 0 B) 0
  have h1 := adS_hi (pt 1 A) (pt 1 B) (k1 A B)
  have h2 := adS_hi (pt 2 A) (pt 2 B) (k2 A B)
  have h3 := adS_hi (pt 3 A) (pt 3 B) (k3 A B)
  unfold In at h
  rw [bne_iff_ne]
  intro kz
  omega

/-- The borrows. -/
def j1 (A B : Nat) : Int := sbC (pt 0 A) (pt 0 B) 0
def j2 (A B : Nat) : Int := sbC (pt 1 A) (pt 1 B) (j1 A B)
def j3 (A B : Nat) : Int := sbC (pt 2 A) (pt 2 B) (j2 A B)
def j4 (A B : Nat) : Int := sbC (pt 3 A) (pt 3 B) (j3 A B)
theorem j1_01 (A B : Nat) : 0 ≤ j1 A B ∧ j1 A B ≤ 1 := sbC_01 _ _ _
theorem j2_01 (A B : Nat) : 0 ≤ j2 A B ∧ j2 A B ≤ 1 := sbC_01 _ _ _
theorem j3_01 (A B : Nat) : 0 ≤ j3 A B ∧ j3 A B ≤ 1 := sbC_01 _ _ _
theorem j4_01 (A B : Nat) : 0 ≤ j4 A B ∧ j4 A B ≤ 1 := sbC_01 _ _ _

theorem sub_all {A B : Nat} (hA : In A) (hB : In B) :
    (A : Int) - B = sbS (pt 0 A) (pt 0 B) 0 + 18446744073709551616 * sbS (pt 1 A) (pt 1 B) (j1 A B) + 340282366920938463463374607431768211456 * sbS (pt 2 A) (pt 2 B) (j2 A B) + 6277101735386680763835789423207666416102355444464034512896 * sbS (pt 3 A) (pt 3 B) (j3 A B) - 115792089237316195423570985008687907853269984665640564039457584007913129639936 * j4 A B := by
  have e0 := whole hA
  have e1 := whole hB
  have r0 : _ = _ - _ * j1 A B := sb_eq (pt_nonneg 0 A) (pt_lt 0 A) (pt_nonneg 0 B) (pt_lt 0 B) (Int.le_refl 0) (by omega)
  have r1 : _ = _ - _ * j2 A B := sb_eq (pt_nonneg 1 A) (pt_lt 1 A) (pt_nonneg 1 B) (pt_lt 1 B) (j1_01 A B).1 (j1_01 A B).2
  have r2 : _ = _ - _ * j3 A B := sb_eq (pt_nonneg 2 A) (pt_lt 2 A) (pt_nonneg 2 B) (pt_lt 2 B) (j2_01 A B).1 (j2_01 A B).2
  have r3 : _ = _ - _ * j4 A B := sb_eq (pt_nonneg 3 A) (pt_lt 3 A) (pt_nonneg 3 B) (pt_lt 3 B) (j3_01 A B).1 (j3_01 A B).2
  omega

theorem sub_no {A B : Nat} (hA : In A) (hB : In B) (h : B ≤ A) :
    (j4 A B != 0) = false ∧ sbS (pt 0 A) (pt 0 B) 0 = pt 0 (A - B) ∧ sbS (pt 1 A) (pt 1 B) (j1 A B) = pt 1 (A - B) ∧ sbS (pt 2 A) (pt 2 B) (j2 A B) = pt 2 (A - B) ∧ sbS (pt 3 A) (pt 3 B) (j3 A B) = pt 3 (A - B) := by
  have e := sub_all hA hB
  have k := j4_01 A B
  have l0 := sbS_lo (pt 0 A) (pt 0 B) 0
  have l1 := sbS_lo (pt 1 A) (pt 1 B) (j1 A B)
  have l2 := sbS_lo (pt 2 A) (pt 2 B) (j2 A B)
  have l3 := sbS_lo (pt 3 A) (pt 3 B) (j3 A B)
  have h0 := sbS_hi (pt 0 A) (pt 0 B) 0
  have h1 := sbS_hi (pt 1 A) (pt 1 B) (j1 A B)
  have h2 := sbS_hi (pt 2 A) (pt 2 B) (j2 A B)
  have h3 := sbS_hi (pt 3 A) (pt 3 B) (j3 A B)
  unfold In at hA hB
  have kz : j4 A B = 0 := by omega
  rw [kz] at e ⊢
  obtain ⟨p0, p1, p2, p3⟩ := parts (N := A - B) l0 h0 l1 h1 l2 h2 l3 h3 (by rw [Int.ofNat_sub h, e]; omega)
  exact ⟨rfl, p0.symm, p1.symm, p2.symm, p3.symm⟩

theorem sub_yes {A B : Nat} (hA : In A) (hB : In B) (h : A < B) : (j4 A B != 0) = true := by
  have e := sub_all hA hB
  have k := j4_01 A B
  have l0 := sbS_lo (pt 0 A) (pt 0 B) 0
  have l1 := sbS_lo (pt 1 A) (pt 1 B) (j1 A B)
  have l2 := sbS_lo (pt 2 A) (pt 2 B) (j2 A B)
  have l3 := sbS_lo (pt 3 A) (pt 3 B) (j3 A B)
  rw [bne_iff_ne]
  intro kz
  omega
end Go.Proofs.Ytgeeoefcepjniaa.M
