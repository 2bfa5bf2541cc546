/- Plain arithmetic: how many digits a number has. -/
import Derived.Test.YtmcchfgblecgoaaDoorM3
namespace Go.Proofs.YtmcchfgblecgoaaDoor.M

/-- How many digits of S bits a number has, one at least. -/
def nd (S : Nat) : Nat → Nat → Nat
  | 0, _ => 1
  | f + 1, N => if N < 2 ^ S then 1 else nd S f (N / 2 ^ S) + 1

theorem nd_pos (S f N : Nat) : 1 ≤ nd S f N := by
  cases f with
  | zero => exact Nat.le_refl _
  | succ f => unfold nd; split <;> omega
theorem nd_le (S f N : Nat) : nd S f N ≤ f + 1 := by
  induction f generalizing N with
  | zero => exact Nat.le_refl _
  | succ f ih =>
    unfold nd
    split
    · omega
    · have := ih (N / 2 ^ S)
      omega
theorem nd_low (S f N i : Nat) (h1 : 1 ≤ i) (h2 : i < nd S f N) : N / 2 ^ (S * i) ≠ 0 := by
  induction f generalizing N i with
  | zero => simp [nd] at h2; omega
  | succ f ih =>
    unfold nd at h2
    split at h2
    · omega
    · rename_i hN
      obtain ⟨i, rfl⟩ : ∃ k, i = k + 1 := ⟨i - 1, by omega⟩
      rw [Nat.mul_succ, Nat.add_comm, Nat.pow_add, ← Nat.div_div_eq_div_mul]
      by_cases hi : i = 0
      · subst hi
        rw [Nat.mul_zero, Nat.pow_zero, Nat.div_one]
        have := Nat.div_pos (Nat.not_lt.1 hN) (Nat.two_pow_pos S)
        omega
      · exact ih _ _ (by omega) (by omega)
theorem nd_high (S f N : Nat) (h : N < 2 ^ (S * (f + 1))) : N / 2 ^ (S * nd S f N) = 0 := by
  induction f generalizing N with
  | zero =>
    simp only [nd]
    exact Nat.div_eq_of_lt (by simpa using h)
  | succ f ih =>
    unfold nd
    split
    · rename_i hN
      rw [Nat.mul_one]
      exact Nat.div_eq_of_lt hN
    · rw [Nat.mul_succ, Nat.add_comm, Nat.pow_add, ← Nat.div_div_eq_div_mul]
      refine ih _ ?_
      rw [Nat.mul_succ, Nat.add_comm, Nat.pow_add] at h
      exact Nat.div_lt_of_lt_mul h

/-- Digits by 128. -/
def nd7 (N : Nat) : Nat := nd 7 9 N
def nd8 (N : Nat) : Nat := nd 8 7 N
theorem nd7_high {N : Nat} (h : N < 18446744073709551616) : N / 2 ^ (7 * nd7 N) = 0 := nd_high 7 9 N (Nat.lt_trans h (by decide))
theorem nd8_high {N : Nat} (h : N < 18446744073709551616) : N / 2 ^ (8 * nd8 N) = 0 := nd_high 8 7 N h
theorem nd8_width {N k : Nat} (hk : 1 ≤ k) (h : N < 256 ^ k) : nd8 N ≤ k := by
  rcases Nat.lt_or_ge k (nd8 N) with hlt | hge
  · exfalso
    refine nd_low 8 7 N k hk hlt (Nat.div_eq_of_lt ?_)
    rw [Nat.pow_mul]
    exact h
  · exact hge

/-- A number has so few bytes just where it is so small. -/
theorem tr_width {N k : Nat} (hN : In N) : (tr (f32 N)).length ≤ k ↔ N < 256 ^ k := by
  have e := dg_tr (f32 N)
  rw [dg_f32 hN] at e
  constructor
  · intro hl
    rw [← e]
    exact Nat.lt_of_lt_of_le (dg_lt _) (Nat.pow_le_pow_right (by omega) hl)
  · intro h
    rcases Nat.lt_or_ge k (tr (f32 N)).length with hl | hl
    · exfalso
      match ht : tr (f32 N) with
      | [] => rw [ht] at hl; simp at hl
      | c :: r =>
        have hc := tr_head _ c r ht
        rw [ht] at e hl
        have e2 : dg (c :: r) = dgA (0 * 256 + c.toNat) r := rfl
        rw [e2, dgA_eq] at e
        have hc1 : 1 ≤ c.toNat := by
          rcases Nat.eq_zero_or_pos c.toNat with h0 | h0
          · exact absurd (UInt8.toNat.inj (by simpa using h0)) hc
          · exact h0
        have hp : 256 ^ k ≤ 256 ^ r.length := Nat.pow_le_pow_right (by omega) (by simp at hl; omega)
        have : 1 * 256 ^ r.length ≤ (0 * 256 + c.toNat) * 256 ^ r.length := Nat.mul_le_mul_right _ (by omega)
        omega
    · exact hl

/-- Digits by 128, the lowest one first, 128 more in each but the last one. -/
def vr : Nat → Nat → List UInt8
  | 0, N => [UInt8.ofNat N]
  | f + 1, N => if N < 128 then [UInt8.ofNat N] else UInt8.ofNat (N % 128 + 128) :: vr f (N / 128)
def vrn (N : Nat) : List UInt8 := vr 9 N
theorem vr_length (f N : Nat) : (vr f N).length = nd 7 f N := by
  induction f generalizing N with
  | zero => rfl
  | succ f ih =>
    unfold vr nd
    by_cases h : N < 128
    · rw [if_pos h, if_pos h]; rfl
    · rw [if_neg h, if_neg h, List.length_cons, ih]
theorem vr_get (f N i : Nat) (hi : i < nd 7 f N) : (vr f N).getD i 0 = if i + 1 = nd 7 f N then UInt8.ofNat (N / 2 ^ (7 * i)) else UInt8.ofNat (N / 2 ^ (7 * i) % 128 + 128) := by
  induction f generalizing N i with
  | zero =>
    simp only [nd] at hi ⊢
    obtain rfl : i = 0 := by omega
    simp [vr]
  | succ f ih =>
    unfold vr nd
    unfold nd at hi
    by_cases h : N < 128
    · rw [if_pos (show N < 2 ^ 7 from h)] at hi
      obtain rfl : i = 0 := by omega
      rw [if_pos h, if_pos (show N < 2 ^ 7 from h)]
      simp
    · rw [if_neg (show ¬ N < 2 ^ 7 from h)] at hi
      rw [if_neg h, if_neg (show ¬ N < 2 ^ 7 from h)]
      cases i with
      | zero =>
        have := nd_pos 7 f (N / 2 ^ 7)
        rw [if_neg (by omega)]
        simp
      | succ i =>
        have hp : 2 ^ (7 * (i + 1)) = 2 ^ 7 * 2 ^ (7 * i) := by rw [Nat.mul_succ, Nat.add_comm, Nat.pow_add]
        rw [List.getD_cons_succ, show N / 128 = N / 2 ^ 7 from rfl, ih _ _ (by omega), hp, ← Nat.div_div_eq_div_mul]
        by_cases hl : i + 1 = nd 7 f (N / 2 ^ 7)
        · rw [if_pos hl, if_pos (by omega)]
        · rw [if_neg hl, if_neg (by omega)]
end Go.Proofs.YtmcchfgblecgoaaDoor.M
