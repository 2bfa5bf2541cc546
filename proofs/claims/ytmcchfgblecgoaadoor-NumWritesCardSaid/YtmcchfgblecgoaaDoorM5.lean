/- Plain arithmetic: what is read of digits by 128. -/
import Derived.Test.YtmcchfgblecgoaaDoorM4
namespace Go.Proofs.YtmcchfgblecgoaaDoor.M

/-- What is wrong with the byte at place i, that no last one is ahead of. -/
def ftc (i : Nat) : Option UInt8 → Nat
  | none => 3
  | some c => if i = 9 ∧ 1 < c.toNat then 5 else if 0 < i ∧ c.toNat = 0 then 8 else 0
def ft (l : List UInt8) (i : Nat) : Nat := ftc i l[i]?
/-- How many digits there are from place i on, and what is wrong behind them. -/
def kc : Nat → List UInt8 → Nat × Nat
  | _, [] => (0, 3)
  | i, c :: r => if i = 9 ∧ 1 < c.toNat then (0, 5) else if 0 < i ∧ c.toNat = 0 then (0, 8) else if c.toNat < 128 then (1, 0) else ((kc (i + 1) r).1 + 1, (kc (i + 1) r).2)
/-- The number of digits. -/
def vd : List UInt8 → Nat
  | [] => 0
  | c :: r => c.toNat % 128 + 128 * vd r

theorem kc_spec (l : List UInt8) (i : Nat) (hi : i ≤ 9) :
    i + (kc i l).1 ≤ 10 ∧ (kc i l).1 ≤ l.length ∧ (∀ j, j < (kc i l).1 → ftc (i + j) l[j]? = 0) ∧
    ((kc i l).2 = 0 → 1 ≤ (kc i l).1 ∧ (∀ j, j + 1 = (kc i l).1 → (l.getD j 0).toNat < 128) ∧ ∀ j, j + 1 < (kc i l).1 → 128 ≤ (l.getD j 0).toNat) ∧
    ((kc i l).2 ≠ 0 → i + (kc i l).1 < 10 ∧ ftc (i + (kc i l).1) l[(kc i l).1]? = (kc i l).2 ∧ ∀ j, j < (kc i l).1 → 128 ≤ (l.getD j 0).toNat) := by
  induction l generalizing i with
  | nil =>
    simp only [kc]
    refine ⟨by omega, by simp, fun j h => absurd h (by omega), fun h => absurd h (by omega), fun _ => ⟨by omega, by simp [ftc], fun j h => absurd h (by omega)⟩⟩
  | cons c r ih =>
    unfold kc
    by_cases h5 : i = 9 ∧ 1 < c.toNat
    · rw [if_pos h5]
      refine ⟨by omega, by simp, fun j h => absurd h (by simp), fun h => absurd h (by simp), fun _ => ⟨by simp; omega, by simp [ftc, h5], fun j h => absurd h (by simp)⟩⟩
    · rw [if_neg h5]
      by_cases h8 : 0 < i ∧ c.toNat = 0
      · rw [if_pos h8]
        refine ⟨by simp; omega, by simp, fun j h => absurd h (by simp), fun h => absurd h (by simp), fun _ => ⟨?_, ?_, fun j h => absurd h (by simp)⟩⟩
        · simp
          omega
        · simp only [Nat.add_zero, List.getElem?_cons_zero, ftc]
          rw [if_neg h5, if_pos h8]
      · rw [if_neg h8]
        by_cases hc : c.toNat < 128
        · rw [if_pos hc]
          refine ⟨by simp; omega, by simp, fun j h => ?_, fun _ => ⟨by simp, fun j h => ?_, fun j h => ?_⟩, fun h => absurd rfl h⟩
          · obtain rfl : j = 0 := by simp at h; omega
            simp only [Nat.add_zero, List.getElem?_cons_zero, ftc]
            rw [if_neg h5, if_neg h8]
          · obtain rfl : j = 0 := by simp at h; omega
            simpa using hc
          · simp at h
        · rw [if_neg hc]
          have hi9 : i ≤ 8 := by
            rcases Nat.lt_or_ge 8 i with h | h
            · exact absurd ⟨by omega, by omega⟩ h5
            · exact h
          obtain ⟨a1, a2, a3, a4, a5⟩ := ih (i + 1) (by omega)
          generalize kc (i + 1) r = q at a1 a2 a3 a4 a5
          obtain ⟨k, e⟩ := q
          simp only at a1 a2 a3 a4 a5 ⊢
          refine ⟨by omega, by simp; omega, fun j h => ?_, fun h => ⟨by omega, fun j hj => ?_, fun j hj => ?_⟩, fun h => ⟨by omega, ?_, fun j hj => ?_⟩⟩
          · cases j with
            | zero =>
              simp only [Nat.add_zero, List.getElem?_cons_zero, ftc]
              rw [if_neg h5, if_neg h8]
            | succ j =>
              have := a3 j (by omega)
              rw [List.getElem?_cons_succ, ← this]
              congr 1
              omega
          · obtain ⟨b1, b2, b3⟩ := a4 h
            cases j with
            | zero => omega
            | succ j =>
              rw [List.getD_cons_succ]
              exact b2 j (by omega)
          · obtain ⟨b1, b2, b3⟩ := a4 h
            cases j with
            | zero => simp; omega
            | succ j =>
              rw [List.getD_cons_succ]
              exact b3 j (by omega)
          · have := (a5 h).2.1
            rw [List.getElem?_cons_succ, ← this]
            congr 1
            omega
          · cases j with
            | zero => simp; omega
            | succ j =>
              rw [List.getD_cons_succ]
              exact (a5 h).2.2 j (by omega)

theorem vd_lt (l : List UInt8) : vd l < 128 ^ l.length := by
  induction l with
  | nil => simp [vd]
  | cons c r ih =>
    simp only [vd, List.length_cons, Nat.pow_succ]
    omega
theorem vd_snoc (l : List UInt8) (c : UInt8) : vd (l ++ [c]) = vd l + c.toNat % 128 * 128 ^ l.length := by
  induction l with
  | nil => simp [vd]
  | cons d l ih =>
    simp only [List.cons_append, vd, ih, List.length_cons, Nat.pow_succ]
    rw [Nat.mul_add, ← Nat.add_assoc, show 128 * (c.toNat % 128 * 128 ^ l.length) = c.toNat % 128 * (128 ^ l.length * 128) by rw [Nat.mul_comm (128 ^ l.length), Nat.mul_left_comm]]

/-- What is read from a place on: the number, the place behind it, what is wrong. -/
def uv (l : List UInt8) (at_ : Int) : Nat × Int × Nat :=
  if 0 ≤ at_ ∧ at_ ≤ l.length then (if (kc 0 (l.drop at_.toNat)).2 = 0 then (vd ((l.drop at_.toNat).take (kc 0 (l.drop at_.toNat)).1), at_ + (kc 0 (l.drop at_.toNat)).1, 0) else (0, 0, (kc 0 (l.drop at_.toNat)).2)) else (0, 0, 1)
end Go.Proofs.YtmcchfgblecgoaaDoor.M
