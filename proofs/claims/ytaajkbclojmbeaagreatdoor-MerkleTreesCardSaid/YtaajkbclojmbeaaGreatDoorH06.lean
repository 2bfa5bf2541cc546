/- The reference's of: numbers; of all kinds. The reference's In: the type of an item. The reference's fits, Fits. -/
import Derived.Test.YtaajkbclojmbeaaGreatDoorH05
import Derived.Test.YtaajkbclojmbeaaGreatDoorH03
import Derived.Laws.Rows
import Derived.Test.YtaajkbclojmbeaaGreatDoorH04
namespace Go.Proofs.YtaajkbclojmbeaaGreatDoor
open Go Go.RowKit

end Go.Proofs.YtaajkbclojmbeaaGreatDoor
namespace Go.Proofs.YtaajkbclojmbeaaGreatDoor
open Go Go.RowKit

end Go.Proofs.YtaajkbclojmbeaaGreatDoor
namespace Go.Proofs.YtaajkbclojmbeaaGreatDoor
open Go Go.RowKit

theorem Vl.long {w : World} {n N : Nat} {bs : List Bool} {us : List M.Va} {ab : Option Addr} {cb : Nat} {au : Option Addr} {cu : Nat} (h : Vl w n N bs us ab cb au cu) : us.length ≤ 9223372036854775807 ∧ bs.length ≤ 9223372036854775807 := by
  obtain ⟨_, _, e, h1, h2⟩ := h.v.slice
  obtain ⟨_, _, e', h3, h4⟩ := h.b.slice
  cases e
  cases e'
  simp only [maxLen] at h2 h4
  omega

theorem M.in_at {k n : Int} {ts : List M.Ty} {N : Nat} {bs : List Bool} {us : List M.Va} {p : Int} {d j : Nat} (hof : M.ofV k n ts.length (.mk N bs us p) = true) (hc : M.chkT d (.mk k n ts) = 0) (hj : j < us.length) :
    ∃ (i : Nat) (k' m' : Int) (ts' : List M.Ty), i < ts.length ∧ ts[i]? = some (M.Ty.mk k' m' ts') ∧ M.inT k ts p j = .mk k' m' ts' ∧ ((k = 7 ∧ j = i) ∨ (k ≠ 7 ∧ k = 8 ∧ p = i) ∨ (k ≠ 7 ∧ k ≠ 8 ∧ i = 0)) := by
  obtain ⟨h1, h2, _, _⟩ := M.chkT_ok.1 hc
  have key : ∀ i : Nat, i < ts.length → M.inT k ts p j = ts[i]?.getD default → ((k = 7 ∧ j = i) ∨ (k ≠ 7 ∧ k = 8 ∧ p = i) ∨ (k ≠ 7 ∧ k ≠ 8 ∧ i = 0)) →
      ∃ (i : Nat) (k' m' : Int) (ts' : List M.Ty), i < ts.length ∧ ts[i]? = some (M.Ty.mk k' m' ts') ∧ M.inT k ts p j = .mk k' m' ts' ∧ ((k = 7 ∧ j = i) ∨ (k ≠ 7 ∧ k = 8 ∧ p = i) ∨ (k ≠ 7 ∧ k ≠ 8 ∧ i = 0)) := fun i hi e hor => by
    rw [List.getElem?_eq_getElem hi, Option.getD_some] at e
    obtain ⟨k', m', ts', hx⟩ : ∃ k' m' ts', ts[i] = M.Ty.mk k' m' ts' := by
      obtain ⟨a, b, c⟩ := ts[i]
      exact ⟨a, b, c, rfl⟩
    exact ⟨i, k', m', ts', hi, by rw [List.getElem?_eq_getElem hi, hx], by rw [e, hx], hor⟩
  unfold M.ofV at hof
  unfold M.formT at h2
  by_cases h7 : k = 7
  · subst h7
    simp at hof h2
    exact key j (by omega) (by unfold M.inT; rw [if_pos rfl]) (.inl ⟨rfl, rfl⟩)
  by_cases h8 : k = 8
  · subst h8
    simp at hof h2
    exact key p.toNat (by omega) (by unfold M.inT; rw [if_neg (by omega), if_pos rfl]) (.inr (.inl ⟨by omega, rfl, by omega⟩))
  have hlen : 0 < ts.length := by
    by_cases e1 : k = 1
    · subst e1; simp at hof; simp [hof] at hj
    by_cases e2 : k = 2
    · subst e2; simp at hof; simp [hof] at hj
    by_cases e3 : k = 3
    · subst e3; simp at h2; omega
    by_cases e4 : k = 4
    · subst e4; simp at h2; omega
    by_cases e5 : k = 5
    · subst e5; simp at hof; simp [hof] at hj
    by_cases e6 : k = 6
    · subst e6; simp at hof; simp [hof] at hj
    omega
  exact key 0 hlen (by unfold M.inT; rw [if_neg h7, if_neg h8]) (.inr (.inr ⟨h7, h8, rfl⟩))

end Go.Proofs.YtaajkbclojmbeaaGreatDoor
