/- The three forms of a receipt, plainly. -/
import Derived.Test.YtihiacbhdcahkaaGreatDoorH28
namespace Go.Proofs.YtihiacbhdcahkaaGreatDoor
open Go Go.RowKit Go.Lib
namespace M
theorem tr_width {N k : Nat} (hN : In N) : (tr (f32 N)).length ≤ k ↔ N < 256 ^ k := by
  have e := dg_tr (f32 N)
  rw [dg_f32 hN] at e
  constructor
  · intro hl
    rw [← e]
    exact Nat.lt_of_lt_of_le (dg_lt _) (Nat.pow_le_pow_right (by omega) hl)
  · intro h
    rcases Nat.lt_or_ge k (tr (f32 N)).length with hl | hl
    · exfalso
      match ht : tr (f32 N) with
      | [] => rw [ht] at hl; simp at hl
      | c :: r =>
        have hc := tr_head _ c r ht
        rw [ht] at e hl
        have e2 : dg (c :: r) = dgA (0 * 256 + c.toNat) r := rfl
        rw [e2, dgA_eq] at e
        have hc1 : 1 ≤ c.toNat := by
          rcases Nat.eq_zero_or_pos c.toNat with h0 | h0
          · exact absurd (UInt8.toNat.inj (by simpa using h0)) hc
          · exact h0
        have hp : 256 ^ k ≤ 256 ^ r.length := Nat.pow_le_pow_right (by omega) (by simp at hl; omega)
        have : 1 * 256 ^ r.length ≤ (0 * 256 + c.toNat) * 256 ^ r.length := Nat.mul_le_mul_right _ (by omega)
        omega
    · exact hl

theorem hdL_mono {n m p : Nat} (h : n ≤ m) (hm : m < 18446744073709551616) : (hdL n p).length ≤ (hdL m p).length := by
  have hb : (ben n).length ≤ (ben m).length := by
    have h1 : m < 256 ^ (ben m).length := (tr_width (in64' hm)).1 (Nat.le_refl _)
    exact (tr_width (in64' (by omega))).2 (by omega)
  unfold hdL
  by_cases h1 : n < 56
  · by_cases h2 : m < 56
    · rw [if_pos h1, if_pos h2]; simp
    · rw [if_pos h1, if_neg h2]; simp
  · rw [if_neg h1, if_neg (by omega)]
    simp only [List.length_cons]
    omega
theorem list_grow (ps : List It) (x : It) (h : (bytesIs (ps ++ [x])).length < 18446744073709551616) : (bytesI (listI ps)).length < (bytesI (listI (ps ++ [x]))).length := by
  have e : bytesIs (ps ++ [x]) = bytesIs ps ++ bytesI x := by rw [bytesIs_app]; simp [bytesIs]
  have hx : 1 ≤ (bytesI x).length := by
    rcases Nat.eq_zero_or_pos (bytesI x).length with q | q
    · exact (bytesI_ne x q).elim
    · exact q
  have hl : (bytesIs (ps ++ [x])).length = (bytesIs ps).length + (bytesI x).length := by rw [e, List.length_append]
  have hm := hdL_mono (p := 192) (n := (bytesIs ps).length) (m := (bytesIs (ps ++ [x])).length) (by omega) h
  unfold listI
  rw [bytesI, bytesI, List.length_append, List.length_append]
  omega
section
variable (k : Int) (st : Bool) (ga no : Nat) (ls : List Lg)
abbrev fX : Rc := ⟨k, st, ga, ls, false, 0, 0⟩
abbrev fY : Rc := ⟨k, st, ga, ls, true, no, 0⟩
abbrev fZ : Rc := ⟨k, st, ga, ls, true, no, 1⟩
theorem forms_no (h : chkR (fX k st ga ls) ≠ 0) : chkR (fY k st ga no ls) ≠ 0 ∧ chkR (fZ k st ga no ls) ≠ 0 := by
  unfold chkR formedR longR at *
  cases h1 : kdB k <;> cases h2 : ls.any noLog <;> cases h3 : ls.any longLog <;> by_cases h4 : 16 < ls.length <;> by_cases h5 : k = 126 <;> simp_all
theorem forms_kind (h : chkR (fX k st ga ls) = 0) (hk : k ≠ 126) : chkR (fY k st ga no ls) = 2 ∧ chkR (fZ k st ga no ls) = 2 := by
  unfold chkR formedR longR at *
  cases h1 : kdB k <;> cases h2 : ls.any noLog <;> cases h3 : ls.any longLog <;> by_cases h4 : 16 < ls.length <;> simp_all
theorem forms_yes (h : chkR (fX k st ga ls) = 0) (hk : k = 126) : chkR (fY k st ga no ls) = 0 ∧ chkR (fZ k st ga no ls) = 0 := by
  unfold chkR formedR longR at *
  cases h1 : kdB k <;> cases h2 : ls.any noLog <;> cases h3 : ls.any longLog <;> by_cases h4 : 16 < ls.length <;> simp_all
theorem forms_len (h : chkR (fX k st ga ls) = 0) (hk : k = 126) (hg : ga < 18446744073709551616) (hn : no < 18446744073709551616) :
    (bytesR (fX k st ga ls)).length < (bytesR (fY k st ga no ls)).length ∧ (bytesR (fY k st ga no ls)).length < (bytesR (fZ k st ga no ls)).length := by
  obtain ⟨h1, h2⟩ := forms_yes k st ga no ls h hk
  have l1 := parts_len h1 hg hn
  have l2 := parts_len h2 hg hn
  have e1 : partsR (fY k st ga no ls) = partsR (fX k st ga ls) ++ [textI (ben no)] := by simp [partsR, formR]
  have e2 : partsR (fZ k st ga no ls) = partsR (fY k st ga no ls) ++ [textI (ben 1)] := by simp [partsR, formR]
  unfold bytesR
  rw [List.length_append, List.length_append, List.length_append]
  have g1 := list_grow (partsR (fX k st ga ls)) (textI (ben no)) (by rw [← e1]; omega)
  have g2 := list_grow (partsR (fY k st ga no ls)) (textI (ben 1)) (by rw [← e2]; omega)
  rw [← e1] at g1
  rw [← e2] at g2
  exact ⟨Nat.add_lt_add_left g1 _, Nat.add_lt_add_left g2 _⟩
end
end M
end Go.Proofs.YtihiacbhdcahkaaGreatDoor
