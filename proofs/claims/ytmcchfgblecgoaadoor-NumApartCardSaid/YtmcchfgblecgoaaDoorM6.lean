/- Plain arithmetic: what is written is read again, and nothing else. -/
import Derived.Test.YtmcchfgblecgoaaDoorM5
namespace Go.Proofs.YtmcchfgblecgoaaDoor.M
open Go

theorem pre0 {l : List UInt8} (h : ∀ c r, l = c :: r → c ≠ 0) : Lib.hasPrefix l [0] = false := by
  cases l with
  | nil => rfl
  | cons c r =>
    have := h c r rfl
    simp [Lib.hasPrefix, List.isPrefixOf, Ne.symm this]
theorem pre0' {l : List UInt8} (h : Lib.hasPrefix l [0] = false) : ∀ c r, l = c :: r → c ≠ 0 := by
  rintro c r rfl rfl
  simp [Lib.hasPrefix, List.isPrefixOf] at h

theorem in64 {N : Nat} (h : N < 18446744073709551616) : In N := by unfold In; omega

theorem ub_be {N : Nat} (h : N < 18446744073709551616) : ub (tr (f32 N)) = (N, 0) := by
  have h8 := (tr_small (in64 h)).2 h
  unfold ub
  rw [if_neg (by omega), pre0 (tr_head _), dg_tr, dg_f32 (in64 h)]
  rfl

theorem be_ub {l : List UInt8} (h : (ub l).2 = 0) : tr (f32 (ub l).1) = l := by
  unfold ub at h ⊢
  by_cases h8 : 8 < l.length
  · rw [if_pos h8] at h; simp at h
  · rw [if_neg h8] at h ⊢
    by_cases hp : Lib.hasPrefix l [0] = true
    · rw [if_pos hp] at h; simp at h
    · rw [if_neg hp]
      show tr (f32 (dg l)) = l
      rw [← dg_zeros (32 - l.length) l, f32_dg (by simp; omega)]
      exact tr_zeros _ l (pre0' (by simpa using hp))

theorem ul_lw {N : Nat} {width : Int} (hN : N < 18446744073709551616) (h : (lw N width).2 = 0) : ul (lw N width).1 = (N, 0) ∧ ((lw N width).1.length : Int) = width := by
  unfold lw at h ⊢
  by_cases hc : 1 ≤ width ∧ width ≤ 8 ∧ (tr (f32 N)).length ≤ width
  · rw [if_pos hc]
    obtain ⟨k, rfl⟩ : ∃ k : Nat, width = k := ⟨width.toNat, by omega⟩
    have hs : N < 256 ^ k := (tr_width (in64 hN)).1 (by omega)
    simp only [Int.toNat_natCast, le_length]
    refine ⟨?_, trivial⟩
    unfold ul
    rw [le_length, if_pos (by omega), led_le k N hs]
  · rw [if_neg hc] at h; simp at h

theorem lw_ul {l : List UInt8} (h : (ul l).2 = 0) : lw (ul l).1 l.length = (l, 0) := by
  unfold ul at h ⊢
  by_cases hc : 1 ≤ l.length ∧ l.length ≤ 8
  · rw [if_pos hc]
    have hb := led_lt8 hc.2
    have hs : (tr (f32 (led l))).length ≤ l.length := (tr_width (in64 hb)).2 (led_lt l)
    unfold lw
    rw [if_pos ⟨by omega, by omega, by simpa using hs⟩, Int.toNat_natCast, le_led]
  · rw [if_neg hc] at h; simp at h

theorem ofNat_toNat {n : Nat} (h : n < 256) : (UInt8.ofNat n).toNat = n := by
  simp
  omega

theorem kc_vr (f N : Nat) (r : List UInt8) (hf : f ≤ 9) (hN : N < 2 ^ (64 - 7 * (9 - f))) (hp : f < 9 → 0 < N) :
    kc (9 - f) (vr f N ++ r) = ((vr f N).length, 0) ∧ vd (vr f N) = N := by
  induction f generalizing N with
  | zero =>
    have h2 : N < 2 := by simpa using hN
    have h1 := hp (by omega)
    have e : (UInt8.ofNat N).toNat = N := ofNat_toNat (by omega)
    simp only [vr, List.singleton_append, kc, e, vd, List.length_singleton]
    rw [if_neg (by omega), if_neg (by omega), if_pos (by omega)]
    exact ⟨rfl, by omega⟩
  | succ f ih =>
    unfold vr
    by_cases h : N < 128
    · rw [if_pos h]
      have e : (UInt8.ofNat N).toNat = N := ofNat_toNat (by omega)
      simp only [List.singleton_append, kc, e, vd, List.length_singleton]
      rw [if_neg (by omega), if_neg (by omega), if_pos (by omega)]
      exact ⟨rfl, by omega⟩
    · rw [if_neg h]
      have hN2 : N / 128 < 2 ^ (64 - 7 * (9 - f)) := by
        rw [show 64 - 7 * (9 - (f + 1)) = 64 - 7 * (9 - f) + 7 by omega, Nat.pow_add] at hN
        exact Nat.div_lt_of_lt_mul (by rw [Nat.mul_comm]; exact hN)
      obtain ⟨i1, i2⟩ := ih (N / 128) (by omega) hN2 (fun _ => by omega)
      have e : (UInt8.ofNat (N % 128 + 128)).toNat = N % 128 + 128 := ofNat_toNat (by omega)
      have e9 : 9 - (f + 1) + 1 = 9 - f := by omega
      simp only [List.cons_append, kc, e, vd, List.length_cons, i2, e9, i1]
      rw [if_neg (by omega), if_neg (by omega), if_neg (by omega)]
      exact ⟨rfl, by omega⟩

theorem kc_vrn {N : Nat} (hN : N < 18446744073709551616) (r : List UInt8) : kc 0 (vrn N ++ r) = ((vrn N).length, 0) ∧ vd (vrn N) = N :=
  kc_vr 9 N r (by omega) hN (fun h => absurd h (by omega))

theorem uv_vrn {N : Nat} (hN : N < 18446744073709551616) (a b : List UInt8) : uv (a ++ vrn N ++ b) a.length = (N, ((a.length + (vrn N).length : Nat) : Int), 0) := by
  obtain ⟨h1, h2⟩ := kc_vrn hN b
  unfold uv
  rw [if_pos ⟨by omega, by simp; omega⟩, Int.toNat_natCast, List.append_assoc, List.drop_left, h1]
  simp [h2]

theorem vr_kc (l : List UInt8) (i : Nat) (hi : i ≤ 9) (h : (kc i l).2 = 0) : vr (9 - i) (vd (l.take (kc i l).1)) = l.take (kc i l).1 ∧ (0 < i → 0 < vd (l.take (kc i l).1)) ∧ vd (l.take (kc i l).1) < 2 ^ (64 - 7 * i) := by
  induction l generalizing i with
  | nil => simp [kc] at h
  | cons c r ih =>
    unfold kc at h ⊢
    by_cases h5 : i = 9 ∧ 1 < c.toNat
    · rw [if_pos h5] at h; simp at h
    · rw [if_neg h5] at h ⊢
      by_cases h8 : 0 < i ∧ c.toNat = 0
      · rw [if_pos h8] at h; simp at h
      · rw [if_neg h8] at h ⊢
        by_cases hc : c.toNat < 128
        · rw [if_pos hc]
          have e : vd (List.take 1 (c :: r)) = c.toNat := by simp [vd]; omega
          simp only [e]
          refine ⟨?_, fun h0 => by omega, ?_⟩
          · have hv : ∀ f, vr f c.toNat = [UInt8.ofNat c.toNat] := fun f => by
              cases f with
              | zero => rfl
              | succ f => unfold vr; rw [if_pos hc]
            rw [hv]
            simp
          · by_cases h9 : i = 9
            · subst h9
              have : ¬ 1 < c.toNat := fun h => h5 ⟨rfl, h⟩
              simp
              omega
            · exact Nat.lt_of_lt_of_le hc (show 2 ^ 7 ≤ _ from Nat.pow_le_pow_right (by omega) (by omega))
        · rw [if_neg hc] at h ⊢
          have hi8 : i ≤ 8 := by
            rcases Nat.lt_or_ge 8 i with h0 | h0
            · exact absurd ⟨by omega, by omega⟩ h5
            · exact h0
          obtain ⟨i1, i2, i3⟩ := ih (i + 1) (by omega) h
          have hpos := i2 (by omega)
          simp only [List.take_succ_cons, vd]
          generalize (kc (i + 1) r).1 = k at i1 i2 i3 hpos ⊢
          generalize hv : vd (List.take k r) = v at i1 i2 i3 hpos ⊢
          have hcl := c.toNat_lt
          refine ⟨?_, fun _ => by omega, ?_⟩
          · rw [show 9 - i = 9 - (i + 1) + 1 by omega, vr, if_neg (by omega)]
            rw [show (c.toNat % 128 + 128 * v) / 128 = v by omega, show (c.toNat % 128 + 128 * v) % 128 + 128 = c.toNat by omega, i1]
            simp
          · rw [show 64 - 7 * i = 64 - 7 * (i + 1) + 7 by omega, Nat.pow_add]
            omega

/-- What is read of digits: all that it says. -/
theorem uv_ok {l : List UInt8} {a : Int} (h : (uv l a).2.2 = 0) : 0 ≤ a ∧ a < (uv l a).2.1 ∧ (uv l a).2.1 ≤ l.length ∧ (uv l a).1 < 18446744073709551616 ∧ vrn (uv l a).1 = (l.drop a.toNat).take ((uv l a).2.1 - a).toNat := by
  unfold uv at h ⊢
  by_cases hc : 0 ≤ a ∧ a ≤ l.length
  · rw [if_pos hc] at h ⊢
    by_cases he : (kc 0 (l.drop a.toNat)).2 = 0
    · rw [if_pos he]
      obtain ⟨v1, _, v3⟩ := vr_kc (l.drop a.toNat) 0 (by omega) he
      obtain ⟨_, s2, _, s4, _⟩ := kc_spec (l.drop a.toNat) 0 (by omega)
      have h1 := (s4 he).1
      rw [List.length_drop] at s2
      refine ⟨hc.1, by simp; omega, by simp; omega, v3, ?_⟩
      simp only [show (a + ((kc 0 (l.drop a.toNat)).1 : Int) - a).toNat = (kc 0 (l.drop a.toNat)).1 by omega]
      exact v1
    · rw [if_neg he] at h; simp at h; exact absurd h he
  · rw [if_neg hc] at h; simp at h
theorem uv_no {l : List UInt8} {a : Int} (h : (uv l a).2.2 ≠ 0) : (uv l a).1 = 0 ∧ (uv l a).2.1 = 0 := by
  unfold uv at h ⊢
  by_cases hc : 0 ≤ a ∧ a ≤ l.length
  · rw [if_pos hc] at h ⊢
    by_cases he : (kc 0 (l.drop a.toNat)).2 = 0
    · rw [if_pos he] at h; simp at h
    · rw [if_neg he]; simp
  · rw [if_neg hc]; simp
theorem uv_lt (l : List UInt8) (a : Int) : (uv l a).1 < 18446744073709551616 := by
  by_cases h : (uv l a).2.2 = 0
  · exact (uv_ok h).2.2.2.1
  · rw [(uv_no h).1]; omega

theorem vrn_length (N : Nat) : 1 ≤ (vrn N).length ∧ (vrn N).length ≤ 10 := by
  unfold vrn
  rw [vr_length]
  exact ⟨nd_pos 7 9 N, nd_le 7 9 N⟩
theorem vrn_apart {m n : Nat} (hm : m < 18446744073709551616) (hn : n < 18446744073709551616) (h : (vrn n).take (vrn m).length = vrn m) : m = n := by
  have e : vrn n = vrn m ++ (vrn n).drop (vrn m).length := by
    have := (List.take_append_drop (vrn m).length (vrn n)).symm
    rw [h] at this
    exact this
  obtain ⟨a1, a2⟩ := kc_vrn hm ((vrn n).drop (vrn m).length)
  obtain ⟨b1, b2⟩ := kc_vrn hn []
  rw [List.append_nil] at b1
  rw [← e, b1] at a1
  have hl : (vrn n).length = (vrn m).length := congrArg Prod.fst a1
  rw [← hl, List.take_length] at h
  rw [← a2, ← b2, h]
end Go.Proofs.YtmcchfgblecgoaaDoor.M
