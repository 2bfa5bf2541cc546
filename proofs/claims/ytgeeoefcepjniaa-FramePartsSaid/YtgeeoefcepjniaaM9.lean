/- Plain arithmetic: items, their bytes, how deep they are, what is wrong with them; no item's bytes begin another one's. -/
import Derived.Test.YtgeeoefcepjniaaM2
namespace Go.Proofs.Ytgeeoefcepjniaa.M

/-- The digits of a number, no more than are needed. -/
def ben (n : Nat) : List UInt8 := tr (f32 n)
theorem in64' {n : Nat} (h : n < 18446744073709551616) : In n := by unfold In; omega
theorem dg_ben {n : Nat} (h : n < 18446744073709551616) : dg (ben n) = n := by unfold ben; rw [dg_tr, dg_f32 (in64' h)]
theorem ben_le {n : Nat} (h : n < 18446744073709551616) : (ben n).length ≤ 8 := (tr_small (in64' h)).2 h
theorem ben_inj {m n : Nat} (hm : m < 18446744073709551616) (hn : n < 18446744073709551616) (h : ben m = ben n) : m = n := by rw [← dg_ben hm, h, dg_ben hn]
theorem ben_pos {n : Nat} (h : n < 18446744073709551616) (h0 : 0 < n) : 1 ≤ (ben n).length := by
  rcases Nat.eq_zero_or_pos (ben n).length with h1 | h1
  · have h2 := dg_ben h
    rw [List.eq_nil_of_length_eq_zero h1] at h2
    simp [dg, dgA] at h2
    omega
  · exact h1
/-- How many digits a length of a few bytes has. -/
theorem ben_width {n k : Nat} (h : n < 18446744073709551616) (_hk : k ≤ 8) : (ben n).length ≤ k ↔ n < 256 ^ k := by
  constructor
  · intro hl
    rw [← dg_ben h]
    exact Nat.lt_of_lt_of_le (dg_lt _) (Nat.pow_le_pow_right (by omega) hl)
  · intro hn
    rcases Nat.lt_or_ge k (ben n).length with hlt | hge
    · exfalso
      have hne : ben n ≠ [] := fun e => by rw [e] at hlt; simp at hlt
      obtain ⟨c, r, e⟩ := List.exists_cons_of_ne_nil hne
      have hc : c ≠ 0 := tr_head _ c r e
      have hd := dg_ben h
      rw [e] at hd hlt
      have h1 : dg (c :: r) = c.toNat * 256 ^ r.length + dg r := by
        rw [show c :: r = [c] ++ r from rfl, dg_append]
        simp [dg, dgA]
      have hc1 : 1 ≤ c.toNat := by
        rcases Nat.eq_zero_or_pos c.toNat with h0 | h0
        · exact absurd (UInt8.toNat_inj.1 (by simpa using h0)) hc
        · exact h0
      have h2 : 256 ^ k ≤ 256 ^ r.length := Nat.pow_le_pow_right (by omega) (by simp at hlt; omega)
      have h3 : 256 ^ r.length ≤ c.toNat * 256 ^ r.length := Nat.le_mul_of_pos_left _ hc1
      omega
    · exact hge

/-- A head of a length. -/
def hdL (n p : Nat) : List UInt8 := if n < 56 then [UInt8.ofNat (p + n)] else UInt8.ofNat (p + 55 + (ben n).length) :: ben n
theorem hdL_ne (n p : Nat) : hdL n p ≠ [] := by unfold hdL; split <;> simp
theorem ofNat_inj {a b : Nat} (ha : a < 256) (hb : b < 256) (h : UInt8.ofNat a = UInt8.ofNat b) : a = b := by
  have := congrArg UInt8.toNat h
  rwa [UInt8.toNat_ofNat_of_lt' ha, UInt8.toNat_ofNat_of_lt' hb] at this
theorem hd_first {n p : Nat} (hn : n < 18446744073709551616) : ∃ k r, hdL n p = UInt8.ofNat (p + k) :: r ∧ k < 64 ∧ ((n < 56 ∧ k = n ∧ r = []) ∨ (56 ≤ n ∧ k = 55 + (ben n).length ∧ 56 ≤ k ∧ r = ben n)) := by
  unfold hdL
  by_cases h : n < 56
  · rw [if_pos h]
    exact ⟨n, [], rfl, by omega, .inl ⟨h, rfl, rfl⟩⟩
  · rw [if_neg h]
    have h1 := ben_le hn
    have h2 := ben_pos hn (by omega)
    exact ⟨55 + (ben n).length, ben n, by rw [Nat.add_assoc], by omega, .inr ⟨by omega, rfl, by omega, rfl⟩⟩
theorem hd_apart {m n p q : Nat} {r s : List UInt8} (hm : m < 18446744073709551616) (hn : n < 18446744073709551616) (hp : p = 128 ∨ p = 192) (hq : q = 128 ∨ q = 192) (h : hdL m p ++ r = hdL n q ++ s) : p = q ∧ m = n ∧ r = s := by
  obtain ⟨k, x, e1, hk, c1⟩ := hd_first (p := p) hm
  obtain ⟨l, y, e2, hl, c2⟩ := hd_first (p := q) hn
  rw [e1, e2, List.cons_append, List.cons_append] at h
  obtain ⟨h0, h1⟩ := List.cons.inj h
  have hpk : p + k < 256 := by omega
  have hql : q + l < 256 := by omega
  have h2 := ofNat_inj hpk hql h0
  have hpq : p = q ∧ k = l := by omega
  obtain ⟨rfl, rfl⟩ := hpq
  refine ⟨rfl, ?_⟩
  rcases c1 with ⟨a1, a2, a3⟩ | ⟨a1, a2, a3, a4⟩ <;> rcases c2 with ⟨b1, b2, b3⟩ | ⟨b1, b2, b3, b4⟩
  · subst a3 b3
    exact ⟨by omega, by simpa using h1⟩
  · omega
  · omega
  · rw [a4, b4] at h1
    clear a4 b4 e1 e2 h h0 h2
    have hlen : (ben m).length = (ben n).length := by omega
    obtain ⟨h3, h4⟩ := List.append_inj h1 hlen
    exact ⟨ben_inj hm hn h3, h4⟩

/-- An item: bytes, or a list of items; or what is neither. -/
inductive It where
  | mk (list : Bool) (bytes : List UInt8) (items : List It)

mutual
def bytesI : It → List UInt8
  | .mk true _ xs => hdL (bytesIs xs).length 192 ++ bytesIs xs
  | .mk false b _ => if b.length = 1 ∧ (b.headD 0).toNat < 128 then b else hdL b.length 128 ++ b
def bytesIs : List It → List UInt8
  | [] => []
  | x :: xs => bytesI x ++ bytesIs xs
end
mutual
def deepI : It → Nat
  | .mk true _ xs => deepIs xs + 1
  | .mk false _ _ => 0
def deepIs : List It → Nat
  | [] => 0
  | x :: xs => max (deepI x) (deepIs xs)
end
mutual
/-- What is wrong with an item that stands in so many lists. -/
def formI (d : Nat) : It → Nat
  | .mk l b xs => if (l = true ∧ b ≠ []) ∨ (l = false ∧ xs ≠ []) then 2 else if l = false then 0 else if 12 ≤ d then 7 else if 512 < xs.length then 5 else formIs (d + 1) xs
def formIs (d : Nat) : List It → Nat
  | [] => 0
  | x :: xs => if formI d x ≠ 0 then formI d x else formIs d xs
end
def checkI (x : It) : Nat := if formI 0 x = 0 ∧ 65536 < (bytesI x).length then 5 else formI 0 x
def encodeI (x : It) : List UInt8 × Nat := if checkI x = 0 then (bytesI x, 0) else ([], checkI x)

theorem formI_ok {d : Nat} {l : Bool} {b : List UInt8} {xs : List It} (h : formI d (.mk l b xs) = 0) : (l = true → b = [] ∧ d < 12 ∧ xs.length ≤ 512 ∧ formIs (d + 1) xs = 0) ∧ (l = false → xs = []) := by
  unfold formI at h
  split at h
  · cases h
  · rename_i h1
    have hb : l = true → b = [] := fun hl => by
      rcases List.eq_nil_or_concat b with e | ⟨_, _, e⟩
      · exact e
      · exact absurd (.inl ⟨hl, by rw [e]; simp⟩) h1
    have hx : l = false → xs = [] := fun hl => by
      cases xs with
      | nil => rfl
      | cons x xs => exact absurd (.inr ⟨hl, by simp⟩) h1
    refine ⟨fun hl => ?_, hx⟩
    rw [if_neg (by rw [hl]; simp)] at h
    split at h
    · cases h
    · rename_i h2
      split at h
      · cases h
      · rename_i h3
        exact ⟨hb hl, by omega, by omega, h⟩
theorem formIs_ok {d : Nat} {x : It} {xs : List It} (h : formIs d (x :: xs) = 0) : formI d x = 0 ∧ formIs d xs = 0 := by
  unfold formIs at h
  split at h
  · rename_i h1; exact absurd h h1
  · rename_i h1; exact ⟨by omega, h⟩

theorem bytesI_ne (x : It) (h : (bytesI x).length = 0) : False := by
  have h' := List.eq_nil_of_length_eq_zero h
  match x with
  | .mk true _ xs =>
    rw [bytesI] at h'
    exact hdL_ne _ _ (List.append_eq_nil_iff.1 h').1
  | .mk false b _ =>
    rw [bytesI] at h'
    split at h'
    · rename_i h1; rw [h'] at h1; simp at h1
    · exact hdL_ne _ _ (List.append_eq_nil_iff.1 h').1

/-- The first byte of bytes' own, and of a list's. -/
theorem short_first {b : List UInt8} (h : b.length = 1 ∧ (b.headD 0).toNat < 128) : ∃ c, b = [c] ∧ c.toNat < 128 := by
  obtain ⟨h1, h2⟩ := h
  match b, h1 with
  | [c], _ => exact ⟨c, rfl, h2⟩
theorem hd_high {n p : Nat} (hn : n < 18446744073709551616) (hp : p = 128 ∨ p = 192) {c : UInt8} {r s : List UInt8} (h : hdL n p ++ r = c :: s) : 128 ≤ c.toNat := by
  obtain ⟨k, x, e1, hk, _⟩ := hd_first (p := p) hn
  rw [e1, List.cons_append] at h
  obtain ⟨h0, _⟩ := List.cons.inj h
  rw [← h0, UInt8.toNat_ofNat_of_lt' (by show p + k < 256; omega)]
  omega

mutual
/-- **NO ITEM'S BYTES BEGIN ANOTHER ONE'S**, whatever stands behind. -/
theorem bytes_apart : ∀ (a b : It) (d e : Nat) (r s : List UInt8), formI d a = 0 → formI e b = 0 → (bytesI a).length < 18446744073709551616 → (bytesI b).length < 18446744073709551616 → bytesI a ++ r = bytesI b ++ s → a = b ∧ r = s
  | .mk la ba xs, .mk lb bb ys, d, e, r, s, ha, hb, la64, lb64, h => by
    obtain ⟨ha1, ha2⟩ := formI_ok ha
    obtain ⟨hb1, hb2⟩ := formI_ok hb
    cases la <;> cases lb
    · obtain rfl := ha2 rfl
      obtain rfl := hb2 rfl
      rw [bytesI] at la64 lb64 h
      rw [bytesI] at h
      by_cases h1 : ba.length = 1 ∧ (ba.headD 0).toNat < 128
      · rw [if_pos h1] at h la64
        obtain ⟨c, rfl, hc⟩ := short_first h1
        by_cases h2 : bb.length = 1 ∧ (bb.headD 0).toNat < 128
        · rw [if_pos h2] at h
          obtain ⟨c', rfl, hc'⟩ := short_first h2
          simp only [List.cons_append, List.nil_append, List.cons.injEq] at h
          obtain ⟨rfl, rfl⟩ := h
          exact ⟨rfl, rfl⟩
        · rw [if_neg h2] at h lb64
          rw [List.append_assoc] at h
          have := hd_high (by rw [List.length_append] at lb64; omega) (.inl rfl) h.symm
          omega
      · rw [if_neg h1] at h la64
        by_cases h2 : bb.length = 1 ∧ (bb.headD 0).toNat < 128
        · rw [if_pos h2] at h
          obtain ⟨c', rfl, hc'⟩ := short_first h2
          rw [List.append_assoc] at h
          have := hd_high (by rw [List.length_append] at la64; omega) (.inl rfl) h
          omega
        · rw [if_neg h2] at h lb64
          rw [List.append_assoc, List.append_assoc] at h
          rw [List.length_append] at la64 lb64
          obtain ⟨_, h3, h4⟩ := hd_apart (by omega) (by omega) (.inl rfl) (.inl rfl) h
          obtain ⟨h5, h6⟩ := List.append_inj h4 h3
          exact ⟨by rw [h5], h6⟩
    · obtain rfl := ha2 rfl
      rw [bytesI] at la64 h
      rw [bytesI] at lb64 h
      rw [List.length_append] at lb64
      rw [List.append_assoc] at h
      by_cases h1 : ba.length = 1 ∧ (ba.headD 0).toNat < 128
      · rw [if_pos h1] at h
        obtain ⟨c, rfl, hc⟩ := short_first h1
        have := hd_high (by omega) (.inr rfl) h.symm
        omega
      · rw [if_neg h1] at h la64
        rw [List.append_assoc] at h
        rw [List.length_append] at la64
        have := (hd_apart (by omega) (by omega) (.inl rfl) (.inr rfl) h).1
        omega
    · obtain rfl := hb2 rfl
      rw [bytesI] at la64 h
      rw [bytesI] at lb64 h
      rw [List.length_append] at la64
      rw [List.append_assoc] at h
      by_cases h1 : bb.length = 1 ∧ (bb.headD 0).toNat < 128
      · rw [if_pos h1] at h
        obtain ⟨c, rfl, hc⟩ := short_first h1
        have := hd_high (by omega) (.inr rfl) h
        omega
      · rw [if_neg h1] at h lb64
        rw [List.append_assoc] at h
        rw [List.length_append] at lb64
        have := (hd_apart (by omega) (by omega) (.inr rfl) (.inl rfl) h).1
        omega
    · obtain ⟨rfl, _, _, ha3⟩ := ha1 rfl
      obtain ⟨rfl, _, _, hb3⟩ := hb1 rfl
      rw [bytesI] at la64 lb64 h
      rw [bytesI] at h
      rw [List.length_append] at la64 lb64
      rw [List.append_assoc, List.append_assoc] at h
      obtain ⟨_, h3, h4⟩ := hd_apart (by omega) (by omega) (.inr rfl) (.inr rfl) h
      obtain ⟨h5, h6⟩ := List.append_inj h4 h3
      have := all_apart xs ys (d + 1) (e + 1) ha3 hb3 (by omega) (by omega) h5
      exact ⟨by rw [this], h6⟩
theorem all_apart : ∀ (xs ys : List It) (d e : Nat), formIs d xs = 0 → formIs e ys = 0 → (bytesIs xs).length < 18446744073709551616 → (bytesIs ys).length < 18446744073709551616 → bytesIs xs = bytesIs ys → xs = ys
  | [], [], _, _, _, _, _, _, _ => rfl
  | [], y :: ys, _, _, _, _, _, _, h => by
    simp only [bytesIs] at h
    exact (bytesI_ne y (by rw [(List.append_eq_nil_iff.1 h.symm).1]; rfl)).elim
  | x :: xs, [], _, _, _, _, _, _, h => by
    simp only [bytesIs] at h
    exact (bytesI_ne x (by rw [(List.append_eq_nil_iff.1 h).1]; rfl)).elim
  | x :: xs, y :: ys, d, e, hx, hy, lx, ly, h => by
    rw [bytesIs] at lx ly h
    rw [bytesIs] at h
    rw [List.length_append] at lx ly
    obtain ⟨h1, h2⟩ := formIs_ok hx
    obtain ⟨h3, h4⟩ := formIs_ok hy
    obtain ⟨h5, h6⟩ := bytes_apart x y d e _ _ h1 h3 (by omega) (by omega) h
    rw [h5, all_apart xs ys d e h2 h4 (by omega) (by omega) h6]
end
end Go.Proofs.Ytgeeoefcepjniaa.M
