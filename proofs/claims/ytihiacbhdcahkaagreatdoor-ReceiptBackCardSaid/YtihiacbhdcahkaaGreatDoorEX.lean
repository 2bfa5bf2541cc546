/- What the law of the way back wants of the texts before. -/
import Derived.Test.YtihiacbhdcahkaaGreatDoorH28
import Derived.Shelf.Abstract
namespace Go.Proofs.YtihiacbhdcahkaaGreatDoor.M
theorem dg_ben {n : Nat} (h : n < 18446744073709551616) : dg (ben n) = n := by unfold ben; rw [dg_tr, dg_f32 (in64' h)]
theorem ben_pos {n : Nat} (h : n < 18446744073709551616) (h0 : 0 < n) : 1 ≤ (ben n).length := by
  rcases Nat.eq_zero_or_pos (ben n).length with h1 | h1
  · have h2 := dg_ben h
    rw [List.eq_nil_of_length_eq_zero h1] at h2
    simp [dg, dgA] at h2
    omega
  · exact h1
/-- How many digits a length of a few bytes has. -/
theorem ben_width {n k : Nat} (h : n < 18446744073709551616) (_hk : k ≤ 8) : (ben n).length ≤ k ↔ n < 256 ^ k := by
  constructor
  · intro hl
    rw [← dg_ben h]
    exact Nat.lt_of_lt_of_le (dg_lt _) (Nat.pow_le_pow_right (by omega) hl)
  · intro hn
    rcases Nat.lt_or_ge k (ben n).length with hlt | hge
    · exfalso
      have hne : ben n ≠ [] := fun e => by rw [e] at hlt; simp at hlt
      obtain ⟨c, r, e⟩ := List.exists_cons_of_ne_nil hne
      have hc : c ≠ 0 := tr_head _ c r e
      have hd := dg_ben h
      rw [e] at hd hlt
      have h1 : dg (c :: r) = c.toNat * 256 ^ r.length + dg r := by
        rw [show c :: r = [c] ++ r from rfl, dg_append]
        simp [dg, dgA]
      have hc1 : 1 ≤ c.toNat := by
        rcases Nat.eq_zero_or_pos c.toNat with h0 | h0
        · exact absurd (UInt8.toNat_inj.1 (by simpa using h0)) hc
        · exact h0
      have h2 : 256 ^ k ≤ 256 ^ r.length := Nat.pow_le_pow_right (by omega) (by simp at hlt; omega)
      have h3 : 256 ^ r.length ≤ c.toNat * 256 ^ r.length := Nat.le_mul_of_pos_left _ hc1
      omega
    · exact hge

theorem hd_first {n p : Nat} (hn : n < 18446744073709551616) : ∃ k r, hdL n p = UInt8.ofNat (p + k) :: r ∧ k < 64 ∧ ((n < 56 ∧ k = n ∧ r = []) ∨ (56 ≤ n ∧ k = 55 + (ben n).length ∧ 56 ≤ k ∧ r = ben n)) := by
  unfold hdL
  by_cases h : n < 56
  · rw [if_pos h]
    exact ⟨n, [], rfl, by omega, .inl ⟨h, rfl, rfl⟩⟩
  · rw [if_neg h]
    have h1 := ben_le hn
    have h2 := ben_pos hn (by omega)
    exact ⟨55 + (ben n).length, ben n, by rw [Nat.add_assoc], by omega, .inr ⟨by omega, rfl, by omega, rfl⟩⟩
/-- The first byte of bytes' own, and of a list's. -/
theorem short_first {b : List UInt8} (h : b.length = 1 ∧ (b.headD 0).toNat < 128) : ∃ c, b = [c] ∧ c.toNat < 128 := by
  obtain ⟨h1, h2⟩ := h
  match b, h1 with
  | [c], _ => exact ⟨c, rfl, h2⟩
end Go.Proofs.YtihiacbhdcahkaaGreatDoor.M
namespace Go.Proofs.YtihiacbhdcahkaaGreatDoor.M
theorem cntIs_append (xs ys : List It) : cntIs (xs ++ ys) = cntIs xs + cntIs ys := by
  induction xs with
  | nil => simp [cntIs]
  | cons x xs ih => rw [List.cons_append, cntIs, cntIs, ih, Nat.add_assoc]
end Go.Proofs.YtihiacbhdcahkaaGreatDoor.M
namespace Go.Proofs.YtihiacbhdcahkaaGreatDoor.M
/-- A number has so few bytes just where it is so small. -/
theorem tr_width {N k : Nat} (hN : In N) : (tr (f32 N)).length ≤ k ↔ N < 256 ^ k := by
  have e := dg_tr (f32 N)
  rw [dg_f32 hN] at e
  constructor
  · intro hl
    rw [← e]
    exact Nat.lt_of_lt_of_le (dg_lt _) (Nat.pow_le_pow_right (by omega) hl)
  · intro h
    rcases Nat.lt_or_ge k (tr (f32 N)).length with hl | hl
    · exfalso
      match ht : tr (f32 N) with
      | [] => rw [ht] at hl; simp at hl
      | c :: r =>
        have hc := tr_head _ c r ht
        rw [ht] at e hl
        have e2 : dg (c :: r) = dgA (0 * 256 + c.toNat) r := rfl
        rw [e2, dgA_eq] at e
        have hc1 : 1 ≤ c.toNat := by
          rcases Nat.eq_zero_or_pos c.toNat with h0 | h0
          · exact absurd (UInt8.toNat.inj (by simpa using h0)) hc
          · exact h0
        have hp : 256 ^ k ≤ 256 ^ r.length := Nat.pow_le_pow_right (by omega) (by simp at hl; omega)
        have : 1 * 256 ^ r.length ≤ (0 * 256 + c.toNat) * 256 ^ r.length := Nat.mul_le_mul_right _ (by omega)
        omega
    · exact hl

end Go.Proofs.YtihiacbhdcahkaaGreatDoor.M
namespace Go.Proofs.YtihiacbhdcahkaaGreatDoor.M
open Go
theorem pre0 {l : List UInt8} (h : ∀ c r, l = c :: r → c ≠ 0) : Lib.hasPrefix l [0] = false := by
  cases l with
  | nil => rfl
  | cons c r =>
    have := h c r rfl
    simp [Lib.hasPrefix, List.isPrefixOf, Ne.symm this]

theorem in64 {N : Nat} (h : N < 18446744073709551616) : In N := by unfold In; omega

theorem ub_be {N : Nat} (h : N < 18446744073709551616) : ub (tr (f32 N)) = (N, 0) := by
  have h8 := (tr_small (in64 h)).2 h
  unfold ub
  rw [if_neg (by omega), pre0 (tr_head _), dg_tr, dg_f32 (in64 h)]
  rfl
end Go.Proofs.YtihiacbhdcahkaaGreatDoor.M
namespace Go.Proofs.YtihiacbhdcahkaaGreatDoor.M
theorem ben_head {n : Nat} : ∀ c r, ben n = c :: r → c ≠ 0 := tr_head _
theorem ben_3 {n : Nat} (h : n ≤ 65536) (h56 : 56 ≤ n) : 1 ≤ (ben n).length ∧ (ben n).length ≤ 3 := ⟨ben_pos (by omega) (by omega), (ben_width (by omega) (by omega)).2 (by omega)⟩

theorem hdLong_ben {n : Nat} {own r : List UInt8} {l : Bool} (hn : own.length = n) (h : n ≤ 65536) (h56 : 56 ≤ n) : hdLong (ben n ++ (own ++ r)) (ben n).length l = ⟨1 + (ben n).length, n, l, 0⟩ := by
  obtain ⟨h1, h3⟩ := ben_3 h h56
  have hd : dg ((ben n ++ (own ++ r)).take (ben n).length) = n := by rw [List.take_left]; exact dg_ben (by omega)
  have hh : (ben n ++ (own ++ r)).headD 0 ≠ 0 := by
    cases hb : ben n with
    | nil => rw [hb] at h1; simp at h1
    | cons c s => simpa using ben_head c s hb
  unfold hdLong
  rw [hd, if_neg (by omega), if_neg (by rw [List.length_append]; omega), if_neg (by intro h'; rcases h' with h' | h'; exact hh h'; omega), if_neg (by simp only [List.length_append]; omega)]
theorem hdT_list {own r : List UInt8} (h : own.length ≤ 65536) : hdT (hdL own.length 192 ++ (own ++ r)) = ⟨(hdL own.length 192).length, own.length, true, 0⟩ := by
  unfold hdL
  by_cases h56 : own.length < 56
  · rw [if_pos h56, List.singleton_append, hdT]
    have e : (UInt8.ofNat (192 + own.length)).toNat = 192 + own.length := UInt8.toNat_ofNat_of_lt' (by show 192 + own.length < 256; omega)
    rw [e, if_neg (by omega), if_neg (by omega), if_neg (by omega), if_pos (by omega), if_neg (by rw [List.length_append]; omega)]
    simp
  · obtain ⟨h1, h3⟩ := ben_3 h (by omega)
    rw [if_neg h56, List.cons_append, hdT]
    have e : (UInt8.ofNat (192 + 55 + (ben own.length).length)).toNat = 247 + (ben own.length).length := by rw [UInt8.toNat_ofNat_of_lt' (by show 192 + 55 + (ben own.length).length < 256; omega)]
    rw [e, if_neg (by omega), if_neg (by omega), if_neg (by omega), if_neg (by omega), show 247 + (ben own.length).length - 247 = (ben own.length).length by omega, hdLong_ben rfl h (by omega)]
    simp only [List.length_cons, Nat.add_comm]
theorem hdT_bytes {own r : List UInt8} (h : own.length ≤ 65536) (hs : ¬ (own.length = 1 ∧ (own.headD 0).toNat < 128)) : hdT (hdL own.length 128 ++ (own ++ r)) = ⟨(hdL own.length 128).length, own.length, false, 0⟩ := by
  unfold hdL
  by_cases h56 : own.length < 56
  · rw [if_pos h56, List.singleton_append, hdT]
    have e : (UInt8.ofNat (128 + own.length)).toNat = 128 + own.length := UInt8.toNat_ofNat_of_lt' (by show 128 + own.length < 256; omega)
    rw [e, if_neg (by omega), if_pos (by omega), if_neg (by rw [List.length_append]; omega), if_neg ?_]
    · simp
    · rintro ⟨h1, h2⟩
      have h1' : own.length = 1 := by omega
      refine hs ⟨h1', ?_⟩
      match own, h1' with
      | [c], _ => simpa using h2
  · obtain ⟨h1, h3⟩ := ben_3 h (by omega)
    rw [if_neg h56, List.cons_append, hdT]
    have e : (UInt8.ofNat (128 + 55 + (ben own.length).length)).toNat = 183 + (ben own.length).length := by rw [UInt8.toNat_ofNat_of_lt' (by show 128 + 55 + (ben own.length).length < 256; omega)]
    rw [e, if_neg (by omega), if_neg (by omega), if_pos (by omega), show 183 + (ben own.length).length - 183 = (ben own.length).length by omega, hdLong_ben rfl h (by omega)]
    simp only [List.length_cons, Nat.add_comm]

def isL : It → Bool
  | .mk l _ _ => l
theorem hdT_item (x : It) (r : List UInt8) (h : (bytesI x).length ≤ 65536) : hdT (bytesI x ++ r) = ⟨offI x, (ownI x).length, isL x, 0⟩ := by
  match x with
  | .mk true _ xs =>
    rw [bytesI, List.length_append] at h
    rw [bytesI, List.append_assoc, hdT_list (by omega), offI, ownI, isL]
  | .mk false b _ =>
    by_cases hs : b.length = 1 ∧ (b.headD 0).toNat < 128
    · rw [bytesI, if_pos hs, offI, if_pos hs, ownI, isL]
      obtain ⟨c, rfl, hc⟩ := short_first hs
      rw [List.singleton_append, hdT, if_pos hc]
      rfl
    · rw [bytesI, if_neg hs, List.length_append] at h
      rw [bytesI, if_neg hs, offI, if_neg hs, ownI, isL, List.append_assoc, hdT_bytes (by omega) hs]
theorem bytes_own (x : It) (r : List UInt8) : ((bytesI x ++ r).drop (offI x)).take (ownI x).length = ownI x ∧ (bytesI x ++ r).drop (offI x + (ownI x).length) = r := by
  obtain ⟨h, e, hl⟩ := bytes_split x
  rw [e, ← hl]
  refine ⟨by rw [List.append_assoc, List.drop_left, List.take_left], ?_⟩
  rw [← List.length_append, List.drop_left]
theorem bytes_first (x : It) (r : List UInt8) (h : (bytesI x).length < 18446744073709551616) : isL x = false → ((bytesI x ++ r).headD 0).toNat < 192 := by
  match x with
  | .mk true _ _ => intro h'; simp [isL] at h'
  | .mk false b _ =>
    intro _
    by_cases hs : b.length = 1 ∧ (b.headD 0).toNat < 128
    · rw [bytesI, if_pos hs]
      obtain ⟨c, rfl, hc⟩ := short_first hs
      simp; omega
    · rw [bytesI, if_neg hs, List.length_append] at h
      rw [bytesI, if_neg hs]
      obtain ⟨k, r', e, hk, _⟩ := hd_first (n := b.length) (p := 128) (by omega)
      rw [e]
      simp only [List.cons_append, List.headD_cons]
      rw [UInt8.toNat_ofNat_of_lt' (by show 128 + k < 256; omega)]
      omega

mutual
/-- **WHAT IS ENCODED IS READ**, whatever stands behind. -/
theorem read_back : ∀ (x : It) (d n : Nat) (r : List UInt8), formI d x = 0 → (bytesI x).length ≤ 65536 → 2 * (bytesI x).length + 1 ≤ n → readT n (bytesI x ++ r) d = (x, r, 0)
  | .mk false b xs, d, n, r, hf, hl, hn => by
    obtain ⟨m, rfl⟩ : ∃ m, n = m + 1 := ⟨n - 1, by omega⟩
    obtain ⟨_, h2⟩ := formI_ok hf
    obtain rfl := h2 rfl
    have e := hdT_item (.mk false b []) r hl
    have e1 := bytes_own (.mk false b []) r
    have e2 := bytes_first (.mk false b []) r (by omega) rfl
    rw [readT, e]
    rw [if_neg (by omega), if_neg (by simp)]
    have e3 : isL (.mk false b []) = false := rfl
    simp only [e3, if_true, e1.1, e1.2]
    rfl
  | .mk true b xs, d, n, r, hf, hl, hn => by
    obtain ⟨m, rfl⟩ : ∃ m, n = m + 1 := ⟨n - 1, by omega⟩
    obtain ⟨h1, _⟩ := formI_ok hf
    obtain ⟨rfl, h3, h4, h5⟩ := h1 rfl
    have e := hdT_item (.mk true [] xs) r hl
    have e1 := bytes_own (.mk true [] xs) r
    have hlen := bytes_len (.mk true [] xs)
    have hoff : 1 ≤ offI (.mk true [] xs) := by
      rw [offI]
      have := hdL_ne (bytesIs xs).length 192
      have := List.length_pos_iff.2 this
      omega
    have eo : ownI (.mk true [] xs) = bytesIs xs := by rw [ownI]
    have ei := items_back xs (d + 1) 0 m h5 (by rw [eo] at hlen; omega) (by omega) (by rw [eo] at hlen; omega)
    rw [readT, e]
    rw [if_neg (by omega), if_neg (by simp)]
    have e3 : isL (.mk true [] xs) = true := rfl
    rw [eo] at e1
    simp only [e3, eo, e1.1, e1.2, ei]
    simp
theorem items_back : ∀ (xs : List It) (d k n : Nat), formIs d xs = 0 → (bytesIs xs).length ≤ 65536 → k + xs.length ≤ 512 → 2 * (bytesIs xs).length + 2 ≤ n → itemsT n (bytesIs xs) d k = (xs, 0)
  | [], d, k, n, _, _, _, hn => by
    obtain ⟨m, rfl⟩ : ∃ m, n = m + 1 := ⟨n - 1, by omega⟩
    rw [bytesIs, itemsT, if_pos rfl]
  | x :: xs, d, k, n, hf, hl, hk, hn => by
    obtain ⟨m, rfl⟩ : ∃ m, n = m + 1 := ⟨n - 1, by omega⟩
    obtain ⟨h1, h2⟩ := formIs_ok hf
    have hne : bytesIs (x :: xs) ≠ [] := by
      rw [bytesIs]
      intro h
      exact bytesI_ne x (by rw [(List.append_eq_nil_iff.1 h).1]; rfl)
    have hp : 1 ≤ (bytesI x).length := Nat.pos_of_ne_zero (fun h => bytesI_ne x h)
    rw [List.length_cons] at hk
    rw [bytesIs, List.length_append] at hl hn
    have e1 := read_back x d m (bytesIs xs) h1 (by omega) (by omega)
    have e2 := items_back xs d (k + 1) m h2 (by omega) (by omega) (by omega)
    rw [itemsT, if_neg hne, if_neg (by omega)]
    rw [bytesIs, e1]
    simp [e2]
end
end Go.Proofs.YtihiacbhdcahkaaGreatDoor.M
namespace Go.Proofs.YtihiacbhdcahkaaGreatDoor.M
theorem dec_back {x : It} (h : checkI x = 0) : decodeL (bytesI x) = (x, 0) := by
  obtain ⟨h1, h2⟩ := checkI_ok.1 h
  have e := read_back x 0 (2 * (bytesI x).length + 1) [] h1 h2 (Nat.le_refl _)
  rw [List.append_nil] at e
  unfold decodeL
  rw [if_neg (by omega), e]
  simp
end Go.Proofs.YtihiacbhdcahkaaGreatDoor.M
namespace Go.Proofs.YtihiacbhdcahkaaGreatDoor.M
open Go
theorem within_ok {n : Nat} {least most : Int} (h1 : least ≤ n) (h2 : (n : Int) ≤ most) : within n least most = 0 := by
  unfold within
  rw [if_neg (by omega), if_neg (by omega)]
theorem ofBytes_text {α : Type} (z : α) (f : List UInt8 → α × Nat) (d : List UInt8) : ofBytes z f (textI d) = f d := rfl
theorem number_back {n : Nat} (h : n < 18446744073709551616) : getNumber (textI (ben n)) = (n, 0) := by
  rw [getNumber, ofBytes_text]
  exact ub_be h
theorem text_in (s : List UInt8) (least most : Int) (h1 : least ≤ s.length) (h2 : (s.length : Int) ≤ most) : getText least most (textI s) = (s, 0) := by
  show gText _ _ s = _
  unfold gText
  rw [within_ok h1 h2, if_neg (by simp)]
theorem bool_back (v : Bool) : getBool (boolI v) = (v, 0) := by cases v <;> rfl
end Go.Proofs.YtihiacbhdcahkaaGreatDoor.M
namespace Go.Proofs.YtihiacbhdcahkaaGreatDoor
open Go Go.RowKit Go.Shelf
namespace M
theorem sameR_iff {x y : Rc} : sameR x y = true ↔ x = y := by
  obtain ⟨a, b, c, d, e, f, g⟩ := x
  obtain ⟨a', b', c', d', e', f', g'⟩ := y
  simp [sameR, sameLs_iff]
end M
end Go.Proofs.YtihiacbhdcahkaaGreatDoor
