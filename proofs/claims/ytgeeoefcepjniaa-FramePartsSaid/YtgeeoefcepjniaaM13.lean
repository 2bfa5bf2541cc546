/- Plain arithmetic: what a head tells; items read out of bytes; what is encoded is read, and nothing else. -/
import Derived.Test.YtgeeoefcepjniaaM12
namespace Go.Proofs.Ytgeeoefcepjniaa.M

/-- What a head tells: how much of it there is, what is its own, whether it is a list's, what is wrong. -/
structure Hd where
  off : Nat
  n : Nat
  list : Bool
  e : Nat
def hdErr (e : Nat) : Hd := ⟨0, 0, false, e⟩
/-- A head whose length stands in m bytes. -/
def hdLong (r : List UInt8) (m : Nat) (l : Bool) : Hd :=
  if 3 < m then hdErr 5 else if r.length < m then hdErr 3 else if r.headD 0 = 0 ∨ dg (r.take m) < 56 then hdErr 8
  else if r.length < m + dg (r.take m) then hdErr 3 else ⟨1 + m, dg (r.take m), l, 0⟩
def hdT : List UInt8 → Hd
  | [] => hdErr 3
  | c :: r =>
    if c.toNat < 128 then ⟨0, 1, false, 0⟩
    else if c.toNat < 184 then (if r.length < c.toNat - 128 then hdErr 3 else if c.toNat = 129 ∧ (r.headD 0).toNat < 128 then hdErr 8 else ⟨1, c.toNat - 128, false, 0⟩)
    else if c.toNat < 192 then hdLong r (c.toNat - 183) false
    else if c.toNat < 248 then (if r.length < c.toNat - 192 then hdErr 3 else ⟨1, c.toNat - 192, true, 0⟩)
    else hdLong r (c.toNat - 247) true
/-- The same at a place. -/
def headL (s : List UInt8) (k : Nat) : Hd :=
  if s.length < k then hdErr 1 else if (hdT (s.drop k)).e = 0 then ⟨k + (hdT (s.drop k)).off, (hdT (s.drop k)).n, (hdT (s.drop k)).list, 0⟩ else hdErr (hdT (s.drop k)).e

def zeroI : It := .mk false [] []
mutual
/-- The item that begins these bytes, what is behind it, and what is wrong. -/
def readT : Nat → List UInt8 → Nat → It × List UInt8 × Nat
  | 0, _, _ => (zeroI, [], 3)
  | n + 1, t, d =>
    if 192 ≤ (t.headD 0).toNat ∧ 12 ≤ d then (zeroI, [], 7)
    else if (hdT t).e ≠ 0 then (zeroI, [], (hdT t).e)
    else if (hdT t).list = false then (.mk false ((t.drop (hdT t).off).take (hdT t).n) [], t.drop ((hdT t).off + (hdT t).n), 0)
    else if (itemsT n ((t.drop (hdT t).off).take (hdT t).n) (d + 1) 0).2 ≠ 0 then (zeroI, [], (itemsT n ((t.drop (hdT t).off).take (hdT t).n) (d + 1) 0).2)
    else (.mk true [] (itemsT n ((t.drop (hdT t).off).take (hdT t).n) (d + 1) 0).1, t.drop ((hdT t).off + (hdT t).n), 0)
/-- The items that these bytes are, k ahead of them. -/
def itemsT : Nat → List UInt8 → Nat → Nat → List It × Nat
  | 0, _, _, _ => ([], 3)
  | n + 1, t, d, k =>
    if t = [] then ([], 0)
    else if 512 ≤ k then ([], 5)
    else if (readT n t d).2.2 ≠ 0 then ([], (readT n t d).2.2)
    else if (itemsT n (readT n t d).2.1 d (k + 1)).2 ≠ 0 then ([], (itemsT n (readT n t d).2.1 d (k + 1)).2)
    else ((readT n t d).1 :: (itemsT n (readT n t d).2.1 d (k + 1)).1, 0)
end
def decodeL (s : List UInt8) : It × Nat :=
  if 65536 < s.length then (zeroI, 5)
  else if (readT (2 * s.length + 1) s 0).2.2 ≠ 0 then (zeroI, (readT (2 * s.length + 1) s 0).2.2)
  else if (readT (2 * s.length + 1) s 0).2.1 ≠ [] then (zeroI, 4)
  else ((readT (2 * s.length + 1) s 0).1, 0)

/-- Digits that are no more than are needed. -/
theorem ben_dg {l : List UInt8} (h : l.length ≤ 8) (h0 : ∀ c r, l = c :: r → c ≠ 0) : ben (dg l) = l := by
  unfold ben
  have h1 : (List.replicate (32 - l.length) (0 : UInt8) ++ l).length = 32 := by simp; omega
  have h2 := f32_dg h1
  rw [dg_zeros] at h2
  rw [h2, tr_zeros _ _ h0]
theorem ben_head {n : Nat} : ∀ c r, ben n = c :: r → c ≠ 0 := tr_head _
theorem ben_3 {n : Nat} (h : n ≤ 65536) (h56 : 56 ≤ n) : 1 ≤ (ben n).length ∧ (ben n).length ≤ 3 := ⟨ben_pos (by omega) (by omega), (ben_width (by omega) (by omega)).2 (by omega)⟩

theorem hdLong_ben {n : Nat} {own r : List UInt8} {l : Bool} (hn : own.length = n) (h : n ≤ 65536) (h56 : 56 ≤ n) : hdLong (ben n ++ (own ++ r)) (ben n).length l = ⟨1 + (ben n).length, n, l, 0⟩ := by
  obtain ⟨h1, h3⟩ := ben_3 h h56
  have hd : dg ((ben n ++ (own ++ r)).take (ben n).length) = n := by rw [List.take_left]; exact dg_ben (by omega)
  have hh : (ben n ++ (own ++ r)).headD 0 ≠ 0 := by
    cases hb : ben n with
    | nil => rw [hb] at h1; simp at h1
    | cons c s => simpa using ben_head c s hb
  unfold hdLong
  rw [hd, if_neg (by omega), if_neg (by rw [List.length_append]; omega), if_neg (by intro h'; rcases h' with h' | h'; exact hh h'; omega), if_neg (by simp only [List.length_append]; omega)]
theorem hdT_list {own r : List UInt8} (h : own.length ≤ 65536) : hdT (hdL own.length 192 ++ (own ++ r)) = ⟨(hdL own.length 192).length, own.length, true, 0⟩ := by
  unfold hdL
  by_cases h56 : own.length < 56
  · rw [if_pos h56, List.singleton_append, hdT]
    have e : (UInt8.ofNat (192 + own.length)).toNat = 192 + own.length := UInt8.toNat_ofNat_of_lt' (by show 192 + own.length < 256; omega)
    rw [e, if_neg (by omega), if_neg (by omega), if_neg (by omega), if_pos (by omega), if_neg (by rw [List.length_append]; omega)]
    simp
  · obtain ⟨h1, h3⟩ := ben_3 h (by omega)
    rw [if_neg h56, List.cons_append, hdT]
    have e : (UInt8.ofNat (192 + 55 + (ben own.length).length)).toNat = 247 + (ben own.length).length := by rw [UInt8.toNat_ofNat_of_lt' (by show 192 + 55 + (ben own.length).length < 256; omega)]
    rw [e, if_neg (by omega), if_neg (by omega), if_neg (by omega), if_neg (by omega), show 247 + (ben own.length).length - 247 = (ben own.length).length by omega, hdLong_ben rfl h (by omega)]
    simp only [List.length_cons, Nat.add_comm]
theorem hdT_bytes {own r : List UInt8} (h : own.length ≤ 65536) (hs : ¬ (own.length = 1 ∧ (own.headD 0).toNat < 128)) : hdT (hdL own.length 128 ++ (own ++ r)) = ⟨(hdL own.length 128).length, own.length, false, 0⟩ := by
  unfold hdL
  by_cases h56 : own.length < 56
  · rw [if_pos h56, List.singleton_append, hdT]
    have e : (UInt8.ofNat (128 + own.length)).toNat = 128 + own.length := UInt8.toNat_ofNat_of_lt' (by show 128 + own.length < 256; omega)
    rw [e, if_neg (by omega), if_pos (by omega), if_neg (by rw [List.length_append]; omega), if_neg ?_]
    · simp
    · rintro ⟨h1, h2⟩
      have h1' : own.length = 1 := by omega
      refine hs ⟨h1', ?_⟩
      match own, h1' with
      | [c], _ => simpa using h2
  · obtain ⟨h1, h3⟩ := ben_3 h (by omega)
    rw [if_neg h56, List.cons_append, hdT]
    have e : (UInt8.ofNat (128 + 55 + (ben own.length).length)).toNat = 183 + (ben own.length).length := by rw [UInt8.toNat_ofNat_of_lt' (by show 128 + 55 + (ben own.length).length < 256; omega)]
    rw [e, if_neg (by omega), if_neg (by omega), if_pos (by omega), show 183 + (ben own.length).length - 183 = (ben own.length).length by omega, hdLong_ben rfl h (by omega)]
    simp only [List.length_cons, Nat.add_comm]

/-- What a head of a right item tells. -/
def offI : It → Nat
  | .mk true _ xs => (hdL (bytesIs xs).length 192).length
  | .mk false b _ => if b.length = 1 ∧ (b.headD 0).toNat < 128 then 0 else (hdL b.length 128).length
def ownI : It → List UInt8
  | .mk true _ xs => bytesIs xs
  | .mk false b _ => b
def isL : It → Bool
  | .mk l _ _ => l
theorem bytes_split (x : It) : ∃ h, bytesI x = h ++ ownI x ∧ h.length = offI x := by
  match x with
  | .mk true _ xs => exact ⟨hdL (bytesIs xs).length 192, by rw [bytesI, ownI], by rw [offI]⟩
  | .mk false b _ =>
    by_cases hs : b.length = 1 ∧ (b.headD 0).toNat < 128
    · exact ⟨[], by rw [bytesI, ownI, if_pos hs]; rfl, by rw [offI, if_pos hs]; rfl⟩
    · exact ⟨hdL b.length 128, by rw [bytesI, ownI, if_neg hs], by rw [offI, if_neg hs]⟩
theorem hdT_item (x : It) (r : List UInt8) (h : (bytesI x).length ≤ 65536) : hdT (bytesI x ++ r) = ⟨offI x, (ownI x).length, isL x, 0⟩ := by
  match x with
  | .mk true _ xs =>
    rw [bytesI, List.length_append] at h
    rw [bytesI, List.append_assoc, hdT_list (by omega), offI, ownI, isL]
  | .mk false b _ =>
    by_cases hs : b.length = 1 ∧ (b.headD 0).toNat < 128
    · rw [bytesI, if_pos hs, offI, if_pos hs, ownI, isL]
      obtain ⟨c, rfl, hc⟩ := short_first hs
      rw [List.singleton_append, hdT, if_pos hc]
      rfl
    · rw [bytesI, if_neg hs, List.length_append] at h
      rw [bytesI, if_neg hs, offI, if_neg hs, ownI, isL, List.append_assoc, hdT_bytes (by omega) hs]
theorem bytes_len (x : It) : (bytesI x).length = offI x + (ownI x).length := by
  obtain ⟨h, e, hl⟩ := bytes_split x
  rw [e, List.length_append, hl]
theorem bytes_own (x : It) (r : List UInt8) : ((bytesI x ++ r).drop (offI x)).take (ownI x).length = ownI x ∧ (bytesI x ++ r).drop (offI x + (ownI x).length) = r := by
  obtain ⟨h, e, hl⟩ := bytes_split x
  rw [e, ← hl]
  refine ⟨by rw [List.append_assoc, List.drop_left, List.take_left], ?_⟩
  rw [← List.length_append, List.drop_left]
theorem bytes_first (x : It) (r : List UInt8) (h : (bytesI x).length < 18446744073709551616) : isL x = false → ((bytesI x ++ r).headD 0).toNat < 192 := by
  match x with
  | .mk true _ _ => intro h'; simp [isL] at h'
  | .mk false b _ =>
    intro _
    by_cases hs : b.length = 1 ∧ (b.headD 0).toNat < 128
    · rw [bytesI, if_pos hs]
      obtain ⟨c, rfl, hc⟩ := short_first hs
      simp; omega
    · rw [bytesI, if_neg hs, List.length_append] at h
      rw [bytesI, if_neg hs]
      obtain ⟨k, r', e, hk, _⟩ := hd_first (n := b.length) (p := 128) (by omega)
      rw [e]
      simp only [List.cons_append, List.headD_cons]
      rw [UInt8.toNat_ofNat_of_lt' (by show 128 + k < 256; omega)]
      omega

mutual
/-- **WHAT IS ENCODED IS READ**, whatever stands behind. -/
theorem read_back : ∀ (x : It) (d n : Nat) (r : List UInt8), formI d x = 0 → (bytesI x).length ≤ 65536 → 2 * (bytesI x).length + 1 ≤ n → readT n (bytesI x ++ r) d = (x, r, 0)
  | .mk false b xs, d, n, r, hf, hl, hn => by
    obtain ⟨m, rfl⟩ : ∃ m, n = m + 1 := ⟨n - 1, by omega⟩
    obtain ⟨_, h2⟩ := formI_ok hf
    obtain rfl := h2 rfl
    have e := hdT_item (.mk false b []) r hl
    have e1 := bytes_own (.mk false b []) r
    have e2 := bytes_first (.mk false b []) r (by omega) rfl
    rw [readT, e]
    rw [if_neg (by omega), if_neg (by simp)]
    have e3 : isL (.mk false b []) = false := rfl
    simp only [e3, if_true, e1.1, e1.2]
    rfl
  | .mk true b xs, d, n, r, hf, hl, hn => by
    obtain ⟨m, rfl⟩ : ∃ m, n = m + 1 := ⟨n - 1, by omega⟩
    obtain ⟨h1, _⟩ := formI_ok hf
    obtain ⟨rfl, h3, h4, h5⟩ := h1 rfl
    have e := hdT_item (.mk true [] xs) r hl
    have e1 := bytes_own (.mk true [] xs) r
    have hlen := bytes_len (.mk true [] xs)
    have hoff : 1 ≤ offI (.mk true [] xs) := by
      rw [offI]
      have := hdL_ne (bytesIs xs).length 192
      have := List.length_pos_iff.2 this
      omega
    have eo : ownI (.mk true [] xs) = bytesIs xs := by rw [ownI]
    have ei := items_back xs (d + 1) 0 m h5 (by rw [eo] at hlen; omega) (by omega) (by rw [eo] at hlen; omega)
    rw [readT, e]
    rw [if_neg (by omega), if_neg (by simp)]
    have e3 : isL (.mk true [] xs) = true := rfl
    rw [eo] at e1
    simp only [e3, eo, e1.1, e1.2, ei]
    simp
theorem items_back : ∀ (xs : List It) (d k n : Nat), formIs d xs = 0 → (bytesIs xs).length ≤ 65536 → k + xs.length ≤ 512 → 2 * (bytesIs xs).length + 2 ≤ n → itemsT n (bytesIs xs) d k = (xs, 0)
  | [], d, k, n, _, _, _, hn => by
    obtain ⟨m, rfl⟩ : ∃ m, n = m + 1 := ⟨n - 1, by omega⟩
    rw [bytesIs, itemsT, if_pos rfl]
  | x :: xs, d, k, n, hf, hl, hk, hn => by
    obtain ⟨m, rfl⟩ : ∃ m, n = m + 1 := ⟨n - 1, by omega⟩
    obtain ⟨h1, h2⟩ := formIs_ok hf
    have hne : bytesIs (x :: xs) ≠ [] := by
      rw [bytesIs]
      intro h
      exact bytesI_ne x (by rw [(List.append_eq_nil_iff.1 h).1]; rfl)
    have hp : 1 ≤ (bytesI x).length := Nat.pos_of_ne_zero (fun h => bytesI_ne x h)
    rw [List.length_cons] at hk
    rw [bytesIs, List.length_append] at hl hn
    have e1 := read_back x d m (bytesIs xs) h1 (by omega) (by omega)
    have e2 := items_back xs d (k + 1) m h2 (by omega) (by omega) (by omega)
    rw [itemsT, if_neg hne, if_neg (by omega)]
    rw [bytesIs, e1]
    simp [e2]
end
end Go.Proofs.Ytgeeoefcepjniaa.M
