/- Plain arithmetic: what is written is read again, and nothing else. Plain arithmetic: what the statements of layer 4 lean on. Plain arithmetic: what a head tells; items read out of bytes; what is encoded is read, and nothing else. Plain arithmetic: what is read is encoded just so; bytes that are cut; the whole of decoding. Plain arithmetic: decoding, whole; bytes that are cut; places in bytes. -/
import Derived.Test.YtihiacbhdcahkaaGreatDoorH07
import Derived.Test.YtihiacbhdcahkaaGreatDoorH02
namespace Go.Proofs.YtihiacbhdcahkaaGreatDoor.M
open Go

theorem pre0' {l : List UInt8} (h : Lib.hasPrefix l [0] = false) : ∀ c r, l = c :: r → c ≠ 0 := by
  rintro c r rfl rfl
  simp [Lib.hasPrefix, List.isPrefixOf] at h

theorem be_ub {l : List UInt8} (h : (ub l).2 = 0) : tr (f32 (ub l).1) = l := by
  unfold ub at h ⊢
  by_cases h8 : 8 < l.length
  · rw [if_pos h8] at h; simp at h
  · rw [if_neg h8] at h ⊢
    by_cases hp : Lib.hasPrefix l [0] = true
    · rw [if_pos hp] at h; simp at h
    · rw [if_neg hp]
      show tr (f32 (dg l)) = l
      rw [← dg_zeros (32 - l.length) l, f32_dg (by simp; omega)]
      exact tr_zeros _ l (pre0' (by simpa using hp))

theorem ofNat_toNat {n : Nat} (h : n < 256) : (UInt8.ofNat n).toNat = n := by
  simp
  omega

end Go.Proofs.YtihiacbhdcahkaaGreatDoor.M
namespace Go.Proofs.YtihiacbhdcahkaaGreatDoor.M

end Go.Proofs.YtihiacbhdcahkaaGreatDoor.M
namespace Go.Proofs.YtihiacbhdcahkaaGreatDoor.M

/-- What a head tells: how much of it there is, what is its own, whether it is a list's, what is wrong. -/
structure Hd where
  off : Nat
  n : Nat
  list : Bool
  e : Nat
def hdErr (e : Nat) : Hd := ⟨0, 0, false, e⟩
/-- A head whose length stands in m bytes. -/
def hdLong (r : List UInt8) (m : Nat) (l : Bool) : Hd :=
  if 3 < m then hdErr 5 else if r.length < m then hdErr 3 else if r.headD 0 = 0 ∨ dg (r.take m) < 56 then hdErr 8
  else if r.length < m + dg (r.take m) then hdErr 3 else ⟨1 + m, dg (r.take m), l, 0⟩
def hdT : List UInt8 → Hd
  | [] => hdErr 3
  | c :: r =>
    if c.toNat < 128 then ⟨0, 1, false, 0⟩
    else if c.toNat < 184 then (if r.length < c.toNat - 128 then hdErr 3 else if c.toNat = 129 ∧ (r.headD 0).toNat < 128 then hdErr 8 else ⟨1, c.toNat - 128, false, 0⟩)
    else if c.toNat < 192 then hdLong r (c.toNat - 183) false
    else if c.toNat < 248 then (if r.length < c.toNat - 192 then hdErr 3 else ⟨1, c.toNat - 192, true, 0⟩)
    else hdLong r (c.toNat - 247) true
/-- The same at a place. -/
def headL (s : List UInt8) (k : Nat) : Hd :=
  if s.length < k then hdErr 1 else if (hdT (s.drop k)).e = 0 then ⟨k + (hdT (s.drop k)).off, (hdT (s.drop k)).n, (hdT (s.drop k)).list, 0⟩ else hdErr (hdT (s.drop k)).e

def zeroI : It := .mk false [] []
mutual
/-- The item that begins these bytes, what is behind it, and what is wrong. -/
def readT : Nat → List UInt8 → Nat → It × List UInt8 × Nat
  | 0, _, _ => (zeroI, [], 3)
  | n + 1, t, d =>
    if 192 ≤ (t.headD 0).toNat ∧ 12 ≤ d then (zeroI, [], 7)
    else if (hdT t).e ≠ 0 then (zeroI, [], (hdT t).e)
    else if (hdT t).list = false then (.mk false ((t.drop (hdT t).off).take (hdT t).n) [], t.drop ((hdT t).off + (hdT t).n), 0)
    else if (itemsT n ((t.drop (hdT t).off).take (hdT t).n) (d + 1) 0).2 ≠ 0 then (zeroI, [], (itemsT n ((t.drop (hdT t).off).take (hdT t).n) (d + 1) 0).2)
    else (.mk true [] (itemsT n ((t.drop (hdT t).off).take (hdT t).n) (d + 1) 0).1, t.drop ((hdT t).off + (hdT t).n), 0)
/-- The items that these bytes are, k ahead of them. -/
def itemsT : Nat → List UInt8 → Nat → Nat → List It × Nat
  | 0, _, _, _ => ([], 3)
  | n + 1, t, d, k =>
    if t = [] then ([], 0)
    else if 512 ≤ k then ([], 5)
    else if (readT n t d).2.2 ≠ 0 then ([], (readT n t d).2.2)
    else if (itemsT n (readT n t d).2.1 d (k + 1)).2 ≠ 0 then ([], (itemsT n (readT n t d).2.1 d (k + 1)).2)
    else ((readT n t d).1 :: (itemsT n (readT n t d).2.1 d (k + 1)).1, 0)
end
def decodeL (s : List UInt8) : It × Nat :=
  if 65536 < s.length then (zeroI, 5)
  else if (readT (2 * s.length + 1) s 0).2.2 ≠ 0 then (zeroI, (readT (2 * s.length + 1) s 0).2.2)
  else if (readT (2 * s.length + 1) s 0).2.1 ≠ [] then (zeroI, 4)
  else ((readT (2 * s.length + 1) s 0).1, 0)

/-- Digits that are no more than are needed. -/
theorem ben_dg {l : List UInt8} (h : l.length ≤ 8) (h0 : ∀ c r, l = c :: r → c ≠ 0) : ben (dg l) = l := by
  unfold ben
  have h1 : (List.replicate (32 - l.length) (0 : UInt8) ++ l).length = 32 := by simp; omega
  have h2 := f32_dg h1
  rw [dg_zeros] at h2
  rw [h2, tr_zeros _ _ h0]
/-- What a head of a right item tells. -/
def offI : It → Nat
  | .mk true _ xs => (hdL (bytesIs xs).length 192).length
  | .mk false b _ => if b.length = 1 ∧ (b.headD 0).toNat < 128 then 0 else (hdL b.length 128).length
def ownI : It → List UInt8
  | .mk true _ xs => bytesIs xs
  | .mk false b _ => b
theorem bytes_split (x : It) : ∃ h, bytesI x = h ++ ownI x ∧ h.length = offI x := by
  match x with
  | .mk true _ xs => exact ⟨hdL (bytesIs xs).length 192, by rw [bytesI, ownI], by rw [offI]⟩
  | .mk false b _ =>
    by_cases hs : b.length = 1 ∧ (b.headD 0).toNat < 128
    · exact ⟨[], by rw [bytesI, ownI, if_pos hs]; rfl, by rw [offI, if_pos hs]; rfl⟩
    · exact ⟨hdL b.length 128, by rw [bytesI, ownI, if_neg hs], by rw [offI, if_neg hs]⟩
theorem bytes_len (x : It) : (bytesI x).length = offI x + (ownI x).length := by
  obtain ⟨h, e, hl⟩ := bytes_split x
  rw [e, List.length_append, hl]
end Go.Proofs.YtihiacbhdcahkaaGreatDoor.M
namespace Go.Proofs.YtihiacbhdcahkaaGreatDoor.M

theorem hdLong_ok {r : List UInt8} {m : Nat} {l : Bool} (h : (hdLong r m l).e = 0) : m ≤ 3 ∧ m ≤ r.length ∧ r.headD 0 ≠ 0 ∧ 56 ≤ dg (r.take m) ∧ m + dg (r.take m) ≤ r.length ∧ hdLong r m l = ⟨1 + m, dg (r.take m), l, 0⟩ := by
  unfold hdLong at h ⊢
  by_cases h1 : 3 < m
  · rw [if_pos h1] at h; cases h
  · rw [if_neg h1] at h ⊢
    by_cases h2 : r.length < m
    · rw [if_pos h2] at h; cases h
    · rw [if_neg h2] at h ⊢
      by_cases h3 : r.headD 0 = 0 ∨ dg (r.take m) < 56
      · rw [if_pos h3] at h; cases h
      · rw [if_neg h3] at h ⊢
        by_cases h4 : r.length < m + dg (r.take m)
        · rw [if_pos h4] at h; cases h
        · rw [if_neg h4]
          exact ⟨by omega, by omega, fun h => h3 (.inl h), by omega, by omega, rfl⟩
theorem of_toNat {c : UInt8} {k : Nat} (h : c.toNat = k) : UInt8.ofNat k = c := by rw [← h, UInt8.ofNat_toNat]
theorem hdL_long {r : List UInt8} {m p : Nat} {c : UInt8} (h3 : m ≤ 3) (hm : m ≤ r.length) (h1 : 1 ≤ m) (h0 : r.headD 0 ≠ 0) (h56 : 56 ≤ dg (r.take m)) (hc : c.toNat = p + 55 + m) : c :: r.take m = hdL (dg (r.take m)) p := by
  have hb : ben (dg (r.take m)) = r.take m := by
    refine ben_dg (by rw [List.length_take]; omega) ?_
    intro c' s hs
    cases r with
    | nil => simp at hm; omega
    | cons c0 r0 =>
      obtain ⟨m', rfl⟩ : ∃ m', m = m' + 1 := ⟨m - 1, by omega⟩
      simp at hs h0
      rw [← hs.1]; exact h0
  have hl : (r.take m).length = m := by rw [List.length_take]; omega
  unfold hdL
  rw [if_neg (by omega), hb, hl, of_toNat hc]

/-- What a head that is right tells. -/
theorem hdT_ok {t : List UInt8} (h : (hdT t).e = 0) : (hdT t).off + (hdT t).n ≤ t.length ∧ 1 ≤ (hdT t).off + (hdT t).n ∧ (hdT t).off ≤ 4 ∧
    ((hdT t).list = true → t.take (hdT t).off = hdL (hdT t).n 192 ∧ 192 ≤ (t.headD 0).toNat ∧ 1 ≤ (hdT t).off) ∧
    ((hdT t).list = false → ((hdT t).off = 0 ∧ (hdT t).n = 1 ∧ (t.headD 0).toNat < 128) ∨ (t.take (hdT t).off = hdL (hdT t).n 128 ∧ ¬ ((hdT t).n = 1 ∧ ((t.drop (hdT t).off).headD 0).toNat < 128))) := by
  cases t with
  | nil => cases h
  | cons c r =>
    have hc := c.toNat_lt
    by_cases h1 : c.toNat < 128
    · have e : hdT (c :: r) = ⟨0, 1, false, 0⟩ := by rw [hdT, if_pos h1]
      rw [e]
      simp [h1]
    · by_cases h2 : c.toNat < 184
      · rw [hdT, if_neg h1, if_pos h2] at h
        by_cases h3 : r.length < c.toNat - 128
        · rw [if_pos h3] at h; cases h
        · rw [if_neg h3] at h
          by_cases h4 : c.toNat = 129 ∧ (r.headD 0).toNat < 128
          · rw [if_pos h4] at h; cases h
          · have e : hdT (c :: r) = ⟨1, c.toNat - 128, false, 0⟩ := by rw [hdT, if_neg h1, if_pos h2, if_neg h3, if_neg h4]
            rw [e]
            refine ⟨by simp only [List.length_cons]; omega, by simp only; omega, by simp only; omega, by simp, fun _ => .inr ⟨?_, ?_⟩⟩
            · simp only
              unfold hdL
              rw [if_pos (by omega), of_toNat (c := c) (by omega)]
              rfl
            · simp only [List.drop_one, List.tail_cons]
              rintro ⟨h5, h6⟩
              exact h4 ⟨by omega, h6⟩
      · by_cases h3 : c.toNat < 192
        · have e : hdT (c :: r) = hdLong r (c.toNat - 183) false := by rw [hdT, if_neg h1, if_neg h2, if_pos h3]
          rw [e] at h ⊢
          obtain ⟨k1, k2, k3, k4, k5, k6⟩ := hdLong_ok h
          rw [k6]
          refine ⟨by simp only [List.length_cons]; omega, by simp only; omega, by simp only; omega, by simp, fun _ => .inr ⟨?_, ?_⟩⟩
          · simp only [Nat.add_comm 1, List.take_succ_cons]
            exact hdL_long k1 k2 (by omega) k3 k4 (by omega)
          · simp only; omega
        · by_cases h4 : c.toNat < 248
          · rw [hdT, if_neg h1, if_neg h2, if_neg h3, if_pos h4] at h
            by_cases h5 : r.length < c.toNat - 192
            · rw [if_pos h5] at h; cases h
            · have e : hdT (c :: r) = ⟨1, c.toNat - 192, true, 0⟩ := by rw [hdT, if_neg h1, if_neg h2, if_neg h3, if_pos h4, if_neg h5]
              rw [e]
              refine ⟨by simp only [List.length_cons]; omega, by simp only; omega, by simp only; omega, fun _ => ⟨?_, ?_, ?_⟩, by simp⟩
              · simp only
                unfold hdL
                rw [if_pos (by omega), of_toNat (c := c) (by omega)]
                rfl
              · simp; omega
              · simp
          · have e : hdT (c :: r) = hdLong r (c.toNat - 247) true := by rw [hdT, if_neg h1, if_neg h2, if_neg h3, if_neg h4]
            rw [e] at h ⊢
            obtain ⟨k1, k2, k3, k4, k5, k6⟩ := hdLong_ok h
            rw [k6]
            refine ⟨by simp only [List.length_cons]; omega, by simp only; omega, by simp only; omega, fun _ => ⟨?_, ?_, ?_⟩, by simp⟩
            · simp only [Nat.add_comm 1, List.take_succ_cons]
              exact hdL_long k1 k2 (by omega) k3 k4 (by omega)
            · simp; omega
            · simp

theorem three_parts (t : List UInt8) (a b : Nat) : t.take a ++ ((t.drop a).take b ++ t.drop (a + b)) = t := by
  rw [← List.drop_drop, List.take_append_drop, List.take_append_drop]
/-- **WHAT IS READ IS ENCODED JUST SO.** -/
theorem only_n (n : Nat) : (∀ (t : List UInt8) (d : Nat), (readT n t d).2.2 = 0 → t = bytesI (readT n t d).1 ++ (readT n t d).2.1 ∧ formI d (readT n t d).1 = 0) ∧
    (∀ (t : List UInt8) (d k : Nat), (itemsT n t d k).2 = 0 → t = bytesIs (itemsT n t d k).1 ∧ formIs d (itemsT n t d k).1 = 0 ∧ ((itemsT n t d k).1 = [] ∨ k + (itemsT n t d k).1.length ≤ 512)) := by
  induction n with
  | zero => exact ⟨fun t d h => by simp [readT] at h, fun t d k h => by simp [itemsT] at h⟩
  | succ n ih =>
    constructor
    · intro t d h
      rw [readT] at h ⊢
      by_cases h1 : 192 ≤ (t.headD 0).toNat ∧ 12 ≤ d
      · rw [if_pos h1] at h; cases h
      · rw [if_neg h1] at h ⊢
        by_cases h2 : (hdT t).e ≠ 0
        · rw [if_pos h2] at h; exact absurd h h2
        · rw [if_neg h2] at h ⊢
          obtain ⟨k1, k2, k3, k4, k5⟩ := hdT_ok (t := t) (by omega)
          have hown : ((t.drop (hdT t).off).take (hdT t).n).length = (hdT t).n := by rw [List.length_take, List.length_drop]; omega
          have h3p := three_parts t (hdT t).off (hdT t).n
          by_cases h3 : (hdT t).list = false
          · rw [if_pos h3]
            refine ⟨?_, by rw [formI]; simp⟩
            simp only
            rw [bytesI]
            rcases k5 h3 with ⟨a1, a2, a3⟩ | ⟨a1, a2⟩
            · rw [if_pos]
              · rw [a1] at h3p ⊢
                simp only [List.take_zero, List.nil_append] at h3p
                exact h3p.symm
              · rw [hown, a1, a2]
                refine ⟨rfl, ?_⟩
                cases t with
                | nil => simp at k1; omega
                | cons c r => simpa using a3
            · rw [if_neg]
              · rw [hown, ← a1, List.append_assoc]
                exact h3p.symm
              · rw [hown]
                rintro ⟨b1, b2⟩
                refine a2 ⟨b1, ?_⟩
                rw [b1] at b2
                cases hq : t.drop (hdT t).off with
                | nil => simp
                | cons c r => rw [hq] at b2; simpa using b2
          · have hl : (hdT t).list = true := by simpa using h3
            rw [if_neg h3] at h ⊢
            by_cases h4 : (itemsT n ((t.drop (hdT t).off).take (hdT t).n) (d + 1) 0).2 ≠ 0
            · rw [if_pos h4] at h; exact absurd h h4
            · rw [if_neg h4]
              obtain ⟨i1, i2, i3⟩ := ih.2 ((t.drop (hdT t).off).take (hdT t).n) (d + 1) 0 (by omega)
              obtain ⟨a1, a2, a3⟩ := k4 hl
              generalize (itemsT n ((t.drop (hdT t).off).take (hdT t).n) (d + 1) 0).1 = xs at *
              refine ⟨?_, ?_⟩
              · simp only
                rw [bytesI, ← i1, hown, ← a1, List.append_assoc]
                exact h3p.symm
              · simp only
                rw [formI, if_neg (by simp), if_neg (by simp), if_neg (by omega), if_neg ?_]
                · exact i2
                · rcases i3 with rfl | i3
                  · simp
                  · omega
    · intro t d k h
      rw [itemsT] at h ⊢
      by_cases h1 : t = []
      · rw [if_pos h1]
        exact ⟨by rw [h1]; rfl, by rw [formIs], .inl rfl⟩
      · rw [if_neg h1] at h ⊢
        by_cases h2 : 512 ≤ k
        · rw [if_pos h2] at h; cases h
        · rw [if_neg h2] at h ⊢
          by_cases h3 : (readT n t d).2.2 ≠ 0
          · rw [if_pos h3] at h; exact absurd h h3
          · rw [if_neg h3] at h ⊢
            by_cases h4 : (itemsT n (readT n t d).2.1 d (k + 1)).2 ≠ 0
            · rw [if_pos h4] at h; exact absurd h h4
            · rw [if_neg h4]
              obtain ⟨r1, r2⟩ := ih.1 t d (by omega)
              obtain ⟨i1, i2, i3⟩ := ih.2 (readT n t d).2.1 d (k + 1) (by omega)
              refine ⟨?_, ?_, .inr ?_⟩
              · simp only
                rw [bytesIs, ← i1]
                exact r1
              · simp only
                rw [formIs, r2, if_neg (by simp)]
                exact i2
              · simp only [List.length_cons]
                rcases i3 with e | i3
                · rw [e]; simp; omega
                · omega
end Go.Proofs.YtihiacbhdcahkaaGreatDoor.M
namespace Go.Proofs.YtihiacbhdcahkaaGreatDoor.M

theorem dec_only {s : List UInt8} (h : (decodeL s).2 = 0) : bytesI (decodeL s).1 = s ∧ checkI (decodeL s).1 = 0 := by
  unfold decodeL at h ⊢
  by_cases h1 : 65536 < s.length
  · rw [if_pos h1] at h; cases h
  · rw [if_neg h1] at h ⊢
    by_cases h2 : (readT (2 * s.length + 1) s 0).2.2 ≠ 0
    · rw [if_pos h2] at h; exact absurd h h2
    · rw [if_neg h2] at h ⊢
      by_cases h3 : (readT (2 * s.length + 1) s 0).2.1 ≠ []
      · rw [if_pos h3] at h; cases h
      · rw [if_neg h3]
        obtain ⟨a1, a2⟩ := (only_n (2 * s.length + 1)).1 s 0 (by omega)
        have h3' : (readT (2 * s.length + 1) s 0).2.1 = [] := Classical.not_not.1 h3
        rw [h3', List.append_nil] at a1
        refine ⟨a1.symm, checkI_ok.2 ⟨a2, ?_⟩⟩
        simp only
        rw [← a1]
        omega
theorem dec_no {s : List UInt8} (h : (decodeL s).2 ≠ 0) : (decodeL s).1 = zeroI := by
  unfold decodeL at h ⊢
  split
  · rfl
  · split
    · rfl
    · split
      · rfl
      · rename_i h1 h2 h3
        rw [if_neg h1, if_neg h2, if_neg h3] at h
        exact absurd rfl h
end Go.Proofs.YtihiacbhdcahkaaGreatDoor.M
