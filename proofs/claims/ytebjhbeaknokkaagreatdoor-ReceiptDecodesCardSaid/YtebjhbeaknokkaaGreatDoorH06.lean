/- Plain arithmetic: what a head tells; items read out of bytes; what is encoded is read, and nothing else. Plain arithmetic: what is read is encoded just so; bytes that are cut; the whole of decoding. Plain arithmetic: decoding, whole; bytes that are cut; places in bytes. How many items come to how many bytes. Plain arithmetic: what an item's fields are. Words as values. Appending to rows of one's own: in which block what comes of it stands. Rows of texts: what comes in, and what a call owns. What the calls of package field must do; the example of layer 6. The reference's Texts: are two rows of texts the same?. The reference's digits of a word. Four cells of a block: what a word in memory is. The reference's bytes of a word: Fixed, Bytes, Small. -/
import Derived.Test.YtebjhbeaknokkaaGreatDoorH05
import Derived.Test.YtebjhbeaknokkaaGreatDoorH01
import Derived.Test.YtebjhbeaknokkaaGreatDoorH02
import Derived.Lib.Hide
import Derived.Deep.DeepCutAuto
import Derived.Laws.IdiomStrings
import Derived.Laws.BytesArg
import Derived.Maps.AppendAt
import Derived.Deep.RegionHeld3
namespace Go.Proofs.YtebjhbeaknokkaaGreatDoor.M

/-- What a head tells: how much of it there is, what is its own, whether it is a list's, what is wrong. -/
structure Hd where
  off : Nat
  n : Nat
  list : Bool
  e : Nat
def hdErr (e : Nat) : Hd := ⟨0, 0, false, e⟩
/-- A head whose length stands in m bytes. -/
def hdLong (r : List UInt8) (m : Nat) (l : Bool) : Hd :=
  if 3 < m then hdErr 5 else if r.length < m then hdErr 3 else if r.headD 0 = 0 ∨ dg (r.take m) < 56 then hdErr 8
  else if r.length < m + dg (r.take m) then hdErr 3 else ⟨1 + m, dg (r.take m), l, 0⟩
def hdT : List UInt8 → Hd
  | [] => hdErr 3
  | c :: r =>
    if c.toNat < 128 then ⟨0, 1, false, 0⟩
    else if c.toNat < 184 then (if r.length < c.toNat - 128 then hdErr 3 else if c.toNat = 129 ∧ (r.headD 0).toNat < 128 then hdErr 8 else ⟨1, c.toNat - 128, false, 0⟩)
    else if c.toNat < 192 then hdLong r (c.toNat - 183) false
    else if c.toNat < 248 then (if r.length < c.toNat - 192 then hdErr 3 else ⟨1, c.toNat - 192, true, 0⟩)
    else hdLong r (c.toNat - 247) true
/-- The same at a place. -/
def headL (s : List UInt8) (k : Nat) : Hd :=
  if s.length < k then hdErr 1 else if (hdT (s.drop k)).e = 0 then ⟨k + (hdT (s.drop k)).off, (hdT (s.drop k)).n, (hdT (s.drop k)).list, 0⟩ else hdErr (hdT (s.drop k)).e

def zeroI : It := .mk false [] []
mutual
/-- The item that begins these bytes, what is behind it, and what is wrong. -/
def readT : Nat → List UInt8 → Nat → It × List UInt8 × Nat
  | 0, _, _ => (zeroI, [], 3)
  | n + 1, t, d =>
    if 192 ≤ (t.headD 0).toNat ∧ 12 ≤ d then (zeroI, [], 7)
    else if (hdT t).e ≠ 0 then (zeroI, [], (hdT t).e)
    else if (hdT t).list = false then (.mk false ((t.drop (hdT t).off).take (hdT t).n) [], t.drop ((hdT t).off + (hdT t).n), 0)
    else if (itemsT n ((t.drop (hdT t).off).take (hdT t).n) (d + 1) 0).2 ≠ 0 then (zeroI, [], (itemsT n ((t.drop (hdT t).off).take (hdT t).n) (d + 1) 0).2)
    else (.mk true [] (itemsT n ((t.drop (hdT t).off).take (hdT t).n) (d + 1) 0).1, t.drop ((hdT t).off + (hdT t).n), 0)
/-- The items that these bytes are, k ahead of them. -/
def itemsT : Nat → List UInt8 → Nat → Nat → List It × Nat
  | 0, _, _, _ => ([], 3)
  | n + 1, t, d, k =>
    if t = [] then ([], 0)
    else if 512 ≤ k then ([], 5)
    else if (readT n t d).2.2 ≠ 0 then ([], (readT n t d).2.2)
    else if (itemsT n (readT n t d).2.1 d (k + 1)).2 ≠ 0 then ([], (itemsT n (readT n t d).2.1 d (k + 1)).2)
    else ((readT n t d).1 :: (itemsT n (readT n t d).2.1 d (k + 1)).1, 0)
end
def decodeL (s : List UInt8) : It × Nat :=
  if 65536 < s.length then (zeroI, 5)
  else if (readT (2 * s.length + 1) s 0).2.2 ≠ 0 then (zeroI, (readT (2 * s.length + 1) s 0).2.2)
  else if (readT (2 * s.length + 1) s 0).2.1 ≠ [] then (zeroI, 4)
  else ((readT (2 * s.length + 1) s 0).1, 0)

/-- Digits that are no more than are needed. -/
theorem ben_dg {l : List UInt8} (h : l.length ≤ 8) (h0 : ∀ c r, l = c :: r → c ≠ 0) : ben (dg l) = l := by
  unfold ben
  have h1 : (List.replicate (32 - l.length) (0 : UInt8) ++ l).length = 32 := by simp; omega
  have h2 := f32_dg h1
  rw [dg_zeros] at h2
  rw [h2, tr_zeros _ _ h0]
/-- What a head of a right item tells. -/
def offI : It → Nat
  | .mk true _ xs => (hdL (bytesIs xs).length 192).length
  | .mk false b _ => if b.length = 1 ∧ (b.headD 0).toNat < 128 then 0 else (hdL b.length 128).length
def ownI : It → List UInt8
  | .mk true _ xs => bytesIs xs
  | .mk false b _ => b
theorem bytes_split (x : It) : ∃ h, bytesI x = h ++ ownI x ∧ h.length = offI x := by
  match x with
  | .mk true _ xs => exact ⟨hdL (bytesIs xs).length 192, by rw [bytesI, ownI], by rw [offI]⟩
  | .mk false b _ =>
    by_cases hs : b.length = 1 ∧ (b.headD 0).toNat < 128
    · exact ⟨[], by rw [bytesI, ownI, if_pos hs]; rfl, by rw [offI, if_pos hs]; rfl⟩
    · exact ⟨hdL b.length 128, by rw [bytesI, ownI, if_neg hs], by rw [offI, if_neg hs]⟩
theorem bytes_len (x : It) : (bytesI x).length = offI x + (ownI x).length := by
  obtain ⟨h, e, hl⟩ := bytes_split x
  rw [e, List.length_append, hl]
end Go.Proofs.YtebjhbeaknokkaaGreatDoor.M
namespace Go.Proofs.YtebjhbeaknokkaaGreatDoor.M

theorem hdLong_ok {r : List UInt8} {m : Nat} {l : Bool} (h : (hdLong r m l).e = 0) : m ≤ 3 ∧ m ≤ r.length ∧ r.headD 0 ≠ 0 ∧ 56 ≤ dg (r.take m) ∧ m + dg (r.take m) ≤ r.length ∧ hdLong r m l = ⟨1 + m, dg (r.take m), l, 0⟩ := by
  unfold hdLong at h ⊢
  by_cases h1 : 3 < m
  · rw [if_pos h1] at h; cases h
  · rw [if_neg h1] at h ⊢
    by_cases h2 : r.length < m
    · rw [if_pos h2] at h; cases h
    · rw [if_neg h2] at h ⊢
      by_cases h3 : r.headD 0 = 0 ∨ dg (r.take m) < 56
      · rw [if_pos h3] at h; cases h
      · rw [if_neg h3] at h ⊢
        by_cases h4 : r.length < m + dg (r.take m)
        · rw [if_pos h4] at h; cases h
        · rw [if_neg h4]
          exact ⟨by omega, by omega, fun h => h3 (.inl h), by omega, by omega, rfl⟩
theorem of_toNat {c : UInt8} {k : Nat} (h : c.toNat = k) : UInt8.ofNat k = c := by rw [← h, UInt8.ofNat_toNat]
theorem hdL_long {r : List UInt8} {m p : Nat} {c : UInt8} (h3 : m ≤ 3) (hm : m ≤ r.length) (h1 : 1 ≤ m) (h0 : r.headD 0 ≠ 0) (h56 : 56 ≤ dg (r.take m)) (hc : c.toNat = p + 55 + m) : c :: r.take m = hdL (dg (r.take m)) p := by
  have hb : ben (dg (r.take m)) = r.take m := by
    refine ben_dg (by rw [List.length_take]; omega) ?_
    intro c' s hs
    cases r with
    | nil => simp at hm; omega
    | cons c0 r0 =>
      obtain ⟨m', rfl⟩ : ∃ m', m = m' + 1 := ⟨m - 1, by omega⟩
      simp at hs h0
      rw [← hs.1]; exact h0
  have hl : (r.take m).length = m := by rw [List.length_take]; omega
  unfold hdL
  rw [if_neg (by omega), hb, hl, of_toNat hc]

/-- What a head that is right tells. -/
theorem hdT_ok {t : List UInt8} (h : (hdT t).e = 0) : (hdT t).off + (hdT t).n ≤ t.length ∧ 1 ≤ (hdT t).off + (hdT t).n ∧ (hdT t).off ≤ 4 ∧
    ((hdT t).list = true → t.take (hdT t).off = hdL (hdT t).n 192 ∧ 192 ≤ (t.headD 0).toNat ∧ 1 ≤ (hdT t).off) ∧
    ((hdT t).list = false → ((hdT t).off = 0 ∧ (hdT t).n = 1 ∧ (t.headD 0).toNat < 128) ∨ (t.take (hdT t).off = hdL (hdT t).n 128 ∧ ¬ ((hdT t).n = 1 ∧ ((t.drop (hdT t).off).headD 0).toNat < 128))) := by
  cases t with
  | nil => cases h
  | cons c r =>
    have hc := c.toNat_lt
    by_cases h1 : c.toNat < 128
    · have e : hdT (c :: r) = ⟨0, 1, false, 0⟩ := by rw [hdT, if_pos h1]
      rw [e]
      simp [h1]
    · by_cases h2 : c.toNat < 184
      · rw [hdT, if_neg h1, if_pos h2] at h
        by_cases h3 : r.length < c.toNat - 128
        · rw [if_pos h3] at h; cases h
        · rw [if_neg h3] at h
          by_cases h4 : c.toNat = 129 ∧ (r.headD 0).toNat < 128
          · rw [if_pos h4] at h; cases h
          · have e : hdT (c :: r) = ⟨1, c.toNat - 128, false, 0⟩ := by rw [hdT, if_neg h1, if_pos h2, if_neg h3, if_neg h4]
            rw [e]
            refine ⟨by simp only [List.length_cons]; omega, by simp only; omega, by simp only; omega, by simp, fun _ => .inr ⟨?_, ?_⟩⟩
            · simp only
              unfold hdL
              rw [if_pos (by omega), of_toNat (c := c) (by omega)]
              rfl
            · simp only [List.drop_one, List.tail_cons]
              rintro ⟨h5, h6⟩
              exact h4 ⟨by omega, h6⟩
      · by_cases h3 : c.toNat < 192
        · have e : hdT (c :: r) = hdLong r (c.toNat - 183) false := by rw [hdT, if_neg h1, if_neg h2, if_pos h3]
          rw [e] at h ⊢
          obtain ⟨k1, k2, k3, k4, k5, k6⟩ := hdLong_ok h
          rw [k6]
          refine ⟨by simp only [List.length_cons]; omega, by simp only; omega, by simp only; omega, by simp, fun _ => .inr ⟨?_, ?_⟩⟩
          · simp only [Nat.add_comm 1, List.take_succ_cons]
            exact hdL_long k1 k2 (by omega) k3 k4 (by omega)
          · simp only; omega
        · by_cases h4 : c.toNat < 248
          · rw [hdT, if_neg h1, if_neg h2, if_neg h3, if_pos h4] at h
            by_cases h5 : r.length < c.toNat - 192
            · rw [if_pos h5] at h; cases h
            · have e : hdT (c :: r) = ⟨1, c.toNat - 192, true, 0⟩ := by rw [hdT, if_neg h1, if_neg h2, if_neg h3, if_pos h4, if_neg h5]
              rw [e]
              refine ⟨by simp only [List.length_cons]; omega, by simp only; omega, by simp only; omega, fun _ => ⟨?_, ?_, ?_⟩, by simp⟩
              · simp only
                unfold hdL
                rw [if_pos (by omega), of_toNat (c := c) (by omega)]
                rfl
              · simp; omega
              · simp
          · have e : hdT (c :: r) = hdLong r (c.toNat - 247) true := by rw [hdT, if_neg h1, if_neg h2, if_neg h3, if_neg h4]
            rw [e] at h ⊢
            obtain ⟨k1, k2, k3, k4, k5, k6⟩ := hdLong_ok h
            rw [k6]
            refine ⟨by simp only [List.length_cons]; omega, by simp only; omega, by simp only; omega, fun _ => ⟨?_, ?_, ?_⟩, by simp⟩
            · simp only [Nat.add_comm 1, List.take_succ_cons]
              exact hdL_long k1 k2 (by omega) k3 k4 (by omega)
            · simp; omega
            · simp

theorem three_parts (t : List UInt8) (a b : Nat) : t.take a ++ ((t.drop a).take b ++ t.drop (a + b)) = t := by
  rw [← List.drop_drop, List.take_append_drop, List.take_append_drop]
/-- **WHAT IS READ IS ENCODED JUST SO.** -/
theorem only_n (n : Nat) : (∀ (t : List UInt8) (d : Nat), (readT n t d).2.2 = 0 → t = bytesI (readT n t d).1 ++ (readT n t d).2.1 ∧ formI d (readT n t d).1 = 0) ∧
    (∀ (t : List UInt8) (d k : Nat), (itemsT n t d k).2 = 0 → t = bytesIs (itemsT n t d k).1 ∧ formIs d (itemsT n t d k).1 = 0 ∧ ((itemsT n t d k).1 = [] ∨ k + (itemsT n t d k).1.length ≤ 512)) := by
  induction n with
  | zero => exact ⟨fun t d h => by simp [readT] at h, fun t d k h => by simp [itemsT] at h⟩
  | succ n ih =>
    constructor
    · intro t d h
      rw [readT] at h ⊢
      by_cases h1 : 192 ≤ (t.headD 0).toNat ∧ 12 ≤ d
      · rw [if_pos h1] at h; cases h
      · rw [if_neg h1] at h ⊢
        by_cases h2 : (hdT t).e ≠ 0
        · rw [if_pos h2] at h; exact absurd h h2
        · rw [if_neg h2] at h ⊢
          obtain ⟨k1, k2, k3, k4, k5⟩ := hdT_ok (t := t) (by omega)
          have hown : ((t.drop (hdT t).off).take (hdT t).n).length = (hdT t).n := by rw [List.length_take, List.length_drop]; omega
          have h3p := three_parts t (hdT t).off (hdT t).n
          by_cases h3 : (hdT t).list = false
          · rw [if_pos h3]
            refine ⟨?_, by rw [formI]; simp⟩
            simp only
            rw [bytesI]
            rcases k5 h3 with ⟨a1, a2, a3⟩ | ⟨a1, a2⟩
            · rw [if_pos]
              · rw [a1] at h3p ⊢
                simp only [List.take_zero, List.nil_append] at h3p
                exact h3p.symm
              · rw [hown, a1, a2]
                refine ⟨rfl, ?_⟩
                cases t with
                | nil => simp at k1; omega
                | cons c r => simpa using a3
            · rw [if_neg]
              · rw [hown, ← a1, List.append_assoc]
                exact h3p.symm
              · rw [hown]
                rintro ⟨b1, b2⟩
                refine a2 ⟨b1, ?_⟩
                rw [b1] at b2
                cases hq : t.drop (hdT t).off with
                | nil => simp
                | cons c r => rw [hq] at b2; simpa using b2
          · have hl : (hdT t).list = true := by simpa using h3
            rw [if_neg h3] at h ⊢
            by_cases h4 : (itemsT n ((t.drop (hdT t).off).take (hdT t).n) (d + 1) 0).2 ≠ 0
            · rw [if_pos h4] at h; exact absurd h h4
            · rw [if_neg h4]
              obtain ⟨i1, i2, i3⟩ := ih.2 ((t.drop (hdT t).off).take (hdT t).n) (d + 1) 0 (by omega)
              obtain ⟨a1, a2, a3⟩ := k4 hl
              generalize (itemsT n ((t.drop (hdT t).off).take (hdT t).n) (d + 1) 0).1 = xs at *
              refine ⟨?_, ?_⟩
              · simp only
                rw [bytesI, ← i1, hown, ← a1, List.append_assoc]
                exact h3p.symm
              · simp only
                rw [formI, if_neg (by simp), if_neg (by simp), if_neg (by omega), if_neg ?_]
                · exact i2
                · rcases i3 with rfl | i3
                  · simp
                  · omega
    · intro t d k h
      rw [itemsT] at h ⊢
      by_cases h1 : t = []
      · rw [if_pos h1]
        exact ⟨by rw [h1]; rfl, by rw [formIs], .inl rfl⟩
      · rw [if_neg h1] at h ⊢
        by_cases h2 : 512 ≤ k
        · rw [if_pos h2] at h; cases h
        · rw [if_neg h2] at h ⊢
          by_cases h3 : (readT n t d).2.2 ≠ 0
          · rw [if_pos h3] at h; exact absurd h h3
          · rw [if_neg h3] at h ⊢
            by_cases h4 : (itemsT n (readT n t d).2.1 d (k + 1)).2 ≠ 0
            · rw [if_pos h4] at h; exact absurd h h4
            · rw [if_neg h4]
              obtain ⟨r1, r2⟩ := ih.1 t d (by omega)
              obtain ⟨i1, i2, i3⟩ := ih.2 (readT n t d).2.1 d (k + 1) (by omega)
              refine ⟨?_, ?_, .inr ?_⟩
              · simp only
                rw [bytesIs, ← i1]
                exact r1
              · simp only
                rw [formIs, r2, if_neg (by simp)]
                exact i2
              · simp only [List.length_cons]
                rcases i3 with e | i3
                · rw [e]; simp; omega
                · omega
end Go.Proofs.YtebjhbeaknokkaaGreatDoor.M
namespace Go.Proofs.YtebjhbeaknokkaaGreatDoor.M

theorem dec_only {s : List UInt8} (h : (decodeL s).2 = 0) : bytesI (decodeL s).1 = s ∧ checkI (decodeL s).1 = 0 := by
  unfold decodeL at h ⊢
  by_cases h1 : 65536 < s.length
  · rw [if_pos h1] at h; cases h
  · rw [if_neg h1] at h ⊢
    by_cases h2 : (readT (2 * s.length + 1) s 0).2.2 ≠ 0
    · rw [if_pos h2] at h; exact absurd h h2
    · rw [if_neg h2] at h ⊢
      by_cases h3 : (readT (2 * s.length + 1) s 0).2.1 ≠ []
      · rw [if_pos h3] at h; cases h
      · rw [if_neg h3]
        obtain ⟨a1, a2⟩ := (only_n (2 * s.length + 1)).1 s 0 (by omega)
        have h3' : (readT (2 * s.length + 1) s 0).2.1 = [] := Classical.not_not.1 h3
        rw [h3', List.append_nil] at a1
        refine ⟨a1.symm, checkI_ok.2 ⟨a2, ?_⟩⟩
        simp only
        rw [← a1]
        omega
theorem dec_no {s : List UInt8} (h : (decodeL s).2 ≠ 0) : (decodeL s).1 = zeroI := by
  unfold decodeL at h ⊢
  split
  · rfl
  · split
    · rfl
    · split
      · rfl
      · rename_i h1 h2 h3
        rw [if_neg h1, if_neg h2, if_neg h3] at h
        exact absurd rfl h
end Go.Proofs.YtebjhbeaknokkaaGreatDoor.M
namespace Go.Proofs.YtebjhbeaknokkaaGreatDoor
namespace M
mutual
theorem cnt_le : ∀ (x : It) (d : Nat), formI d x = 0 → cntI x ≤ (bytesI x).length
  | .mk true b xs, d, h => by
    obtain ⟨_, _, _, h4⟩ := (formI_ok h).1 rfl
    have := cnts_le xs (d + 1) h4
    have h1 := bytesI_ne (.mk true b xs)
    rw [cntI]
    rw [bytesI] at h1 ⊢
    by_cases hz : (bytesIs xs).length = 0
    · have := Nat.pos_of_ne_zero h1
      omega
    · have h2 : 1 ≤ (hdL (bytesIs xs).length 192).length := by
        unfold hdL
        split <;> simp
      rw [List.length_append]
      omega
  | .mk false b xs, d, h => by
    have := (formI_ok h).2 rfl
    subst this
    have h1 := Nat.pos_of_ne_zero fun h => bytesI_ne (.mk false b []) h
    rw [cntI, cntIs]
    omega
theorem cnts_le : ∀ (xs : List It) (d : Nat), formIs d xs = 0 → cntIs xs ≤ (bytesIs xs).length
  | [], _, _ => by simp [cntIs]
  | x :: xs, d, h => by
    obtain ⟨h1, h2⟩ := formIs_ok h
    have e1 := cnt_le x d h1
    have e2 := cnts_le xs d h2
    rw [cntIs, bytesIs, List.length_append]
    omega
end
end M
end Go.Proofs.YtebjhbeaknokkaaGreatDoor
namespace Go.Proofs.YtebjhbeaknokkaaGreatDoor.M
open Go

/-- A word read of bytes. -/
def pw (l : List UInt8) : Nat × Nat := if 32 < l.length then (0, 5) else if Lib.hasPrefix l [0] then (0, 8) else (dg l, 0)
def textI (s : List UInt8) : It := .mk false s []
def boolI (v : Bool) : It := textI (if v then [1] else [])
def textsI (ls : List (List UInt8)) : It := .mk true [] (ls.map textI)
def listI (xs : List It) : It := .mk true [] xs
/-- What is read of bytes, and of a list. -/
def ofBytes {α : Type} (z : α) (f : List UInt8 → α × Nat) : It → α × Nat
  | .mk true _ _ => (z, 2)
  | .mk false d _ => f d
def within (n : Nat) (least most : Int) : Nat := if (n : Int) < least then 3 else if most < n then 5 else 0
def gText (least most : Int) (d : List UInt8) : List UInt8 × Nat := if within d.length least most ≠ 0 then ([], within d.length least most) else (d, 0)
def gBool (d : List UInt8) : Bool × Nat := if d = [] then (false, 0) else if d = [1] then (true, 0) else (false, 2)
def gAddr (d : List UInt8) : List UInt8 × Nat := if d = [] ∨ d.length = 20 then (d, 0) else ([], 2)
def getNumber : It → Nat × Nat := ofBytes 0 ub
def getWord : It → Nat × Nat := ofBytes 0 pw
def getText (least most : Int) : It → List UInt8 × Nat := ofBytes [] (gText least most)
def getBool : It → Bool × Nat := ofBytes false gBool
def getAddr : It → List UInt8 × Nat := ofBytes [] gAddr
def getList (least most : Int) : It → List It × Nat
  | .mk false _ _ => ([], 2)
  | .mk true _ xs => if within xs.length least most ≠ 0 then ([], within xs.length least most) else (xs, 0)
def getEach (least most : Int) : List It → List (List UInt8) × Nat
  | [] => ([], 0)
  | x :: xs => if (getText least most x).2 ≠ 0 then ([], (getText least most x).2) else if (getEach least most xs).2 ≠ 0 then ([], (getEach least most xs).2) else ((getText least most x).1 :: (getEach least most xs).1, 0)
def getTexts (many least most : Int) (x : It) : List (List UInt8) × Nat :=
  if (getList 0 many x).2 ≠ 0 then ([], (getList 0 many x).2) else getEach least most (getList 0 many x).1

/-! What is read of an item that is one is written just so. -/
theorem number_only {x : It} (hx : formI 0 x = 0) (h : (getNumber x).2 = 0) : textI (ben (getNumber x).1) = x := by
  match x with
  | .mk true _ _ => cases h
  | .mk false d xs =>
    obtain rfl := (formI_ok hx).2 rfl
    exact congrArg (fun b => It.mk false b []) (be_ub (l := d) h)
theorem gText_ok {least most : Int} {d : List UInt8} (h : (gText least most d).2 = 0) : (gText least most d).1 = d := by
  unfold gText at h ⊢
  by_cases h1 : within d.length least most ≠ 0
  · rw [if_pos h1] at h; exact absurd h h1
  · rw [if_neg h1]
theorem text_only {x : It} {least most : Int} (hx : formI 0 x = 0) (h : (getText least most x).2 = 0) : textI (getText least most x).1 = x := by
  match x with
  | .mk true _ _ => cases h
  | .mk false d xs =>
    obtain rfl := (formI_ok hx).2 rfl
    exact congrArg (fun b => It.mk false b []) (gText_ok (d := d) h)
theorem bool_only {x : It} (hx : formI 0 x = 0) (h : (getBool x).2 = 0) : boolI (getBool x).1 = x := by
  match x with
  | .mk true _ _ => cases h
  | .mk false d xs =>
    obtain rfl := (formI_ok hx).2 rfl
    change (gBool d).2 = 0 at h
    show boolI (gBool d).1 = _
    unfold gBool at h ⊢
    by_cases h1 : d = []
    · rw [if_pos h1, h1]; rfl
    · rw [if_neg h1] at h ⊢
      by_cases h2 : d = [1]
      · rw [if_pos h2, h2]; rfl
      · rw [if_neg h2] at h; cases h
theorem getList_ok {least most : Int} {x : It} (h : (getList least most x).2 = 0) : ∃ b xs, x = .mk true b xs ∧ (getList least most x).1 = xs := by
  match x with
  | .mk false _ _ => cases h
  | .mk true b xs =>
    refine ⟨b, xs, rfl, ?_⟩
    rw [getList] at h ⊢
    by_cases h1 : within xs.length least most ≠ 0
    · rw [if_pos h1] at h; exact absurd h h1
    · rw [if_neg h1]
end Go.Proofs.YtebjhbeaknokkaaGreatDoor.M
namespace Go.Proofs.YtebjhbeaknokkaaGreatDoor
open Go Go.RowKit

/-- A word as a value. -/
abbrev wd (a b c d : Int) : Value := .agg #[.int .u64 a, .int .u64 b, .int .u64 c, .int .u64 d]

/-- A number's word. -/
abbrev wn (N : Nat) : Value := wd (M.pt 0 N) (M.pt 1 N) (M.pt 2 N) (M.pt 3 N)

end Go.Proofs.YtebjhbeaknokkaaGreatDoor
namespace Go.Proofs.YtebjhbeaknokkaaGreatDoor
open Go Go.RowKit Go.Lib

/-- Bytes that may be read, in a block no older than B. -/
def SrB (B : Nat) (l : List UInt8) (v : Value) (w : World) : Prop := (v = .slice none 0 0 ∧ l = []) ∨ ∃ ad c, v = .slice (some ad) l.length c ∧ B ≤ ad.block ∧ ad.block < w.heap.size ∧ ∀ j u, (bc l)[j]? = some u → w.cell? (ad.add j) = some u
theorem SrB.sr {B : Nat} {l : List UInt8} {v : Value} {w : World} (h : SrB B l v w) : Sr l v w := by
  rcases h with h | ⟨ad, c, rfl, _, _, hc⟩
  · exact .inl h
  · exact .inr ⟨ad, c, rfl, hc⟩
theorem SrB.slice {B : Nat} {l : List UInt8} {v : Value} {w : World} (h : SrB B l v w) : ∃ a cap, v = .slice a l.length cap := by
  rcases h with ⟨rfl, rfl⟩ | ⟨ad, c, rfl, _, _, _⟩
  · exact ⟨none, 0, rfl⟩
  · exact ⟨_, _, rfl⟩
theorem SrB.mono {A B : Nat} {l : List UInt8} {v : Value} {w : World} (h : SrB B l v w) (hAB : A ≤ B) : SrB A l v w := by
  rcases h with h | ⟨ad, c, rfl, h1, h2, hc⟩
  · exact .inl h
  · exact .inr ⟨ad, c, rfl, Nat.le_trans hAB h1, h2, hc⟩
/-- A block below is changed. -/
theorem SrB.grown {B : Nat} {l : List UInt8} {v : Value} {w W : World} {row : Option Nat} (h : SrB B l v w) (hg : w.grownBy W row) (hr : ∀ g, row = some g → g < B) : SrB B l v W := by
  rcases h with h | ⟨ad, c, rfl, h1, h2, hc⟩
  · exact .inl h
  · refine .inr ⟨ad, c, rfl, h1, Nat.lt_of_lt_of_le h2 hg.size, fun j u hj => ?_⟩
    have e : (ad.add j).block = ad.block := by unfold Addr.add; split <;> rfl
    exact hg.cell (hc j u hj) (fun e' => by have := hr ad.block (by rw [← e']; rw [e]); omega)
theorem SrB.from_ {B : Nat} {l : List UInt8} {v : Value} {w W : World} (h : SrB B l v w) (hb : Below w.heap.size w W) : SrB B l v W :=
  h.grown (row := none) ⟨hb.os, hb.tape, hb.output, hb.size, fun i hi _ => hb.block i hi⟩ (fun g e => by cases e)
/-- Bytes of one's own, where another block is changed. -/
theorem Ow.grown {B : Nat} {l : List UInt8} {v : Value} {w W : World} {row : Option Nat} (h : Ow B l v w) (hg : w.grownBy W row) (hr : ∀ g, v.ownBlock = some g → row ≠ some g) : Ow B l v W := by
  refine ⟨h.1, ?_⟩
  rcases h.2 with h0 | ⟨g, cap, cur, hv, hB, hgc, h1⟩
  · exact .inl h0
  · exact .inr ⟨g, cap, cur, hv, hB, (hg.block g (Array.getElem?_eq_some_iff.1 hgc).1 (fun e => hr g (by rw [hv]; rfl) e.symm)).trans hgc, h1⟩
theorem Ow.lt {B : Nat} {l : List UInt8} {v : Value} {w : World} (h : Ow B l v w) : ∀ k, v.ownBlock = some k → B ≤ k ∧ k < w.heap.size := World.ownsRow.lt h
end Go.Proofs.YtebjhbeaknokkaaGreatDoor
namespace Go.Proofs.YtebjhbeaknokkaaGreatDoor
open Go Go.RowKit Go.Lib

/-- How long a text may be. -/
abbrev longS : Nat := 140737488355328
/-- What a slice of texts leads to. -/
inductive Ts (w : World) (n : Nat) : List (List UInt8) → Value → Prop
  | nil_ {a : Option Addr} {cap : Nat} (hm : cap ≤ maxLen) : Ts w n [] (.slice a 0 cap)
  | row {ls : List (List UInt8)} {b o cap : Nat} (hb : b < n) (hc : ls.length ≤ cap) (hm : cap ≤ maxLen)
      (c : ∀ i s, ls[i]? = some s → w.cell? ⟨b, o + i, none⟩ = some (.string ⟨s.toArray⟩)) : Ts w n ls (.slice (some ⟨b, o, none⟩) ls.length cap)
theorem Ts.from_ {w W : World} {n : Nat} {ls : List (List UInt8)} {v : Value} (h : Ts w n ls v) (hb : Below n w W) : Ts W n ls v := by
  cases h with
  | nil_ hm => exact .nil_ hm
  | row hbn hc hm c => exact .row hbn hc hm fun i s e => (hb.cell (p := ⟨_, _, none⟩) hbn).trans (c i s e)
theorem Ts.mono {w : World} {m n : Nat} {ls : List (List UInt8)} {v : Value} (h : Ts w m ls v) (hmn : m ≤ n) : Ts w n ls v := by
  cases h with
  | nil_ hm => exact .nil_ hm
  | row hbn hc hm c => exact .row (Nat.lt_of_lt_of_le hbn hmn) hc hm c
theorem Ts.slice {w : World} {n : Nat} {ls : List (List UInt8)} {v : Value} (h : Ts w n ls v) : ∃ a cap, v = .slice a ls.length cap ∧ ls.length ≤ cap ∧ cap ≤ maxLen := by
  cases h with
  | nil_ hm => exact ⟨_, _, rfl, Nat.zero_le _, hm⟩
  | row hbn hc hm c => exact ⟨_, _, rfl, hc, hm⟩
theorem Ts.at_ {w : World} {n : Nat} {ls : List (List UInt8)} {a : Option Addr} {m cap i : Nat} (h : Ts w n ls (.slice a m cap)) (hi : i < ls.length) : ∃ b o s, a = some ⟨b, o, none⟩ ∧ b < n ∧ ls[i]? = some s ∧ w.cell? ⟨b, o + i, none⟩ = some (.string ⟨s.toArray⟩) := by
  cases h with
  | nil_ hm => simp at hi
  | row hbn hc hm c => exact ⟨_, _, ls[i], rfl, hbn, List.getElem?_eq_getElem hi, c i _ (List.getElem?_eq_getElem hi)⟩

/-- Texts as cells. -/
def tc (l : List (List UInt8)) : List Value := l.map fun s => Value.string ⟨s.toArray⟩
/-- A row of texts of one's own. -/
def OwS (B : Nat) (l : List (List UInt8)) (v : Value) (w : World) : Prop := w.ownsRow B 9 1 v l.length (tc l)
theorem OwS.nil (B : Nat) (w : World) : OwS B [] (.slice none 0 0) w := World.ownsRow_nil _ _ _ _
theorem OwS.mono {A B : Nat} {l : List (List UInt8)} {v : Value} {w : World} (h : OwS B l v w) (hAB : A ≤ B) : OwS A l v w := by
  refine ⟨h.1, ?_⟩
  rcases h.2 with h0 | ⟨g, cap, cur, hv, hb, h1⟩
  · exact .inl h0
  · exact .inr ⟨g, cap, cur, hv, by omega, h1⟩
theorem OwS.lt {B : Nat} {l : List (List UInt8)} {v : Value} {w : World} (h : OwS B l v w) : ∀ k, v.ownBlock = some k → B ≤ k ∧ k < w.heap.size := World.ownsRow.lt h
theorem OwS.len {B : Nat} {l : List (List UInt8)} {v : Value} {w : World} (h : OwS B l v w) : ∃ a cap, v = .slice a l.length cap := by
  rcases h.2 with ⟨h0, h1⟩ | ⟨g, cap, cur, rfl, hB, hg, h1⟩
  · exact ⟨none, 0, by rw [h0, h1]⟩
  · exact ⟨_, _, rfl⟩
/-- Where a row that is not empty stands, and its cells. -/
theorem OwS.row {B : Nat} {l : List (List UInt8)} {v : Value} {w : World} (h : OwS B l v w) (hl : 0 < l.length) : ∃ g cap, v = .slice (some ⟨g, 0, none⟩) l.length cap ∧ B ≤ g ∧ g < w.heap.size ∧ ∀ j n, l[j]? = some n → w.cell? ⟨g, j, none⟩ = some (.string ⟨n.toArray⟩) := by
  rcases id h.2 with ⟨_, h0⟩ | ⟨g, cap, cur, rfl, hB, hg, hnc, hcm, hcs, htake⟩
  · omega
  · refine ⟨g, cap, rfl, hB, (Array.getElem?_eq_some_iff.1 hg).1, fun j n hj => ?_⟩
    have hi := (List.getElem?_eq_some_iff.1 hj).1
    have := World.ownsRow.cellAt h j (by omega)
    rw [this]
    simp [tc, hj]
theorem OwS.grown {B : Nat} {l : List (List UInt8)} {v : Value} {w W : World} {row : Option Nat} (h : OwS B l v w) (hg : w.grownBy W row) (hr : ∀ g, v.ownBlock = some g → row ≠ some g) : OwS B l v W := by
  refine ⟨h.1, ?_⟩
  rcases h.2 with h0 | ⟨g, cap, cur, hv, hB, hgc, h1⟩
  · exact .inl h0
  · exact .inr ⟨g, cap, cur, hv, hB, (hg.block g (Array.getElem?_eq_some_iff.1 hgc).1 (fun e => hr g (by rw [hv]; rfl) e.symm)).trans hgc, h1⟩
theorem OwS.from_ {B : Nat} {l : List (List UInt8)} {v : Value} {w W : World} (h : OwS B l v w) (hb : Below w.heap.size w W) : OwS B l v W :=
  h.grown (row := none) ⟨hb.os, hb.tape, hb.output, hb.size, fun i hi _ => hb.block i hi⟩ (fun g _ e => by cases e)
theorem Tryz.ofTxt : (Tryz.prog.info? 9).map (fun i => (i.zero, i.size, i.bytes)) = some (some (.string ⟨#[]⟩), 1, 16) := by kernel_rfl
/-- What a row of one's own leads to. -/
theorem OwS.ts {B : Nat} {l : List (List UInt8)} {v : Value} {w : World} (h : OwS B l v w) : Ts w w.heap.size l v := by
  rcases id h.2 with ⟨h0, h1⟩ | ⟨g, cap, cur, rfl, hB, hg, hnc, hcm, hcs, htake⟩
  · obtain rfl := List.eq_nil_of_length_eq_zero h1
    cases h0
    exact .nil_ (by decide)
  · refine .row (Array.getElem?_eq_some_iff.1 hg).1 hnc hcm fun i s e => ?_
    have hi := (List.getElem?_eq_some_iff.1 e).1
    rw [Nat.zero_add, World.ownsRow.cellAt h i (by omega)]
    simp [tc, e]
end Go.Proofs.YtebjhbeaknokkaaGreatDoor
namespace Go.Proofs.YtebjhbeaknokkaaGreatDoor
open Go Go.RowKit

def FNumberOk : Prop := ∀ (n : Nat) (W : World), n < 18446744073709551616 → Calls Tryz.prog 20 #[.int .u64 n] W fun e w' => e = .returned (iv false (M.ben n) (.slice none 0 0)) ∧ Below W.heap.size W w'
def FWordOk : Prop := ∀ (N : Nat) (W : World), M.In N → Calls Tryz.prog 137 #[wn N] W fun e w' => e = .returned (iv false (M.tr (M.f32 N)) (.slice none 0 0)) ∧ Below W.heap.size W w'
def FTextOk : Prop := ∀ (s : List UInt8) (W : World), s.length ≤ longS → Calls Tryz.prog 39 #[.string ⟨s.toArray⟩] W fun e w' => e = .returned (iv false s (.slice none 0 0)) ∧ Below W.heap.size W w'
def FBoolOk : Prop := ∀ (v : Bool) (W : World), Calls Tryz.prog 19 #[.bool v] W fun e w' => e = .returned (iv false (if v then [1] else []) (.slice none 0 0)) ∧ Below W.heap.size W w'
def FListOk : Prop := ∀ (ls : List (List UInt8)) (a : Option Addr) (cap : Nat) (W : World), Lay W W.heap.size (ls.map M.textI) (.slice a ls.length cap) → ls.length ≤ 600 → (∀ s ∈ ls, s.length ≤ longS) → Calls Tryz.prog 44 #[.slice a ls.length cap] W fun e w' =>
  (∃ a' cap', e = .returned (iv true [] (.slice a' ls.length cap')) ∧ Lay w' w'.heap.size (ls.map M.textI) (.slice a' ls.length cap')) ∧ Below W.heap.size W w'
def FTextsOk : Prop := ∀ (ls : List (List UInt8)) (a : Option Addr) (cap : Nat) (W : World), Ts W W.heap.size ls (.slice a ls.length cap) → ls.length ≤ 600 → (∀ s ∈ ls, s.length ≤ longS) → Calls Tryz.prog 45 #[.slice a ls.length cap] W fun e w' =>
  (∃ a' cap', e = .returned (iv true [] (.slice a' ls.length cap')) ∧ Lay w' w'.heap.size (ls.map M.textI) (.slice a' ls.length cap')) ∧ Below W.heap.size W w'
/-- An item that is read: laid out, and no bytes longer than a text may be. -/
def Rd (W : World) (l : Bool) (d : List UInt8) (xs : List M.It) (a : Option Addr) (cap : Nat) : Prop := Lay W W.heap.size xs (.slice a xs.length cap) ∧ M.smI (.mk l d xs) ∧ M.cntIs xs ≤ 4000 ∧ M.formI 0 (.mk l d xs) = 0
def GNumberOk : Prop := ∀ (l : Bool) (d : List UInt8) (xs : List M.It) (a : Option Addr) (cap : Nat) (W : World), Rd W l d xs a cap → Calls Tryz.prog 65 #[iv l d (.slice a xs.length cap)] W fun e w' =>
  e = .returned (.tuple #[.int .u64 ((M.getNumber (.mk l d xs)).1 : Nat), .int .i64 ((M.getNumber (.mk l d xs)).2 : Nat)]) ∧ Below W.heap.size W w'
def GWordOk : Prop := ∀ (l : Bool) (d : List UInt8) (xs : List M.It) (a : Option Addr) (cap : Nat) (W : World), Rd W l d xs a cap → Calls Tryz.prog 212 #[iv l d (.slice a xs.length cap)] W fun e w' =>
  e = .returned (.tuple #[wn (M.getWord (.mk l d xs)).1, .int .i64 ((M.getWord (.mk l d xs)).2 : Nat)]) ∧ Below W.heap.size W w'
def GTextOk : Prop := ∀ (l : Bool) (d : List UInt8) (xs : List M.It) (a : Option Addr) (cap : Nat) (least most : Int) (W : World), Rd W l d xs a cap → Calls Tryz.prog 185 #[iv l d (.slice a xs.length cap), .int .i64 least, .int .i64 most] W fun e w' =>
  e = .returned (.tuple #[.string ⟨(M.getText least most (.mk l d xs)).1.toArray⟩, .int .i64 ((M.getText least most (.mk l d xs)).2 : Nat)]) ∧ Below W.heap.size W w'
def GBoolOk : Prop := ∀ (l : Bool) (d : List UInt8) (xs : List M.It) (a : Option Addr) (cap : Nat) (W : World), Rd W l d xs a cap → Calls Tryz.prog 63 #[iv l d (.slice a xs.length cap)] W fun e w' =>
  e = .returned (.tuple #[.bool (M.getBool (.mk l d xs)).1, .int .i64 ((M.getBool (.mk l d xs)).2 : Nat)]) ∧ Below W.heap.size W w'
def GAddrOk : Prop := ∀ (l : Bool) (d : List UInt8) (xs : List M.It) (a : Option Addr) (cap : Nat) (W : World), Rd W l d xs a cap → Calls Tryz.prog 217 #[iv l d (.slice a xs.length cap)] W fun e w' =>
  e = .returned (.tuple #[.string ⟨(M.getAddr (.mk l d xs)).1.toArray⟩, .int .i64 ((M.getAddr (.mk l d xs)).2 : Nat)]) ∧ Below W.heap.size W w'
/-- Of a list of bytes: how many there are. -/
def GListOk : Prop := ∀ (ls : List (List UInt8)) (a : Option Addr) (cap : Nat) (W : World), Lay W W.heap.size (ls.map M.textI) (.slice a ls.length cap) → ls.length ≤ 600 → (∀ s ∈ ls, s.length ≤ longS) → Calls Tryz.prog 101 #[iv true [] (.slice a ls.length cap), .int .i64 ls.length, .int .i64 ls.length] W fun e w' =>
  (∃ a' cap', e = .returned (.tuple #[.slice a' ls.length cap', .int .i64 0])) ∧ Below W.heap.size W w'
theorem Rd.text (W : World) (s : List UInt8) (hs : s.length ≤ longS) : Rd W false s [] none 0 := ⟨.nil_ (by decide), ⟨by unfold longS at hs; omega, trivial⟩, by decide, by simp [M.formI]⟩
end Go.Proofs.YtebjhbeaknokkaaGreatDoor
namespace Go.Proofs.YtebjhbeaknokkaaGreatDoor
open Go Go.RowKit

theorem list_same {α : Type} {xs ys : List α} (hl : xs.length = ys.length) (h : ∀ i, i < xs.length → xs[i]? = ys[i]?) : xs = ys := List.ext_getElem? fun i => by
  by_cases hi : i < xs.length
  · exact h i hi
  · rw [List.getElem?_eq_none (by omega), List.getElem?_eq_none (by omega)]

set_option maxRecDepth 100000 in
set_option maxHeartbeats 4000000 in
theorem rtexts_any (ls ms : List (List UInt8)) (a b : Option Addr) (c e : Nat) (w : World) (hL : Ts w w.heap.size ls (.slice a ls.length c)) (hM : Ts w w.heap.size ms (.slice b ms.length e)) (hl : ls.length ≤ 1000) (_hm : ms.length ≤ 1000) :
    Calls Tryz.prog 28 #[.slice a ls.length c, .slice b ms.length e] w fun e w' => e = .returned (.bool (decide (ls = ms))) ∧ Below w.heap.size w w' := by
  by_cases hne : ls.length = ms.length
  · have hne' : ((ls.length : Nat) : Int) = (ms.length : Nat) := by omega
    have hD := Lib.hid (fun (i : Nat) (h : ls[i]? ≠ ms[i]?) => (decide_eq_false (p := ls = ms) (fun e => h (by rw [e]))))
    have hT := Lib.hid (fun (h : ∀ i, i < ls.length → ls[i]? = ms[i]?) => decide_eq_true (list_same hne h))
    generalize decide (ls = ms) = r at *
    go_enter Tryz.func28, Tryz.ntmps28
    go_wp2_with fail
    go_loopw [5] (fun i wr => ∃ k : Nat, k ≤ ls.length ∧ i = .int .i64 k ∧ (∀ j, j < k → ls[j]? = ms[j]?) ∧ Below w.heap.size w wr) (fun i _ => ls.length - (intOf i).toNat)
    case atStart => exact ⟨0, by omega, rfl, fun j h => by omega, Below.refl _ _⟩
    case round =>
      obtain ⟨k, hk, rfl, hf, hW⟩ := hrel
      by_cases hlt : k < ls.length
      · obtain ⟨b1, o1, s, rfl, hb1, hs, cs⟩ := (hL.from_ hW).at_ hlt
        obtain ⟨b2, o2, t, rfl, hb2, ht, ct⟩ := (hM.from_ hW).at_ (show k < ms.length by omega)
        have hlt2 : k < ms.length := by omega
        have hk2 : k < 1000 := by omega
        have hlt' : ((k : Nat) : Int) < (ms.length : Nat) := by omega
        have mixed : Tryz.prog.follows .mixedOrders = true := by kernel_rfl
        go_wp2_with fail
        go_quiet (fail)
        generalize hq : (!(s == t)) = q at *
        cases q with
        | false =>
          have hst : s = t := by simpa using hq
          clear hq
          go_wp2_with fail
          go_roundw
          case rel =>
            refine ⟨k + 1, by omega, by simp, fun j hj => ?_, ?_⟩
            · by_cases hjk : j = k
              · rw [hjk, hs, ht, hst]
              · exact hf j (by omega)
            · exact hW.trans ⟨rfl, rfl, rfl, Nat.le_refl _, fun _ _ => rfl⟩
          case measure => simp [intOf]; omega
        | true =>
          have hst : ¬ s = t := by simpa using hq
          clear hq
          have hr := hD.out k (by rw [hs, ht]; intro h; exact hst (Option.some.inj h))
          subst hr
          go_wp2_with fail
          go_ret
          exact ⟨rfl, hW.trans ⟨rfl, rfl, rfl, Nat.le_refl _, fun _ _ => rfl⟩⟩
      · obtain rfl : k = ls.length := by omega
        have hr := hT.out hf
        subst hr
        go_wp2_with fail
        go_ret
        exact ⟨rfl, hW⟩
  · have hne' : ¬ ((ls.length : Nat) : Int) = (ms.length : Nat) := by omega
    have hd : decide (ls = ms) = false := decide_eq_false (fun e => hne (by rw [e]))
    rw [hd]
    go_enter Tryz.func28, Tryz.ntmps28
    go_wp2_with fail
    go_ret
    exact ⟨rfl, Below.refl _ _⟩

end Go.Proofs.YtebjhbeaknokkaaGreatDoor
namespace Go.Proofs.YtebjhbeaknokkaaGreatDoor
open Go Go.RowKit

end Go.Proofs.YtebjhbeaknokkaaGreatDoor
namespace Go.Proofs.YtebjhbeaknokkaaGreatDoor
open Go Go.RowKit

/-- Four cells of a block that lies in a world. -/
structure W4 (W : World) (b : Nat) (a0 a1 a2 a3 : Int) : Prop where
  c0 : W.cell? ⟨b, 0, none⟩ = some (.int .u64 a0)
  c1 : W.cell? ⟨b, 1, none⟩ = some (.int .u64 a1)
  c2 : W.cell? ⟨b, 2, none⟩ = some (.int .u64 a2)
  c3 : W.cell? ⟨b, 3, none⟩ = some (.int .u64 a3)
  lt : b < W.heap.size

theorem W4.below {W W' : World} {b : Nat} {a0 a1 a2 a3 : Int} (h : W4 W b a0 a1 a2 a3) (hb : Below W.heap.size W W') : W4 W' b a0 a1 a2 a3 :=
  ⟨(hb.cell (p := ⟨b, 0, none⟩) h.lt).trans h.c0, (hb.cell (p := ⟨b, 1, none⟩) h.lt).trans h.c1, (hb.cell (p := ⟨b, 2, none⟩) h.lt).trans h.c2, (hb.cell (p := ⟨b, 3, none⟩) h.lt).trans h.c3, Nat.lt_of_lt_of_le h.lt hb.size⟩

theorem W4.new (W : World) (a0 a1 a2 a3 : Int) (t : Nat) : W4 (W.alloc (.cells #[.int .u64 a0, .int .u64 a1, .int .u64 a2, .int .u64 a3] t)) W.heap.size a0 a1 a2 a3 :=
  ⟨by simp [go_sem], by simp [go_sem], by simp [go_sem], by simp [go_sem], by simp⟩

theorem W4.put {W : World} {b : Nat} {x0 x1 x2 x3 a0 a1 a2 a3 : Int} (h : W4 W b x0 x1 x2 x3) : W4 ((((W.setCell ⟨b, 0, none⟩ (.int .u64 a0)).setCell ⟨b, 1, none⟩ (.int .u64 a1)).setCell ⟨b, 2, none⟩ (.int .u64 a2)).setCell ⟨b, 3, none⟩ (.int .u64 a3)) b a0 a1 a2 a3 := by
  obtain ⟨c0, c1, c2, c3, lt⟩ := h
  have d0 : (W.setCell ⟨b, 0, none⟩ (.int .u64 a0)).cell? ⟨b, 0, none⟩ = some (.int .u64 a0) := by simp [go_sem, c0]
  have d1 : (W.setCell ⟨b, 0, none⟩ (.int .u64 a0)).cell? ⟨b, 1, none⟩ = some (.int .u64 x1) := by simp [go_sem, c1]
  have d2 : (W.setCell ⟨b, 0, none⟩ (.int .u64 a0)).cell? ⟨b, 2, none⟩ = some (.int .u64 x2) := by simp [go_sem, c2]
  have d3 : (W.setCell ⟨b, 0, none⟩ (.int .u64 a0)).cell? ⟨b, 3, none⟩ = some (.int .u64 x3) := by simp [go_sem, c3]
  have l1 : b < (W.setCell ⟨b, 0, none⟩ (.int .u64 a0)).heap.size := by simpa using lt
  generalize W.setCell ⟨b, 0, none⟩ (.int .u64 a0) = W1 at *
  have e0 : (W1.setCell ⟨b, 1, none⟩ (.int .u64 a1)).cell? ⟨b, 0, none⟩ = some (.int .u64 a0) := by simp [go_sem, d0]
  have e1 : (W1.setCell ⟨b, 1, none⟩ (.int .u64 a1)).cell? ⟨b, 1, none⟩ = some (.int .u64 a1) := by simp [go_sem, d1]
  have e2 : (W1.setCell ⟨b, 1, none⟩ (.int .u64 a1)).cell? ⟨b, 2, none⟩ = some (.int .u64 x2) := by simp [go_sem, d2]
  have e3 : (W1.setCell ⟨b, 1, none⟩ (.int .u64 a1)).cell? ⟨b, 3, none⟩ = some (.int .u64 x3) := by simp [go_sem, d3]
  have l2 : b < (W1.setCell ⟨b, 1, none⟩ (.int .u64 a1)).heap.size := by simpa using l1
  generalize W1.setCell ⟨b, 1, none⟩ (.int .u64 a1) = W2 at *
  have f0 : (W2.setCell ⟨b, 2, none⟩ (.int .u64 a2)).cell? ⟨b, 0, none⟩ = some (.int .u64 a0) := by simp [go_sem, e0]
  have f1 : (W2.setCell ⟨b, 2, none⟩ (.int .u64 a2)).cell? ⟨b, 1, none⟩ = some (.int .u64 a1) := by simp [go_sem, e1]
  have f2 : (W2.setCell ⟨b, 2, none⟩ (.int .u64 a2)).cell? ⟨b, 2, none⟩ = some (.int .u64 a2) := by simp [go_sem, e2]
  have f3 : (W2.setCell ⟨b, 2, none⟩ (.int .u64 a2)).cell? ⟨b, 3, none⟩ = some (.int .u64 x3) := by simp [go_sem, e3]
  have l3 : b < (W2.setCell ⟨b, 2, none⟩ (.int .u64 a2)).heap.size := by simpa using l2
  generalize W2.setCell ⟨b, 2, none⟩ (.int .u64 a2) = W3 at *
  exact ⟨by simp [go_sem, f0], by simp [go_sem, f1], by simp [go_sem, f2], by simp [go_sem, f3], by simpa using l3⟩

end Go.Proofs.YtebjhbeaknokkaaGreatDoor
namespace Go.Proofs.YtebjhbeaknokkaaGreatDoor
open Go Go.RowKit

theorem W4.belowN {W W' : World} {b B : Nat} {a0 a1 a2 a3 : Int} (h : W4 W b a0 a1 a2 a3) (hb : Below B W W') (hl : b < B) : W4 W' b a0 a1 a2 a3 :=
  ⟨(hb.cell (p := ⟨b, 0, none⟩) hl).trans h.c0, (hb.cell (p := ⟨b, 1, none⟩) hl).trans h.c1, (hb.cell (p := ⟨b, 2, none⟩) hl).trans h.c2, (hb.cell (p := ⟨b, 3, none⟩) hl).trans h.c3, Nat.lt_of_lt_of_le h.lt hb.size⟩

/-- A row that is owned and not empty: where it lies, and its cells. -/
theorem row_cells {w : World} {B e n : Nat} {v : Value} {q : IntKind} {xs : List Int} (h : w.ownsRow B e 1 v n (xs.map (Value.int q))) (hn : 0 < n) :
    ∃ g cap, v = .slice (some ⟨g, 0, none⟩) n cap ∧ ∀ i, i < xs.length → w.cell? ⟨g, i, none⟩ = some (.int q (xs.getD i 0)) := by
  rcases h.2 with ⟨_, h0⟩ | ⟨g, cap, cur, rfl, _⟩
  · omega
  · refine ⟨g, cap, rfl, fun i hi => ?_⟩
    have := h.cells (g := g) rfl i (.int q (xs.getD i 0)) (by simp [List.getElem?_eq_getElem hi, List.getD])
    by_cases h0 : i = 0
    · subst h0
      simpa [Addr.add] using this
    · simpa [Addr.add, h0] using this

end Go.Proofs.YtebjhbeaknokkaaGreatDoor
