/- What every seat leans on. Plain arithmetic: a number below 2^256 and its four parts of 64 bits; the carries of a sum and of a difference. Plain arithmetic: numbers and their bytes, the highest one first. Plain arithmetic: items, their bytes, how deep they are, what is wrong with them; no item's bytes begin another one's. Plain arithmetic: how deep an item may stand; heads by their lengths; alike. Plain arithmetic: how many items an item holds; what its bytes come to at most; parts by their places. How an item lies in memory. Bytes as strings: converted, put together, cut, looked into. Bytes that a call owns: what is appended to them. Regions that draw their order: found by their numbers; in a round as everywhere, if they defer nothing. Package tx: the fields of a transaction that is nought, and what leaves one of them. Package tx: a field of a kind, as three functions. Package tx: the table of kinds: a map of rows of fields. -/
import Derived.Test.YtebjhbeaknokkaaGreatDoorProg
import Derived.WalkKit
import Derived.Below
import Derived.Laws.Externs
import Derived.Laws.ResultCell
import Derived.Deep.QuietTactic
import Derived.BigQuiet
import Derived.RegionTactic
import Derived.BigRegion
import Derived.LoopTactic
import Derived.LoopN
import Derived.Lib.Hide
import Derived.Laws.BytesArg
import Derived.Lib.ConvBytes
import Derived.Lib.AppendStr
import Derived.Laws.AppendOwnNone
import Derived.Laws.OwnMore
import Derived.Laws.CopyRow
import Derived.RangeFuncCalls
import Derived.OrdersIn
import Derived.LoopIn
import Derived.OrdersHeld
import Derived.Deep.RegionHeld
import Derived.Shelf.Abstract
import Derived.Maps.OwnIn
import Derived.Maps.Own
import Derived.Maps.OwnOps
namespace Go.Proofs.YtebjhbeaknokkaaGreatDoor
open Go Go.RowKit

theorem bcell {W w1 : World} (hb : Below W.heap.size W w1) : (∀ b o, b < W.heap.size → w1.cell? ⟨b, o, none⟩ = W.cell? ⟨b, o, none⟩) ∧ (∀ b o, b < W.heap.size → w1.frozen? ⟨b, o, none⟩ = W.frozen? ⟨b, o, none⟩) :=
  ⟨fun b o h => hb.cell (p := ⟨b, o, none⟩) h, fun b o h => hb.frozen (p := ⟨b, o, none⟩) h⟩

theorem cat_eq (a b : List UInt8) : ((⟨a.toArray⟩ : ByteArray) ++ (⟨b.toArray⟩ : ByteArray)) = ⟨(a ++ b).toArray⟩ := by
  apply ByteArray.ext
  simp

end Go.Proofs.YtebjhbeaknokkaaGreatDoor
namespace Go.Proofs.YtebjhbeaknokkaaGreatDoor.M

/-- Part i of a number, the lowest one first. -/
def pt (i N : Nat) : Int := ((N / 18446744073709551616 ^ i % 18446744073709551616 : Nat) : Int)

/-- Below 2^256. -/
def In (N : Nat) : Prop := N < 115792089237316195423570985008687907853269984665640564039457584007913129639936

theorem pt_nonneg (i N : Nat) : 0 ≤ pt i N := by unfold pt; omega
theorem whole {N : Nat} (h : In N) : (N : Int) = pt 0 N + 18446744073709551616 * pt 1 N + 340282366920938463463374607431768211456 * pt 2 N + 6277101735386680763835789423207666416102355444464034512896 * pt 3 N := by
  unfold In at h
  unfold pt
  simp only [Nat.pow_zero, Nat.pow_one, Nat.div_one, show 18446744073709551616 ^ 2 = 340282366920938463463374607431768211456 from rfl, show 18446744073709551616 ^ 3 = 6277101735386680763835789423207666416102355444464034512896 from rfl]
  omega

theorem parts {N : Nat} {a b c d : Int} (ha : 0 ≤ a) (ha' : a < 18446744073709551616) (hb : 0 ≤ b) (hb' : b < 18446744073709551616) (hc : 0 ≤ c) (hc' : c < 18446744073709551616) (hd : 0 ≤ d) (hd' : d < 18446744073709551616)
    (h : (N : Int) = a + 18446744073709551616 * b + 340282366920938463463374607431768211456 * c + 6277101735386680763835789423207666416102355444464034512896 * d) :
    pt 0 N = a ∧ pt 1 N = b ∧ pt 2 N = c ∧ pt 3 N = d := by
  unfold pt
  simp only [Nat.pow_zero, Nat.pow_one, Nat.div_one, show 18446744073709551616 ^ 2 = 340282366920938463463374607431768211456 from rfl, show 18446744073709551616 ^ 3 = 6277101735386680763835789423207666416102355444464034512896 from rfl]
  omega

def adC (x y c : Int) : Int := (x + y + c) / 18446744073709551616
def sbC (x y c : Int) : Int := if x < y + c then 1 else 0

/-- The carries of two numbers' parts. -/
def k1 (A B : Nat) : Int := adC (pt 0 A) (pt 0 B) 0
def k2 (A B : Nat) : Int := adC (pt 1 A) (pt 1 B) (k1 A B)
def k3 (A B : Nat) : Int := adC (pt 2 A) (pt 2 B) (k2 A B)
def k4 (A B : Nat) : Int := adC (pt 3 A) (pt 3 B) (k3 A B)
/-- The borrows. -/
def j1 (A B : Nat) : Int := sbC (pt 0 A) (pt 0 B) 0
def j2 (A B : Nat) : Int := sbC (pt 1 A) (pt 1 B) (j1 A B)
def j3 (A B : Nat) : Int := sbC (pt 2 A) (pt 2 B) (j2 A B)
end Go.Proofs.YtebjhbeaknokkaaGreatDoor.M
namespace Go.Proofs.YtebjhbeaknokkaaGreatDoor.M

/-- The number of bytes, behind a number. -/
def dgA (n : Nat) : List UInt8 → Nat
  | [] => n
  | c :: l => dgA (n * 256 + c.toNat) l
/-- The number of bytes. -/
def dg (l : List UInt8) : Nat := dgA 0 l

theorem dgA_append (n : Nat) (l r : List UInt8) : dgA n (l ++ r) = dgA (dgA n l) r := by
  induction l generalizing n with
  | nil => rfl
  | cons c l ih => exact ih _
theorem dgA_eq (n : Nat) (l : List UInt8) : dgA n l = n * 256 ^ l.length + dg l := by
  induction l generalizing n with
  | nil => simp [dgA, dg]
  | cons c l ih =>
    have e1 : dgA n (c :: l) = dgA (n * 256 + c.toNat) l := rfl
    have e2 : dg (c :: l) = dgA (0 * 256 + c.toNat) l := rfl
    rw [e1, e2, ih, ih (0 * 256 + c.toNat), List.length_cons, Nat.pow_succ, Nat.zero_mul, Nat.zero_add]
    have : (n * 256 + c.toNat) * 256 ^ l.length = n * (256 ^ l.length * 256) + c.toNat * 256 ^ l.length := by
      rw [Nat.add_mul, Nat.mul_assoc, Nat.mul_comm 256]
    rw [this]
    omega
theorem dg_append (l r : List UInt8) : dg (l ++ r) = dg l * 256 ^ r.length + dg r := by
  unfold dg
  rw [dgA_append, dgA_eq]
  rfl
theorem dg_snoc (l : List UInt8) (c : UInt8) : dg (l ++ [c]) = dg l * 256 + c.toNat := by
  rw [dg_append]
  simp [dg, dgA]
theorem dg_lt (l : List UInt8) : dg l < 256 ^ l.length := by
  induction l with
  | nil => simp [dg, dgA]
  | cons c l ih =>
    have e : dg (c :: l) = dgA (0 * 256 + c.toNat) l := rfl
    rw [e, dgA_eq, List.length_cons, Nat.pow_succ]
    have hc := c.toNat_lt
    have : (0 * 256 + c.toNat) * 256 ^ l.length ≤ 255 * 256 ^ l.length := Nat.mul_le_mul_right _ (by omega)
    omega
theorem dg_8 {l : List UInt8} (h : l.length = 8) : dg l < 18446744073709551616 := by
  have := dg_lt l
  rw [h, show (256 : Nat) ^ 8 = 18446744073709551616 from rfl] at this
  exact this
theorem dg_app8 {r : List UInt8} (h : r.length = 8) (l : List UInt8) : dg (l ++ r) = dg l * 18446744073709551616 + dg r := by
  rw [dg_append, h, show (256 : Nat) ^ 8 = 18446744073709551616 from rfl]
theorem dg_zeros (k : Nat) (l : List UInt8) : dg (List.replicate k 0 ++ l) = dg l := by
  induction k with
  | zero => rfl
  | succ k ih => exact ih

/-- k bytes of a number. -/
def be : Nat → Nat → List UInt8
  | 0, _ => []
  | k + 1, N => be k (N / 256) ++ [UInt8.ofNat (N % 256)]
theorem be_length (k N : Nat) : (be k N).length = k := by
  induction k generalizing N with
  | zero => rfl
  | succ k ih => simp [be, ih]
theorem dg_be (k N : Nat) (h : N < 256 ^ k) : dg (be k N) = N := by
  induction k generalizing N with
  | zero => simp at h; subst h; rfl
  | succ k ih =>
    rw [be, dg_snoc, ih _ (by rw [Nat.pow_succ] at h; omega)]
    have : (UInt8.ofNat (N % 256)).toNat = N % 256 := by simp
    omega
theorem be_dg (l : List UInt8) : be l.length (dg l) = l := by
  obtain ⟨r, rfl⟩ : ∃ r, l = List.reverse r := ⟨l.reverse, by simp⟩
  induction r with
  | nil => rfl
  | cons c r ih =>
    rw [List.reverse_cons, dg_snoc, List.length_append, List.length_singleton, be]
    have hc := c.toNat_lt
    rw [show (dg r.reverse * 256 + c.toNat) / 256 = dg r.reverse by omega, show (dg r.reverse * 256 + c.toNat) % 256 = c.toNat by omega, ih]
    simp
theorem be_add (j k N : Nat) : be (j + k) N = be j (N / 256 ^ k) ++ be k N := by
  induction k generalizing N with
  | zero => simp [be]
  | succ k ih =>
    rw [← Nat.add_assoc, be, ih, be, ← List.append_assoc, Nat.div_div_eq_div_mul, Nat.pow_succ, Nat.mul_comm]
theorem be_mod (k N : Nat) : be k (N % 256 ^ k) = be k N := by
  induction k generalizing N with
  | zero => rfl
  | succ k ih =>
    rw [be, be, ← ih (N / 256)]
    have e1 : N % 256 ^ (k + 1) / 256 = N / 256 % 256 ^ k := by
      rw [Nat.pow_succ, Nat.mul_comm, Nat.mod_mul_right_div_self]
    have e2 : N % 256 ^ (k + 1) % 256 = N % 256 := Nat.mod_mod_of_dvd _ ⟨256 ^ k, by rw [Nat.pow_succ, Nat.mul_comm]⟩
    rw [e1, e2]
theorem be8_eq (n : Nat) : be 8 n = [UInt8.ofNat (n / 72057594037927936 % 256), UInt8.ofNat (n / 281474976710656 % 256), UInt8.ofNat (n / 1099511627776 % 256), UInt8.ofNat (n / 4294967296 % 256), UInt8.ofNat (n / 16777216 % 256), UInt8.ofNat (n / 65536 % 256), UInt8.ofNat (n / 256 % 256), UInt8.ofNat (n % 256)] := by
  simp only [be, Nat.div_div_eq_div_mul, List.nil_append, List.cons_append, Nat.reduceMul]

/-- A word's 32 bytes. -/
def f32 (N : Nat) : List UInt8 := be 32 N
theorem f32_length (N : Nat) : (f32 N).length = 32 := be_length 32 N
theorem in_pow {N : Nat} : In N ↔ N < 256 ^ 32 := by unfold In; rfl
theorem dg_f32 {N : Nat} (h : In N) : dg (f32 N) = N := dg_be 32 N (in_pow.1 h)
theorem f32_dg {l : List UInt8} (h : l.length = 32) : f32 (dg l) = l := by
  have := be_dg l
  rw [h] at this
  exact this
/-- The 32 bytes, part by part. -/
theorem f32_parts {N : Nat} (_h : In N) : f32 N = be 8 (pt 3 N).toNat ++ be 8 (pt 2 N).toNat ++ be 8 (pt 1 N).toNat ++ be 8 (pt 0 N).toNat := by
  have e : ∀ i, be 8 (pt i N).toNat = be 8 (N / 18446744073709551616 ^ i) := by
    intro i
    unfold pt
    rw [Int.toNat_natCast, show (18446744073709551616 : Nat) = 256 ^ 8 from rfl, be_mod]
  rw [e 0, e 1, e 2, e 3]
  have q1 : N / 256 ^ 8 / 256 ^ 8 = N / 18446744073709551616 ^ 2 := by rw [Nat.div_div_eq_div_mul]
  have q2 : N / 18446744073709551616 ^ 2 / 256 ^ 8 = N / 18446744073709551616 ^ 3 := by rw [Nat.div_div_eq_div_mul]
  unfold f32
  rw [show 32 = 24 + 8 from rfl, be_add, show 24 = 16 + 8 from rfl, be_add, show 16 = 8 + 8 from rfl, be_add, q1, q2, Nat.pow_zero, Nat.div_one, Nat.pow_one]

/-- Without zeros ahead. -/
def tr (l : List UInt8) : List UInt8 := l.dropWhile (· == 0)
theorem tr_split (l : List UInt8) : ∃ k, l = List.replicate k 0 ++ tr l := by
  induction l with
  | nil => exact ⟨0, rfl⟩
  | cons c l ih =>
    by_cases h : c = 0
    · subst h
      obtain ⟨k, hk⟩ := ih
      refine ⟨k + 1, ?_⟩
      rw [List.replicate_succ, List.cons_append]
      have : tr (0 :: l) = tr l := rfl
      rw [this, ← hk]
    · exact ⟨0, by simp [tr, h]⟩
theorem dg_tr (l : List UInt8) : dg (tr l) = dg l := by
  obtain ⟨k, hk⟩ := tr_split l
  have := dg_zeros k (tr l)
  rw [← hk] at this
  exact this.symm
theorem tr_length_le (l : List UInt8) : (tr l).length ≤ l.length := by
  obtain ⟨k, hk⟩ := tr_split l
  have := congrArg List.length hk
  simp at this
  omega
theorem tr_head (l : List UInt8) : ∀ c r, tr l = c :: r → c ≠ 0 := by
  induction l with
  | nil => intro c r h; cases h
  | cons d l ih =>
    intro c r h
    by_cases hd : d = 0
    · subst hd; exact ih c r h
    · have : tr (d :: l) = d :: l := by simp [tr, hd]
      rw [this] at h
      cases h
      exact hd
theorem tr_zeros (k : Nat) (l : List UInt8) (h : ∀ c r, l = c :: r → c ≠ 0) : tr (List.replicate k 0 ++ l) = l := by
  induction k with
  | zero =>
    cases l with
    | nil => rfl
    | cons c r => simp [tr, h c r rfl]
  | succ k ih => exact ih

/-- How long a number's bytes are. -/
theorem tr_small {N : Nat} (h : In N) : (tr (f32 N)).length ≤ 8 ↔ N < 18446744073709551616 := by
  have e := dg_tr (f32 N)
  rw [dg_f32 h] at e
  constructor
  · intro hl
    rw [← e]
    exact Nat.lt_of_lt_of_le (dg_lt _) (show 256 ^ (tr (f32 N)).length ≤ 256 ^ 8 from Nat.pow_le_pow_right (by omega) hl)
  · intro hN
    rcases Nat.lt_or_ge 8 (tr (f32 N)).length with hl | hl
    · exfalso
      match ht : tr (f32 N) with
      | [] => rw [ht] at hl; simp at hl
      | c :: r =>
        have hc := tr_head _ c r ht
        rw [ht] at e hl
        have e2 : dg (c :: r) = dgA (0 * 256 + c.toNat) r := rfl
        rw [e2, dgA_eq] at e
        have hc1 : 1 ≤ c.toNat := by
          rcases Nat.eq_zero_or_pos c.toNat with h0 | h0
          · exact absurd (UInt8.toNat.inj (by simpa using h0)) hc
          · exact h0
        have hp : 256 ^ 8 ≤ 256 ^ r.length := Nat.pow_le_pow_right (by omega) (by simp at hl; omega)
        have : 1 * 256 ^ r.length ≤ (0 * 256 + c.toNat) * 256 ^ r.length := Nat.mul_le_mul_right _ (by omega)
        have h8 : (256 : Nat) ^ 8 = 18446744073709551616 := rfl
        omega
    · exact hl
end Go.Proofs.YtebjhbeaknokkaaGreatDoor.M
namespace Go.Proofs.YtebjhbeaknokkaaGreatDoor.M

/-- The digits of a number, no more than are needed. -/
def ben (n : Nat) : List UInt8 := tr (f32 n)
theorem in64' {n : Nat} (h : n < 18446744073709551616) : In n := by unfold In; omega
theorem ben_le {n : Nat} (h : n < 18446744073709551616) : (ben n).length ≤ 8 := (tr_small (in64' h)).2 h
/-- A head of a length. -/
def hdL (n p : Nat) : List UInt8 := if n < 56 then [UInt8.ofNat (p + n)] else UInt8.ofNat (p + 55 + (ben n).length) :: ben n
theorem hdL_ne (n p : Nat) : hdL n p ≠ [] := by unfold hdL; split <;> simp
/-- An item: bytes, or a list of items; or what is neither. -/
inductive It where
  | mk (list : Bool) (bytes : List UInt8) (items : List It)

mutual
def bytesI : It → List UInt8
  | .mk true _ xs => hdL (bytesIs xs).length 192 ++ bytesIs xs
  | .mk false b _ => if b.length = 1 ∧ (b.headD 0).toNat < 128 then b else hdL b.length 128 ++ b
def bytesIs : List It → List UInt8
  | [] => []
  | x :: xs => bytesI x ++ bytesIs xs
end
mutual
/-- What is wrong with an item that stands in so many lists. -/
def formI (d : Nat) : It → Nat
  | .mk l b xs => if (l = true ∧ b ≠ []) ∨ (l = false ∧ xs ≠ []) then 2 else if l = false then 0 else if 12 ≤ d then 7 else if 512 < xs.length then 5 else formIs (d + 1) xs
def formIs (d : Nat) : List It → Nat
  | [] => 0
  | x :: xs => if formI d x ≠ 0 then formI d x else formIs d xs
end
def checkI (x : It) : Nat := if formI 0 x = 0 ∧ 65536 < (bytesI x).length then 5 else formI 0 x
def encodeI (x : It) : List UInt8 × Nat := if checkI x = 0 then (bytesI x, 0) else ([], checkI x)

theorem formI_ok {d : Nat} {l : Bool} {b : List UInt8} {xs : List It} (h : formI d (.mk l b xs) = 0) : (l = true → b = [] ∧ d < 12 ∧ xs.length ≤ 512 ∧ formIs (d + 1) xs = 0) ∧ (l = false → xs = []) := by
  unfold formI at h
  split at h
  · cases h
  · rename_i h1
    have hb : l = true → b = [] := fun hl => by
      rcases List.eq_nil_or_concat b with e | ⟨_, _, e⟩
      · exact e
      · exact absurd (.inl ⟨hl, by rw [e]; simp⟩) h1
    have hx : l = false → xs = [] := fun hl => by
      cases xs with
      | nil => rfl
      | cons x xs => exact absurd (.inr ⟨hl, by simp⟩) h1
    refine ⟨fun hl => ?_, hx⟩
    rw [if_neg (by rw [hl]; simp)] at h
    split at h
    · cases h
    · rename_i h2
      split at h
      · cases h
      · rename_i h3
        exact ⟨hb hl, by omega, by omega, h⟩
theorem formIs_ok {d : Nat} {x : It} {xs : List It} (h : formIs d (x :: xs) = 0) : formI d x = 0 ∧ formIs d xs = 0 := by
  unfold formIs at h
  split at h
  · rename_i h1; exact absurd h h1
  · rename_i h1; exact ⟨by omega, h⟩

theorem bytesI_ne (x : It) (h : (bytesI x).length = 0) : False := by
  have h' := List.eq_nil_of_length_eq_zero h
  match x with
  | .mk true _ xs =>
    rw [bytesI] at h'
    exact hdL_ne _ _ (List.append_eq_nil_iff.1 h').1
  | .mk false b _ =>
    rw [bytesI] at h'
    split at h'
    · rename_i h1; rw [h'] at h1; simp at h1
    · exact hdL_ne _ _ (List.append_eq_nil_iff.1 h').1

end Go.Proofs.YtebjhbeaknokkaaGreatDoor.M
namespace Go.Proofs.YtebjhbeaknokkaaGreatDoor.M

mutual
theorem formI_mono : ∀ (x : It) (d e : Nat), formI d x = 0 → e ≤ d → formI e x = 0
  | .mk false b xs, d, e, h, _ => by
    obtain ⟨_, h2⟩ := formI_ok h
    obtain rfl := h2 rfl
    rw [formI]
    simp
  | .mk true b xs, d, e, h, hde => by
    obtain ⟨h1, _⟩ := formI_ok h
    obtain ⟨rfl, h3, h4, h5⟩ := h1 rfl
    rw [formI, if_neg (by simp), if_neg (by simp), if_neg (by omega), if_neg (by omega)]
    exact formIs_mono xs (d + 1) (e + 1) h5 (by omega)
theorem formIs_mono : ∀ (xs : List It) (d e : Nat), formIs d xs = 0 → e ≤ d → formIs e xs = 0
  | [], _, _, _, _ => by rw [formIs]
  | x :: xs, d, e, h, hde => by
    obtain ⟨h1, h2⟩ := formIs_ok h
    rw [formIs, formI_mono x d e h1 hde, if_neg (by simp)]
    exact formIs_mono xs d e h2 hde
end
theorem checkI_ok {x : It} : checkI x = 0 ↔ formI 0 x = 0 ∧ (bytesI x).length ≤ 65536 := by
  unfold checkI
  by_cases h : formI 0 x = 0 ∧ 65536 < (bytesI x).length
  · rw [if_pos h]
    exact ⟨fun h' => (by cases h'), fun h' => by omega⟩
  · rw [if_neg h]
    exact ⟨fun h' => ⟨h', by omega⟩, fun h' => h'.1⟩
mutual
theorem part_size : ∀ (xs : List It) (x : It), x ∈ xs → (bytesI x).length ≤ (bytesIs xs).length
  | [], _, h => by cases h
  | y :: ys, x, h => by
    rw [bytesIs, List.length_append]
    rcases List.mem_cons.1 h with rfl | h
    · omega
    · have := part_size ys x h; omega
end
theorem part_form : ∀ {xs : List It} {d : Nat}, formIs d xs = 0 → ∀ x ∈ xs, formI d x = 0
  | [], _, _, _, h => by cases h
  | y :: ys, d, hf, x, h => by
    obtain ⟨h1, h2⟩ := formIs_ok hf
    rcases List.mem_cons.1 h with rfl | h
    · exact h1
    · exact part_form h2 x h
theorem bytesIs_append (xs ys : List It) : bytesIs (xs ++ ys) = bytesIs xs ++ bytesIs ys := by
  induction xs with
  | nil => rfl
  | cons x xs ih => rw [List.cons_append, bytesIs, bytesIs, ih, List.append_assoc]

end Go.Proofs.YtebjhbeaknokkaaGreatDoor.M
namespace Go.Proofs.YtebjhbeaknokkaaGreatDoor.M

mutual
def cntI : It → Nat
  | .mk _ _ xs => 1 + cntIs xs
def cntIs : List It → Nat
  | [] => 0
  | x :: xs => cntI x + cntIs xs
end
mutual
/-- No bytes in it are longer than any string. -/
def smI : It → Prop
  | .mk _ b xs => b.length ≤ 140737488355328 ∧ smIs xs
def smIs : List It → Prop
  | [] => True
  | x :: xs => smI x ∧ smIs xs
end
theorem cntI_pos (x : It) : 1 ≤ cntI x := by cases x; rw [cntI]; omega
theorem length_cnt : ∀ xs : List It, xs.length ≤ cntIs xs
  | [] => Nat.zero_le _
  | x :: xs => by
    rw [cntIs, List.length_cons]
    have h1 := cntI_pos x
    have h2 := length_cnt xs
    omega
theorem take_next {xs : List It} {k : Nat} {x : It} (h : xs[k]? = some x) : xs.take (k + 1) = xs.take k ++ [x] := by
  rw [List.take_add_one, h]; rfl
theorem bytesIs_part (xs : List It) (k : Nat) : (bytesIs (xs.take k)).length ≤ (bytesIs xs).length := by
  have := bytesIs_append (xs.take k) (xs.drop k)
  rw [List.take_append_drop] at this
  rw [this, List.length_append]; omega
theorem cntI_part : ∀ {xs : List It} {x : It}, x ∈ xs → cntI x ≤ cntIs xs
  | y :: ys, x, h => by
    rw [cntIs]
    rcases List.mem_cons.1 h with rfl | h
    · omega
    · have := cntI_part h; omega
theorem smI_part : ∀ {xs : List It} {x : It}, smIs xs → x ∈ xs → smI x
  | y :: ys, x, hs, h => by
    rw [smIs] at hs
    rcases List.mem_cons.1 h with rfl | h
    · exact hs.1
    · exact smI_part hs.2 h

theorem formIs_append (d : Nat) (xs ys : List It) : formIs d (xs ++ ys) = if formIs d xs ≠ 0 then formIs d xs else formIs d ys := by
  induction xs with
  | nil => simp [formIs]
  | cons x xs ih =>
    rw [List.cons_append, formIs, formIs, ih]
    by_cases h1 : formI d x ≠ 0
    · rw [if_pos h1, if_pos h1, if_pos h1]
    · rw [if_neg h1, if_neg h1]
theorem formIs_next {d : Nat} {xs : List It} {k : Nat} {x : It} (h : xs[k]? = some x) (h0 : formIs d (xs.take k) = 0) : formIs d (xs.take (k + 1)) = formI d x := by
  rw [take_next h, formIs_append, h0, if_neg (by simp), formIs, formIs]
  split <;> omega
theorem formIs_first {d : Nat} {xs : List It} {k : Nat} {x : It} (h : xs[k]? = some x) (h0 : formIs d (xs.take k) = 0) (h1 : formI d x ≠ 0) : formIs d xs = formI d x := by
  have h2 := formIs_append d (xs.take (k + 1)) (xs.drop (k + 1))
  rw [List.take_append_drop, formIs_next h h0, if_pos h1] at h2
  exact h2

end Go.Proofs.YtebjhbeaknokkaaGreatDoor.M
namespace Go.Proofs.YtebjhbeaknokkaaGreatDoor
open Go Go.RowKit

/-- What a slice of items leads to, in the first n blocks. -/
inductive Lay (w : World) (n : Nat) : List M.It → Value → Prop
  | nil_ {a : Option Addr} {cap : Nat} (hm : cap ≤ maxLen) : Lay w n [] (.slice a 0 cap)
  | row {xs : List M.It} {b o cap : Nat} (V : Nat → Value) (hb : b < n) (hc : xs.length ≤ cap) (hm : cap ≤ maxLen)
      (c0 : ∀ i l d ys, xs[i]? = some (.mk l d ys) → w.cell? ⟨b, o + i * 3, none⟩ = some (.bool l))
      (c1 : ∀ i l d ys, xs[i]? = some (.mk l d ys) → w.cell? ⟨b, o + i * 3 + 1, none⟩ = some (.string ⟨d.toArray⟩))
      (c2 : ∀ i l d ys, xs[i]? = some (.mk l d ys) → w.cell? ⟨b, o + i * 3 + 2, none⟩ = some (V i))
      (r : ∀ i l d ys, xs[i]? = some (.mk l d ys) → Lay w n ys (V i)) : Lay w n xs (.slice (some ⟨b, o, none⟩) xs.length cap)

theorem Lay.from_ {w W : World} {n : Nat} {xs : List M.It} {v : Value} (h : Lay w n xs v) (hb : Below n w W) : Lay W n xs v := by
  induction h with
  | nil_ hm => exact .nil_ hm
  | row V hlt hc hm c0 c1 c2 _ ih =>
    exact .row V hlt hc hm (fun i l d ys e => (hb.cell (p := ⟨_, _, _⟩) hlt).trans (c0 i l d ys e)) (fun i l d ys e => (hb.cell (p := ⟨_, _, _⟩) hlt).trans (c1 i l d ys e)) (fun i l d ys e => (hb.cell (p := ⟨_, _, _⟩) hlt).trans (c2 i l d ys e)) ih
theorem Lay.mono {w : World} {n m : Nat} {xs : List M.It} {v : Value} (h : Lay w n xs v) (hnm : n ≤ m) : Lay w m xs v := by
  induction h with
  | nil_ hm => exact .nil_ hm
  | row V hlt hc hm c0 c1 c2 _ ih => exact .row V (by omega) hc hm c0 c1 c2 ih

/-- The slice itself. -/
theorem Lay.slice {w : World} {n : Nat} {xs : List M.It} {v : Value} (h : Lay w n xs v) : ∃ a cap, v = .slice a xs.length cap ∧ xs.length ≤ cap ∧ cap ≤ maxLen := by
  cases h with
  | nil_ hm => exact ⟨_, _, rfl, Nat.zero_le _, hm⟩
  | row V hlt hc hm c0 c1 c2 r => exact ⟨_, _, rfl, hc, hm⟩
/-- One item of a slice. -/
theorem Lay.at_ {w : World} {n k : Nat} {xs : List M.It} {v : Value} (h : Lay w n xs v) (hk : k < xs.length) : ∃ b o cap l d ys u, v = .slice (some ⟨b, o, none⟩) xs.length cap ∧ b < n ∧ xs[k]? = some (.mk l d ys) ∧
    w.cell? ⟨b, o + k * 3, none⟩ = some (.bool l) ∧ w.cell? ⟨b, o + k * 3 + 1, none⟩ = some (.string ⟨d.toArray⟩) ∧ w.cell? ⟨b, o + k * 3 + 2, none⟩ = some u ∧ Lay w n ys u := by
  cases h with
  | nil_ hm => simp at hk
  | @row _ b o cap V hlt hc hm c0 c1 c2 r =>
    obtain ⟨l, d, ys, e⟩ : ∃ l d ys, xs[k]? = some (.mk l d ys) := by
      rw [List.getElem?_eq_getElem hk]
      obtain ⟨l, d, ys⟩ := xs[k]
      exact ⟨l, d, ys, rfl⟩
    exact ⟨b, o, cap, l, d, ys, V k, rfl, hlt, e, c0 k l d ys e, c1 k l d ys e, c2 k l d ys e, r k l d ys e⟩

/-- An item as a value. -/
abbrev iv (l : Bool) (d : List UInt8) (v : Value) : Value := .agg #[.bool l, .string ⟨d.toArray⟩, v]

/-- The box of an item. -/
structure Box (W : World) (S : Nat) (l : Bool) (d : List UInt8) (v : Value) : Prop where
  c0 : W.cell? ⟨S, 0, none⟩ = some (.bool l)
  c1 : W.cell? ⟨S, 1, none⟩ = some (.string ⟨d.toArray⟩)
  c2 : W.cell? ⟨S, 2, none⟩ = some v
theorem Box.new (w : World) (l : Bool) (d : List UInt8) (v : Value) (t : TypeId) : Box (w.alloc (.cells #[.bool l, .string ⟨d.toArray⟩, v] t)) w.heap.size l d v := ⟨by simp [go_sem], by simp [go_sem], by simp [go_sem]⟩
theorem Box.from_ {w W : World} {S n : Nat} {l : Bool} {d : List UInt8} {v : Value} (h : Box w S l d v) (hb : Below n w W) (hS : S < n) : Box W S l d v :=
  ⟨(hb.cell (p := ⟨S, 0, none⟩) hS).trans h.c0, (hb.cell (p := ⟨S, 1, none⟩) hS).trans h.c1, (hb.cell (p := ⟨S, 2, none⟩) hS).trans h.c2⟩

theorem size_get {xs : List M.It} {k : Nat} {x : M.It} (h : xs[k]? = some x) : SizeOf.sizeOf x < SizeOf.sizeOf xs := by
  have := List.mem_of_getElem? h
  exact List.sizeOf_lt_of_mem this
end Go.Proofs.YtebjhbeaknokkaaGreatDoor
namespace Go.Proofs.YtebjhbeaknokkaaGreatDoor
open Go Go.RowKit

theorem wrap_u8 {a : Int} {c : UInt8} (h : a = (c.toNat : Nat)) : IntKind.u8.wrap a = ((c.toNat : Nat) : Int) := by
  have hc := c.toNat_lt
  rw [h]
  show ((c.toNat : Nat) : Int) % (2 ^ 8 : Int) = _
  omega
theorem ofNat_at {k : Nat} (h : k < 256) : ((UInt8.ofNat k).toNat : Nat) = k := UInt8.toNat_ofNat_of_lt' h

theorem cutS (t : List UInt8) (j k : Nat) : (⟨t.toArray⟩ : ByteArray).extract j k = ⟨((t.take k).drop j).toArray⟩ := by
  apply ByteArray.ext
  simp [ByteArray.data_extract, List.drop_take]

theorem idx_at {l : List UInt8} {k : Nat} {c : UInt8} (h : l[k]? = some c) : ∀ hk : k < (⟨l.toArray⟩ : ByteArray).size, (⟨l.toArray⟩ : ByteArray)[k]'hk = c := fun hk => by
  obtain ⟨h1, h2⟩ := List.getElem?_eq_some_iff.1 h
  show l.toArray[k] = c
  simpa using h2

theorem wrap_byte (c : UInt8) : wrap64 ((c.toNat : Nat) : Int) = ((c.toNat : Nat) : Int) := by
  have := c.toNat_lt
  unfold wrap64
  omega

/-- A string from one place to another one. -/
theorem slice_str (l : List UInt8) (a b : Nat) (hab : a ≤ b) (hbl : b ≤ l.length) (w : World) :
    (Instr.slice 9 (.string ⟨l.toArray⟩) (some (.int .i64 a)) (some (.int .i64 b)) none).run Tryz.prog w = .ok (.string ((⟨l.toArray⟩ : ByteArray).extract a b)) w := by
  have h1 : ((a : Nat) : Int) ≤ b := by omega
  have hs : (⟨l.toArray⟩ : ByteArray).size = l.length := rfl
  have h2 : ((b : Nat) : Int) ≤ ((⟨l.toArray⟩ : ByteArray).size : Nat) := by rw [hs]; omega
  simp [Instr.slice, run_underlying Tryz.underlying9, Instr.sliceBounds, run_sliceBound, h1, h2]

end Go.Proofs.YtebjhbeaknokkaaGreatDoor
namespace Go.Proofs.YtebjhbeaknokkaaGreatDoor
open Go Go.RowKit Go.Lib

theorem Tryz.ofU8 : (Tryz.prog.info? 5).map (fun i => (i.zero, i.size, i.bytes)) = some (some (.int .u8 0), 1, 1) := by kernel_rfl

theorem conv_at (xs : List UInt8) (W : World) (b : Nat) (h : ∀ j, j < xs.length → W.cell? ⟨b, j, none⟩ = some (.int .u8 ((xs.getD j 0).toNat : Int))) : (convert 75 9 (.slice (some ⟨b, 0, none⟩) xs.length xs.length)).run Tryz.prog W = .ok (.string ⟨xs.toArray⟩) W := by
  refine run_convert_bytes_back W 75 9 5 ⟨b, 0, none⟩ xs.length xs Tryz.underlying75 Tryz.underlying5 Tryz.underlying9 ?_
  intro j hj
  have e : xs.getD j 0 = xs[j] := by rw [List.getD_eq_getElem?_getD, List.getElem?_eq_getElem hj, Option.getD_some]
  have := h j hj
  rw [e] at this
  by_cases h0 : j = 0
  · subst h0
    simpa [Addr.add] using this
  · simpa [Addr.add, h0] using this

/-- What a conversion of a string to bytes leaves. -/
structure Seal (w w' : World) (e : TypeId) (b : ByteArray) (cap : Nat) (cur : Array Value) : Prop where
  row : w'.heap[w.heap.size]? = some (.cells cur e (cur.size, cur.size + 1))
  size : cur.size = cap
  len : b.size ≤ cap
  max : cap ≤ maxLen
  take : cur.toList.take b.size = strCells b
  low : Below w.heap.size w w'
  new : w'.heap.size = w.heap.size + 1

theorem seal_is (w : World) (e : TypeId) (b : ByteArray) (hb : b.size ≤ maxLen) : Seal w (bytesWorld w e b) e b (grownCap w b.size 0 e) (bytesCells w e b) := by
  have hge := grownCap_ge w b.size 0 e
  have hcm := grownCap_le_maxLen w b.size 0 e hb
  have hsz : (bytesCells w e b).size = grownCap w b.size 0 e := by
    have : b.data.size = b.size := rfl
    simp [bytesCells, this]
    omega
  refine ⟨bytesWorld_at_new w e b, hsz, hge, hcm, ?_, ⟨rfl, rfl, rfl, by rw [bytesWorld_size]; omega, fun k hk => bytesWorld_at_old w e b k hk⟩, bytesWorld_size w e b⟩
  have hl : b.size = (b.data.toList.map fun x : UInt8 => Value.int .u8 x.toNat).length := by
    rw [List.length_map, Array.length_toList]; rfl
  unfold bytesCells strCells
  rw [Array.toList_append, Array.toList_map, hl, List.take_left]


theorem wpList_seal {P : Program} {ops : Array Oper} {rest : List Oper} {o : Oper} {a : Act} {Q : Exit → Act → World → Prop} (w : World) (hgd : o.guard = none) (src dst e : TypeId) (x : Operand)
    (ho : o.op = .convert src dst x) (b : ByteArray) (hx : a.eval x = .string b) (hs : P.underlying src = some .string) (hd : P.underlying dst = some (.slice e)) (he : P.underlying e = some (.int .u8)) (hb : b.size ≤ maxLen)
    (h : ∀ cap cur w', Seal w w' e b cap cur → wpList P ops Q rest (a.put o.dst (.slice (some ⟨w.heap.size, 0, none⟩) b.size cap)) w') : wpList P ops Q (o :: rest) a w := by
  refine wpList_plain hgd fun K hK => ?_
  have hr := Go.Lib.run_convert_string_bytes (P := P) w src dst e b hs hd he
  unfold Oper.wp execOp
  simp only [ho, hx, Sem.run_bind, Sem.run_pure]
  rw [hr]
  exact hK _ _ (h _ _ _ (seal_is w e b hb))

/-- The cells of bytes. -/
def bc (l : List UInt8) : List Value := l.map fun (c : UInt8) => Value.int .u8 (c.toNat : Int)
theorem bc_length (l : List UInt8) : (bc l).length = l.length := by simp [bc]
theorem bc_append (l m : List UInt8) : bc (l ++ m) = bc l ++ bc m := by simp [bc]
theorem bc_one (l : List UInt8) : ∀ u ∈ bc l, u.oneCell' = true := fun u hu => by
  obtain ⟨_, _, rfl⟩ := List.mem_map.1 hu
  rfl
theorem bc_str (l : List UInt8) : strCells (⟨l.toArray⟩ : ByteArray) = bc l := rfl

/-- Bytes of one's own, in a block that is no older than B. -/
def Ow (B : Nat) (l : List UInt8) (v : Value) (w : World) : Prop := w.ownsRow B 5 1 v l.length (bc l)
theorem Ow.nil (B : Nat) (w : World) : Ow B [] (.slice none 0 0) w := World.ownsRow_nil _ _ _ _
theorem Ow.mono {A B : Nat} {l : List UInt8} {v : Value} {w : World} (h : Ow B l v w) (hAB : A ≤ B) : Ow A l v w := by
  refine ⟨h.1, ?_⟩
  rcases h.2 with h0 | ⟨g, cap, cur, hv, hb, h1⟩
  · exact .inl h0
  · exact .inr ⟨g, cap, cur, hv, by omega, h1⟩
theorem Ow.from_ {B : Nat} {l : List UInt8} {v : Value} {w W : World} (h : Ow B l v w) (hb : Below w.heap.size w W) : Ow B l v W := by
  refine ⟨h.1, ?_⟩
  rcases h.2 with h0 | ⟨g, cap, cur, hv, hB, hg, h1⟩
  · exact .inl h0
  · exact .inr ⟨g, cap, cur, hv, hB, (hb.block g (Array.getElem?_eq_some_iff.1 hg).1).trans hg, h1⟩

/-- What an append takes its bytes from. -/
def Sr (l : List UInt8) (v : Value) (w : World) : Prop := (v = .slice none 0 0 ∧ l = []) ∨ ∃ ad c, v = .slice (some ad) l.length c ∧ ∀ j u, (bc l)[j]? = some u → w.cell? (ad.add j) = some u
theorem Ow.sr {B : Nat} {l : List UInt8} {v : Value} {w : World} (h : Ow B l v w) : Sr l v w := by
  have h' := h
  rcases h.2 with ⟨h0, h1⟩ | ⟨g, cap, cur, rfl, hB, hg, h1⟩
  · exact .inl ⟨h0, List.eq_nil_of_length_eq_zero h1⟩
  · exact .inr ⟨⟨g, 0, none⟩, cap, rfl, World.ownsRow.cells h' (g := g) rfl⟩
theorem Sr.from_ {l : List UInt8} {v : Value} {w W : World} (h : Sr l v w) (hb : Below w.heap.size w W) : Sr l v W := by
  rcases h with h | ⟨ad, c, rfl, hc⟩
  · exact .inl h
  · exact .inr ⟨ad, c, rfl, fun j u hj => (hb.cell (World.block_lt_of_cell? _ _ (hc j u hj))).trans (hc j u hj)⟩
theorem Ow.lit (w : World) (c : UInt8) : Ow w.heap.size [c] (.slice (some ⟨w.heap.size, 0, none⟩) 1 1) (w.alloc (.cells #[.int .u8 (c.toNat : Int)] 5)) :=
  ⟨rfl, .inr ⟨w.heap.size, 1, #[.int .u8 (c.toNat : Int)], rfl, Nat.le_refl _, heap_alloc_new w _, Nat.le_refl _, by decide, rfl, rfl⟩⟩
/-- The slice itself. -/
theorem Ow.len {B : Nat} {l : List UInt8} {v : Value} {w : World} (h : Ow B l v w) : ∃ a cap, v = .slice a l.length cap := by
  rcases h.2 with ⟨h0, h1⟩ | ⟨g, cap, cur, rfl, hB, hg, h1⟩
  · exact ⟨none, 0, by rw [h0, h1]⟩
  · exact ⟨_, _, rfl⟩
theorem Ow.block {B : Nat} {l : List UInt8} {v : Value} {w : World} (h : Ow B l v w) : ∀ k, v.ownBlock = some k → B ≤ k := fun k e => (World.ownsRow.lt h k e).1

theorem grown_refl (w : World) (v : Option Nat) : w.grownBy w v := ⟨rfl, rfl, rfl, Nat.le_refl _, fun _ _ _ => rfl⟩

section
variable {ops : Array Oper} {rest : List Oper} {o : Oper} {a : Act} {Q : Exit → Act → World → Prop}
theorem wpList_append_ow (w : World) (hgd : o.guard = none) (s x : Operand) (ho : o.op = .call { callee := .builtin .append, args := #[s, x], argTypes := #[75, 75] })
    (B : Nat) (l m : List UInt8) (v u : Value) (hs : a.eval s = v) (hx : a.eval x = u) (hown : Ow B l v w) (hsrc : Sr m u w) (hn : l.length + m.length ≤ 140737488355328) (hB : B ≤ w.heap.size)
    (h : ∀ v' w', Ow B (l ++ m) v' w' → Below B w w' → w.grownBy w' v.ownBlock → wpList Tryz.prog ops Q rest (a.put o.dst v') w') : wpList Tryz.prog ops Q (o :: rest) a w := by
  obtain ⟨i0, hi, hz0, hz1, hz2⟩ := info_parts Tryz.ofU8
  rcases hsrc with ⟨rfl, rfl⟩ | ⟨ad, c, rfl, hc⟩
  · refine wpList_append_own_none hgd s x 75 ho B 5 i0 1 Tryz.underlying75 hi v l.length (bc l) hs hown hx ?_
    have := h v w (by rwa [List.append_nil]) (Below.refl _ _) (grown_refl _ _)
    exact this
  · refine wpList_append_own w hgd s x 75 ho B 5 i0 (.int .u8 0) 1 1 Tryz.underlying75 hi hz0 hz1 hz2 rfl (by decide) v l.length (bc l) hs hown ad m.length c (bc m) hx (by rw [bc_length, Nat.mul_one]) hc (bc_one m) (by unfold maxLen; omega) (by omega) hB ?_
    intro v' w' h1 h2 _
    exact h v' w' (by unfold Ow; rw [bc_append, List.length_append]; exact h1) ((Below.refl _ _).grown h2 hB hown.block) h2
theorem wpList_append_ow_str (w : World) (hgd : o.guard = none) (s x : Operand) (ho : o.op = .call { callee := .builtin .append, args := #[s, x], argTypes := #[75, 9] })
    (B : Nat) (l m : List UInt8) (v : Value) (hs : a.eval s = v) (hx : a.eval x = .string ⟨m.toArray⟩) (hown : Ow B l v w) (hn : l.length + m.length ≤ 140737488355328) (hB : B ≤ w.heap.size)
    (h : ∀ v' w', Ow B (l ++ m) v' w' → Below B w w' → wpList Tryz.prog ops Q rest (a.put o.dst v') w') : wpList Tryz.prog ops Q (o :: rest) a w := by
  obtain ⟨i0, hi, hz0, hz1, hz2⟩ := info_parts Tryz.ofU8
  have hml : (⟨m.toArray⟩ : ByteArray).size = m.length := by simp [ByteArray.size]
  refine wpList_append_own_string w hgd s x 75 9 ho B 5 i0 Tryz.underlying75 Tryz.underlying9 hi hz0 hz1 hz2 v l.length (bc l) hs hown ⟨m.toArray⟩ hx (by rw [hml]; unfold maxLen; omega) (by rw [hml]; omega) hB ?_
  intro v' w' h1 h2 _
  rw [hml, bc_str] at h1
  exact h v' w' (by unfold Ow; rw [bc_append, List.length_append]; exact h1) ((Below.refl _ _).grown h2 hB hown.block)
end

theorem Seal.sr {w w2 : World} {l : List UInt8} {cap : Nat} {cur : Array Value} (h : Seal w w2 5 ⟨l.toArray⟩ cap cur) : Sr l (.slice (some ⟨w.heap.size, 0, none⟩) l.length cap) w2 := by
  refine .inr ⟨_, _, rfl, fun j u hj => ?_⟩
  have hadd : (⟨w.heap.size, 0, none⟩ : Addr).add j = ⟨w.heap.size, j, none⟩ := by unfold Addr.add; split <;> simp_all
  rw [hadd, cell_of_row w2 _ j cur 5 _ h.row]
  have ht : cur.toList.take l.length = bc l := by
    have := h.take
    rwa [bc_str, show (⟨l.toArray⟩ : ByteArray).size = l.length by simp [ByteArray.size]] at this
  rw [← ht, List.getElem?_take] at hj
  split at hj
  · simpa using hj
  · cases hj
end Go.Proofs.YtebjhbeaknokkaaGreatDoor
namespace Go.Proofs.YtebjhbeaknokkaaGreatDoor
open Go Go.RowKit

/-- A region of a function's text, by its number. -/
def regAt (k : Nat) : Code → Option Code
  | .region id ops d => if id = k then some (.region id ops d) else none
  | .seq a b => (regAt k a).or (regAt k b)
  | .cond _ a b => (regAt k a).or (regAt k b)
  | .block _ b => regAt k b
  | .loop b => regAt k b
  | .rangeFunc _ _ _ b => regAt k b
  | .scope b => regAt k b
  | _ => none

/-- Left off its end, and so. -/
def nrm (R : Act → World → Prop) : Exit → Act → World → Prop
  | .normal, a, w => R a w
  | _, _, _ => False

theorem wpIn_mono' {F : Fence} {n : Nat} {P : Program} {c : Code} {R : Act → World → Prop} {Q : Exit → Act → World → Prop} {a : Act} {w : World} (h : c.wpIn F n P (nrm R) a w) (hQ : ∀ b u, R b u → Q .normal b u) : c.wpIn F n P Q a w :=
  wpIn_mono h (fun e b u h => by cases e <;> first | exact hQ _ _ h | exact h.elim)

/-! A region that draws its order, in a round: as everywhere, if it defers nothing. -/
section
variable {P : Program} {ops : Array Oper} {Q : Exit → Act → World → Prop} {md : Region.Mode}

def noDefer (ops : Array Oper) : Bool := ops.all fun o => match o.op with | .defer _ => false | _ => true

theorem rows_wide {n : Nat} {row : String} {args : Array Value} {w : World} {R : Value → World → Prop} (h : Rows P row args w R) : RowsIn Fence.wide n P row args w R :=
  fun c cs _ => let ⟨v, w', r, s⟩ := h c cs; ⟨v, w', r, stepsIn_wide.2 s⟩

theorem wp_round {l n : Nat} {o : Oper} {a : Act} {w : World} {K K' : Act → World → Prop} (ho : ∀ c, o.op ≠ .defer c) (hK : ∀ a w, K a w → K' a w) (h : o.wp P a w K Q) : o.wpIn (Fence.wide.inRound l) n P a w K' Q := by
  unfold Oper.wpIn
  refine ⟨fun _ _ => trivial, ?_⟩
  rw [show (Fence.wide.inRound l).round = some l from rfl, Oper.semAt_some l _ _ ho]
  unfold Oper.wp at h
  generalize (execOp a.eval o).run P w = r at h
  cases r with
  | ok x w' =>
    cases x <;> simp only [Oper.upon, Oper.uponIn] at h ⊢ <;>
      first
        | exact hK _ _ h
        | exact ⟨fun h => (by cases h), (callsIn_wide.2 h : CallsIn Fence.wide _ P _ _ _ _).mono (fun e w'' he => by cases e <;> first | exact hK _ _ he | exact he)⟩
        | exact ⟨fun h => (by cases h), (rows_wide h).mono (fun _ _ he => hK _ _ he)⟩
        | exact h
  | halt x w' => cases x <;> simp only [Oper.upon, Oper.uponIn] at h ⊢ <;> exact h

theorem nrm_out {R : Act → World → Prop} : ¬ LetsOut (nrm R) := fun ⟨_, _, h⟩ => h
theorem noDefer_at {i : Nat} {o : Oper} (hd : noDefer ops = true) (hi : ops[i]? = some o) : ∀ c, o.op ≠ .defer c := by
  intro c hc
  have := (Array.all_eq_true_iff_forall_mem.1 hd) o (Array.mem_of_getElem? hi)
  rw [hc] at this
  cases this
theorem wpAny_round {l n : Nat} {R : Act → World → Prop} (hd : noDefer ops = true) : ∀ (fuel : Nat) (listed : Array Bool) (a : Act) (w : World), wpAny P md ops (nrm R) fuel listed a w → wpAnyIn (Fence.wide.inRound l) n P md ops (nrm R) fuel listed a w
  | 0, _, _, _, h => h
  | fuel + 1, listed, a, w, h => by
    refine ⟨h.1, fun i hi => ?_⟩
    have h1 := h.2 i hi
    unfold wpOp at h1
    unfold wpOpIn
    cases ho : ops[i]? with
    | none => simp only [ho] at h1 ⊢; exact wpAny_round hd fuel _ _ _ h1
    | some o =>
      simp only [ho] at h1 ⊢
      by_cases hw : Region.wanted o (yielded ops a.tmps) = true
      · simp only [hw, if_true] at h1 ⊢
        rcases h1 with h1 | ⟨_, h1⟩
        · exact wp_round (noDefer_at hd ho) (fun a w => wpAny_round hd fuel _ a w) h1
        · exact absurd h1 nrm_out
      · simp only [hw, if_false, Bool.false_eq_true] at h1 ⊢
        exact ⟨fun _ _ => trivial, wpAny_round hd fuel _ _ _ h1⟩
end
end Go.Proofs.YtebjhbeaknokkaaGreatDoor
namespace Go.Proofs.YtebjhbeaknokkaaGreatDoor
open Go Go.RowKit Go.Lib
attribute [local go_sem] Oper.semAt_some

theorem setCell_id {X : World} {b i : Nat} {cs : Array Value} {t : TypeId} {fz : Nat × Nat} {v : Value} (hb : X.heap[b]? = some (.cells cs t fz)) (hv : cs[i]? = some v) : X.setCell ⟨b, i, none⟩ v = X := by
  have hs : cs.setIfInBounds i v = cs := by
    apply Array.ext_getElem?
    intro j
    rw [Array.getElem?_setIfInBounds]
    split
    · rename_i h
      subst h
      rw [hv]
      split
      · rfl
      · rename_i h2
        rw [Array.getElem?_eq_none (by omega)] at hv
        cases hv
    · rfl
  unfold World.setCell
  have hh : (X.heap.modify b fun | .cells c elem frozen => .cells (if (none : Option Nat).isSome then c else c.setIfInBounds i v) elem frozen | o => o) = X.heap := by
    apply Array.ext_getElem?
    intro j
    rw [Array.getElem?_modify]
    split
    · rename_i h
      subst h
      rw [hb]
      simp [hs]
    · rfl
  exact congrArg (fun h => ({ X with heap := h } : World)) hh
/-- The cells of a transaction that is nought, and of a V. -/
def wz (v : Int) : Array Value := #[.int .i64 0, .int .u64 0, .int .u64 0, .int .u64 0, .int .u64 0, .int .u64 0, .int .u64 0, .int .u64 0, .int .u64 0, .int .u64 0, .int .u64 0, .int .u64 0, .string ⟨#[]⟩, .int .u64 0, .int .u64 0, .int .u64 0, .int .u64 0, .string ⟨#[]⟩, .slice none 0 0, .slice none 0 0, .int .u64 0, .int .u64 0, .int .u64 0, .int .u64 0, .int .u64 0, .int .u64 0, .int .u64 0, .int .u64 0, .int .u64 0, .string ⟨#[]⟩, .string ⟨#[]⟩, .int .u64 0, .int .u64 0, .int .u64 0, .int .u64 0, .bool false, .int .u64 v]
structure Wire (X : World) (b : Nat) : Prop where
  hb : ∃ v, X.heap[b]? = some (.cells (wz v) 185 (0, 0))
theorem Wire.cell {X : World} {b : Nat} (h : Wire X b) {i : Nat} (hi : i < 36) : X.cell? ⟨b, i, none⟩ = (wz 0)[i]? := by
  obtain ⟨v, hb⟩ := h.hb
  have hi' : i = 0 ∨ i = 1 ∨ i = 2 ∨ i = 3 ∨ i = 4 ∨ i = 5 ∨ i = 6 ∨ i = 7 ∨ i = 8 ∨ i = 9 ∨ i = 10 ∨ i = 11 ∨ i = 12 ∨ i = 13 ∨ i = 14 ∨ i = 15 ∨ i = 16 ∨ i = 17 ∨ i = 18 ∨ i = 19 ∨ i = 20 ∨ i = 21 ∨ i = 22 ∨ i = 23 ∨ i = 24 ∨ i = 25 ∨ i = 26 ∨ i = 27 ∨ i = 28 ∨ i = 29 ∨ i = 30 ∨ i = 31 ∨ i = 32 ∨ i = 33 ∨ i = 34 ∨ i = 35 := by omega
  rcases hi' with rfl | rfl | rfl | rfl | rfl | rfl | rfl | rfl | rfl | rfl | rfl | rfl | rfl | rfl | rfl | rfl | rfl | rfl | rfl | rfl | rfl | rfl | rfl | rfl | rfl | rfl | rfl | rfl | rfl | rfl | rfl | rfl | rfl | rfl | rfl | rfl <;> simp [World.cell?, hb, wz]
theorem Wire.frozen {X : World} {b : Nat} (h : Wire X b) (i : Nat) : X.frozen? ⟨b, i, none⟩ = false := by
  obtain ⟨v, hb⟩ := h.hb
  simp [World.frozen?, hb]
theorem Wire.last {X : World} {b : Nat} (h : Wire X b) : ∃ v, X.cell? ⟨b, 36, none⟩ = some (.int .u64 v) := by
  obtain ⟨v, hb⟩ := h.hb
  exact ⟨v, by simp [World.cell?, hb, wz]⟩
theorem Wire.same {X : World} {b : Nat} (h : Wire X b) {i : Nat} {v : Value} (hi : i < 36) (hv : (wz 0)[i]? = some v) : X.setCell ⟨b, i, none⟩ v = X := by
  obtain ⟨u, hb⟩ := h.hb
  refine setCell_id hb ?_
  rw [← hv]
  unfold wz
  rw [Array.getElem?_eq_getElem (by simp; omega), Array.getElem?_eq_getElem (by simp; omega)]
  have hi' : i = 0 ∨ i = 1 ∨ i = 2 ∨ i = 3 ∨ i = 4 ∨ i = 5 ∨ i = 6 ∨ i = 7 ∨ i = 8 ∨ i = 9 ∨ i = 10 ∨ i = 11 ∨ i = 12 ∨ i = 13 ∨ i = 14 ∨ i = 15 ∨ i = 16 ∨ i = 17 ∨ i = 18 ∨ i = 19 ∨ i = 20 ∨ i = 21 ∨ i = 22 ∨ i = 23 ∨ i = 24 ∨ i = 25 ∨ i = 26 ∨ i = 27 ∨ i = 28 ∨ i = 29 ∨ i = 30 ∨ i = 31 ∨ i = 32 ∨ i = 33 ∨ i = 34 ∨ i = 35 := by omega
  rcases hi' with rfl | rfl | rfl | rfl | rfl | rfl | rfl | rfl | rfl | rfl | rfl | rfl | rfl | rfl | rfl | rfl | rfl | rfl | rfl | rfl | rfl | rfl | rfl | rfl | rfl | rfl | rfl | rfl | rfl | rfl | rfl | rfl | rfl | rfl | rfl | rfl <;> rfl
theorem Wire.from_ {X Y : World} {b : Nat} (h : Wire X b) (hb : Below X.heap.size X Y) : Wire Y b := by
  obtain ⟨v, e⟩ := h.hb
  exact ⟨v, (hb.block b (Array.getElem?_eq_some_iff.1 e).1).trans e⟩
theorem Wire.drew {X : World} {b : Nat} (h : Wire X b) : Wire X.drew b := ⟨h.hb⟩
theorem cell_lt {X : World} {c : Nat} {v : Value} (h : X.cell? ⟨c, 0, none⟩ = some v) : c < X.heap.size := by
  rcases Nat.lt_or_ge c X.heap.size with h1 | h1
  · exact h1
  · simp [World.cell?, Array.getElem?_eq_none h1] at h
/-- What leaving a field does. -/
def LvP (X w' : World) (b : Nat) : Prop := ∃ X', (X' = X ∨ X' = X.setCell ⟨b, 36, none⟩ (.int .u64 0)) ∧ Below X.heap.size X' w'
theorem at_1 (b : Nat) (X : World) : Calls Tryz.prog 132 #[.pointer (some ⟨b, 0, none⟩)] X fun e w' => e = .returned (.pointer (some ⟨b, 1, none⟩)) ∧ X = w' := by
  go_enter Tryz.func132, Tryz.ntmps132
  go_wp2_with fail
  go_ret
  exact ⟨rfl, rfl⟩
theorem at_2 (b : Nat) (X : World) : Calls Tryz.prog 134 #[.pointer (some ⟨b, 0, none⟩)] X fun e w' => e = .returned (.pointer (some ⟨b, 2, none⟩)) ∧ X = w' := by
  go_enter Tryz.func134, Tryz.ntmps134
  go_wp2_with fail
  go_ret
  exact ⟨rfl, rfl⟩
theorem at_3 (b : Nat) (X : World) : Calls Tryz.prog 136 #[.pointer (some ⟨b, 0, none⟩)] X fun e w' => e = .returned (.pointer (some ⟨b, 3, none⟩)) ∧ X = w' := by
  go_enter Tryz.func136, Tryz.ntmps136
  go_wp2_with fail
  go_ret
  exact ⟨rfl, rfl⟩
theorem at_4 (b : Nat) (X : World) : Calls Tryz.prog 139 #[.pointer (some ⟨b, 0, none⟩)] X fun e w' => e = .returned (.pointer (some ⟨b, 7, none⟩)) ∧ X = w' := by
  go_enter Tryz.func139, Tryz.ntmps139
  go_wp2_with fail
  go_ret
  exact ⟨rfl, rfl⟩
theorem at_5 (b : Nat) (X : World) : Calls Tryz.prog 140 #[.pointer (some ⟨b, 0, none⟩)] X fun e w' => e = .returned (.pointer (some ⟨b, 11, none⟩)) ∧ X = w' := by
  go_enter Tryz.func140, Tryz.ntmps140
  go_wp2_with fail
  go_ret
  exact ⟨rfl, rfl⟩
theorem at_6 (b : Nat) (X : World) : Calls Tryz.prog 142 #[.pointer (some ⟨b, 0, none⟩)] X fun e w' => e = .returned (.pointer (some ⟨b, 12, none⟩)) ∧ X = w' := by
  go_enter Tryz.func142, Tryz.ntmps142
  go_wp2_with fail
  go_ret
  exact ⟨rfl, rfl⟩
theorem at_7 (b : Nat) (X : World) : Calls Tryz.prog 144 #[.pointer (some ⟨b, 0, none⟩)] X fun e w' => e = .returned (.pointer (some ⟨b, 13, none⟩)) ∧ X = w' := by
  go_enter Tryz.func144, Tryz.ntmps144
  go_wp2_with fail
  go_ret
  exact ⟨rfl, rfl⟩
theorem at_8 (b : Nat) (X : World) : Calls Tryz.prog 145 #[.pointer (some ⟨b, 0, none⟩)] X fun e w' => e = .returned (.pointer (some ⟨b, 17, none⟩)) ∧ X = w' := by
  go_enter Tryz.func145, Tryz.ntmps145
  go_wp2_with fail
  go_ret
  exact ⟨rfl, rfl⟩
theorem at_9 (b : Nat) (X : World) : Calls Tryz.prog 148 #[.pointer (some ⟨b, 0, none⟩)] X fun e w' => e = .returned (.pointer (some ⟨b, 18, none⟩)) ∧ X = w' := by
  go_enter Tryz.func148, Tryz.ntmps148
  go_wp2_with fail
  go_ret
  exact ⟨rfl, rfl⟩
theorem at_10 (b : Nat) (X : World) : Calls Tryz.prog 152 #[.pointer (some ⟨b, 0, none⟩)] X fun e w' => e = .returned (.pointer (some ⟨b, 19, none⟩)) ∧ X = w' := by
  go_enter Tryz.func152, Tryz.ntmps152
  go_wp2_with fail
  go_ret
  exact ⟨rfl, rfl⟩
theorem at_11 (b : Nat) (X : World) : Calls Tryz.prog 155 #[.pointer (some ⟨b, 0, none⟩)] X fun e w' => e = .returned (.pointer (some ⟨b, 36, none⟩)) ∧ X = w' := by
  go_enter Tryz.func155, Tryz.ntmps155
  go_wp2_with fail
  go_ret
  exact ⟨rfl, rfl⟩
theorem at_12 (b : Nat) (X : World) : Calls Tryz.prog 156 #[.pointer (some ⟨b, 0, none⟩)] X fun e w' => e = .returned (.pointer (some ⟨b, 20, none⟩)) ∧ X = w' := by
  go_enter Tryz.func156, Tryz.ntmps156
  go_wp2_with fail
  go_ret
  exact ⟨rfl, rfl⟩
theorem at_13 (b : Nat) (X : World) : Calls Tryz.prog 157 #[.pointer (some ⟨b, 0, none⟩)] X fun e w' => e = .returned (.pointer (some ⟨b, 21, none⟩)) ∧ X = w' := by
  go_enter Tryz.func157, Tryz.ntmps157
  go_wp2_with fail
  go_ret
  exact ⟨rfl, rfl⟩
theorem at_14 (b : Nat) (X : World) : Calls Tryz.prog 158 #[.pointer (some ⟨b, 0, none⟩)] X fun e w' => e = .returned (.pointer (some ⟨b, 25, none⟩)) ∧ X = w' := by
  go_enter Tryz.func158, Tryz.ntmps158
  go_wp2_with fail
  go_ret
  exact ⟨rfl, rfl⟩
theorem at_15 (b : Nat) (X : World) : Calls Tryz.prog 159 #[.pointer (some ⟨b, 0, none⟩)] X fun e w' => e = .returned (.pointer (some ⟨b, 29, none⟩)) ∧ X = w' := by
  go_enter Tryz.func159, Tryz.ntmps159
  go_wp2_with fail
  go_ret
  exact ⟨rfl, rfl⟩
theorem at_16 (b : Nat) (X : World) : Calls Tryz.prog 161 #[.pointer (some ⟨b, 0, none⟩)] X fun e w' => e = .returned (.pointer (some ⟨b, 30, none⟩)) ∧ X = w' := by
  go_enter Tryz.func161, Tryz.ntmps161
  go_wp2_with fail
  go_ret
  exact ⟨rfl, rfl⟩
theorem at_17 (b : Nat) (X : World) : Calls Tryz.prog 162 #[.pointer (some ⟨b, 0, none⟩)] X fun e w' => e = .returned (.pointer (some ⟨b, 31, none⟩)) ∧ X = w' := by
  go_enter Tryz.func162, Tryz.ntmps162
  go_wp2_with fail
  go_ret
  exact ⟨rfl, rfl⟩
theorem at_18 (b : Nat) (X : World) : Calls Tryz.prog 164 #[.pointer (some ⟨b, 0, none⟩)] X fun e w' => e = .returned (.pointer (some ⟨b, 35, none⟩)) ∧ X = w' := by
  go_enter Tryz.func164, Tryz.ntmps164
  go_wp2_with fail
  go_ret
  exact ⟨rfl, rfl⟩
theorem lv_1 (b box : Nat) (X : World) (hx : X.cell? ⟨box, 0, none⟩ = some (.func (.func 132) #[] #[])) (hW : Wire X b) :
    Calls Tryz.prog 206 #[.pointer (some ⟨b, 0, none⟩), .pointer (some ⟨box, 0, none⟩)] X fun e w' => (∃ v, e = .returned v) ∧ LvP X w' b := by
  have c0 : X.cell? ⟨b, 1, none⟩ = some (.int .u64 0) := (hW.cell (i := 1) (by decide)).trans rfl
  have s0 : X.setCell ⟨b, 1, none⟩ (.int .u64 0) = X := hW.same (i := 1) (by decide) rfl
  have z0 := hW.frozen 1
  go_enter Tryz.func206, Tryz.ntmps206
  go_wp2_with fail
  refine (at_1 b X).mono ?_
  rintro e w1 ⟨rfl, rfl⟩
  go_wp2_with fail
  go_end0
  exact ⟨⟨_, rfl⟩, X, .inl rfl, Below.refl _ _⟩
theorem lv_2 (b box : Nat) (X : World) (hx : X.cell? ⟨box, 0, none⟩ = some (.func (.func 134) #[] #[])) (hW : Wire X b) :
    Calls Tryz.prog 206 #[.pointer (some ⟨b, 0, none⟩), .pointer (some ⟨box, 0, none⟩)] X fun e w' => (∃ v, e = .returned v) ∧ LvP X w' b := by
  have c0 : X.cell? ⟨b, 2, none⟩ = some (.int .u64 0) := (hW.cell (i := 2) (by decide)).trans rfl
  have s0 : X.setCell ⟨b, 2, none⟩ (.int .u64 0) = X := hW.same (i := 2) (by decide) rfl
  have z0 := hW.frozen 2
  go_enter Tryz.func206, Tryz.ntmps206
  go_wp2_with fail
  refine (at_2 b X).mono ?_
  rintro e w1 ⟨rfl, rfl⟩
  go_wp2_with fail
  go_end0
  exact ⟨⟨_, rfl⟩, X, .inl rfl, Below.refl _ _⟩
set_option maxRecDepth 100000 in
theorem lv_3 (b box : Nat) (X : World) (hx : X.cell? ⟨box, 0, none⟩ = some (.func (.func 136) #[] #[])) (hW : Wire X b) :
    Calls Tryz.prog 210 #[.pointer (some ⟨b, 0, none⟩), .pointer (some ⟨box, 0, none⟩)] X fun e w' => (∃ v, e = .returned v) ∧ LvP X w' b := by
  have mixed : Tryz.prog.follows .mixedOrders = true := by kernel_rfl
  obtain ⟨X1, hX1⟩ : ∃ X1, (X.alloc (.cells #[.int .u64 0, .int .u64 0, .int .u64 0, .int .u64 0] 88)) = X1 := ⟨_, rfl⟩
  have hb1 : Below X.heap.size X X1 := by rw [← hX1]; exact (Below.refl _ _).alloc (Nat.le_refl _) _
  have hW1 : Wire X1.drew b := (hW.from_ hb1).drew
  have hx1 : X1.drew.cell? ⟨box, 0, none⟩ = some (.func (.func 136) #[] #[]) := (hb1.cell (p := ⟨box, 0, none⟩) (cell_lt hx)).trans hx
  have n0 : X1.drew.cell? ⟨X.heap.size, 0, none⟩ = some (.int .u64 0) := by show X1.cell? _ = _; rw [← hX1]; simp [go_sem]
  have n1 : X1.drew.cell? ⟨X.heap.size, 1, none⟩ = some (.int .u64 0) := by show X1.cell? _ = _; rw [← hX1]; simp [go_sem]
  have n2 : X1.drew.cell? ⟨X.heap.size, 2, none⟩ = some (.int .u64 0) := by show X1.cell? _ = _; rw [← hX1]; simp [go_sem]
  have n3 : X1.drew.cell? ⟨X.heap.size, 3, none⟩ = some (.int .u64 0) := by show X1.cell? _ = _; rw [← hX1]; simp [go_sem]
  have HX := Lib.hid hX1
  have HB := Lib.hid hb1
  clear hX1 hb1
  have c0 : X1.drew.cell? ⟨b, 3, none⟩ = some (.int .u64 0) := (hW1.cell (i := 3) (by decide)).trans rfl
  have s0 : X1.drew.setCell ⟨b, 3, none⟩ (.int .u64 0) = X1.drew := hW1.same (i := 3) (by decide) rfl
  have z0 := hW1.frozen 3
  have c1 : X1.drew.cell? ⟨b, 4, none⟩ = some (.int .u64 0) := (hW1.cell (i := 4) (by decide)).trans rfl
  have s1 : X1.drew.setCell ⟨b, 4, none⟩ (.int .u64 0) = X1.drew := hW1.same (i := 4) (by decide) rfl
  have z1 := hW1.frozen 4
  have c2 : X1.drew.cell? ⟨b, 5, none⟩ = some (.int .u64 0) := (hW1.cell (i := 5) (by decide)).trans rfl
  have s2 : X1.drew.setCell ⟨b, 5, none⟩ (.int .u64 0) = X1.drew := hW1.same (i := 5) (by decide) rfl
  have z2 := hW1.frozen 5
  have c3 : X1.drew.cell? ⟨b, 6, none⟩ = some (.int .u64 0) := (hW1.cell (i := 6) (by decide)).trans rfl
  have s3 : X1.drew.setCell ⟨b, 6, none⟩ (.int .u64 0) = X1.drew := hW1.same (i := 6) (by decide) rfl
  have z3 := hW1.frozen 6
  go_enter Tryz.func210, Tryz.ntmps210
  go_wp2_with fail
  rw [HX.out]
  refine wp_region_held (S := fun Y => Y = X1.drew) mixed ?_
  rw [show Array.replicate (Array.size _) false = #[false, false, false, false, false, false] from rfl, show Array.size (α := Oper) _ = 6 from rfl]
  refine wpAnyH_take (i := 0) (v := .func (.func 136) #[] #[]) rfl (by kernel_rfl) (by kernel_rfl) (by kernel_rfl) (fun _ _ _ h => h) (Or.inl ⟨by rfl, ?_⟩) rfl ?_
  · intro Y hY
    subst hY
    go_simp
  simp only [Act.put, List.getElem_toArray, List.getElem_cons_zero, List.setIfInBounds_toArray, List.set_cons_zero, List.set_cons_succ]
  refine wpAnyH_take (i := 1) (v := .pointer (some ⟨b, 0, none⟩)) rfl (by kernel_rfl) (by kernel_rfl) (by kernel_rfl) (fun _ _ _ h => h) (Or.inl ⟨by rfl, ?_⟩) rfl ?_
  · intro Y hY
    skip
    go_simp
  simp only [Act.put, List.getElem_toArray, List.getElem_cons_succ, List.getElem_cons_zero, List.setIfInBounds_toArray, List.set_cons_zero, List.set_cons_succ]
  refine wpAnyH_take (i := 3) (v := .agg #[.int .u64 0, .int .u64 0, .int .u64 0, .int .u64 0]) rfl (by kernel_rfl) (by kernel_rfl) (by kernel_rfl) (fun _ _ _ h => h) (Or.inl ⟨by rfl, ?_⟩) rfl ?_
  · intro Y hY
    subst hY
    go_simp
  simp only [Act.put, List.getElem_toArray, List.getElem_cons_succ, List.getElem_cons_zero, List.setIfInBounds_toArray, List.set_cons_zero, List.set_cons_succ]
  refine wpAnyH_ready (rs := [2]) (by kernel_rfl) (by simp) ?_
  refine AllReadyH.cons rfl (fun K hK => ?_) AllReadyH.nil
  go_simp
  refine (at_3 b _).mono ?_
  rintro e w1 ⟨rfl, rfl⟩
  try go_wp2_with fail
  refine hK.out _ _ rfl (fun _ => ?_)
  clear hK K
  simp only [List.setIfInBounds_toArray, List.set_cons_zero, List.set_cons_succ]
  refine wpAnyH_ready (rs := [4]) (by kernel_rfl) (by simp) ?_
  refine AllReadyH.cons rfl (fun K hK => ?_) AllReadyH.nil
  go_simp
  refine hK.out _ _ rfl (fun _ => ?_)
  clear hK K
  simp only [List.setIfInBounds_toArray, List.set_cons_zero, List.set_cons_succ]
  refine wpAnyH_ready (rs := [5]) (by kernel_rfl) (by simp) ?_
  refine AllReadyH.cons rfl (fun K hK => ?_) AllReadyH.nil
  go_simp

  refine hK.out _ _ (by first | rfl | simp only [s0, s1, s2, s3]) (fun _ => ?_)
  clear hK K
  simp only [List.setIfInBounds_toArray, List.set_cons_zero, List.set_cons_succ]
  refine wpAnyH_done (by kernel_rfl) ?_ _
  go_wp2_with fail
  go_end0
  exact ⟨⟨_, rfl⟩, X, .inl rfl, HB.out.drew⟩
set_option maxRecDepth 100000 in
theorem lv_4 (b box : Nat) (X : World) (hx : X.cell? ⟨box, 0, none⟩ = some (.func (.func 139) #[] #[])) (hW : Wire X b) :
    Calls Tryz.prog 210 #[.pointer (some ⟨b, 0, none⟩), .pointer (some ⟨box, 0, none⟩)] X fun e w' => (∃ v, e = .returned v) ∧ LvP X w' b := by
  have mixed : Tryz.prog.follows .mixedOrders = true := by kernel_rfl
  obtain ⟨X1, hX1⟩ : ∃ X1, (X.alloc (.cells #[.int .u64 0, .int .u64 0, .int .u64 0, .int .u64 0] 88)) = X1 := ⟨_, rfl⟩
  have hb1 : Below X.heap.size X X1 := by rw [← hX1]; exact (Below.refl _ _).alloc (Nat.le_refl _) _
  have hW1 : Wire X1.drew b := (hW.from_ hb1).drew
  have hx1 : X1.drew.cell? ⟨box, 0, none⟩ = some (.func (.func 139) #[] #[]) := (hb1.cell (p := ⟨box, 0, none⟩) (cell_lt hx)).trans hx
  have n0 : X1.drew.cell? ⟨X.heap.size, 0, none⟩ = some (.int .u64 0) := by show X1.cell? _ = _; rw [← hX1]; simp [go_sem]
  have n1 : X1.drew.cell? ⟨X.heap.size, 1, none⟩ = some (.int .u64 0) := by show X1.cell? _ = _; rw [← hX1]; simp [go_sem]
  have n2 : X1.drew.cell? ⟨X.heap.size, 2, none⟩ = some (.int .u64 0) := by show X1.cell? _ = _; rw [← hX1]; simp [go_sem]
  have n3 : X1.drew.cell? ⟨X.heap.size, 3, none⟩ = some (.int .u64 0) := by show X1.cell? _ = _; rw [← hX1]; simp [go_sem]
  have HX := Lib.hid hX1
  have HB := Lib.hid hb1
  clear hX1 hb1
  have c0 : X1.drew.cell? ⟨b, 7, none⟩ = some (.int .u64 0) := (hW1.cell (i := 7) (by decide)).trans rfl
  have s0 : X1.drew.setCell ⟨b, 7, none⟩ (.int .u64 0) = X1.drew := hW1.same (i := 7) (by decide) rfl
  have z0 := hW1.frozen 7
  have c1 : X1.drew.cell? ⟨b, 8, none⟩ = some (.int .u64 0) := (hW1.cell (i := 8) (by decide)).trans rfl
  have s1 : X1.drew.setCell ⟨b, 8, none⟩ (.int .u64 0) = X1.drew := hW1.same (i := 8) (by decide) rfl
  have z1 := hW1.frozen 8
  have c2 : X1.drew.cell? ⟨b, 9, none⟩ = some (.int .u64 0) := (hW1.cell (i := 9) (by decide)).trans rfl
  have s2 : X1.drew.setCell ⟨b, 9, none⟩ (.int .u64 0) = X1.drew := hW1.same (i := 9) (by decide) rfl
  have z2 := hW1.frozen 9
  have c3 : X1.drew.cell? ⟨b, 10, none⟩ = some (.int .u64 0) := (hW1.cell (i := 10) (by decide)).trans rfl
  have s3 : X1.drew.setCell ⟨b, 10, none⟩ (.int .u64 0) = X1.drew := hW1.same (i := 10) (by decide) rfl
  have z3 := hW1.frozen 10
  go_enter Tryz.func210, Tryz.ntmps210
  go_wp2_with fail
  rw [HX.out]
  refine wp_region_held (S := fun Y => Y = X1.drew) mixed ?_
  rw [show Array.replicate (Array.size _) false = #[false, false, false, false, false, false] from rfl, show Array.size (α := Oper) _ = 6 from rfl]
  refine wpAnyH_take (i := 0) (v := .func (.func 139) #[] #[]) rfl (by kernel_rfl) (by kernel_rfl) (by kernel_rfl) (fun _ _ _ h => h) (Or.inl ⟨by rfl, ?_⟩) rfl ?_
  · intro Y hY
    subst hY
    go_simp
  simp only [Act.put, List.getElem_toArray, List.getElem_cons_zero, List.setIfInBounds_toArray, List.set_cons_zero, List.set_cons_succ]
  refine wpAnyH_take (i := 1) (v := .pointer (some ⟨b, 0, none⟩)) rfl (by kernel_rfl) (by kernel_rfl) (by kernel_rfl) (fun _ _ _ h => h) (Or.inl ⟨by rfl, ?_⟩) rfl ?_
  · intro Y hY
    skip
    go_simp
  simp only [Act.put, List.getElem_toArray, List.getElem_cons_succ, List.getElem_cons_zero, List.setIfInBounds_toArray, List.set_cons_zero, List.set_cons_succ]
  refine wpAnyH_take (i := 3) (v := .agg #[.int .u64 0, .int .u64 0, .int .u64 0, .int .u64 0]) rfl (by kernel_rfl) (by kernel_rfl) (by kernel_rfl) (fun _ _ _ h => h) (Or.inl ⟨by rfl, ?_⟩) rfl ?_
  · intro Y hY
    subst hY
    go_simp
  simp only [Act.put, List.getElem_toArray, List.getElem_cons_succ, List.getElem_cons_zero, List.setIfInBounds_toArray, List.set_cons_zero, List.set_cons_succ]
  refine wpAnyH_ready (rs := [2]) (by kernel_rfl) (by simp) ?_
  refine AllReadyH.cons rfl (fun K hK => ?_) AllReadyH.nil
  go_simp
  refine (at_4 b _).mono ?_
  rintro e w1 ⟨rfl, rfl⟩
  try go_wp2_with fail
  refine hK.out _ _ rfl (fun _ => ?_)
  clear hK K
  simp only [List.setIfInBounds_toArray, List.set_cons_zero, List.set_cons_succ]
  refine wpAnyH_ready (rs := [4]) (by kernel_rfl) (by simp) ?_
  refine AllReadyH.cons rfl (fun K hK => ?_) AllReadyH.nil
  go_simp
  refine hK.out _ _ rfl (fun _ => ?_)
  clear hK K
  simp only [List.setIfInBounds_toArray, List.set_cons_zero, List.set_cons_succ]
  refine wpAnyH_ready (rs := [5]) (by kernel_rfl) (by simp) ?_
  refine AllReadyH.cons rfl (fun K hK => ?_) AllReadyH.nil
  go_simp

  refine hK.out _ _ (by first | rfl | simp only [s0, s1, s2, s3]) (fun _ => ?_)
  clear hK K
  simp only [List.setIfInBounds_toArray, List.set_cons_zero, List.set_cons_succ]
  refine wpAnyH_done (by kernel_rfl) ?_ _
  go_wp2_with fail
  go_end0
  exact ⟨⟨_, rfl⟩, X, .inl rfl, HB.out.drew⟩
theorem lv_5 (b box : Nat) (X : World) (hx : X.cell? ⟨box, 0, none⟩ = some (.func (.func 140) #[] #[])) (hW : Wire X b) :
    Calls Tryz.prog 206 #[.pointer (some ⟨b, 0, none⟩), .pointer (some ⟨box, 0, none⟩)] X fun e w' => (∃ v, e = .returned v) ∧ LvP X w' b := by
  have c0 : X.cell? ⟨b, 11, none⟩ = some (.int .u64 0) := (hW.cell (i := 11) (by decide)).trans rfl
  have s0 : X.setCell ⟨b, 11, none⟩ (.int .u64 0) = X := hW.same (i := 11) (by decide) rfl
  have z0 := hW.frozen 11
  go_enter Tryz.func206, Tryz.ntmps206
  go_wp2_with fail
  refine (at_5 b X).mono ?_
  rintro e w1 ⟨rfl, rfl⟩
  go_wp2_with fail
  go_end0
  exact ⟨⟨_, rfl⟩, X, .inl rfl, Below.refl _ _⟩
theorem lv_6 (b box : Nat) (X : World) (hx : X.cell? ⟨box, 0, none⟩ = some (.func (.func 142) #[] #[])) (hW : Wire X b) :
    Calls Tryz.prog 215 #[.pointer (some ⟨b, 0, none⟩), .pointer (some ⟨box, 0, none⟩)] X fun e w' => (∃ v, e = .returned v) ∧ LvP X w' b := by
  have c0 : X.cell? ⟨b, 12, none⟩ = some (.string ⟨#[]⟩) := (hW.cell (i := 12) (by decide)).trans rfl
  have s0 : X.setCell ⟨b, 12, none⟩ (.string ⟨#[]⟩) = X := hW.same (i := 12) (by decide) rfl
  have z0 := hW.frozen 12
  go_enter Tryz.func215, Tryz.ntmps215
  go_wp2_with fail
  refine (at_6 b X).mono ?_
  rintro e w1 ⟨rfl, rfl⟩
  go_wp2_with fail
  go_end0
  exact ⟨⟨_, rfl⟩, X, .inl rfl, Below.refl _ _⟩
set_option maxRecDepth 100000 in
theorem lv_7 (b box : Nat) (X : World) (hx : X.cell? ⟨box, 0, none⟩ = some (.func (.func 144) #[] #[])) (hW : Wire X b) :
    Calls Tryz.prog 210 #[.pointer (some ⟨b, 0, none⟩), .pointer (some ⟨box, 0, none⟩)] X fun e w' => (∃ v, e = .returned v) ∧ LvP X w' b := by
  have mixed : Tryz.prog.follows .mixedOrders = true := by kernel_rfl
  obtain ⟨X1, hX1⟩ : ∃ X1, (X.alloc (.cells #[.int .u64 0, .int .u64 0, .int .u64 0, .int .u64 0] 88)) = X1 := ⟨_, rfl⟩
  have hb1 : Below X.heap.size X X1 := by rw [← hX1]; exact (Below.refl _ _).alloc (Nat.le_refl _) _
  have hW1 : Wire X1.drew b := (hW.from_ hb1).drew
  have hx1 : X1.drew.cell? ⟨box, 0, none⟩ = some (.func (.func 144) #[] #[]) := (hb1.cell (p := ⟨box, 0, none⟩) (cell_lt hx)).trans hx
  have n0 : X1.drew.cell? ⟨X.heap.size, 0, none⟩ = some (.int .u64 0) := by show X1.cell? _ = _; rw [← hX1]; simp [go_sem]
  have n1 : X1.drew.cell? ⟨X.heap.size, 1, none⟩ = some (.int .u64 0) := by show X1.cell? _ = _; rw [← hX1]; simp [go_sem]
  have n2 : X1.drew.cell? ⟨X.heap.size, 2, none⟩ = some (.int .u64 0) := by show X1.cell? _ = _; rw [← hX1]; simp [go_sem]
  have n3 : X1.drew.cell? ⟨X.heap.size, 3, none⟩ = some (.int .u64 0) := by show X1.cell? _ = _; rw [← hX1]; simp [go_sem]
  have HX := Lib.hid hX1
  have HB := Lib.hid hb1
  clear hX1 hb1
  have c0 : X1.drew.cell? ⟨b, 13, none⟩ = some (.int .u64 0) := (hW1.cell (i := 13) (by decide)).trans rfl
  have s0 : X1.drew.setCell ⟨b, 13, none⟩ (.int .u64 0) = X1.drew := hW1.same (i := 13) (by decide) rfl
  have z0 := hW1.frozen 13
  have c1 : X1.drew.cell? ⟨b, 14, none⟩ = some (.int .u64 0) := (hW1.cell (i := 14) (by decide)).trans rfl
  have s1 : X1.drew.setCell ⟨b, 14, none⟩ (.int .u64 0) = X1.drew := hW1.same (i := 14) (by decide) rfl
  have z1 := hW1.frozen 14
  have c2 : X1.drew.cell? ⟨b, 15, none⟩ = some (.int .u64 0) := (hW1.cell (i := 15) (by decide)).trans rfl
  have s2 : X1.drew.setCell ⟨b, 15, none⟩ (.int .u64 0) = X1.drew := hW1.same (i := 15) (by decide) rfl
  have z2 := hW1.frozen 15
  have c3 : X1.drew.cell? ⟨b, 16, none⟩ = some (.int .u64 0) := (hW1.cell (i := 16) (by decide)).trans rfl
  have s3 : X1.drew.setCell ⟨b, 16, none⟩ (.int .u64 0) = X1.drew := hW1.same (i := 16) (by decide) rfl
  have z3 := hW1.frozen 16
  go_enter Tryz.func210, Tryz.ntmps210
  go_wp2_with fail
  rw [HX.out]
  refine wp_region_held (S := fun Y => Y = X1.drew) mixed ?_
  rw [show Array.replicate (Array.size _) false = #[false, false, false, false, false, false] from rfl, show Array.size (α := Oper) _ = 6 from rfl]
  refine wpAnyH_take (i := 0) (v := .func (.func 144) #[] #[]) rfl (by kernel_rfl) (by kernel_rfl) (by kernel_rfl) (fun _ _ _ h => h) (Or.inl ⟨by rfl, ?_⟩) rfl ?_
  · intro Y hY
    subst hY
    go_simp
  simp only [Act.put, List.getElem_toArray, List.getElem_cons_zero, List.setIfInBounds_toArray, List.set_cons_zero, List.set_cons_succ]
  refine wpAnyH_take (i := 1) (v := .pointer (some ⟨b, 0, none⟩)) rfl (by kernel_rfl) (by kernel_rfl) (by kernel_rfl) (fun _ _ _ h => h) (Or.inl ⟨by rfl, ?_⟩) rfl ?_
  · intro Y hY
    skip
    go_simp
  simp only [Act.put, List.getElem_toArray, List.getElem_cons_succ, List.getElem_cons_zero, List.setIfInBounds_toArray, List.set_cons_zero, List.set_cons_succ]
  refine wpAnyH_take (i := 3) (v := .agg #[.int .u64 0, .int .u64 0, .int .u64 0, .int .u64 0]) rfl (by kernel_rfl) (by kernel_rfl) (by kernel_rfl) (fun _ _ _ h => h) (Or.inl ⟨by rfl, ?_⟩) rfl ?_
  · intro Y hY
    subst hY
    go_simp
  simp only [Act.put, List.getElem_toArray, List.getElem_cons_succ, List.getElem_cons_zero, List.setIfInBounds_toArray, List.set_cons_zero, List.set_cons_succ]
  refine wpAnyH_ready (rs := [2]) (by kernel_rfl) (by simp) ?_
  refine AllReadyH.cons rfl (fun K hK => ?_) AllReadyH.nil
  go_simp
  refine (at_7 b _).mono ?_
  rintro e w1 ⟨rfl, rfl⟩
  try go_wp2_with fail
  refine hK.out _ _ rfl (fun _ => ?_)
  clear hK K
  simp only [List.setIfInBounds_toArray, List.set_cons_zero, List.set_cons_succ]
  refine wpAnyH_ready (rs := [4]) (by kernel_rfl) (by simp) ?_
  refine AllReadyH.cons rfl (fun K hK => ?_) AllReadyH.nil
  go_simp
  refine hK.out _ _ rfl (fun _ => ?_)
  clear hK K
  simp only [List.setIfInBounds_toArray, List.set_cons_zero, List.set_cons_succ]
  refine wpAnyH_ready (rs := [5]) (by kernel_rfl) (by simp) ?_
  refine AllReadyH.cons rfl (fun K hK => ?_) AllReadyH.nil
  go_simp

  refine hK.out _ _ (by first | rfl | simp only [s0, s1, s2, s3]) (fun _ => ?_)
  clear hK K
  simp only [List.setIfInBounds_toArray, List.set_cons_zero, List.set_cons_succ]
  refine wpAnyH_done (by kernel_rfl) ?_ _
  go_wp2_with fail
  go_end0
  exact ⟨⟨_, rfl⟩, X, .inl rfl, HB.out.drew⟩
theorem lv_8 (b box : Nat) (X : World) (hx : X.cell? ⟨box, 0, none⟩ = some (.func (.func 145) #[] #[])) (hW : Wire X b) :
    Calls Tryz.prog 215 #[.pointer (some ⟨b, 0, none⟩), .pointer (some ⟨box, 0, none⟩)] X fun e w' => (∃ v, e = .returned v) ∧ LvP X w' b := by
  have c0 : X.cell? ⟨b, 17, none⟩ = some (.string ⟨#[]⟩) := (hW.cell (i := 17) (by decide)).trans rfl
  have s0 : X.setCell ⟨b, 17, none⟩ (.string ⟨#[]⟩) = X := hW.same (i := 17) (by decide) rfl
  have z0 := hW.frozen 17
  go_enter Tryz.func215, Tryz.ntmps215
  go_wp2_with fail
  refine (at_8 b X).mono ?_
  rintro e w1 ⟨rfl, rfl⟩
  go_wp2_with fail
  go_end0
  exact ⟨⟨_, rfl⟩, X, .inl rfl, Below.refl _ _⟩
theorem lv_9 (b box : Nat) (X : World) (hx : X.cell? ⟨box, 0, none⟩ = some (.func (.func 148) #[] #[])) (hW : Wire X b) :
    Calls Tryz.prog 221 #[.pointer (some ⟨b, 0, none⟩), .pointer (some ⟨box, 0, none⟩)] X fun e w' => (∃ v, e = .returned v) ∧ LvP X w' b := by
  have c0 : X.cell? ⟨b, 18, none⟩ = some (.slice none 0 0) := (hW.cell (i := 18) (by decide)).trans rfl
  have s0 : X.setCell ⟨b, 18, none⟩ (.slice none 0 0) = X := hW.same (i := 18) (by decide) rfl
  have z0 := hW.frozen 18
  go_enter Tryz.func221, Tryz.ntmps221
  go_wp2_with fail
  refine (at_9 b X).mono ?_
  rintro e w1 ⟨rfl, rfl⟩
  go_wp2_with fail
  go_end0
  exact ⟨⟨_, rfl⟩, X, .inl rfl, Below.refl _ _⟩
theorem lv_10 (b box : Nat) (X : World) (hx : X.cell? ⟨box, 0, none⟩ = some (.func (.func 152) #[] #[])) (hW : Wire X b) :
    Calls Tryz.prog 228 #[.pointer (some ⟨b, 0, none⟩), .pointer (some ⟨box, 0, none⟩)] X fun e w' => (∃ v, e = .returned v) ∧ LvP X w' b := by
  have c0 : X.cell? ⟨b, 19, none⟩ = some (.slice none 0 0) := (hW.cell (i := 19) (by decide)).trans rfl
  have s0 : X.setCell ⟨b, 19, none⟩ (.slice none 0 0) = X := hW.same (i := 19) (by decide) rfl
  have z0 := hW.frozen 19
  go_enter Tryz.func228, Tryz.ntmps228
  go_wp2_with fail
  refine (at_10 b X).mono ?_
  rintro e w1 ⟨rfl, rfl⟩
  go_wp2_with fail
  go_end0
  exact ⟨⟨_, rfl⟩, X, .inl rfl, Below.refl _ _⟩
theorem lv_11 (b box : Nat) (X : World) (hx : X.cell? ⟨box, 0, none⟩ = some (.func (.func 155) #[] #[])) (hW : Wire X b) :
    Calls Tryz.prog 206 #[.pointer (some ⟨b, 0, none⟩), .pointer (some ⟨box, 0, none⟩)] X fun e w' => (∃ v, e = .returned v) ∧ LvP X w' b := by
  obtain ⟨vv, c0⟩ := hW.last
  have z0 := hW.frozen 36
  go_enter Tryz.func206, Tryz.ntmps206
  go_wp2_with fail
  refine (at_11 b X).mono ?_
  rintro e w1 ⟨rfl, rfl⟩
  go_wp2_with fail
  go_end0
  exact ⟨⟨_, rfl⟩, _, .inr rfl, by have := Below.refl (X.setCell ⟨b, 36, none⟩ (.int .u64 0)).heap.size (X.setCell ⟨b, 36, none⟩ (.int .u64 0)); simpa using this⟩
theorem lv_12 (b box : Nat) (X : World) (hx : X.cell? ⟨box, 0, none⟩ = some (.func (.func 156) #[] #[])) (hW : Wire X b) :
    Calls Tryz.prog 206 #[.pointer (some ⟨b, 0, none⟩), .pointer (some ⟨box, 0, none⟩)] X fun e w' => (∃ v, e = .returned v) ∧ LvP X w' b := by
  have c0 : X.cell? ⟨b, 20, none⟩ = some (.int .u64 0) := (hW.cell (i := 20) (by decide)).trans rfl
  have s0 : X.setCell ⟨b, 20, none⟩ (.int .u64 0) = X := hW.same (i := 20) (by decide) rfl
  have z0 := hW.frozen 20
  go_enter Tryz.func206, Tryz.ntmps206
  go_wp2_with fail
  refine (at_12 b X).mono ?_
  rintro e w1 ⟨rfl, rfl⟩
  go_wp2_with fail
  go_end0
  exact ⟨⟨_, rfl⟩, X, .inl rfl, Below.refl _ _⟩
set_option maxRecDepth 100000 in
theorem lv_13 (b box : Nat) (X : World) (hx : X.cell? ⟨box, 0, none⟩ = some (.func (.func 157) #[] #[])) (hW : Wire X b) :
    Calls Tryz.prog 210 #[.pointer (some ⟨b, 0, none⟩), .pointer (some ⟨box, 0, none⟩)] X fun e w' => (∃ v, e = .returned v) ∧ LvP X w' b := by
  have mixed : Tryz.prog.follows .mixedOrders = true := by kernel_rfl
  obtain ⟨X1, hX1⟩ : ∃ X1, (X.alloc (.cells #[.int .u64 0, .int .u64 0, .int .u64 0, .int .u64 0] 88)) = X1 := ⟨_, rfl⟩
  have hb1 : Below X.heap.size X X1 := by rw [← hX1]; exact (Below.refl _ _).alloc (Nat.le_refl _) _
  have hW1 : Wire X1.drew b := (hW.from_ hb1).drew
  have hx1 : X1.drew.cell? ⟨box, 0, none⟩ = some (.func (.func 157) #[] #[]) := (hb1.cell (p := ⟨box, 0, none⟩) (cell_lt hx)).trans hx
  have n0 : X1.drew.cell? ⟨X.heap.size, 0, none⟩ = some (.int .u64 0) := by show X1.cell? _ = _; rw [← hX1]; simp [go_sem]
  have n1 : X1.drew.cell? ⟨X.heap.size, 1, none⟩ = some (.int .u64 0) := by show X1.cell? _ = _; rw [← hX1]; simp [go_sem]
  have n2 : X1.drew.cell? ⟨X.heap.size, 2, none⟩ = some (.int .u64 0) := by show X1.cell? _ = _; rw [← hX1]; simp [go_sem]
  have n3 : X1.drew.cell? ⟨X.heap.size, 3, none⟩ = some (.int .u64 0) := by show X1.cell? _ = _; rw [← hX1]; simp [go_sem]
  have HX := Lib.hid hX1
  have HB := Lib.hid hb1
  clear hX1 hb1
  have c0 : X1.drew.cell? ⟨b, 21, none⟩ = some (.int .u64 0) := (hW1.cell (i := 21) (by decide)).trans rfl
  have s0 : X1.drew.setCell ⟨b, 21, none⟩ (.int .u64 0) = X1.drew := hW1.same (i := 21) (by decide) rfl
  have z0 := hW1.frozen 21
  have c1 : X1.drew.cell? ⟨b, 22, none⟩ = some (.int .u64 0) := (hW1.cell (i := 22) (by decide)).trans rfl
  have s1 : X1.drew.setCell ⟨b, 22, none⟩ (.int .u64 0) = X1.drew := hW1.same (i := 22) (by decide) rfl
  have z1 := hW1.frozen 22
  have c2 : X1.drew.cell? ⟨b, 23, none⟩ = some (.int .u64 0) := (hW1.cell (i := 23) (by decide)).trans rfl
  have s2 : X1.drew.setCell ⟨b, 23, none⟩ (.int .u64 0) = X1.drew := hW1.same (i := 23) (by decide) rfl
  have z2 := hW1.frozen 23
  have c3 : X1.drew.cell? ⟨b, 24, none⟩ = some (.int .u64 0) := (hW1.cell (i := 24) (by decide)).trans rfl
  have s3 : X1.drew.setCell ⟨b, 24, none⟩ (.int .u64 0) = X1.drew := hW1.same (i := 24) (by decide) rfl
  have z3 := hW1.frozen 24
  go_enter Tryz.func210, Tryz.ntmps210
  go_wp2_with fail
  rw [HX.out]
  refine wp_region_held (S := fun Y => Y = X1.drew) mixed ?_
  rw [show Array.replicate (Array.size _) false = #[false, false, false, false, false, false] from rfl, show Array.size (α := Oper) _ = 6 from rfl]
  refine wpAnyH_take (i := 0) (v := .func (.func 157) #[] #[]) rfl (by kernel_rfl) (by kernel_rfl) (by kernel_rfl) (fun _ _ _ h => h) (Or.inl ⟨by rfl, ?_⟩) rfl ?_
  · intro Y hY
    subst hY
    go_simp
  simp only [Act.put, List.getElem_toArray, List.getElem_cons_zero, List.setIfInBounds_toArray, List.set_cons_zero, List.set_cons_succ]
  refine wpAnyH_take (i := 1) (v := .pointer (some ⟨b, 0, none⟩)) rfl (by kernel_rfl) (by kernel_rfl) (by kernel_rfl) (fun _ _ _ h => h) (Or.inl ⟨by rfl, ?_⟩) rfl ?_
  · intro Y hY
    skip
    go_simp
  simp only [Act.put, List.getElem_toArray, List.getElem_cons_succ, List.getElem_cons_zero, List.setIfInBounds_toArray, List.set_cons_zero, List.set_cons_succ]
  refine wpAnyH_take (i := 3) (v := .agg #[.int .u64 0, .int .u64 0, .int .u64 0, .int .u64 0]) rfl (by kernel_rfl) (by kernel_rfl) (by kernel_rfl) (fun _ _ _ h => h) (Or.inl ⟨by rfl, ?_⟩) rfl ?_
  · intro Y hY
    subst hY
    go_simp
  simp only [Act.put, List.getElem_toArray, List.getElem_cons_succ, List.getElem_cons_zero, List.setIfInBounds_toArray, List.set_cons_zero, List.set_cons_succ]
  refine wpAnyH_ready (rs := [2]) (by kernel_rfl) (by simp) ?_
  refine AllReadyH.cons rfl (fun K hK => ?_) AllReadyH.nil
  go_simp
  refine (at_13 b _).mono ?_
  rintro e w1 ⟨rfl, rfl⟩
  try go_wp2_with fail
  refine hK.out _ _ rfl (fun _ => ?_)
  clear hK K
  simp only [List.setIfInBounds_toArray, List.set_cons_zero, List.set_cons_succ]
  refine wpAnyH_ready (rs := [4]) (by kernel_rfl) (by simp) ?_
  refine AllReadyH.cons rfl (fun K hK => ?_) AllReadyH.nil
  go_simp
  refine hK.out _ _ rfl (fun _ => ?_)
  clear hK K
  simp only [List.setIfInBounds_toArray, List.set_cons_zero, List.set_cons_succ]
  refine wpAnyH_ready (rs := [5]) (by kernel_rfl) (by simp) ?_
  refine AllReadyH.cons rfl (fun K hK => ?_) AllReadyH.nil
  go_simp

  refine hK.out _ _ (by first | rfl | simp only [s0, s1, s2, s3]) (fun _ => ?_)
  clear hK K
  simp only [List.setIfInBounds_toArray, List.set_cons_zero, List.set_cons_succ]
  refine wpAnyH_done (by kernel_rfl) ?_ _
  go_wp2_with fail
  go_end0
  exact ⟨⟨_, rfl⟩, X, .inl rfl, HB.out.drew⟩
set_option maxRecDepth 100000 in
theorem lv_14 (b box : Nat) (X : World) (hx : X.cell? ⟨box, 0, none⟩ = some (.func (.func 158) #[] #[])) (hW : Wire X b) :
    Calls Tryz.prog 210 #[.pointer (some ⟨b, 0, none⟩), .pointer (some ⟨box, 0, none⟩)] X fun e w' => (∃ v, e = .returned v) ∧ LvP X w' b := by
  have mixed : Tryz.prog.follows .mixedOrders = true := by kernel_rfl
  obtain ⟨X1, hX1⟩ : ∃ X1, (X.alloc (.cells #[.int .u64 0, .int .u64 0, .int .u64 0, .int .u64 0] 88)) = X1 := ⟨_, rfl⟩
  have hb1 : Below X.heap.size X X1 := by rw [← hX1]; exact (Below.refl _ _).alloc (Nat.le_refl _) _
  have hW1 : Wire X1.drew b := (hW.from_ hb1).drew
  have hx1 : X1.drew.cell? ⟨box, 0, none⟩ = some (.func (.func 158) #[] #[]) := (hb1.cell (p := ⟨box, 0, none⟩) (cell_lt hx)).trans hx
  have n0 : X1.drew.cell? ⟨X.heap.size, 0, none⟩ = some (.int .u64 0) := by show X1.cell? _ = _; rw [← hX1]; simp [go_sem]
  have n1 : X1.drew.cell? ⟨X.heap.size, 1, none⟩ = some (.int .u64 0) := by show X1.cell? _ = _; rw [← hX1]; simp [go_sem]
  have n2 : X1.drew.cell? ⟨X.heap.size, 2, none⟩ = some (.int .u64 0) := by show X1.cell? _ = _; rw [← hX1]; simp [go_sem]
  have n3 : X1.drew.cell? ⟨X.heap.size, 3, none⟩ = some (.int .u64 0) := by show X1.cell? _ = _; rw [← hX1]; simp [go_sem]
  have HX := Lib.hid hX1
  have HB := Lib.hid hb1
  clear hX1 hb1
  have c0 : X1.drew.cell? ⟨b, 25, none⟩ = some (.int .u64 0) := (hW1.cell (i := 25) (by decide)).trans rfl
  have s0 : X1.drew.setCell ⟨b, 25, none⟩ (.int .u64 0) = X1.drew := hW1.same (i := 25) (by decide) rfl
  have z0 := hW1.frozen 25
  have c1 : X1.drew.cell? ⟨b, 26, none⟩ = some (.int .u64 0) := (hW1.cell (i := 26) (by decide)).trans rfl
  have s1 : X1.drew.setCell ⟨b, 26, none⟩ (.int .u64 0) = X1.drew := hW1.same (i := 26) (by decide) rfl
  have z1 := hW1.frozen 26
  have c2 : X1.drew.cell? ⟨b, 27, none⟩ = some (.int .u64 0) := (hW1.cell (i := 27) (by decide)).trans rfl
  have s2 : X1.drew.setCell ⟨b, 27, none⟩ (.int .u64 0) = X1.drew := hW1.same (i := 27) (by decide) rfl
  have z2 := hW1.frozen 27
  have c3 : X1.drew.cell? ⟨b, 28, none⟩ = some (.int .u64 0) := (hW1.cell (i := 28) (by decide)).trans rfl
  have s3 : X1.drew.setCell ⟨b, 28, none⟩ (.int .u64 0) = X1.drew := hW1.same (i := 28) (by decide) rfl
  have z3 := hW1.frozen 28
  go_enter Tryz.func210, Tryz.ntmps210
  go_wp2_with fail
  rw [HX.out]
  refine wp_region_held (S := fun Y => Y = X1.drew) mixed ?_
  rw [show Array.replicate (Array.size _) false = #[false, false, false, false, false, false] from rfl, show Array.size (α := Oper) _ = 6 from rfl]
  refine wpAnyH_take (i := 0) (v := .func (.func 158) #[] #[]) rfl (by kernel_rfl) (by kernel_rfl) (by kernel_rfl) (fun _ _ _ h => h) (Or.inl ⟨by rfl, ?_⟩) rfl ?_
  · intro Y hY
    subst hY
    go_simp
  simp only [Act.put, List.getElem_toArray, List.getElem_cons_zero, List.setIfInBounds_toArray, List.set_cons_zero, List.set_cons_succ]
  refine wpAnyH_take (i := 1) (v := .pointer (some ⟨b, 0, none⟩)) rfl (by kernel_rfl) (by kernel_rfl) (by kernel_rfl) (fun _ _ _ h => h) (Or.inl ⟨by rfl, ?_⟩) rfl ?_
  · intro Y hY
    skip
    go_simp
  simp only [Act.put, List.getElem_toArray, List.getElem_cons_succ, List.getElem_cons_zero, List.setIfInBounds_toArray, List.set_cons_zero, List.set_cons_succ]
  refine wpAnyH_take (i := 3) (v := .agg #[.int .u64 0, .int .u64 0, .int .u64 0, .int .u64 0]) rfl (by kernel_rfl) (by kernel_rfl) (by kernel_rfl) (fun _ _ _ h => h) (Or.inl ⟨by rfl, ?_⟩) rfl ?_
  · intro Y hY
    subst hY
    go_simp
  simp only [Act.put, List.getElem_toArray, List.getElem_cons_succ, List.getElem_cons_zero, List.setIfInBounds_toArray, List.set_cons_zero, List.set_cons_succ]
  refine wpAnyH_ready (rs := [2]) (by kernel_rfl) (by simp) ?_
  refine AllReadyH.cons rfl (fun K hK => ?_) AllReadyH.nil
  go_simp
  refine (at_14 b _).mono ?_
  rintro e w1 ⟨rfl, rfl⟩
  try go_wp2_with fail
  refine hK.out _ _ rfl (fun _ => ?_)
  clear hK K
  simp only [List.setIfInBounds_toArray, List.set_cons_zero, List.set_cons_succ]
  refine wpAnyH_ready (rs := [4]) (by kernel_rfl) (by simp) ?_
  refine AllReadyH.cons rfl (fun K hK => ?_) AllReadyH.nil
  go_simp
  refine hK.out _ _ rfl (fun _ => ?_)
  clear hK K
  simp only [List.setIfInBounds_toArray, List.set_cons_zero, List.set_cons_succ]
  refine wpAnyH_ready (rs := [5]) (by kernel_rfl) (by simp) ?_
  refine AllReadyH.cons rfl (fun K hK => ?_) AllReadyH.nil
  go_simp

  refine hK.out _ _ (by first | rfl | simp only [s0, s1, s2, s3]) (fun _ => ?_)
  clear hK K
  simp only [List.setIfInBounds_toArray, List.set_cons_zero, List.set_cons_succ]
  refine wpAnyH_done (by kernel_rfl) ?_ _
  go_wp2_with fail
  go_end0
  exact ⟨⟨_, rfl⟩, X, .inl rfl, HB.out.drew⟩
theorem lv_15 (b box : Nat) (X : World) (hx : X.cell? ⟨box, 0, none⟩ = some (.func (.func 159) #[] #[])) (hW : Wire X b) :
    Calls Tryz.prog 215 #[.pointer (some ⟨b, 0, none⟩), .pointer (some ⟨box, 0, none⟩)] X fun e w' => (∃ v, e = .returned v) ∧ LvP X w' b := by
  have c0 : X.cell? ⟨b, 29, none⟩ = some (.string ⟨#[]⟩) := (hW.cell (i := 29) (by decide)).trans rfl
  have s0 : X.setCell ⟨b, 29, none⟩ (.string ⟨#[]⟩) = X := hW.same (i := 29) (by decide) rfl
  have z0 := hW.frozen 29
  go_enter Tryz.func215, Tryz.ntmps215
  go_wp2_with fail
  refine (at_15 b X).mono ?_
  rintro e w1 ⟨rfl, rfl⟩
  go_wp2_with fail
  go_end0
  exact ⟨⟨_, rfl⟩, X, .inl rfl, Below.refl _ _⟩
theorem lv_16 (b box : Nat) (X : World) (hx : X.cell? ⟨box, 0, none⟩ = some (.func (.func 161) #[] #[])) (hW : Wire X b) :
    Calls Tryz.prog 215 #[.pointer (some ⟨b, 0, none⟩), .pointer (some ⟨box, 0, none⟩)] X fun e w' => (∃ v, e = .returned v) ∧ LvP X w' b := by
  have c0 : X.cell? ⟨b, 30, none⟩ = some (.string ⟨#[]⟩) := (hW.cell (i := 30) (by decide)).trans rfl
  have s0 : X.setCell ⟨b, 30, none⟩ (.string ⟨#[]⟩) = X := hW.same (i := 30) (by decide) rfl
  have z0 := hW.frozen 30
  go_enter Tryz.func215, Tryz.ntmps215
  go_wp2_with fail
  refine (at_16 b X).mono ?_
  rintro e w1 ⟨rfl, rfl⟩
  go_wp2_with fail
  go_end0
  exact ⟨⟨_, rfl⟩, X, .inl rfl, Below.refl _ _⟩
set_option maxRecDepth 100000 in
theorem lv_17 (b box : Nat) (X : World) (hx : X.cell? ⟨box, 0, none⟩ = some (.func (.func 162) #[] #[])) (hW : Wire X b) :
    Calls Tryz.prog 210 #[.pointer (some ⟨b, 0, none⟩), .pointer (some ⟨box, 0, none⟩)] X fun e w' => (∃ v, e = .returned v) ∧ LvP X w' b := by
  have mixed : Tryz.prog.follows .mixedOrders = true := by kernel_rfl
  obtain ⟨X1, hX1⟩ : ∃ X1, (X.alloc (.cells #[.int .u64 0, .int .u64 0, .int .u64 0, .int .u64 0] 88)) = X1 := ⟨_, rfl⟩
  have hb1 : Below X.heap.size X X1 := by rw [← hX1]; exact (Below.refl _ _).alloc (Nat.le_refl _) _
  have hW1 : Wire X1.drew b := (hW.from_ hb1).drew
  have hx1 : X1.drew.cell? ⟨box, 0, none⟩ = some (.func (.func 162) #[] #[]) := (hb1.cell (p := ⟨box, 0, none⟩) (cell_lt hx)).trans hx
  have n0 : X1.drew.cell? ⟨X.heap.size, 0, none⟩ = some (.int .u64 0) := by show X1.cell? _ = _; rw [← hX1]; simp [go_sem]
  have n1 : X1.drew.cell? ⟨X.heap.size, 1, none⟩ = some (.int .u64 0) := by show X1.cell? _ = _; rw [← hX1]; simp [go_sem]
  have n2 : X1.drew.cell? ⟨X.heap.size, 2, none⟩ = some (.int .u64 0) := by show X1.cell? _ = _; rw [← hX1]; simp [go_sem]
  have n3 : X1.drew.cell? ⟨X.heap.size, 3, none⟩ = some (.int .u64 0) := by show X1.cell? _ = _; rw [← hX1]; simp [go_sem]
  have HX := Lib.hid hX1
  have HB := Lib.hid hb1
  clear hX1 hb1
  have c0 : X1.drew.cell? ⟨b, 31, none⟩ = some (.int .u64 0) := (hW1.cell (i := 31) (by decide)).trans rfl
  have s0 : X1.drew.setCell ⟨b, 31, none⟩ (.int .u64 0) = X1.drew := hW1.same (i := 31) (by decide) rfl
  have z0 := hW1.frozen 31
  have c1 : X1.drew.cell? ⟨b, 32, none⟩ = some (.int .u64 0) := (hW1.cell (i := 32) (by decide)).trans rfl
  have s1 : X1.drew.setCell ⟨b, 32, none⟩ (.int .u64 0) = X1.drew := hW1.same (i := 32) (by decide) rfl
  have z1 := hW1.frozen 32
  have c2 : X1.drew.cell? ⟨b, 33, none⟩ = some (.int .u64 0) := (hW1.cell (i := 33) (by decide)).trans rfl
  have s2 : X1.drew.setCell ⟨b, 33, none⟩ (.int .u64 0) = X1.drew := hW1.same (i := 33) (by decide) rfl
  have z2 := hW1.frozen 33
  have c3 : X1.drew.cell? ⟨b, 34, none⟩ = some (.int .u64 0) := (hW1.cell (i := 34) (by decide)).trans rfl
  have s3 : X1.drew.setCell ⟨b, 34, none⟩ (.int .u64 0) = X1.drew := hW1.same (i := 34) (by decide) rfl
  have z3 := hW1.frozen 34
  go_enter Tryz.func210, Tryz.ntmps210
  go_wp2_with fail
  rw [HX.out]
  refine wp_region_held (S := fun Y => Y = X1.drew) mixed ?_
  rw [show Array.replicate (Array.size _) false = #[false, false, false, false, false, false] from rfl, show Array.size (α := Oper) _ = 6 from rfl]
  refine wpAnyH_take (i := 0) (v := .func (.func 162) #[] #[]) rfl (by kernel_rfl) (by kernel_rfl) (by kernel_rfl) (fun _ _ _ h => h) (Or.inl ⟨by rfl, ?_⟩) rfl ?_
  · intro Y hY
    subst hY
    go_simp
  simp only [Act.put, List.getElem_toArray, List.getElem_cons_zero, List.setIfInBounds_toArray, List.set_cons_zero, List.set_cons_succ]
  refine wpAnyH_take (i := 1) (v := .pointer (some ⟨b, 0, none⟩)) rfl (by kernel_rfl) (by kernel_rfl) (by kernel_rfl) (fun _ _ _ h => h) (Or.inl ⟨by rfl, ?_⟩) rfl ?_
  · intro Y hY
    skip
    go_simp
  simp only [Act.put, List.getElem_toArray, List.getElem_cons_succ, List.getElem_cons_zero, List.setIfInBounds_toArray, List.set_cons_zero, List.set_cons_succ]
  refine wpAnyH_take (i := 3) (v := .agg #[.int .u64 0, .int .u64 0, .int .u64 0, .int .u64 0]) rfl (by kernel_rfl) (by kernel_rfl) (by kernel_rfl) (fun _ _ _ h => h) (Or.inl ⟨by rfl, ?_⟩) rfl ?_
  · intro Y hY
    subst hY
    go_simp
  simp only [Act.put, List.getElem_toArray, List.getElem_cons_succ, List.getElem_cons_zero, List.setIfInBounds_toArray, List.set_cons_zero, List.set_cons_succ]
  refine wpAnyH_ready (rs := [2]) (by kernel_rfl) (by simp) ?_
  refine AllReadyH.cons rfl (fun K hK => ?_) AllReadyH.nil
  go_simp
  refine (at_17 b _).mono ?_
  rintro e w1 ⟨rfl, rfl⟩
  try go_wp2_with fail
  refine hK.out _ _ rfl (fun _ => ?_)
  clear hK K
  simp only [List.setIfInBounds_toArray, List.set_cons_zero, List.set_cons_succ]
  refine wpAnyH_ready (rs := [4]) (by kernel_rfl) (by simp) ?_
  refine AllReadyH.cons rfl (fun K hK => ?_) AllReadyH.nil
  go_simp
  refine hK.out _ _ rfl (fun _ => ?_)
  clear hK K
  simp only [List.setIfInBounds_toArray, List.set_cons_zero, List.set_cons_succ]
  refine wpAnyH_ready (rs := [5]) (by kernel_rfl) (by simp) ?_
  refine AllReadyH.cons rfl (fun K hK => ?_) AllReadyH.nil
  go_simp

  refine hK.out _ _ (by first | rfl | simp only [s0, s1, s2, s3]) (fun _ => ?_)
  clear hK K
  simp only [List.setIfInBounds_toArray, List.set_cons_zero, List.set_cons_succ]
  refine wpAnyH_done (by kernel_rfl) ?_ _
  go_wp2_with fail
  go_end0
  exact ⟨⟨_, rfl⟩, X, .inl rfl, HB.out.drew⟩
theorem lv_18 (b box : Nat) (X : World) (hx : X.cell? ⟨box, 0, none⟩ = some (.func (.func 164) #[] #[])) (hW : Wire X b) :
    Calls Tryz.prog 237 #[.pointer (some ⟨b, 0, none⟩), .pointer (some ⟨box, 0, none⟩)] X fun e w' => (∃ v, e = .returned v) ∧ LvP X w' b := by
  have c0 : X.cell? ⟨b, 35, none⟩ = some (.bool false) := (hW.cell (i := 35) (by decide)).trans rfl
  have s0 : X.setCell ⟨b, 35, none⟩ (.bool false) = X := hW.same (i := 35) (by decide) rfl
  have z0 := hW.frozen 35
  go_enter Tryz.func237, Tryz.ntmps237
  go_wp2_with fail
  refine (at_18 b X).mono ?_
  rintro e w1 ⟨rfl, rfl⟩
  go_wp2_with fail
  go_end0
  exact ⟨⟨_, rfl⟩, X, .inl rfl, Below.refl _ _⟩
end Go.Proofs.YtebjhbeaknokkaaGreatDoor
namespace Go.Proofs.YtebjhbeaknokkaaGreatDoor
open Go Go.RowKit Go.Lib Go.Shelf

def IsFn (V : Value) : Prop := V = .nilFunc ∨ ∃ F xa xb, V = .func F xa xb
theorem store_fn {V : Value} (hV : IsFn V) (W : World) (p : Addr) (h1 : (W.cell? p).isSome = true) (h2 : W.frozen? p = false) : (store p V).run Tryz.prog W = .ok () (W.setCell p V) := by
  rw [run_store _ _ _ _ _ (by rcases hV with rfl | ⟨F, xa, xb, rfl⟩ <;> rfl)]
  obtain ⟨v, hv⟩ := Option.isSome_iff_exists.1 h1
  rw [hv]
  simp [h2]
theorem Tryz.partSize : (Tryz.prog.info? 180).map (·.size) = some 3 := by kernel_rfl
theorem part_new {fn : Func} {s : Tmp} (hres : fn.results = #[.cell s 180]) (W : World) (b : Nat) (tmps : Array Value) (x y z : Value) (R : Ending → World → Prop) (hp : tmps.getD s undef = .pointer (some ⟨b, 0, none⟩)) (hb : W.heap[b]? = some (.cells #[x, y, z] 180 (0, 0)))
    (h : R (.returned (.agg #[x, y, z])) W) : bodyPost Tryz.prog fn R .ret { tmps := tmps, defers := [] } W := by
  have := results_cell_row (P := Tryz.prog) hres tmps W b 180 #[x, y, z] (0, 0) _ hp hb Tryz.underlying180 rfl Tryz.partSize
  exact bodyPost_ret this rfl h
/-- What leaves a field, among the first n blocks. -/
structure PartOk (n : Nat) (W : World) (l : Value) : Prop where
  out : ∃ (F : FuncId) (box : Nat), l = .func (.func F) #[] #[.pointer (some ⟨box, 0, none⟩)] ∧ box < n ∧ (∀ args w, (callFunc F args).run Tryz.prog w = .ok (.enter F args) w) ∧
    ∀ (X : World) (b : Nat), X.cell? ⟨box, 0, none⟩ = W.cell? ⟨box, 0, none⟩ → Wire X b → Calls Tryz.prog F #[.pointer (some ⟨b, 0, none⟩), .pointer (some ⟨box, 0, none⟩)] X fun e w' => (∃ v, e = .returned v) ∧ LvP X w' b
theorem PartOk.from_ {n : Nat} {W W' : World} {l : Value} (h : PartOk n W l) (hb : Below n W W') : PartOk n W' l := by
  obtain ⟨F, box, rfl, hlt, hE, hC⟩ := h.out
  exact ⟨F, box, rfl, hlt, hE, fun X b hx hW => hC X b (hx.trans (hb.cell (p := ⟨box, 0, none⟩) hlt)) hW⟩
theorem PartOk.mono {n m : Nat} {W : World} {l : Value} (h : PartOk n W l) (hm : n ≤ m) : PartOk m W l := by
  obtain ⟨F, box, rfl, hlt, hE, hC⟩ := h.out
  exact ⟨F, box, rfl, Nat.lt_of_lt_of_le hlt hm, hE, hC⟩
set_option maxRecDepth 100000 in
theorem part_0 (f p g : FuncId) (gc : Array Value) (w : World) : Calls Tryz.prog 131 #[.func (.func f) #[] #[], .func (.func p) #[] #[], .func (.func g) #[] gc] w fun e w' => (∃ p' g', IsFn p' ∧ IsFn g' ∧ e = .returned (.agg #[p', g', .func (.func 206) #[] #[.pointer (some ⟨w.heap.size, 0, none⟩)]])) ∧ w'.cell? ⟨w.heap.size, 0, none⟩ = some (.func (.func f) #[] #[]) ∧ w.heap.size < w'.heap.size ∧ Below w.heap.size w w' := by
  have s0 := fun xa W p => store_fn (V := .func (.func 204) #[] xa) (.inr ⟨_, _, _, rfl⟩) W p
  have s1 := fun xa W p => store_fn (V := .func (.func 205) #[] xa) (.inr ⟨_, _, _, rfl⟩) W p
  have s2 := fun xa W p => store_fn (V := .func (.func 206) #[] xa) (.inr ⟨_, _, _, rfl⟩) W p
  go_enter Tryz.func131, Tryz.ntmps131
  go_wp2_with fail
  refine part_new rfl _ _ _ _ _ _ _ (by simp) (heap_alloc_new _ _) ⟨⟨_, _, .inr ⟨_, _, _, rfl⟩, .inr ⟨_, _, _, rfl⟩, rfl⟩, by simp [go_sem], by simp [go_sem] <;> omega, by (repeat (first | exact Below.refl _ _ | refine Below.drew ?_ | refine Below.alloc ?_ (by first | omega | (simp; omega) | simp) _ | refine Below.setCell ?_ (by first | omega | (simp; omega) | simp) _))⟩
set_option maxRecDepth 100000 in
theorem part_1 (f p g : FuncId) (gc : Array Value) (w : World) : Calls Tryz.prog 135 #[.func (.func f) #[] #[], .func (.func p) #[] #[], .func (.func g) #[] gc] w fun e w' => (∃ p' g', IsFn p' ∧ IsFn g' ∧ e = .returned (.agg #[p', g', .func (.func 210) #[] #[.pointer (some ⟨w.heap.size, 0, none⟩)]])) ∧ w'.cell? ⟨w.heap.size, 0, none⟩ = some (.func (.func f) #[] #[]) ∧ w.heap.size < w'.heap.size ∧ Below w.heap.size w w' := by
  have s0 := fun xa W p => store_fn (V := .func (.func 208) #[] xa) (.inr ⟨_, _, _, rfl⟩) W p
  have s1 := fun xa W p => store_fn (V := .func (.func 209) #[] xa) (.inr ⟨_, _, _, rfl⟩) W p
  have s2 := fun xa W p => store_fn (V := .func (.func 210) #[] xa) (.inr ⟨_, _, _, rfl⟩) W p
  go_enter Tryz.func135, Tryz.ntmps135
  go_wp2_with fail
  refine part_new rfl _ _ _ _ _ _ _ (by simp) (heap_alloc_new _ _) ⟨⟨_, _, .inr ⟨_, _, _, rfl⟩, .inr ⟨_, _, _, rfl⟩, rfl⟩, by simp [go_sem], by simp [go_sem] <;> omega, by (repeat (first | exact Below.refl _ _ | refine Below.drew ?_ | refine Below.alloc ?_ (by first | omega | (simp; omega) | simp) _ | refine Below.setCell ?_ (by first | omega | (simp; omega) | simp) _))⟩
set_option maxRecDepth 100000 in
theorem part_2 (f p g : FuncId) (gc : Array Value) (w : World) : Calls Tryz.prog 141 #[.func (.func f) #[] #[], .func (.func p) #[] #[], .func (.func g) #[] gc] w fun e w' => (∃ p' g', IsFn p' ∧ IsFn g' ∧ e = .returned (.agg #[p', g', .func (.func 215) #[] #[.pointer (some ⟨w.heap.size, 0, none⟩)]])) ∧ w'.cell? ⟨w.heap.size, 0, none⟩ = some (.func (.func f) #[] #[]) ∧ w.heap.size < w'.heap.size ∧ Below w.heap.size w w' := by
  have s0 := fun xa W p => store_fn (V := .func (.func 213) #[] xa) (.inr ⟨_, _, _, rfl⟩) W p
  have s1 := fun xa W p => store_fn (V := .func (.func 214) #[] xa) (.inr ⟨_, _, _, rfl⟩) W p
  have s2 := fun xa W p => store_fn (V := .func (.func 215) #[] xa) (.inr ⟨_, _, _, rfl⟩) W p
  go_enter Tryz.func141, Tryz.ntmps141
  go_wp2_with fail
  refine part_new rfl _ _ _ _ _ _ _ (by simp) (heap_alloc_new _ _) ⟨⟨_, _, .inr ⟨_, _, _, rfl⟩, .inr ⟨_, _, _, rfl⟩, rfl⟩, by simp [go_sem], by simp [go_sem] <;> omega, by (repeat (first | exact Below.refl _ _ | refine Below.drew ?_ | refine Below.alloc ?_ (by first | omega | (simp; omega) | simp) _ | refine Below.setCell ?_ (by first | omega | (simp; omega) | simp) _))⟩
set_option maxRecDepth 100000 in
theorem part_3 (f p g : FuncId) (gc : Array Value) (w : World) : Calls Tryz.prog 147 #[.func (.func f) #[] #[], .func (.func p) #[] #[], .func (.func g) #[] gc] w fun e w' => (∃ p' g', IsFn p' ∧ IsFn g' ∧ e = .returned (.agg #[p', g', .func (.func 221) #[] #[.pointer (some ⟨w.heap.size, 0, none⟩)]])) ∧ w'.cell? ⟨w.heap.size, 0, none⟩ = some (.func (.func f) #[] #[]) ∧ w.heap.size < w'.heap.size ∧ Below w.heap.size w w' := by
  have s0 := fun xa W p => store_fn (V := .func (.func 219) #[] xa) (.inr ⟨_, _, _, rfl⟩) W p
  have s1 := fun xa W p => store_fn (V := .func (.func 220) #[] xa) (.inr ⟨_, _, _, rfl⟩) W p
  have s2 := fun xa W p => store_fn (V := .func (.func 221) #[] xa) (.inr ⟨_, _, _, rfl⟩) W p
  go_enter Tryz.func147, Tryz.ntmps147
  go_wp2_with fail
  refine part_new rfl _ _ _ _ _ _ _ (by simp) (heap_alloc_new _ _) ⟨⟨_, _, .inr ⟨_, _, _, rfl⟩, .inr ⟨_, _, _, rfl⟩, rfl⟩, by simp [go_sem], by simp [go_sem] <;> omega, by (repeat (first | exact Below.refl _ _ | refine Below.drew ?_ | refine Below.alloc ?_ (by first | omega | (simp; omega) | simp) _ | refine Below.setCell ?_ (by first | omega | (simp; omega) | simp) _))⟩
set_option maxRecDepth 100000 in
theorem part_4 (f p g : FuncId) (gc : Array Value) (w : World) : Calls Tryz.prog 151 #[.func (.func f) #[] #[], .func (.func p) #[] #[], .func (.func g) #[] gc] w fun e w' => (∃ p' g', IsFn p' ∧ IsFn g' ∧ e = .returned (.agg #[p', g', .func (.func 228) #[] #[.pointer (some ⟨w.heap.size, 0, none⟩)]])) ∧ w'.cell? ⟨w.heap.size, 0, none⟩ = some (.func (.func f) #[] #[]) ∧ w.heap.size < w'.heap.size ∧ Below w.heap.size w w' := by
  have s0 := fun xa W p => store_fn (V := .func (.func 226) #[] xa) (.inr ⟨_, _, _, rfl⟩) W p
  have s1 := fun xa W p => store_fn (V := .func (.func 227) #[] xa) (.inr ⟨_, _, _, rfl⟩) W p
  have s2 := fun xa W p => store_fn (V := .func (.func 228) #[] xa) (.inr ⟨_, _, _, rfl⟩) W p
  go_enter Tryz.func151, Tryz.ntmps151
  go_wp2_with fail
  refine part_new rfl _ _ _ _ _ _ _ (by simp) (heap_alloc_new _ _) ⟨⟨_, _, .inr ⟨_, _, _, rfl⟩, .inr ⟨_, _, _, rfl⟩, rfl⟩, by simp [go_sem], by simp [go_sem] <;> omega, by (repeat (first | exact Below.refl _ _ | refine Below.drew ?_ | refine Below.alloc ?_ (by first | omega | (simp; omega) | simp) _ | refine Below.setCell ?_ (by first | omega | (simp; omega) | simp) _))⟩
set_option maxRecDepth 100000 in
theorem part_5 (f p g : FuncId) (gc : Array Value) (w : World) : Calls Tryz.prog 163 #[.func (.func f) #[] #[], .func (.func p) #[] #[], .func (.func g) #[] gc] w fun e w' => (∃ p' g', IsFn p' ∧ IsFn g' ∧ e = .returned (.agg #[p', g', .func (.func 237) #[] #[.pointer (some ⟨w.heap.size, 0, none⟩)]])) ∧ w'.cell? ⟨w.heap.size, 0, none⟩ = some (.func (.func f) #[] #[]) ∧ w.heap.size < w'.heap.size ∧ Below w.heap.size w w' := by
  have s0 := fun xa W p => store_fn (V := .func (.func 235) #[] xa) (.inr ⟨_, _, _, rfl⟩) W p
  have s1 := fun xa W p => store_fn (V := .func (.func 236) #[] xa) (.inr ⟨_, _, _, rfl⟩) W p
  have s2 := fun xa W p => store_fn (V := .func (.func 237) #[] xa) (.inr ⟨_, _, _, rfl⟩) W p
  go_enter Tryz.func163, Tryz.ntmps163
  go_wp2_with fail
  refine part_new rfl _ _ _ _ _ _ _ (by simp) (heap_alloc_new _ _) ⟨⟨_, _, .inr ⟨_, _, _, rfl⟩, .inr ⟨_, _, _, rfl⟩, rfl⟩, by simp [go_sem], by simp [go_sem] <;> omega, by (repeat (first | exact Below.refl _ _ | refine Below.drew ?_ | refine Below.alloc ?_ (by first | omega | (simp; omega) | simp) _ | refine Below.setCell ?_ (by first | omega | (simp; omega) | simp) _))⟩
theorem pk_1 (p g : FuncId) (gc : Array Value) (w : World) : Calls Tryz.prog 131 #[.func (.func 132) #[] #[], .func (.func p) #[] #[], .func (.func g) #[] gc] w fun e w' => (∃ p' g' l, IsFn p' ∧ IsFn g' ∧ e = .returned (.agg #[p', g', l]) ∧ PartOk w'.heap.size w' l) ∧ Below w.heap.size w w' := by
  refine (part_0 _ p g gc w).mono ?_
  rintro e w' ⟨⟨p', g', hp', hg', rfl⟩, hc, hlt, hb⟩
  exact ⟨⟨p', g', _, hp', hg', rfl, ⟨_, w.heap.size, rfl, hlt, enters_of Tryz.func206 (by kernel_rfl) rfl, fun X b hx hW => lv_1 b w.heap.size X (hx.trans hc) hW⟩⟩, hb⟩
theorem pk_2 (p g : FuncId) (gc : Array Value) (w : World) : Calls Tryz.prog 131 #[.func (.func 134) #[] #[], .func (.func p) #[] #[], .func (.func g) #[] gc] w fun e w' => (∃ p' g' l, IsFn p' ∧ IsFn g' ∧ e = .returned (.agg #[p', g', l]) ∧ PartOk w'.heap.size w' l) ∧ Below w.heap.size w w' := by
  refine (part_0 _ p g gc w).mono ?_
  rintro e w' ⟨⟨p', g', hp', hg', rfl⟩, hc, hlt, hb⟩
  exact ⟨⟨p', g', _, hp', hg', rfl, ⟨_, w.heap.size, rfl, hlt, enters_of Tryz.func206 (by kernel_rfl) rfl, fun X b hx hW => lv_2 b w.heap.size X (hx.trans hc) hW⟩⟩, hb⟩
theorem pk_3 (p g : FuncId) (gc : Array Value) (w : World) : Calls Tryz.prog 135 #[.func (.func 136) #[] #[], .func (.func p) #[] #[], .func (.func g) #[] gc] w fun e w' => (∃ p' g' l, IsFn p' ∧ IsFn g' ∧ e = .returned (.agg #[p', g', l]) ∧ PartOk w'.heap.size w' l) ∧ Below w.heap.size w w' := by
  refine (part_1 _ p g gc w).mono ?_
  rintro e w' ⟨⟨p', g', hp', hg', rfl⟩, hc, hlt, hb⟩
  exact ⟨⟨p', g', _, hp', hg', rfl, ⟨_, w.heap.size, rfl, hlt, enters_of Tryz.func210 (by kernel_rfl) rfl, fun X b hx hW => lv_3 b w.heap.size X (hx.trans hc) hW⟩⟩, hb⟩
theorem pk_4 (p g : FuncId) (gc : Array Value) (w : World) : Calls Tryz.prog 135 #[.func (.func 139) #[] #[], .func (.func p) #[] #[], .func (.func g) #[] gc] w fun e w' => (∃ p' g' l, IsFn p' ∧ IsFn g' ∧ e = .returned (.agg #[p', g', l]) ∧ PartOk w'.heap.size w' l) ∧ Below w.heap.size w w' := by
  refine (part_1 _ p g gc w).mono ?_
  rintro e w' ⟨⟨p', g', hp', hg', rfl⟩, hc, hlt, hb⟩
  exact ⟨⟨p', g', _, hp', hg', rfl, ⟨_, w.heap.size, rfl, hlt, enters_of Tryz.func210 (by kernel_rfl) rfl, fun X b hx hW => lv_4 b w.heap.size X (hx.trans hc) hW⟩⟩, hb⟩
theorem pk_5 (p g : FuncId) (gc : Array Value) (w : World) : Calls Tryz.prog 131 #[.func (.func 140) #[] #[], .func (.func p) #[] #[], .func (.func g) #[] gc] w fun e w' => (∃ p' g' l, IsFn p' ∧ IsFn g' ∧ e = .returned (.agg #[p', g', l]) ∧ PartOk w'.heap.size w' l) ∧ Below w.heap.size w w' := by
  refine (part_0 _ p g gc w).mono ?_
  rintro e w' ⟨⟨p', g', hp', hg', rfl⟩, hc, hlt, hb⟩
  exact ⟨⟨p', g', _, hp', hg', rfl, ⟨_, w.heap.size, rfl, hlt, enters_of Tryz.func206 (by kernel_rfl) rfl, fun X b hx hW => lv_5 b w.heap.size X (hx.trans hc) hW⟩⟩, hb⟩
theorem pk_6 (p g : FuncId) (gc : Array Value) (w : World) : Calls Tryz.prog 141 #[.func (.func 142) #[] #[], .func (.func p) #[] #[], .func (.func g) #[] gc] w fun e w' => (∃ p' g' l, IsFn p' ∧ IsFn g' ∧ e = .returned (.agg #[p', g', l]) ∧ PartOk w'.heap.size w' l) ∧ Below w.heap.size w w' := by
  refine (part_2 _ p g gc w).mono ?_
  rintro e w' ⟨⟨p', g', hp', hg', rfl⟩, hc, hlt, hb⟩
  exact ⟨⟨p', g', _, hp', hg', rfl, ⟨_, w.heap.size, rfl, hlt, enters_of Tryz.func215 (by kernel_rfl) rfl, fun X b hx hW => lv_6 b w.heap.size X (hx.trans hc) hW⟩⟩, hb⟩
theorem pk_7 (p g : FuncId) (gc : Array Value) (w : World) : Calls Tryz.prog 135 #[.func (.func 144) #[] #[], .func (.func p) #[] #[], .func (.func g) #[] gc] w fun e w' => (∃ p' g' l, IsFn p' ∧ IsFn g' ∧ e = .returned (.agg #[p', g', l]) ∧ PartOk w'.heap.size w' l) ∧ Below w.heap.size w w' := by
  refine (part_1 _ p g gc w).mono ?_
  rintro e w' ⟨⟨p', g', hp', hg', rfl⟩, hc, hlt, hb⟩
  exact ⟨⟨p', g', _, hp', hg', rfl, ⟨_, w.heap.size, rfl, hlt, enters_of Tryz.func210 (by kernel_rfl) rfl, fun X b hx hW => lv_7 b w.heap.size X (hx.trans hc) hW⟩⟩, hb⟩
theorem pk_8 (p g : FuncId) (gc : Array Value) (w : World) : Calls Tryz.prog 141 #[.func (.func 145) #[] #[], .func (.func p) #[] #[], .func (.func g) #[] gc] w fun e w' => (∃ p' g' l, IsFn p' ∧ IsFn g' ∧ e = .returned (.agg #[p', g', l]) ∧ PartOk w'.heap.size w' l) ∧ Below w.heap.size w w' := by
  refine (part_2 _ p g gc w).mono ?_
  rintro e w' ⟨⟨p', g', hp', hg', rfl⟩, hc, hlt, hb⟩
  exact ⟨⟨p', g', _, hp', hg', rfl, ⟨_, w.heap.size, rfl, hlt, enters_of Tryz.func215 (by kernel_rfl) rfl, fun X b hx hW => lv_8 b w.heap.size X (hx.trans hc) hW⟩⟩, hb⟩
theorem pk_9 (p g : FuncId) (gc : Array Value) (w : World) : Calls Tryz.prog 147 #[.func (.func 148) #[] #[], .func (.func p) #[] #[], .func (.func g) #[] gc] w fun e w' => (∃ p' g' l, IsFn p' ∧ IsFn g' ∧ e = .returned (.agg #[p', g', l]) ∧ PartOk w'.heap.size w' l) ∧ Below w.heap.size w w' := by
  refine (part_3 _ p g gc w).mono ?_
  rintro e w' ⟨⟨p', g', hp', hg', rfl⟩, hc, hlt, hb⟩
  exact ⟨⟨p', g', _, hp', hg', rfl, ⟨_, w.heap.size, rfl, hlt, enters_of Tryz.func221 (by kernel_rfl) rfl, fun X b hx hW => lv_9 b w.heap.size X (hx.trans hc) hW⟩⟩, hb⟩
theorem pk_10 (p g : FuncId) (gc : Array Value) (w : World) : Calls Tryz.prog 151 #[.func (.func 152) #[] #[], .func (.func p) #[] #[], .func (.func g) #[] gc] w fun e w' => (∃ p' g' l, IsFn p' ∧ IsFn g' ∧ e = .returned (.agg #[p', g', l]) ∧ PartOk w'.heap.size w' l) ∧ Below w.heap.size w w' := by
  refine (part_4 _ p g gc w).mono ?_
  rintro e w' ⟨⟨p', g', hp', hg', rfl⟩, hc, hlt, hb⟩
  exact ⟨⟨p', g', _, hp', hg', rfl, ⟨_, w.heap.size, rfl, hlt, enters_of Tryz.func228 (by kernel_rfl) rfl, fun X b hx hW => lv_10 b w.heap.size X (hx.trans hc) hW⟩⟩, hb⟩
theorem pk_11 (p g : FuncId) (gc : Array Value) (w : World) : Calls Tryz.prog 131 #[.func (.func 155) #[] #[], .func (.func p) #[] #[], .func (.func g) #[] gc] w fun e w' => (∃ p' g' l, IsFn p' ∧ IsFn g' ∧ e = .returned (.agg #[p', g', l]) ∧ PartOk w'.heap.size w' l) ∧ Below w.heap.size w w' := by
  refine (part_0 _ p g gc w).mono ?_
  rintro e w' ⟨⟨p', g', hp', hg', rfl⟩, hc, hlt, hb⟩
  exact ⟨⟨p', g', _, hp', hg', rfl, ⟨_, w.heap.size, rfl, hlt, enters_of Tryz.func206 (by kernel_rfl) rfl, fun X b hx hW => lv_11 b w.heap.size X (hx.trans hc) hW⟩⟩, hb⟩
theorem pk_12 (p g : FuncId) (gc : Array Value) (w : World) : Calls Tryz.prog 131 #[.func (.func 156) #[] #[], .func (.func p) #[] #[], .func (.func g) #[] gc] w fun e w' => (∃ p' g' l, IsFn p' ∧ IsFn g' ∧ e = .returned (.agg #[p', g', l]) ∧ PartOk w'.heap.size w' l) ∧ Below w.heap.size w w' := by
  refine (part_0 _ p g gc w).mono ?_
  rintro e w' ⟨⟨p', g', hp', hg', rfl⟩, hc, hlt, hb⟩
  exact ⟨⟨p', g', _, hp', hg', rfl, ⟨_, w.heap.size, rfl, hlt, enters_of Tryz.func206 (by kernel_rfl) rfl, fun X b hx hW => lv_12 b w.heap.size X (hx.trans hc) hW⟩⟩, hb⟩
theorem pk_13 (p g : FuncId) (gc : Array Value) (w : World) : Calls Tryz.prog 135 #[.func (.func 157) #[] #[], .func (.func p) #[] #[], .func (.func g) #[] gc] w fun e w' => (∃ p' g' l, IsFn p' ∧ IsFn g' ∧ e = .returned (.agg #[p', g', l]) ∧ PartOk w'.heap.size w' l) ∧ Below w.heap.size w w' := by
  refine (part_1 _ p g gc w).mono ?_
  rintro e w' ⟨⟨p', g', hp', hg', rfl⟩, hc, hlt, hb⟩
  exact ⟨⟨p', g', _, hp', hg', rfl, ⟨_, w.heap.size, rfl, hlt, enters_of Tryz.func210 (by kernel_rfl) rfl, fun X b hx hW => lv_13 b w.heap.size X (hx.trans hc) hW⟩⟩, hb⟩
theorem pk_14 (p g : FuncId) (gc : Array Value) (w : World) : Calls Tryz.prog 135 #[.func (.func 158) #[] #[], .func (.func p) #[] #[], .func (.func g) #[] gc] w fun e w' => (∃ p' g' l, IsFn p' ∧ IsFn g' ∧ e = .returned (.agg #[p', g', l]) ∧ PartOk w'.heap.size w' l) ∧ Below w.heap.size w w' := by
  refine (part_1 _ p g gc w).mono ?_
  rintro e w' ⟨⟨p', g', hp', hg', rfl⟩, hc, hlt, hb⟩
  exact ⟨⟨p', g', _, hp', hg', rfl, ⟨_, w.heap.size, rfl, hlt, enters_of Tryz.func210 (by kernel_rfl) rfl, fun X b hx hW => lv_14 b w.heap.size X (hx.trans hc) hW⟩⟩, hb⟩
theorem pk_15 (p g : FuncId) (gc : Array Value) (w : World) : Calls Tryz.prog 141 #[.func (.func 159) #[] #[], .func (.func p) #[] #[], .func (.func g) #[] gc] w fun e w' => (∃ p' g' l, IsFn p' ∧ IsFn g' ∧ e = .returned (.agg #[p', g', l]) ∧ PartOk w'.heap.size w' l) ∧ Below w.heap.size w w' := by
  refine (part_2 _ p g gc w).mono ?_
  rintro e w' ⟨⟨p', g', hp', hg', rfl⟩, hc, hlt, hb⟩
  exact ⟨⟨p', g', _, hp', hg', rfl, ⟨_, w.heap.size, rfl, hlt, enters_of Tryz.func215 (by kernel_rfl) rfl, fun X b hx hW => lv_15 b w.heap.size X (hx.trans hc) hW⟩⟩, hb⟩
theorem pk_16 (p g : FuncId) (gc : Array Value) (w : World) : Calls Tryz.prog 141 #[.func (.func 161) #[] #[], .func (.func p) #[] #[], .func (.func g) #[] gc] w fun e w' => (∃ p' g' l, IsFn p' ∧ IsFn g' ∧ e = .returned (.agg #[p', g', l]) ∧ PartOk w'.heap.size w' l) ∧ Below w.heap.size w w' := by
  refine (part_2 _ p g gc w).mono ?_
  rintro e w' ⟨⟨p', g', hp', hg', rfl⟩, hc, hlt, hb⟩
  exact ⟨⟨p', g', _, hp', hg', rfl, ⟨_, w.heap.size, rfl, hlt, enters_of Tryz.func215 (by kernel_rfl) rfl, fun X b hx hW => lv_16 b w.heap.size X (hx.trans hc) hW⟩⟩, hb⟩
theorem pk_17 (p g : FuncId) (gc : Array Value) (w : World) : Calls Tryz.prog 135 #[.func (.func 162) #[] #[], .func (.func p) #[] #[], .func (.func g) #[] gc] w fun e w' => (∃ p' g' l, IsFn p' ∧ IsFn g' ∧ e = .returned (.agg #[p', g', l]) ∧ PartOk w'.heap.size w' l) ∧ Below w.heap.size w w' := by
  refine (part_1 _ p g gc w).mono ?_
  rintro e w' ⟨⟨p', g', hp', hg', rfl⟩, hc, hlt, hb⟩
  exact ⟨⟨p', g', _, hp', hg', rfl, ⟨_, w.heap.size, rfl, hlt, enters_of Tryz.func210 (by kernel_rfl) rfl, fun X b hx hW => lv_17 b w.heap.size X (hx.trans hc) hW⟩⟩, hb⟩
theorem pk_18 (p g : FuncId) (gc : Array Value) (w : World) : Calls Tryz.prog 163 #[.func (.func 164) #[] #[], .func (.func p) #[] #[], .func (.func g) #[] gc] w fun e w' => (∃ p' g' l, IsFn p' ∧ IsFn g' ∧ e = .returned (.agg #[p', g', l]) ∧ PartOk w'.heap.size w' l) ∧ Below w.heap.size w w' := by
  refine (part_5 _ p g gc w).mono ?_
  rintro e w' ⟨⟨p', g', hp', hg', rfl⟩, hc, hlt, hb⟩
  exact ⟨⟨p', g', _, hp', hg', rfl, ⟨_, w.heap.size, rfl, hlt, enters_of Tryz.func237 (by kernel_rfl) rfl, fun X b hx hW => lv_18 b w.heap.size X (hx.trans hc) hW⟩⟩, hb⟩
end Go.Proofs.YtebjhbeaknokkaaGreatDoor
namespace Go.Proofs.YtebjhbeaknokkaaGreatDoor
open Go Go.RowKit Go.Lib Go.Shelf
open Go.Maps (Keyed)

/-- A variable that holds a field. -/
structure VarAt (n : Nat) (W : World) (b : Nat) (x : Value × Value × Value) : Prop where
  lt : b < n
  c0 : W.cell? ⟨b, 0, none⟩ = some x.1
  c1 : W.cell? ⟨b, 1, none⟩ = some x.2.1
  c2 : W.cell? ⟨b, 2, none⟩ = some x.2.2
  ok : PartOk n W x.2.2
  f0 : IsFn x.1
  f1 : IsFn x.2.1
theorem VarAt.from_ {n : Nat} {W W' : World} {b : Nat} {x : Value × Value × Value} (h : VarAt n W b x) (hb : Below n W W') : VarAt n W' b x :=
  ⟨h.lt, (hb.cell (p := ⟨b, 0, none⟩) h.lt).trans h.c0, (hb.cell (p := ⟨b, 1, none⟩) h.lt).trans h.c1, (hb.cell (p := ⟨b, 2, none⟩) h.lt).trans h.c2, h.ok.from_ hb, h.f0, h.f1⟩
theorem VarAt.mono {n m : Nat} {W : World} {b : Nat} {x : Value × Value × Value} (h : VarAt n W b x) (hm : n ≤ m) : VarAt m W b x :=
  ⟨Nat.lt_of_lt_of_le h.lt hm, h.c0, h.c1, h.c2, h.ok.mono hm, h.f0, h.f1⟩
theorem VarAt.up {W W' : World} {b : Nat} {x : Value × Value × Value} (h : VarAt W.heap.size W b x) (hb : Below W.heap.size W W') : VarAt W'.heap.size W' b x := (h.from_ hb).mono hb.size
theorem isFn_ok {n : Nat} {W : World} {l : Value} (h : PartOk n W l) : IsFn l := by
  obtain ⟨F, box, rfl, _⟩ := h.out
  exact .inr ⟨_, _, _, rfl⟩
/-- Fields as cells. -/
def pcells (xs : List (Value × Value × Value)) : List Value := xs.flatMap fun x => [x.1, x.2.1, x.2.2]
theorem pcells_at : ∀ (xs : List (Value × Value × Value)) (j : Nat) (x : Value × Value × Value), xs[j]? = some x → (pcells xs)[j * 3]? = some x.1 ∧ (pcells xs)[j * 3 + 1]? = some x.2.1 ∧ (pcells xs)[j * 3 + 2]? = some x.2.2
  | [], j, x, h => by simp at h
  | y :: ys, 0, x, h => by
    cases h
    exact ⟨rfl, rfl, rfl⟩
  | y :: ys, j + 1, x, h => by
    obtain ⟨h0, h1, h2⟩ := pcells_at ys j x h
    rw [show (j + 1) * 3 = j * 3 + 1 + 1 + 1 by omega]
    exact ⟨h0, h1, h2⟩
/-- A row of fields. -/
structure RowOk (n : Nat) (W : World) (r len : Nat) : Prop where
  out : ∃ xs : List (Value × Value × Value), xs.length = len ∧ W.heap[r]? = some (.cells (pcells xs).toArray 180 (0, 0)) ∧ ∀ x ∈ xs, IsFn x.1 ∧ IsFn x.2.1 ∧ PartOk n W x.2.2
  lt : r < n
theorem RowOk.from_ {n : Nat} {W W' : World} {r len : Nat} (h : RowOk n W r len) (hb : Below n W W') : RowOk n W' r len := by
  obtain ⟨xs, h1, h2, h3⟩ := h.out
  exact ⟨⟨xs, h1, (hb.block r h.lt).trans h2, fun x hx => ⟨(h3 x hx).1, (h3 x hx).2.1, (h3 x hx).2.2.from_ hb⟩⟩, h.lt⟩
theorem RowOk.mono {n m : Nat} {W : World} {r len : Nat} (h : RowOk n W r len) (hm : n ≤ m) : RowOk m W r len := by
  obtain ⟨xs, h1, h2, h3⟩ := h.out
  exact ⟨⟨xs, h1, h2, fun x hx => ⟨(h3 x hx).1, (h3 x hx).2.1, (h3 x hx).2.2.mono hm⟩⟩, Nat.lt_of_lt_of_le h.lt hm⟩
theorem RowOk.at_ {n : Nat} {W : World} {r len j : Nat} (h : RowOk n W r len) (hj : j < len) : ∃ x : Value × Value × Value, IsFn x.1 ∧ IsFn x.2.1 ∧ PartOk n W x.2.2 ∧ W.cell? ⟨r, j * 3, none⟩ = some x.1 ∧ W.cell? ⟨r, j * 3 + 1, none⟩ = some x.2.1 ∧ W.cell? ⟨r, j * 3 + 2, none⟩ = some x.2.2 := by
  obtain ⟨xs, h1, h2, h3⟩ := h.out
  have hj' : j < xs.length := by omega
  have hx := List.getElem?_eq_getElem hj'
  obtain ⟨e0, e1, e2⟩ := pcells_at xs j _ hx
  obtain ⟨g0, g1, g2⟩ := h3 _ (List.getElem_mem hj')
  refine ⟨xs[j], g0, g1, g2, ?_, ?_, ?_⟩
  · simp only [World.cell?, h2, List.getElem?_toArray]; exact e0
  · simp only [World.cell?, h2, List.getElem?_toArray]; exact e1
  · simp only [World.cell?, h2, List.getElem?_toArray]; exact e2
def Rvt (v : Value) : Option (DataW Value × List MemPlace) := some (.held v, [])
theorem own_att {w W : World} {b n : Nat} {D : DataW Value} (h : w.ownsMap Tryz.prog 3 Rvt b n D) (he : W.heap[b]? = w.heap[b]?) : W.ownsMap Tryz.prog 3 Rvt b n D := by
  obtain ⟨es, clock, hb, F, hs, hD⟩ := h
  exact ⟨es, clock, he.trans hb, F, hs, hD⟩
theorem keyIt (k : Int) (h : (Lit.int .i64 k).wf = true) : keyOf Tryz.prog 3 (.int .i64 k) = some (.int .i64 k) := Go.Maps.keyOf_int_mk Tryz.underlying3 h
theorem intKeyedt : Keyed Tryz.prog 3 := Go.Maps.int_keyed Tryz.underlying3
theorem isMap_putt {D : DataW Value} (h : Go.Maps.IsMap D) (k : Lit) (d : DataW Value) : Go.Maps.IsMap (D.put k d) := by
  obtain ⟨es, rfl⟩ := h
  exact ⟨_, rfl⟩
def rowS (r len : Nat) : Value := .slice (some ⟨r, 0, none⟩) len len
def put1 (D : DataW Value) (k : Int) (r len : Nat) : DataW Value := D.put (.int .i64 k) (.held (rowS r len))
def D5 (r0 r1 r2 r3 r4 : Nat) : DataW Value := put1 (put1 (put1 (put1 (put1 (.map []) 0 r0 9) 1 r1 11) 2 r2 12) 4 r3 13) 126 r4 8
theorem put1_map {D : DataW Value} (h : Go.Maps.IsMap D) (k : Int) (r len : Nat) : Go.Maps.IsMap (put1 D k r len) := isMap_putt h _ _
theorem put1_at {D : DataW Value} (h : Go.Maps.IsMap D) (k k' : Int) (r len : Nat) (z : DataW Value) : (put1 D k r len).atKey (.int .i64 k') z = if k' = k then .held (rowS r len) else D.atKey (.int .i64 k') z := by
  split
  · rename_i e
    subst e
    exact Go.Maps.atKey_put_same h (by simp [WideAt.IsKeyLit]) _ _
  · rename_i e
    exact Go.Maps.atKey_put_other (by simp [e]) _ _
theorem D5_at (r0 r1 r2 r3 r4 : Nat) (k : Int) (z : DataW Value) : (D5 r0 r1 r2 r3 r4).atKey (.int .i64 k) z = if k = 126 then .held (rowS r4 8) else if k = 4 then .held (rowS r3 13) else if k = 2 then .held (rowS r2 12) else if k = 1 then .held (rowS r1 11) else if k = 0 then .held (rowS r0 9) else z := by
  have m0 : Go.Maps.IsMap (.map [] : DataW Value) := ⟨_, rfl⟩
  have m1 := put1_map m0 0 r0 9
  have m2 := put1_map m1 1 r1 11
  have m3 := put1_map m2 2 r2 12
  have m4 := put1_map m3 4 r3 13
  unfold D5
  rw [put1_at m4, put1_at m3, put1_at m2, put1_at m1, put1_at m0]
  rfl
/-- The table of kinds. -/
structure TKinds (W : World) (n m : Nat) : Prop where
  lt : m < n
  out : ∃ r0 r1 r2 r3 r4, W.ownsMap Tryz.prog 3 Rvt m 5 (D5 r0 r1 r2 r3 r4) ∧ RowOk n W r0 9 ∧ RowOk n W r1 11 ∧ RowOk n W r2 12 ∧ RowOk n W r3 13 ∧ RowOk n W r4 8
theorem TKinds.from_ {w W : World} {n m : Nat} (h : TKinds w n m) (hb : Below n w W) : TKinds W n m := by
  obtain ⟨r0, r1, r2, r3, r4, h0, h1, h2, h3, h4, h5⟩ := h.out
  exact ⟨h.lt, r0, r1, r2, r3, r4, own_att h0 (hb.block m h.lt), h1.from_ hb, h2.from_ hb, h3.from_ hb, h4.from_ hb, h5.from_ hb⟩
def isKd (k : Int) : Prop := k = 0 ∨ k = 1 ∨ k = 2 ∨ k = 4 ∨ k = 126
theorem zero_kindt (w : World) : (zeroValue 128).run Tryz.prog w = .ok (.slice none 0 0) w := by go_simp
theorem TKinds.look {W : World} {n m : Nat} (h : TKinds W n m) (k : Int) (hk : isKd k) : ∃ r len, len ≤ 13 ∧ RowOk n W r len ∧
    (Instr.lookup 130 (.map (some m)) (.int .i64 k) true).run Tryz.prog W = .ok (.tuple #[rowS r len, .bool true]) W := by
  obtain ⟨r0, r1, r2, r3, r4, own, h1, h2, h3, h4, h5⟩ := h.out
  obtain ⟨es, clock, hb, FF, _, hD⟩ := own
  have hat := D5_at r0 r1 r2 r3 r4 k
  rw [hD] at hat
  have hw : (Lit.int .i64 k).wf = true := by rcases hk with rfl | rfl | rfl | rfl | rfl <;> decide
  have key : ∀ r len, (∀ z : DataW Value, (DataW.map _ : DataW Value).atKey (.int .i64 k) z = .held (rowS r len)) → (Instr.lookup 130 (.map (some m)) (.int .i64 k) true).run Tryz.prog W = .ok (.tuple #[rowS r len, .bool true]) W := fun r len hat => by
    rcases Maps.fit_look (R := Rvt) true intKeyedt Tryz.underlying130 (zero_kindt W) hb FF (keyIt k hw) with ⟨_, _, h3⟩ | ⟨e0, y, _, _, h3, h4, h5, _⟩
    · have h1 := (h3 .nil).symm.trans (hat .nil)
      cases h1
    · have h1 := (h5 .nil).symm.trans (hat .nil)
      cases h4
      rw [h3, DataW.held.inj h1]
      rfl
  rcases hk with rfl | rfl | rfl | rfl | rfl
  · exact ⟨r0, 9, by omega, h1, key _ _ fun z => (hat z).trans rfl⟩
  · exact ⟨r1, 11, by omega, h2, key _ _ fun z => (hat z).trans rfl⟩
  · exact ⟨r2, 12, by omega, h3, key _ _ fun z => (hat z).trans rfl⟩
  · exact ⟨r3, 13, by omega, h4, key _ _ fun z => (hat z).trans rfl⟩
  · exact ⟨r4, 8, by omega, h5, key _ _ fun z => (hat z).trans rfl⟩
theorem findNow_nonet (k : Int) : ∀ (es : List MapEntry) (i : Nat), (∀ e ∈ es, ∃ a, e.key = .int .i64 a ∧ a ≠ k) → Instr.findNow (.int .i64) (.int .i64 k) es i = some none
  | [], _, _ => rfl
  | e :: es, i, h => by
    obtain ⟨a, h1, h2⟩ := h e (by simp)
    rw [Instr.findNow, h1]
    have : Instr.sameNow (.int .i64) (.int .i64 k) (.int .i64 a) = some false := by simp [Instr.sameNow, Ne.symm h2]
    rw [this]
    exact findNow_nonet k es (i + 1) fun x hx => h x (by simp [hx])
theorem check_intt (em : Bool) (k : Int) (w : World) : (Instr.checkKey em 10000 3 (.int .i64 k)).run Tryz.prog w = .ok () w := by
  rw [show (10000 : Nat) = 9999 + 1 from rfl, Instr.checkKey]
  simp [run_underlying Tryz.underlying3, Result.andThen]
theorem TKinds.miss {W : World} {n m : Nat} (h : TKinds W n m) (k : Int) (hk : ¬ isKd k) :
    (Instr.lookup 130 (.map (some m)) (.int .i64 k) true).run Tryz.prog W = .ok (.tuple #[.slice none 0 0, .bool false]) W := by
  obtain ⟨r0, r1, r2, r3, r4, own, _⟩ := h.out
  obtain ⟨es, clock, hb, FF, _, hD⟩ := own
  unfold isKd at hk
  by_cases hw : (Lit.int .i64 k).wf = true
  · have hat := D5_at r0 r1 r2 r3 r4 k
    rw [hD] at hat
    rcases Maps.fit_look (R := Rvt) true intKeyedt Tryz.underlying130 (zero_kindt W) hb FF (keyIt k hw) with ⟨h2, _, h3⟩ | ⟨e0, y, _, _, h3, h4, h5, _⟩
    · exact h2
    · have h1 := (h5 .nil).symm.trans (hat .nil)
      cases h4
      rw [if_neg (by omega), if_neg (by omega), if_neg (by omega), if_neg (by omega), if_neg (by omega)] at h1
      exact absurd h1 (by simp)
  · have hkeys : ∀ e ∈ es.toList, ∃ a, e.key = .int .i64 a ∧ a ≠ k := by
      intro e he
      obtain ⟨l, hl⟩ := FF.keys e he
      generalize e.key = v at *
      cases v <;> simp [keyOf, mapKey, Tryz.underlying3] at hl
      obtain ⟨⟨rfl, hwf⟩, _⟩ := hl
      exact ⟨_, rfl, fun e => hw (e ▸ hwf)⟩
    have hf := findNow_nonet k es.toList 0 hkeys
    simp [Instr.lookup, run_underlying Tryz.underlying130, MapKept.run_getObj_map hb, check_intt, Instr.findKey, run_underlying Tryz.underlying3, hf, Result.andThen]
end Go.Proofs.YtebjhbeaknokkaaGreatDoor
