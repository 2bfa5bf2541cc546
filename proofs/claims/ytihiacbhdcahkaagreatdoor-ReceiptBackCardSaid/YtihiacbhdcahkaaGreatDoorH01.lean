/- What every seat leans on. Plain arithmetic: a number below 2^256 and its four parts of 64 bits; the carries of a sum and of a difference. Plain arithmetic: numbers and their bytes, the highest one first. Plain arithmetic: items, their bytes, how deep they are, what is wrong with them; no item's bytes begin another one's. Plain arithmetic: how deep an item may stand; heads by their lengths; alike. -/
import Derived.Test.YtihiacbhdcahkaaGreatDoorProg
import Derived.WalkKit
import Derived.Below
import Derived.Laws.Externs
import Derived.Laws.ResultCell
import Derived.Deep.QuietTactic
import Derived.BigQuiet
import Derived.RegionTactic
import Derived.BigRegion
import Derived.LoopTactic
import Derived.LoopN
namespace Go.Proofs.YtihiacbhdcahkaaGreatDoor
open Go Go.RowKit

theorem bcell {W w1 : World} (hb : Below W.heap.size W w1) : (∀ b o, b < W.heap.size → w1.cell? ⟨b, o, none⟩ = W.cell? ⟨b, o, none⟩) ∧ (∀ b o, b < W.heap.size → w1.frozen? ⟨b, o, none⟩ = W.frozen? ⟨b, o, none⟩) :=
  ⟨fun b o h => hb.cell (p := ⟨b, o, none⟩) h, fun b o h => hb.frozen (p := ⟨b, o, none⟩) h⟩

theorem cat_eq (a b : List UInt8) : ((⟨a.toArray⟩ : ByteArray) ++ (⟨b.toArray⟩ : ByteArray)) = ⟨(a ++ b).toArray⟩ := by
  apply ByteArray.ext
  simp

end Go.Proofs.YtihiacbhdcahkaaGreatDoor
namespace Go.Proofs.YtihiacbhdcahkaaGreatDoor.M

/-- Part i of a number, the lowest one first. -/
def pt (i N : Nat) : Int := ((N / 18446744073709551616 ^ i % 18446744073709551616 : Nat) : Int)

/-- Below 2^256. -/
def In (N : Nat) : Prop := N < 115792089237316195423570985008687907853269984665640564039457584007913129639936

theorem pt_nonneg (i N : Nat) : 0 ≤ pt i N := by unfold pt; omega
theorem whole {N : Nat} (h : In N) : (N : Int) = pt 0 N + 18446744073709551616 * pt 1 N + 340282366920938463463374607431768211456 * pt 2 N + 6277101735386680763835789423207666416102355444464034512896 * pt 3 N := by
  unfold In at h
  unfold pt
  simp only [Nat.pow_zero, Nat.pow_one, Nat.div_one, show 18446744073709551616 ^ 2 = 340282366920938463463374607431768211456 from rfl, show 18446744073709551616 ^ 3 = 6277101735386680763835789423207666416102355444464034512896 from rfl]
  omega

theorem parts {N : Nat} {a b c d : Int} (ha : 0 ≤ a) (ha' : a < 18446744073709551616) (hb : 0 ≤ b) (hb' : b < 18446744073709551616) (hc : 0 ≤ c) (hc' : c < 18446744073709551616) (hd : 0 ≤ d) (hd' : d < 18446744073709551616)
    (h : (N : Int) = a + 18446744073709551616 * b + 340282366920938463463374607431768211456 * c + 6277101735386680763835789423207666416102355444464034512896 * d) :
    pt 0 N = a ∧ pt 1 N = b ∧ pt 2 N = c ∧ pt 3 N = d := by
  unfold pt
  simp only [Nat.pow_zero, Nat.pow_one, Nat.div_one, show 18446744073709551616 ^ 2 = 340282366920938463463374607431768211456 from rfl, show 18446744073709551616 ^ 3 = 6277101735386680763835789423207666416102355444464034512896 from rfl]
  omega

def adC (x y c : Int) : Int := (x + y + c) / 18446744073709551616
/-- The carries of two numbers' parts. -/
def k1 (A B : Nat) : Int := adC (pt 0 A) (pt 0 B) 0
def k2 (A B : Nat) : Int := adC (pt 1 A) (pt 1 B) (k1 A B)
def k3 (A B : Nat) : Int := adC (pt 2 A) (pt 2 B) (k2 A B)
def k4 (A B : Nat) : Int := adC (pt 3 A) (pt 3 B) (k3 A B)
end Go.Proofs.YtihiacbhdcahkaaGreatDoor.M
namespace Go.Proofs.YtihiacbhdcahkaaGreatDoor.M

/-- The number of bytes, behind a number. -/
def dgA (n : Nat) : List UInt8 → Nat
  | [] => n
  | c :: l => dgA (n * 256 + c.toNat) l
/-- The number of bytes. -/
def dg (l : List UInt8) : Nat := dgA 0 l

theorem dgA_append (n : Nat) (l r : List UInt8) : dgA n (l ++ r) = dgA (dgA n l) r := by
  induction l generalizing n with
  | nil => rfl
  | cons c l ih => exact ih _
theorem dgA_eq (n : Nat) (l : List UInt8) : dgA n l = n * 256 ^ l.length + dg l := by
  induction l generalizing n with
  | nil => simp [dgA, dg]
  | cons c l ih =>
    have e1 : dgA n (c :: l) = dgA (n * 256 + c.toNat) l := rfl
    have e2 : dg (c :: l) = dgA (0 * 256 + c.toNat) l := rfl
    rw [e1, e2, ih, ih (0 * 256 + c.toNat), List.length_cons, Nat.pow_succ, Nat.zero_mul, Nat.zero_add]
    have : (n * 256 + c.toNat) * 256 ^ l.length = n * (256 ^ l.length * 256) + c.toNat * 256 ^ l.length := by
      rw [Nat.add_mul, Nat.mul_assoc, Nat.mul_comm 256]
    rw [this]
    omega
theorem dg_append (l r : List UInt8) : dg (l ++ r) = dg l * 256 ^ r.length + dg r := by
  unfold dg
  rw [dgA_append, dgA_eq]
  rfl
theorem dg_snoc (l : List UInt8) (c : UInt8) : dg (l ++ [c]) = dg l * 256 + c.toNat := by
  rw [dg_append]
  simp [dg, dgA]
theorem dg_lt (l : List UInt8) : dg l < 256 ^ l.length := by
  induction l with
  | nil => simp [dg, dgA]
  | cons c l ih =>
    have e : dg (c :: l) = dgA (0 * 256 + c.toNat) l := rfl
    rw [e, dgA_eq, List.length_cons, Nat.pow_succ]
    have hc := c.toNat_lt
    have : (0 * 256 + c.toNat) * 256 ^ l.length ≤ 255 * 256 ^ l.length := Nat.mul_le_mul_right _ (by omega)
    omega
theorem dg_8 {l : List UInt8} (h : l.length = 8) : dg l < 18446744073709551616 := by
  have := dg_lt l
  rw [h, show (256 : Nat) ^ 8 = 18446744073709551616 from rfl] at this
  exact this
theorem dg_app8 {r : List UInt8} (h : r.length = 8) (l : List UInt8) : dg (l ++ r) = dg l * 18446744073709551616 + dg r := by
  rw [dg_append, h, show (256 : Nat) ^ 8 = 18446744073709551616 from rfl]
theorem dg_zeros (k : Nat) (l : List UInt8) : dg (List.replicate k 0 ++ l) = dg l := by
  induction k with
  | zero => rfl
  | succ k ih => exact ih

/-- k bytes of a number. -/
def be : Nat → Nat → List UInt8
  | 0, _ => []
  | k + 1, N => be k (N / 256) ++ [UInt8.ofNat (N % 256)]
theorem be_length (k N : Nat) : (be k N).length = k := by
  induction k generalizing N with
  | zero => rfl
  | succ k ih => simp [be, ih]
theorem dg_be (k N : Nat) (h : N < 256 ^ k) : dg (be k N) = N := by
  induction k generalizing N with
  | zero => simp at h; subst h; rfl
  | succ k ih =>
    rw [be, dg_snoc, ih _ (by rw [Nat.pow_succ] at h; omega)]
    have : (UInt8.ofNat (N % 256)).toNat = N % 256 := by simp
    omega
theorem be_dg (l : List UInt8) : be l.length (dg l) = l := by
  obtain ⟨r, rfl⟩ : ∃ r, l = List.reverse r := ⟨l.reverse, by simp⟩
  induction r with
  | nil => rfl
  | cons c r ih =>
    rw [List.reverse_cons, dg_snoc, List.length_append, List.length_singleton, be]
    have hc := c.toNat_lt
    rw [show (dg r.reverse * 256 + c.toNat) / 256 = dg r.reverse by omega, show (dg r.reverse * 256 + c.toNat) % 256 = c.toNat by omega, ih]
    simp
theorem be_add (j k N : Nat) : be (j + k) N = be j (N / 256 ^ k) ++ be k N := by
  induction k generalizing N with
  | zero => simp [be]
  | succ k ih =>
    rw [← Nat.add_assoc, be, ih, be, ← List.append_assoc, Nat.div_div_eq_div_mul, Nat.pow_succ, Nat.mul_comm]
theorem be_mod (k N : Nat) : be k (N % 256 ^ k) = be k N := by
  induction k generalizing N with
  | zero => rfl
  | succ k ih =>
    rw [be, be, ← ih (N / 256)]
    have e1 : N % 256 ^ (k + 1) / 256 = N / 256 % 256 ^ k := by
      rw [Nat.pow_succ, Nat.mul_comm, Nat.mod_mul_right_div_self]
    have e2 : N % 256 ^ (k + 1) % 256 = N % 256 := Nat.mod_mod_of_dvd _ ⟨256 ^ k, by rw [Nat.pow_succ, Nat.mul_comm]⟩
    rw [e1, e2]
theorem be8_eq (n : Nat) : be 8 n = [UInt8.ofNat (n / 72057594037927936 % 256), UInt8.ofNat (n / 281474976710656 % 256), UInt8.ofNat (n / 1099511627776 % 256), UInt8.ofNat (n / 4294967296 % 256), UInt8.ofNat (n / 16777216 % 256), UInt8.ofNat (n / 65536 % 256), UInt8.ofNat (n / 256 % 256), UInt8.ofNat (n % 256)] := by
  simp only [be, Nat.div_div_eq_div_mul, List.nil_append, List.cons_append, Nat.reduceMul]

/-- A word's 32 bytes. -/
def f32 (N : Nat) : List UInt8 := be 32 N
theorem f32_length (N : Nat) : (f32 N).length = 32 := be_length 32 N
theorem in_pow {N : Nat} : In N ↔ N < 256 ^ 32 := by unfold In; rfl
theorem dg_f32 {N : Nat} (h : In N) : dg (f32 N) = N := dg_be 32 N (in_pow.1 h)
theorem f32_dg {l : List UInt8} (h : l.length = 32) : f32 (dg l) = l := by
  have := be_dg l
  rw [h] at this
  exact this
/-- The 32 bytes, part by part. -/
theorem f32_parts {N : Nat} (_h : In N) : f32 N = be 8 (pt 3 N).toNat ++ be 8 (pt 2 N).toNat ++ be 8 (pt 1 N).toNat ++ be 8 (pt 0 N).toNat := by
  have e : ∀ i, be 8 (pt i N).toNat = be 8 (N / 18446744073709551616 ^ i) := by
    intro i
    unfold pt
    rw [Int.toNat_natCast, show (18446744073709551616 : Nat) = 256 ^ 8 from rfl, be_mod]
  rw [e 0, e 1, e 2, e 3]
  have q1 : N / 256 ^ 8 / 256 ^ 8 = N / 18446744073709551616 ^ 2 := by rw [Nat.div_div_eq_div_mul]
  have q2 : N / 18446744073709551616 ^ 2 / 256 ^ 8 = N / 18446744073709551616 ^ 3 := by rw [Nat.div_div_eq_div_mul]
  unfold f32
  rw [show 32 = 24 + 8 from rfl, be_add, show 24 = 16 + 8 from rfl, be_add, show 16 = 8 + 8 from rfl, be_add, q1, q2, Nat.pow_zero, Nat.div_one, Nat.pow_one]

/-- Without zeros ahead. -/
def tr (l : List UInt8) : List UInt8 := l.dropWhile (· == 0)
theorem tr_split (l : List UInt8) : ∃ k, l = List.replicate k 0 ++ tr l := by
  induction l with
  | nil => exact ⟨0, rfl⟩
  | cons c l ih =>
    by_cases h : c = 0
    · subst h
      obtain ⟨k, hk⟩ := ih
      refine ⟨k + 1, ?_⟩
      rw [List.replicate_succ, List.cons_append]
      have : tr (0 :: l) = tr l := rfl
      rw [this, ← hk]
    · exact ⟨0, by simp [tr, h]⟩
theorem dg_tr (l : List UInt8) : dg (tr l) = dg l := by
  obtain ⟨k, hk⟩ := tr_split l
  have := dg_zeros k (tr l)
  rw [← hk] at this
  exact this.symm
theorem tr_length_le (l : List UInt8) : (tr l).length ≤ l.length := by
  obtain ⟨k, hk⟩ := tr_split l
  have := congrArg List.length hk
  simp at this
  omega
theorem tr_head (l : List UInt8) : ∀ c r, tr l = c :: r → c ≠ 0 := by
  induction l with
  | nil => intro c r h; cases h
  | cons d l ih =>
    intro c r h
    by_cases hd : d = 0
    · subst hd; exact ih c r h
    · have : tr (d :: l) = d :: l := by simp [tr, hd]
      rw [this] at h
      cases h
      exact hd
theorem tr_zeros (k : Nat) (l : List UInt8) (h : ∀ c r, l = c :: r → c ≠ 0) : tr (List.replicate k 0 ++ l) = l := by
  induction k with
  | zero =>
    cases l with
    | nil => rfl
    | cons c r => simp [tr, h c r rfl]
  | succ k ih => exact ih

/-- How long a number's bytes are. -/
theorem tr_small {N : Nat} (h : In N) : (tr (f32 N)).length ≤ 8 ↔ N < 18446744073709551616 := by
  have e := dg_tr (f32 N)
  rw [dg_f32 h] at e
  constructor
  · intro hl
    rw [← e]
    exact Nat.lt_of_lt_of_le (dg_lt _) (show 256 ^ (tr (f32 N)).length ≤ 256 ^ 8 from Nat.pow_le_pow_right (by omega) hl)
  · intro hN
    rcases Nat.lt_or_ge 8 (tr (f32 N)).length with hl | hl
    · exfalso
      match ht : tr (f32 N) with
      | [] => rw [ht] at hl; simp at hl
      | c :: r =>
        have hc := tr_head _ c r ht
        rw [ht] at e hl
        have e2 : dg (c :: r) = dgA (0 * 256 + c.toNat) r := rfl
        rw [e2, dgA_eq] at e
        have hc1 : 1 ≤ c.toNat := by
          rcases Nat.eq_zero_or_pos c.toNat with h0 | h0
          · exact absurd (UInt8.toNat.inj (by simpa using h0)) hc
          · exact h0
        have hp : 256 ^ 8 ≤ 256 ^ r.length := Nat.pow_le_pow_right (by omega) (by simp at hl; omega)
        have : 1 * 256 ^ r.length ≤ (0 * 256 + c.toNat) * 256 ^ r.length := Nat.mul_le_mul_right _ (by omega)
        have h8 : (256 : Nat) ^ 8 = 18446744073709551616 := rfl
        omega
    · exact hl
end Go.Proofs.YtihiacbhdcahkaaGreatDoor.M
namespace Go.Proofs.YtihiacbhdcahkaaGreatDoor.M

/-- The digits of a number, no more than are needed. -/
def ben (n : Nat) : List UInt8 := tr (f32 n)
theorem in64' {n : Nat} (h : n < 18446744073709551616) : In n := by unfold In; omega
theorem ben_le {n : Nat} (h : n < 18446744073709551616) : (ben n).length ≤ 8 := (tr_small (in64' h)).2 h
/-- A head of a length. -/
def hdL (n p : Nat) : List UInt8 := if n < 56 then [UInt8.ofNat (p + n)] else UInt8.ofNat (p + 55 + (ben n).length) :: ben n
theorem hdL_ne (n p : Nat) : hdL n p ≠ [] := by unfold hdL; split <;> simp
/-- An item: bytes, or a list of items; or what is neither. -/
inductive It where
  | mk (list : Bool) (bytes : List UInt8) (items : List It)

mutual
def bytesI : It → List UInt8
  | .mk true _ xs => hdL (bytesIs xs).length 192 ++ bytesIs xs
  | .mk false b _ => if b.length = 1 ∧ (b.headD 0).toNat < 128 then b else hdL b.length 128 ++ b
def bytesIs : List It → List UInt8
  | [] => []
  | x :: xs => bytesI x ++ bytesIs xs
end
mutual
/-- What is wrong with an item that stands in so many lists. -/
def formI (d : Nat) : It → Nat
  | .mk l b xs => if (l = true ∧ b ≠ []) ∨ (l = false ∧ xs ≠ []) then 2 else if l = false then 0 else if 12 ≤ d then 7 else if 512 < xs.length then 5 else formIs (d + 1) xs
def formIs (d : Nat) : List It → Nat
  | [] => 0
  | x :: xs => if formI d x ≠ 0 then formI d x else formIs d xs
end
def checkI (x : It) : Nat := if formI 0 x = 0 ∧ 65536 < (bytesI x).length then 5 else formI 0 x
def encodeI (x : It) : List UInt8 × Nat := if checkI x = 0 then (bytesI x, 0) else ([], checkI x)

theorem formI_ok {d : Nat} {l : Bool} {b : List UInt8} {xs : List It} (h : formI d (.mk l b xs) = 0) : (l = true → b = [] ∧ d < 12 ∧ xs.length ≤ 512 ∧ formIs (d + 1) xs = 0) ∧ (l = false → xs = []) := by
  unfold formI at h
  split at h
  · cases h
  · rename_i h1
    have hb : l = true → b = [] := fun hl => by
      rcases List.eq_nil_or_concat b with e | ⟨_, _, e⟩
      · exact e
      · exact absurd (.inl ⟨hl, by rw [e]; simp⟩) h1
    have hx : l = false → xs = [] := fun hl => by
      cases xs with
      | nil => rfl
      | cons x xs => exact absurd (.inr ⟨hl, by simp⟩) h1
    refine ⟨fun hl => ?_, hx⟩
    rw [if_neg (by rw [hl]; simp)] at h
    split at h
    · cases h
    · rename_i h2
      split at h
      · cases h
      · rename_i h3
        exact ⟨hb hl, by omega, by omega, h⟩
theorem formIs_ok {d : Nat} {x : It} {xs : List It} (h : formIs d (x :: xs) = 0) : formI d x = 0 ∧ formIs d xs = 0 := by
  unfold formIs at h
  split at h
  · rename_i h1; exact absurd h h1
  · rename_i h1; exact ⟨by omega, h⟩

theorem bytesI_ne (x : It) (h : (bytesI x).length = 0) : False := by
  have h' := List.eq_nil_of_length_eq_zero h
  match x with
  | .mk true _ xs =>
    rw [bytesI] at h'
    exact hdL_ne _ _ (List.append_eq_nil_iff.1 h').1
  | .mk false b _ =>
    rw [bytesI] at h'
    split at h'
    · rename_i h1; rw [h'] at h1; simp at h1
    · exact hdL_ne _ _ (List.append_eq_nil_iff.1 h').1

end Go.Proofs.YtihiacbhdcahkaaGreatDoor.M
namespace Go.Proofs.YtihiacbhdcahkaaGreatDoor.M

mutual
theorem formI_mono : ∀ (x : It) (d e : Nat), formI d x = 0 → e ≤ d → formI e x = 0
  | .mk false b xs, d, e, h, _ => by
    obtain ⟨_, h2⟩ := formI_ok h
    obtain rfl := h2 rfl
    rw [formI]
    simp
  | .mk true b xs, d, e, h, hde => by
    obtain ⟨h1, _⟩ := formI_ok h
    obtain ⟨rfl, h3, h4, h5⟩ := h1 rfl
    rw [formI, if_neg (by simp), if_neg (by simp), if_neg (by omega), if_neg (by omega)]
    exact formIs_mono xs (d + 1) (e + 1) h5 (by omega)
theorem formIs_mono : ∀ (xs : List It) (d e : Nat), formIs d xs = 0 → e ≤ d → formIs e xs = 0
  | [], _, _, _, _ => by rw [formIs]
  | x :: xs, d, e, h, hde => by
    obtain ⟨h1, h2⟩ := formIs_ok h
    rw [formIs, formI_mono x d e h1 hde, if_neg (by simp)]
    exact formIs_mono xs d e h2 hde
end
theorem checkI_ok {x : It} : checkI x = 0 ↔ formI 0 x = 0 ∧ (bytesI x).length ≤ 65536 := by
  unfold checkI
  by_cases h : formI 0 x = 0 ∧ 65536 < (bytesI x).length
  · rw [if_pos h]
    exact ⟨fun h' => (by cases h'), fun h' => by omega⟩
  · rw [if_neg h]
    exact ⟨fun h' => ⟨h', by omega⟩, fun h' => h'.1⟩
mutual
theorem part_size : ∀ (xs : List It) (x : It), x ∈ xs → (bytesI x).length ≤ (bytesIs xs).length
  | [], _, h => by cases h
  | y :: ys, x, h => by
    rw [bytesIs, List.length_append]
    rcases List.mem_cons.1 h with rfl | h
    · omega
    · have := part_size ys x h; omega
end
theorem part_form : ∀ {xs : List It} {d : Nat}, formIs d xs = 0 → ∀ x ∈ xs, formI d x = 0
  | [], _, _, _, h => by cases h
  | y :: ys, d, hf, x, h => by
    obtain ⟨h1, h2⟩ := formIs_ok hf
    rcases List.mem_cons.1 h with rfl | h
    · exact h1
    · exact part_form h2 x h
theorem bytesIs_append (xs ys : List It) : bytesIs (xs ++ ys) = bytesIs xs ++ bytesIs ys := by
  induction xs with
  | nil => rfl
  | cons x xs ih => rw [List.cons_append, bytesIs, bytesIs, ih, List.append_assoc]

end Go.Proofs.YtihiacbhdcahkaaGreatDoor.M
