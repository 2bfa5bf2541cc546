/- Plain arithmetic: a number below 2^256 and its four parts of 64 bits; the carries of a sum and of a difference. Plain arithmetic: numbers and their bytes, the highest one first. Plain arithmetic: items, their bytes, how deep they are, what is wrong with them; no item's bytes begin another one's. Plain arithmetic: how deep an item may stand; heads by their lengths; alike. Plain arithmetic: how many items an item holds; what its bytes come to at most; parts by their places. Plain arithmetic: what the statements of layer 4 lean on. Plain: types and values. Plain: what holds of types and values. What every seat leans on. Words as values. How types and values lie in memory. Plain: rows of types and of values, part by part. -/
import Derived.Test.YtgloapcfmlijlaaGreatDoorProg
import Derived.WalkKit
import Derived.Below
import Derived.Laws.Externs
import Derived.Laws.ResultCell
import Derived.Deep.QuietTactic
import Derived.BigQuiet
import Derived.RegionTactic
import Derived.BigRegion
import Derived.LoopTactic
import Derived.LoopN
import Derived.Lib.Hide
namespace Go.Proofs.YtgloapcfmlijlaaGreatDoor.M

/-- Part i of a number, the lowest one first. -/
def pt (i N : Nat) : Int := ((N / 18446744073709551616 ^ i % 18446744073709551616 : Nat) : Int)

/-- Below 2^256. -/
def In (N : Nat) : Prop := N < 115792089237316195423570985008687907853269984665640564039457584007913129639936

theorem pt_nonneg (i N : Nat) : 0 ≤ pt i N := by unfold pt; omega
theorem pt_lt (i N : Nat) : pt i N < 18446744073709551616 := by unfold pt; omega

theorem whole {N : Nat} (h : In N) : (N : Int) = pt 0 N + 18446744073709551616 * pt 1 N + 340282366920938463463374607431768211456 * pt 2 N + 6277101735386680763835789423207666416102355444464034512896 * pt 3 N := by
  unfold In at h
  unfold pt
  simp only [Nat.pow_zero, Nat.pow_one, Nat.div_one, show 18446744073709551616 ^ 2 = 340282366920938463463374607431768211456 from rfl, show 18446744073709551616 ^ 3 = 6277101735386680763835789423207666416102355444464034512896 from rfl]
  omega

theorem parts {N : Nat} {a b c d : Int} (ha : 0 ≤ a) (ha' : a < 18446744073709551616) (hb : 0 ≤ b) (hb' : b < 18446744073709551616) (hc : 0 ≤ c) (hc' : c < 18446744073709551616) (hd : 0 ≤ d) (hd' : d < 18446744073709551616)
    (h : (N : Int) = a + 18446744073709551616 * b + 340282366920938463463374607431768211456 * c + 6277101735386680763835789423207666416102355444464034512896 * d) :
    pt 0 N = a ∧ pt 1 N = b ∧ pt 2 N = c ∧ pt 3 N = d := by
  unfold pt
  simp only [Nat.pow_zero, Nat.pow_one, Nat.div_one, show 18446744073709551616 ^ 2 = 340282366920938463463374607431768211456 from rfl, show 18446744073709551616 ^ 3 = 6277101735386680763835789423207666416102355444464034512896 from rfl]
  omega

theorem pt_inj {A B : Nat} (hA : In A) (hB : In B) (h0 : pt 0 A = pt 0 B) (h1 : pt 1 A = pt 1 B) (h2 : pt 2 A = pt 2 B) (h3 : pt 3 A = pt 3 B) : A = B := by
  have := whole hA
  have := whole hB
  omega

def adC (x y c : Int) : Int := (x + y + c) / 18446744073709551616
def sbC (x y c : Int) : Int := if x < y + c then 1 else 0

/-- The carries of two numbers' parts. -/
def k1 (A B : Nat) : Int := adC (pt 0 A) (pt 0 B) 0
def k2 (A B : Nat) : Int := adC (pt 1 A) (pt 1 B) (k1 A B)
def k3 (A B : Nat) : Int := adC (pt 2 A) (pt 2 B) (k2 A B)
def k4 (A B : Nat) : Int := adC (pt 3 A) (pt 3 B) (k3 A B)
/-- The borrows. -/
def j1 (A B : Nat) : Int := sbC (pt 0 A) (pt 0 B) 0
def j2 (A B : Nat) : Int := sbC (pt 1 A) (pt 1 B) (j1 A B)
def j3 (A B : Nat) : Int := sbC (pt 2 A) (pt 2 B) (j2 A B)
def j4 (A B : Nat) : Int := sbC (pt 3 A) (pt 3 B) (j3 A B)
end Go.Proofs.YtgloapcfmlijlaaGreatDoor.M
namespace Go.Proofs.YtgloapcfmlijlaaGreatDoor.M

/-- The number of bytes, behind a number. -/
def dgA (n : Nat) : List UInt8 → Nat
  | [] => n
  | c :: l => dgA (n * 256 + c.toNat) l
/-- The number of bytes. -/
def dg (l : List UInt8) : Nat := dgA 0 l

theorem dgA_append (n : Nat) (l r : List UInt8) : dgA n (l ++ r) = dgA (dgA n l) r := by
  induction l generalizing n with
  | nil => rfl
  | cons c l ih => exact ih _
theorem dgA_eq (n : Nat) (l : List UInt8) : dgA n l = n * 256 ^ l.length + dg l := by
  induction l generalizing n with
  | nil => simp [dgA, dg]
  | cons c l ih =>
    have e1 : dgA n (c :: l) = dgA (n * 256 + c.toNat) l := rfl
    have e2 : dg (c :: l) = dgA (0 * 256 + c.toNat) l := rfl
    rw [e1, e2, ih, ih (0 * 256 + c.toNat), List.length_cons, Nat.pow_succ, Nat.zero_mul, Nat.zero_add]
    have : (n * 256 + c.toNat) * 256 ^ l.length = n * (256 ^ l.length * 256) + c.toNat * 256 ^ l.length := by
      rw [Nat.add_mul, Nat.mul_assoc, Nat.mul_comm 256]
    rw [this]
    omega
theorem dg_append (l r : List UInt8) : dg (l ++ r) = dg l * 256 ^ r.length + dg r := by
  unfold dg
  rw [dgA_append, dgA_eq]
  rfl
theorem dg_snoc (l : List UInt8) (c : UInt8) : dg (l ++ [c]) = dg l * 256 + c.toNat := by
  rw [dg_append]
  simp [dg, dgA]
theorem dg_lt (l : List UInt8) : dg l < 256 ^ l.length := by
  induction l with
  | nil => simp [dg, dgA]
  | cons c l ih =>
    have e : dg (c :: l) = dgA (0 * 256 + c.toNat) l := rfl
    rw [e, dgA_eq, List.length_cons, Nat.pow_succ]
    have hc := c.toNat_lt
    have : (0 * 256 + c.toNat) * 256 ^ l.length ≤ 255 * 256 ^ l.length := Nat.mul_le_mul_right _ (by omega)
    omega
theorem dg_8 {l : List UInt8} (h : l.length = 8) : dg l < 18446744073709551616 := by
  have := dg_lt l
  rw [h, show (256 : Nat) ^ 8 = 18446744073709551616 from rfl] at this
  exact this
theorem dg_app8 {r : List UInt8} (h : r.length = 8) (l : List UInt8) : dg (l ++ r) = dg l * 18446744073709551616 + dg r := by
  rw [dg_append, h, show (256 : Nat) ^ 8 = 18446744073709551616 from rfl]
theorem dg_zeros (k : Nat) (l : List UInt8) : dg (List.replicate k 0 ++ l) = dg l := by
  induction k with
  | zero => rfl
  | succ k ih => exact ih

/-- k bytes of a number. -/
def be : Nat → Nat → List UInt8
  | 0, _ => []
  | k + 1, N => be k (N / 256) ++ [UInt8.ofNat (N % 256)]
theorem be_length (k N : Nat) : (be k N).length = k := by
  induction k generalizing N with
  | zero => rfl
  | succ k ih => simp [be, ih]
theorem dg_be (k N : Nat) (h : N < 256 ^ k) : dg (be k N) = N := by
  induction k generalizing N with
  | zero => simp at h; subst h; rfl
  | succ k ih =>
    rw [be, dg_snoc, ih _ (by rw [Nat.pow_succ] at h; omega)]
    have : (UInt8.ofNat (N % 256)).toNat = N % 256 := by simp
    omega
theorem be_dg (l : List UInt8) : be l.length (dg l) = l := by
  obtain ⟨r, rfl⟩ : ∃ r, l = List.reverse r := ⟨l.reverse, by simp⟩
  induction r with
  | nil => rfl
  | cons c r ih =>
    rw [List.reverse_cons, dg_snoc, List.length_append, List.length_singleton, be]
    have hc := c.toNat_lt
    rw [show (dg r.reverse * 256 + c.toNat) / 256 = dg r.reverse by omega, show (dg r.reverse * 256 + c.toNat) % 256 = c.toNat by omega, ih]
    simp
theorem be_add (j k N : Nat) : be (j + k) N = be j (N / 256 ^ k) ++ be k N := by
  induction k generalizing N with
  | zero => simp [be]
  | succ k ih =>
    rw [← Nat.add_assoc, be, ih, be, ← List.append_assoc, Nat.div_div_eq_div_mul, Nat.pow_succ, Nat.mul_comm]
theorem be_mod (k N : Nat) : be k (N % 256 ^ k) = be k N := by
  induction k generalizing N with
  | zero => rfl
  | succ k ih =>
    rw [be, be, ← ih (N / 256)]
    have e1 : N % 256 ^ (k + 1) / 256 = N / 256 % 256 ^ k := by
      rw [Nat.pow_succ, Nat.mul_comm, Nat.mod_mul_right_div_self]
    have e2 : N % 256 ^ (k + 1) % 256 = N % 256 := Nat.mod_mod_of_dvd _ ⟨256 ^ k, by rw [Nat.pow_succ, Nat.mul_comm]⟩
    rw [e1, e2]
theorem be8_eq (n : Nat) : be 8 n = [UInt8.ofNat (n / 72057594037927936 % 256), UInt8.ofNat (n / 281474976710656 % 256), UInt8.ofNat (n / 1099511627776 % 256), UInt8.ofNat (n / 4294967296 % 256), UInt8.ofNat (n / 16777216 % 256), UInt8.ofNat (n / 65536 % 256), UInt8.ofNat (n / 256 % 256), UInt8.ofNat (n % 256)] := by
  simp only [be, Nat.div_div_eq_div_mul, List.nil_append, List.cons_append, Nat.reduceMul]

/-- A word's 32 bytes. -/
def f32 (N : Nat) : List UInt8 := be 32 N
theorem f32_length (N : Nat) : (f32 N).length = 32 := be_length 32 N
theorem in_pow {N : Nat} : In N ↔ N < 256 ^ 32 := by unfold In; rfl
theorem dg_f32 {N : Nat} (h : In N) : dg (f32 N) = N := dg_be 32 N (in_pow.1 h)
theorem f32_dg {l : List UInt8} (h : l.length = 32) : f32 (dg l) = l := by
  have := be_dg l
  rw [h] at this
  exact this
/-- The 32 bytes, part by part. -/
theorem f32_parts {N : Nat} (_h : In N) : f32 N = be 8 (pt 3 N).toNat ++ be 8 (pt 2 N).toNat ++ be 8 (pt 1 N).toNat ++ be 8 (pt 0 N).toNat := by
  have e : ∀ i, be 8 (pt i N).toNat = be 8 (N / 18446744073709551616 ^ i) := by
    intro i
    unfold pt
    rw [Int.toNat_natCast, show (18446744073709551616 : Nat) = 256 ^ 8 from rfl, be_mod]
  rw [e 0, e 1, e 2, e 3]
  have q1 : N / 256 ^ 8 / 256 ^ 8 = N / 18446744073709551616 ^ 2 := by rw [Nat.div_div_eq_div_mul]
  have q2 : N / 18446744073709551616 ^ 2 / 256 ^ 8 = N / 18446744073709551616 ^ 3 := by rw [Nat.div_div_eq_div_mul]
  unfold f32
  rw [show 32 = 24 + 8 from rfl, be_add, show 24 = 16 + 8 from rfl, be_add, show 16 = 8 + 8 from rfl, be_add, q1, q2, Nat.pow_zero, Nat.div_one, Nat.pow_one]

/-- Without zeros ahead. -/
def tr (l : List UInt8) : List UInt8 := l.dropWhile (· == 0)
theorem tr_split (l : List UInt8) : ∃ k, l = List.replicate k 0 ++ tr l := by
  induction l with
  | nil => exact ⟨0, rfl⟩
  | cons c l ih =>
    by_cases h : c = 0
    · subst h
      obtain ⟨k, hk⟩ := ih
      refine ⟨k + 1, ?_⟩
      rw [List.replicate_succ, List.cons_append]
      have : tr (0 :: l) = tr l := rfl
      rw [this, ← hk]
    · exact ⟨0, by simp [tr, h]⟩
theorem dg_tr (l : List UInt8) : dg (tr l) = dg l := by
  obtain ⟨k, hk⟩ := tr_split l
  have := dg_zeros k (tr l)
  rw [← hk] at this
  exact this.symm
theorem tr_length_le (l : List UInt8) : (tr l).length ≤ l.length := by
  obtain ⟨k, hk⟩ := tr_split l
  have := congrArg List.length hk
  simp at this
  omega
theorem tr_head (l : List UInt8) : ∀ c r, tr l = c :: r → c ≠ 0 := by
  induction l with
  | nil => intro c r h; cases h
  | cons d l ih =>
    intro c r h
    by_cases hd : d = 0
    · subst hd; exact ih c r h
    · have : tr (d :: l) = d :: l := by simp [tr, hd]
      rw [this] at h
      cases h
      exact hd
end Go.Proofs.YtgloapcfmlijlaaGreatDoor.M
namespace Go.Proofs.YtgloapcfmlijlaaGreatDoor.M

/-- An item: bytes, or a list of items; or what is neither. -/
inductive It where
  | mk (list : Bool) (bytes : List UInt8) (items : List It)

end Go.Proofs.YtgloapcfmlijlaaGreatDoor.M
namespace Go.Proofs.YtgloapcfmlijlaaGreatDoor.M

end Go.Proofs.YtgloapcfmlijlaaGreatDoor.M
namespace Go.Proofs.YtgloapcfmlijlaaGreatDoor.M

end Go.Proofs.YtgloapcfmlijlaaGreatDoor.M
namespace Go.Proofs.YtgloapcfmlijlaaGreatDoor.M

end Go.Proofs.YtgloapcfmlijlaaGreatDoor.M
namespace Go.Proofs.YtgloapcfmlijlaaGreatDoor.M
open Go

inductive Ty | mk (k n : Int) (ins : List Ty)
inductive Va | mk (num : Nat) (bits : List Bool) (items : List Va) (pick : Int)
def Ty.k : Ty → Int | .mk k _ _ => k
def Ty.n : Ty → Int | .mk _ n _ => n
def Ty.ins : Ty → List Ty | .mk _ _ ins => ins
instance : Inhabited Ty := ⟨.mk 0 0 []⟩

def formT (k n : Int) (m : Nat) : Bool :=
  if k = 1 then m == 0 && (n == 1 || n == 2 || n == 4 || n == 8 || n == 32)
  else if k = 2 then m == 0 && n == 0
  else if k = 3 ∨ k = 4 then m == 1 && decide (1 ≤ n) && decide (n ≤ 512)
  else if k = 5 ∨ k = 6 then m == 0 && decide (1 ≤ n) && decide (n ≤ 512)
  else if k = 7 then n == 0 && decide (1 ≤ m) && decide (m ≤ 16)
  else n == 0 && decide (1 ≤ m) && decide (m ≤ 8)

mutual
def cntT : Ty → Nat
  | .mk _ _ ins => 1 + cntTs ins
def cntTs : List Ty → Nat
  | [] => 0
  | t :: ts => cntT t + cntTs ts
end
mutual
def cntV : Va → Nat
  | .mk _ bits items _ => 1 + bits.length / 8 + cntVs items
def cntVs : List Va → Nat
  | [] => 0
  | v :: vs => cntV v + cntVs vs
end
mutual
def chkT (d : Nat) : Ty → Nat
  | .mk k n ins => if k < 1 ∨ 8 < k then 9 else if formT k n ins.length = false then 2 else if 6 ≤ d then 7 else chkTs (d + 1) ins
def chkTs (d : Nat) : List Ty → Nat
  | [] => 0
  | t :: ts => if chkT d t ≠ 0 then chkT d t else chkTs d ts
end
mutual
def fixT : Ty → Bool
  | .mk k _ ins => if k = 4 ∨ k = 6 ∨ k = 8 then false else fixTs ins
def fixTs : List Ty → Bool
  | [] => true
  | t :: ts => if fixT t = false then false else fixTs ts
end
mutual
def szT : Ty → Nat
  | .mk k n ins => if k = 1 then n.toNat else if k = 2 then 1 else if k = 5 then (n.toNat + 7) / 8 else if k = 3 then n.toNat * szTs ins else szTs ins
def szTs : List Ty → Nat
  | [] => 0
  | t :: ts => szT t + szTs ts
end
def fixedT (t : Ty) : Bool := if chkT 0 t = 0 then fixT t else false
def sizeT (t : Ty) : Nat := if fixedT t = true then szT t else 0

def ofV (k n : Int) (m : Nat) : Va → Bool
  | .mk num bits items pick =>
    if k = 1 then bits.length == 0 && items.length == 0 && pick == 0 && decide (((tr (f32 num)).length : Int) ≤ n)
    else if k = 2 then bits.length == 0 && items.length == 0 && pick == 0 && (num == 0 || num == 1)
    else if k = 3 then num == 0 && bits.length == 0 && pick == 0 && decide ((items.length : Int) = n)
    else if k = 4 then num == 0 && bits.length == 0 && pick == 0
    else if k = 5 then num == 0 && items.length == 0 && pick == 0 && decide ((bits.length : Int) = n)
    else if k = 6 then num == 0 && items.length == 0 && pick == 0
    else if k = 7 then num == 0 && bits.length == 0 && pick == 0 && items.length == m
    else num == 0 && bits.length == 0 && items.length == 1 && decide (0 ≤ pick) && decide (pick < m)
/-- The type of an item, by its place. -/
def inT (k : Int) (ins : List Ty) (pick : Int) (i : Nat) : Ty := if k = 7 then ins[i]?.getD default else if k = 8 then ins[pick.toNat]?.getD default else ins[0]?.getD default
mutual
def fitV (t : Ty) : Va → Nat
  | .mk num bits items pick =>
    if (t.k = 4 ∧ t.n < items.length) ∨ (t.k = 6 ∧ t.n < bits.length) then 5
    else if ofV t.k t.n t.ins.length (.mk num bits items pick) = false then 2
    else fitVs t.k t.ins pick 0 items
def fitVs (k : Int) (ins : List Ty) (pick : Int) (i : Nat) : List Va → Nat
  | [] => 0
  | v :: vs => if fitV (inT k ins pick i) v ≠ 0 then fitV (inT k ins pick i) v else fitVs k ins pick (i + 1) vs
end
def fitsV (t : Ty) (v : Va) : Nat := if chkT 0 t = 0 then fitV t v else chkT 0 t
mutual
def sameV : Va → Va → Bool
  | .mk a b c d, .mk a' b' c' d' => a == a' && d == d' && b == b' && (c.length == c'.length && sameVs c c')
def sameVs : List Va → List Va → Bool
  | v :: vs, u :: us => sameV v u && sameVs vs us
  | _, _ => true
end

theorem chkTs_ok {d : Nat} : ∀ {ts : List Ty}, chkTs d ts = 0 ↔ ∀ t ∈ ts, chkT d t = 0
  | [] => by simp [chkTs]
  | t :: ts => by
    rw [chkTs]
    by_cases h : chkT d t = 0
    · rw [if_neg (by simp [h]), chkTs_ok]
      simp [h]
    · rw [if_pos h]
      simp [h]
theorem chkT_ok {d : Nat} {k n : Int} {ins : List Ty} : chkT d (.mk k n ins) = 0 ↔ (1 ≤ k ∧ k ≤ 8) ∧ formT k n ins.length = true ∧ d < 6 ∧ chkTs (d + 1) ins = 0 := by
  rw [chkT]
  by_cases h1 : k < 1 ∨ 8 < k
  · rw [if_pos h1]; constructor
    · intro h; cases h
    · rintro ⟨h, _⟩; omega
  · rw [if_neg h1]
    by_cases h2 : formT k n ins.length = false
    · rw [if_pos h2]; constructor
      · intro h; cases h
      · rintro ⟨_, h, _⟩; rw [h2] at h; cases h
    · rw [if_neg h2]
      by_cases h3 : 6 ≤ d
      · rw [if_pos h3]; constructor
        · intro h; cases h
        · rintro ⟨_, _, h, _⟩; omega
      · rw [if_neg h3]
        rw [Bool.not_eq_false] at h2
        constructor
        · intro h; exact ⟨by omega, h2, by omega, h⟩
        · rintro ⟨_, _, _, h⟩; exact h
theorem fixTs_ok : ∀ {ts : List Ty}, fixTs ts = true ↔ ∀ t ∈ ts, fixT t = true
  | [] => by simp [fixTs]
  | t :: ts => by
    rw [fixTs]
    by_cases h : fixT t = true
    · rw [if_neg (by simp [h]), fixTs_ok]
      simp [h]
    · rw [if_pos (by simpa using h)]
      simp [h]
/-- As deep, or less deep. -/
theorem chkT_mono : ∀ (t : Ty) (d e : Nat), chkT d t = 0 → e ≤ d → chkT e t = 0
  | .mk k n ins, d, e, h, hed => by
    obtain ⟨h1, h2, h3, h4⟩ := chkT_ok.1 h
    exact chkT_ok.2 ⟨h1, h2, by omega, chkTs_ok.2 fun t ht => chkT_mono t (d + 1) (e + 1) (chkTs_ok.1 h4 t ht) (by omega)⟩
termination_by t => SizeOf.sizeOf t
decreasing_by have := List.sizeOf_lt_of_mem ht; simp; omega
/-- What stands in a type that is one is one. -/
theorem chkT_in {k n : Int} {ins : List Ty} {t : Ty} (h : chkT 0 (.mk k n ins) = 0) (ht : t ∈ ins) : chkT 0 t = 0 :=
  chkT_mono t 1 0 (chkTs_ok.1 (chkT_ok.1 h).2.2.2 t ht) (by omega)
/-- How many bytes at most: so that no sum is too great. -/
theorem szT_most : ∀ (t : Ty) (d : Nat), chkT d t = 0 → szT t ≤ 64 * 512 ^ (6 - d)
  | .mk k n ins, d, h => by
    obtain ⟨h1, h2, h3, h4⟩ := chkT_ok.1 h
    have hin : ∀ t ∈ ins, szT t ≤ 64 * 512 ^ (6 - (d + 1)) := fun t ht => szT_most t (d + 1) (chkTs_ok.1 h4 t ht)
    have hsum : szTs ins ≤ ins.length * (64 * 512 ^ (6 - (d + 1))) := by
      have : ∀ ts : List Ty, (∀ t ∈ ts, szT t ≤ 64 * 512 ^ (6 - (d + 1))) → szTs ts ≤ ts.length * (64 * 512 ^ (6 - (d + 1))) := fun ts => by
        induction ts with
        | nil => intro _; simp [szTs]
        | cons t ts ih =>
          intro hm
          have g1 := hm t (by simp)
          have g2 := ih fun u hu => hm u (by simp [hu])
          rw [szTs, List.length_cons, Nat.add_mul]
          omega
      exact this ins hin
    have hpow : 512 ^ (6 - d) = 512 ^ (6 - (d + 1)) * 512 := by
      rw [show 6 - d = (6 - (d + 1)) + 1 by omega, Nat.pow_succ]
    have hpos : 1 ≤ 512 ^ (6 - (d + 1)) := Nat.one_le_pow _ _ (by omega)
    rw [hpow]
    generalize 512 ^ (6 - (d + 1)) = p at *
    unfold formT at h2
    rw [szT]
    split
    · rename_i e
      rw [if_pos e] at h2
      simp at h2
      rcases h2.2 with (((h | h) | h) | h) | h <;> omega
    · rename_i e1
      rw [if_neg e1] at h2
      split
      · omega
      · rename_i e2
        rw [if_neg e2] at h2
        split
        · rename_i e
          rw [if_neg (by omega), if_pos (by omega)] at h2
          simp at h2
          omega
        · rename_i e5
          split
          · rename_i e3
            rw [if_pos (by omega)] at h2
            simp at h2
            have h7 : ins.length = 1 := h2.1.1
            rw [h7, Nat.one_mul] at hsum
            have h8 : n.toNat ≤ 512 := by omega
            calc n.toNat * szTs ins ≤ 512 * (64 * p) := Nat.mul_le_mul h8 hsum
              _ = 64 * (p * 512) := by omega
          · rename_i e3
            have hl : ins.length ≤ 512 := by
              simp only [Bool.and_eq_true, beq_iff_eq, decide_eq_true_eq, Bool.ite_eq_true_distrib] at h2
              split at h2
              · omega
              · split at h2
                · omega
                · split at h2 <;> omega
            calc szTs ins ≤ ins.length * (64 * p) := hsum
              _ ≤ 512 * (64 * p) := Nat.mul_le_mul_right _ hl
              _ = 64 * (p * 512) := by omega
termination_by t => SizeOf.sizeOf t
decreasing_by have := List.sizeOf_lt_of_mem ht; simp; omega
end Go.Proofs.YtgloapcfmlijlaaGreatDoor.M
namespace Go.Proofs.YtgloapcfmlijlaaGreatDoor.M
open Go

theorem fitV_eq (k n : Int) (ins : List Ty) (num : Nat) (bits : List Bool) (items : List Va) (pick : Int) : fitV (.mk k n ins) (.mk num bits items pick) =
    if (k = 4 ∧ n < items.length) ∨ (k = 6 ∧ n < bits.length) then 5 else if ofV k n ins.length (.mk num bits items pick) = false then 2 else fitVs k ins pick 0 items := by
  rw [fitV]
  rfl

theorem fitsV_in {t : Ty} {v : Va} (h : chkT 0 t = 0) : fitsV t v = fitV t v := by rw [fitsV, if_pos h]
theorem fitsV_fits {t : Ty} {v : Va} (h : fitsV t v = 0) : chkT 0 t = 0 := by
  rw [fitsV] at h
  by_cases h1 : chkT 0 t = 0
  · exact h1
  · rw [if_neg h1] at h; exact h

/-! Fixed types. -/
theorem szTs_mem : ∀ {ts : List Ty} {t : Ty}, t ∈ ts → szT t ≤ szTs ts
  | u :: ts, t, h => by
    rw [szTs]
    rcases List.mem_cons.1 h with rfl | h
    · omega
    · have := szTs_mem h; omega
theorem szT_pos : ∀ (t : Ty) (d : Nat), chkT d t = 0 → fixT t = true → 1 ≤ szT t
  | .mk k n ins, d, h, hf => by
    obtain ⟨h1, h2, h3, h4⟩ := chkT_ok.1 h
    rw [fixT] at hf
    by_cases hk : k = 4 ∨ k = 6 ∨ k = 8
    · rw [if_pos hk] at hf; cases hf
    · rw [if_neg hk] at hf
      have hne : (k = 3 ∨ k = 7) → 1 ≤ szTs ins := fun hk2 => by
        have hpos : 0 < ins.length := by
          rcases Nat.eq_zero_or_pos ins.length with h0 | h0
          · rw [h0] at h2
            rcases hk2 with rfl | rfl <;> simp [formT] at h2
          · exact h0
        have ht : ins[0] ∈ ins := List.getElem_mem hpos
        exact Nat.le_trans (szT_pos ins[0] (d + 1) (chkTs_ok.1 h4 _ ht) (fixTs_ok.1 hf _ ht)) (szTs_mem ht)
      unfold formT at h2
      rw [szT]
      split
      · rename_i e
        rw [if_pos e] at h2
        simp at h2
        rcases h2.2 with (((h | h) | h) | h) | h <;> omega
      · rename_i e1
        rw [if_neg e1] at h2
        split
        · omega
        · rename_i e2
          rw [if_neg e2] at h2
          split
          · rename_i e
            rw [if_neg (by omega), if_pos (by omega)] at h2
            simp at h2
            omega
          · rename_i e5
            split
            · rename_i e3
              rw [if_pos (by omega)] at h2
              simp at h2
              exact Nat.mul_le_mul (show 1 ≤ n.toNat by omega) (hne (.inl e3))
            · exact hne (.inr (by omega))
termination_by t => SizeOf.sizeOf t
decreasing_by have := List.sizeOf_lt_of_mem ht; simp; omega

theorem fixedT_ok {t : Ty} : fixedT t = true ↔ chkT 0 t = 0 ∧ fixT t = true := by
  unfold fixedT
  split <;> simp_all
theorem sizeT_fix {t : Ty} (h : fixedT t = true) : sizeT t = szT t := by rw [sizeT, if_pos h]
theorem sizeT_non {t : Ty} (h : fixedT t = false) : sizeT t = 0 := by rw [sizeT, if_neg (by simp [h])]
theorem fixedT_none {t : Ty} (h : chkT 0 t ≠ 0) : fixedT t = false := by rw [fixedT, if_neg h]
theorem fixedT_kind {k n : Int} {ins : List Ty} (h : k = 4 ∨ k = 6 ∨ k = 8) : fixedT (.mk k n ins) = false := by
  rw [fixedT, fixT, if_pos h]
  split <;> rfl
theorem fixedT_parts {k n : Int} {ins : List Ty} (hc : chkT 0 (.mk k n ins) = 0) (hk : ¬ (k = 4 ∨ k = 6 ∨ k = 8)) : fixedT (.mk k n ins) = ins.all fixedT := by
  rw [Bool.eq_iff_iff, List.all_eq_true, fixedT_ok, fixT, if_neg hk, fixTs_ok]
  constructor
  · rintro ⟨_, h⟩ x hx
    exact fixedT_ok.2 ⟨chkT_in hc hx, h x hx⟩
  · intro h
    exact ⟨hc, fun x hx => (fixedT_ok.1 (h x hx)).2⟩
end Go.Proofs.YtgloapcfmlijlaaGreatDoor.M
namespace Go.Proofs.YtgloapcfmlijlaaGreatDoor
open Go Go.RowKit

theorem bcell {W w1 : World} (hb : Below W.heap.size W w1) : (∀ b o, b < W.heap.size → w1.cell? ⟨b, o, none⟩ = W.cell? ⟨b, o, none⟩) ∧ (∀ b o, b < W.heap.size → w1.frozen? ⟨b, o, none⟩ = W.frozen? ⟨b, o, none⟩) :=
  ⟨fun b o h => hb.cell (p := ⟨b, o, none⟩) h, fun b o h => hb.frozen (p := ⟨b, o, none⟩) h⟩

end Go.Proofs.YtgloapcfmlijlaaGreatDoor
namespace Go.Proofs.YtgloapcfmlijlaaGreatDoor
open Go Go.RowKit

/-- A word as a value. -/
abbrev wd (a b c d : Int) : Value := .agg #[.int .u64 a, .int .u64 b, .int .u64 c, .int .u64 d]

/-- A number's word. -/
abbrev wn (N : Nat) : Value := wd (M.pt 0 N) (M.pt 1 N) (M.pt 2 N) (M.pt 3 N)

end Go.Proofs.YtgloapcfmlijlaaGreatDoor
namespace Go.Proofs.YtgloapcfmlijlaaGreatDoor
open Go Go.RowKit

/-- What a slice of types leads to, in the first n blocks. -/
inductive LayT (w : World) (n : Nat) : List M.Ty → Value → Prop
  | nil_ {a : Option Addr} {cap : Nat} (hm : cap ≤ maxLen) : LayT w n [] (.slice a 0 cap)
  | row {ts : List M.Ty} {b o cap : Nat} (V : Nat → Value) (hb : b < n) (hc : ts.length ≤ cap) (hm : cap ≤ maxLen)
      (c0 : ∀ (i : Nat) (k m : Int) (us : List M.Ty), ts[i]? = some (M.Ty.mk k m us) → w.cell? ⟨b, o + i * 3, none⟩ = some (.int .i64 k))
      (c1 : ∀ (i : Nat) (k m : Int) (us : List M.Ty), ts[i]? = some (M.Ty.mk k m us) → w.cell? ⟨b, o + i * 3 + 1, none⟩ = some (.int .i64 m))
      (c2 : ∀ (i : Nat) (k m : Int) (us : List M.Ty), ts[i]? = some (M.Ty.mk k m us) → w.cell? ⟨b, o + i * 3 + 2, none⟩ = some (V i))
      (r : ∀ (i : Nat) (k m : Int) (us : List M.Ty), ts[i]? = some (M.Ty.mk k m us) → LayT w n us (V i)) : LayT w n ts (.slice (some ⟨b, o, none⟩) ts.length cap)
theorem LayT.from_ {w W : World} {n : Nat} {ts : List M.Ty} {v : Value} (h : LayT w n ts v) (hb : Below n w W) : LayT W n ts v := by
  induction h with
  | nil_ hm => exact .nil_ hm
  | row V hlt hc hm c0 c1 c2 _ ih =>
    exact .row V hlt hc hm (fun i l d ys e => (hb.cell (p := ⟨_, _, _⟩) hlt).trans (c0 i l d ys e)) (fun i l d ys e => (hb.cell (p := ⟨_, _, _⟩) hlt).trans (c1 i l d ys e)) (fun i l d ys e => (hb.cell (p := ⟨_, _, _⟩) hlt).trans (c2 i l d ys e)) ih
theorem LayT.mono {w : World} {n m : Nat} {ts : List M.Ty} {v : Value} (h : LayT w n ts v) (hnm : n ≤ m) : LayT w m ts v := by
  induction h with
  | nil_ hm => exact .nil_ hm
  | row V hlt hc hm c0 c1 c2 _ ih => exact .row V (by omega) hc hm c0 c1 c2 ih
theorem LayT.slice {w : World} {n : Nat} {ts : List M.Ty} {v : Value} (h : LayT w n ts v) : ∃ a cap, v = .slice a ts.length cap ∧ ts.length ≤ cap ∧ cap ≤ maxLen := by
  cases h with
  | nil_ hm => exact ⟨_, _, rfl, Nat.zero_le _, hm⟩
  | row V hlt hc hm c0 c1 c2 r => exact ⟨_, _, rfl, hc, hm⟩
/-- One type of a slice. -/
theorem LayT.at_ {w : World} {n i : Nat} {ts : List M.Ty} {a : Option Addr} {cap : Nat} (h : LayT w n ts (.slice a ts.length cap)) (hi : i < ts.length) : ∃ b o k m us au cu, a = some ⟨b, o, none⟩ ∧ b < n ∧ ts[i]? = some (.mk k m us) ∧
    w.cell? ⟨b, o + i * 3, none⟩ = some (.int .i64 k) ∧ w.cell? ⟨b, o + i * 3 + 1, none⟩ = some (.int .i64 m) ∧ w.cell? ⟨b, o + i * 3 + 2, none⟩ = some (.slice au us.length cu) ∧ LayT w n us (.slice au us.length cu) := by
  cases h with
  | nil_ hm => simp at hi
  | @row _ b o cap V hlt hc hm c0 c1 c2 r =>
    obtain ⟨k, m, us, e⟩ : ∃ k m us, ts[i]? = some (.mk k m us) := by
      rw [List.getElem?_eq_getElem hi]
      obtain ⟨k, m, us⟩ := ts[i]
      exact ⟨k, m, us, rfl⟩
    obtain ⟨au, cu, hV, _, _⟩ := (r i k m us e).slice
    exact ⟨b, o, k, m, us, au, cu, rfl, hlt, e, c0 i k m us e, c1 i k m us e, hV ▸ c2 i k m us e, hV ▸ r i k m us e⟩
/-- A type as a value. -/
abbrev tv (k m : Int) (v : Value) : Value := .agg #[.int .i64 k, .int .i64 m, v]
/-- The box of a type. -/
structure BoxT (W : World) (S : Nat) (k m : Int) (v : Value) : Prop where
  c0 : W.cell? ⟨S, 0, none⟩ = some (.int .i64 k)
  c1 : W.cell? ⟨S, 1, none⟩ = some (.int .i64 m)
  c2 : W.cell? ⟨S, 2, none⟩ = some v
theorem BoxT.new (w : World) (k m : Int) (v : Value) (t : TypeId) : BoxT (w.alloc (.cells #[.int .i64 k, .int .i64 m, v] t)) w.heap.size k m v := ⟨by simp [go_sem], by simp [go_sem], by simp [go_sem]⟩
theorem BoxT.from_ {w W : World} {S n : Nat} {k m : Int} {v : Value} (h : BoxT w S k m v) (hb : Below n w W) (hS : S < n) : BoxT W S k m v :=
  ⟨(hb.cell (p := ⟨S, 0, none⟩) hS).trans h.c0, (hb.cell (p := ⟨S, 1, none⟩) hS).trans h.c1, (hb.cell (p := ⟨S, 2, none⟩) hS).trans h.c2⟩
theorem size_ty {ts : List M.Ty} {i : Nat} {x : M.Ty} (h : ts[i]? = some x) : SizeOf.sizeOf x < SizeOf.sizeOf ts := List.sizeOf_lt_of_mem (List.mem_of_getElem? h)

/-- What a slice of bits leads to. -/
inductive LayB (w : World) (n : Nat) : List Bool → Value → Prop
  | nil_ {a : Option Addr} {cap : Nat} (hm : cap ≤ maxLen) : LayB w n [] (.slice a 0 cap)
  | row {bs : List Bool} {b o cap : Nat} (hb : b < n) (hc : bs.length ≤ cap) (hm : cap ≤ maxLen)
      (c : ∀ (i : Nat) (x : Bool), bs[i]? = some x → w.cell? ⟨b, o + i, none⟩ = some (.bool x)) : LayB w n bs (.slice (some ⟨b, o, none⟩) bs.length cap)
theorem LayB.from_ {w W : World} {n : Nat} {bs : List Bool} {v : Value} (h : LayB w n bs v) (hb : Below n w W) : LayB W n bs v := by
  cases h with
  | nil_ hm => exact .nil_ hm
  | row hbn hc hm c => exact .row hbn hc hm fun i s e => (hb.cell (p := ⟨_, _, none⟩) hbn).trans (c i s e)
theorem LayB.mono {w : World} {m n : Nat} {bs : List Bool} {v : Value} (h : LayB w m bs v) (hmn : m ≤ n) : LayB w n bs v := by
  cases h with
  | nil_ hm => exact .nil_ hm
  | row hbn hc hm c => exact .row (Nat.lt_of_lt_of_le hbn hmn) hc hm c
theorem LayB.slice {w : World} {n : Nat} {bs : List Bool} {v : Value} (h : LayB w n bs v) : ∃ a cap, v = .slice a bs.length cap ∧ bs.length ≤ cap ∧ cap ≤ maxLen := by
  cases h with
  | nil_ hm => exact ⟨_, _, rfl, Nat.zero_le _, hm⟩
  | row hbn hc hm c => exact ⟨_, _, rfl, hc, hm⟩
theorem LayB.at_ {w : World} {n : Nat} {bs : List Bool} {a : Option Addr} {cap i : Nat} (h : LayB w n bs (.slice a bs.length cap)) (hi : i < bs.length) : ∃ b o x, a = some ⟨b, o, none⟩ ∧ b < n ∧ bs[i]? = some x ∧ w.cell? ⟨b, o + i, none⟩ = some (.bool x) := by
  cases h with
  | nil_ hm => simp at hi
  | row hbn hc hm c => exact ⟨_, _, bs[i], rfl, hbn, List.getElem?_eq_getElem hi, c i _ (List.getElem?_eq_getElem hi)⟩

/-- The seven cells of a value. -/
structure Cells7 (w : World) (b o : Nat) (N : Nat) (u v : Value) (p : Int) : Prop where
  c0 : w.cell? ⟨b, o, none⟩ = some (.int .u64 (M.pt 0 N))
  c1 : w.cell? ⟨b, o + 1, none⟩ = some (.int .u64 (M.pt 1 N))
  c2 : w.cell? ⟨b, o + 2, none⟩ = some (.int .u64 (M.pt 2 N))
  c3 : w.cell? ⟨b, o + 3, none⟩ = some (.int .u64 (M.pt 3 N))
  c4 : w.cell? ⟨b, o + 4, none⟩ = some u
  c5 : w.cell? ⟨b, o + 5, none⟩ = some v
  c6 : w.cell? ⟨b, o + 6, none⟩ = some (.int .i64 p)
theorem Cells7.from_ {w W : World} {b o n N : Nat} {u v : Value} {p : Int} (h : Cells7 w b o N u v p) (hb : Below n w W) (hlt : b < n) : Cells7 W b o N u v p :=
  ⟨(hb.cell (p := ⟨b, o, none⟩) hlt).trans h.c0, (hb.cell (p := ⟨b, o + 1, none⟩) hlt).trans h.c1, (hb.cell (p := ⟨b, o + 2, none⟩) hlt).trans h.c2, (hb.cell (p := ⟨b, o + 3, none⟩) hlt).trans h.c3, (hb.cell (p := ⟨b, o + 4, none⟩) hlt).trans h.c4, (hb.cell (p := ⟨b, o + 5, none⟩) hlt).trans h.c5, (hb.cell (p := ⟨b, o + 6, none⟩) hlt).trans h.c6⟩
/-- What a slice of values leads to. -/
inductive LayV (w : World) (n : Nat) : List M.Va → Value → Prop
  | nil_ {a : Option Addr} {cap : Nat} (hm : cap ≤ maxLen) : LayV w n [] (.slice a 0 cap)
  | row {vs : List M.Va} {b o cap : Nat} (U V : Nat → Value) (hb : b < n) (hc : vs.length ≤ cap) (hm : cap ≤ maxLen)
      (hN : ∀ (i : Nat) (N : Nat) (bs : List Bool) (us : List M.Va) (p : Int), vs[i]? = some (M.Va.mk N bs us p) → M.In N)
      (c : ∀ (i : Nat) (N : Nat) (bs : List Bool) (us : List M.Va) (p : Int), vs[i]? = some (M.Va.mk N bs us p) → Cells7 w b (o + i * 7) N (U i) (V i) p)
      (rb : ∀ (i : Nat) (N : Nat) (bs : List Bool) (us : List M.Va) (p : Int), vs[i]? = some (M.Va.mk N bs us p) → LayB w n bs (U i))
      (r : ∀ (i : Nat) (N : Nat) (bs : List Bool) (us : List M.Va) (p : Int), vs[i]? = some (M.Va.mk N bs us p) → LayV w n us (V i)) : LayV w n vs (.slice (some ⟨b, o, none⟩) vs.length cap)
theorem LayV.from_ {w W : World} {n : Nat} {vs : List M.Va} {v : Value} (h : LayV w n vs v) (hb : Below n w W) : LayV W n vs v := by
  induction h with
  | nil_ hm => exact .nil_ hm
  | row U V hlt hc hm hN c rb _ ih => exact .row U V hlt hc hm hN (fun i N bs us p e => (c i N bs us p e).from_ hb hlt) (fun i N bs us p e => (rb i N bs us p e).from_ hb) ih
theorem LayV.mono {w : World} {n m : Nat} {vs : List M.Va} {v : Value} (h : LayV w n vs v) (hnm : n ≤ m) : LayV w m vs v := by
  induction h with
  | nil_ hm => exact .nil_ hm
  | row U V hlt hc hm hN c rb _ ih => exact .row U V (by omega) hc hm hN c (fun i N bs us p e => (rb i N bs us p e).mono hnm) ih
theorem LayV.slice {w : World} {n : Nat} {vs : List M.Va} {v : Value} (h : LayV w n vs v) : ∃ a cap, v = .slice a vs.length cap ∧ vs.length ≤ cap ∧ cap ≤ maxLen := by
  cases h with
  | nil_ hm => exact ⟨_, _, rfl, Nat.zero_le _, hm⟩
  | row U V hlt hc hm hN c rb r => exact ⟨_, _, rfl, hc, hm⟩
/-- What a value is made of: its number, its bits, its values. -/
structure Vl (w : World) (n : Nat) (N : Nat) (bs : List Bool) (us : List M.Va) (ab : Option Addr) (cb : Nat) (au : Option Addr) (cu : Nat) : Prop where
  hN : M.In N
  b : LayB w n bs (.slice ab bs.length cb)
  v : LayV w n us (.slice au us.length cu)
theorem Vl.from_ {w W : World} {n N : Nat} {bs : List Bool} {us : List M.Va} {ab : Option Addr} {cb : Nat} {au : Option Addr} {cu : Nat} (h : Vl w n N bs us ab cb au cu) (hb : Below n w W) : Vl W n N bs us ab cb au cu := ⟨h.hN, h.b.from_ hb, h.v.from_ hb⟩
theorem Vl.mono {w : World} {n m N : Nat} {bs : List Bool} {us : List M.Va} {ab : Option Addr} {cb : Nat} {au : Option Addr} {cu : Nat} (h : Vl w n N bs us ab cb au cu) (hnm : n ≤ m) : Vl w m N bs us ab cb au cu := ⟨h.hN, h.b.mono hnm, h.v.mono hnm⟩
/-- One value of a slice. -/
theorem LayV.at_ {w : World} {n i : Nat} {vs : List M.Va} {a : Option Addr} {cap : Nat} (h : LayV w n vs (.slice a vs.length cap)) (hi : i < vs.length) : ∃ b o N bs us p ab cb au cu, a = some ⟨b, o, none⟩ ∧ b < n ∧ vs[i]? = some (.mk N bs us p) ∧
    Cells7 w b (o + i * 7) N (.slice ab bs.length cb) (.slice au us.length cu) p ∧ Vl w n N bs us ab cb au cu := by
  cases h with
  | nil_ hm => simp at hi
  | @row _ b o cap U V hlt hc hm hN c rb r =>
    obtain ⟨N, bs, us, p, e⟩ : ∃ N bs us p, vs[i]? = some (.mk N bs us p) := by
      rw [List.getElem?_eq_getElem hi]
      obtain ⟨N, bs, us, p⟩ := vs[i]
      exact ⟨N, bs, us, p, rfl⟩
    obtain ⟨au, cu, hV, _, _⟩ := (r i N bs us p e).slice
    obtain ⟨ab, cb, hU, _, _⟩ := (rb i N bs us p e).slice
    exact ⟨b, o, N, bs, us, p, ab, cb, au, cu, rfl, hlt, e, hU ▸ hV ▸ c i N bs us p e, hN i N bs us p e, hU ▸ rb i N bs us p e, hV ▸ r i N bs us p e⟩
/-- A value as a value. -/
abbrev vv (N : Nat) (u v : Value) (p : Int) : Value := .agg #[.int .u64 (M.pt 0 N), .int .u64 (M.pt 1 N), .int .u64 (M.pt 2 N), .int .u64 (M.pt 3 N), u, v, .int .i64 p]
theorem Cells7.new (w : World) (N : Nat) (u v : Value) (p : Int) (t : TypeId) : Cells7 (w.alloc (.cells #[.int .u64 (M.pt 0 N), .int .u64 (M.pt 1 N), .int .u64 (M.pt 2 N), .int .u64 (M.pt 3 N), u, v, .int .i64 p] t)) w.heap.size 0 N u v p :=
  ⟨by simp [go_sem], by simp [go_sem], by simp [go_sem], by simp [go_sem], by simp [go_sem], by simp [go_sem], by simp [go_sem]⟩
theorem size_va {vs : List M.Va} {i : Nat} {x : M.Va} (h : vs[i]? = some x) : SizeOf.sizeOf x < SizeOf.sizeOf vs := List.sizeOf_lt_of_mem (List.mem_of_getElem? h)
end Go.Proofs.YtgloapcfmlijlaaGreatDoor
namespace Go.Proofs.YtgloapcfmlijlaaGreatDoor.M
open Go

theorem row_next {α : Type} {xs : List α} {k : Nat} {x : α} (h : xs[k]? = some x) : xs.take (k + 1) = xs.take k ++ [x] := by rw [List.take_add_one, h]; rfl
theorem row_parts {α : Type} {xs : List α} {k : Nat} {x : α} (h : xs[k]? = some x) : ∃ ys, xs = xs.take k ++ x :: ys :=
  ⟨xs.drop (k + 1), by
    have hk := (List.getElem?_eq_some_iff.1 h).1
    have hx := (List.getElem?_eq_some_iff.1 h).2
    rw [← hx, ← List.drop_eq_getElem_cons hk, List.take_append_drop]⟩

theorem cntT_pos (x : Ty) : 1 ≤ cntT x := by cases x; rw [cntT]; omega
theorem length_cntT : ∀ xs : List Ty, xs.length ≤ cntTs xs
  | [] => Nat.zero_le _
  | x :: xs => by
    rw [cntTs, List.length_cons]
    have h1 := cntT_pos x
    have h2 := length_cntT xs
    omega
theorem cntTs_append (xs ys : List Ty) : cntTs (xs ++ ys) = cntTs xs + cntTs ys := by
  induction xs with
  | nil => simp [cntTs]
  | cons x xs ih => rw [List.cons_append, cntTs, cntTs, ih, Nat.add_assoc]
theorem cntTs_next {xs : List Ty} {k : Nat} {x : Ty} (h : xs[k]? = some x) : cntTs (xs.take (k + 1)) = cntTs (xs.take k) + cntT x := by
  rw [row_next h, cntTs_append]; simp [cntTs]
theorem cntT_part : ∀ {xs : List Ty} {x : Ty}, x ∈ xs → cntT x ≤ cntTs xs
  | y :: ys, x, h => by
    rw [cntTs]
    rcases List.mem_cons.1 h with rfl | h
    · omega
    · have := cntT_part h; omega
theorem cntV_pos (x : Va) : 1 ≤ cntV x := by cases x; rw [cntV]; omega
theorem length_cntV : ∀ xs : List Va, xs.length ≤ cntVs xs
  | [] => Nat.zero_le _
  | x :: xs => by
    rw [cntVs, List.length_cons]
    have h1 := cntV_pos x
    have h2 := length_cntV xs
    omega
theorem cntVs_append (xs ys : List Va) : cntVs (xs ++ ys) = cntVs xs + cntVs ys := by
  induction xs with
  | nil => simp [cntVs]
  | cons x xs ih => rw [List.cons_append, cntVs, cntVs, ih, Nat.add_assoc]
theorem cntVs_next {xs : List Va} {k : Nat} {x : Va} (h : xs[k]? = some x) : cntVs (xs.take (k + 1)) = cntVs (xs.take k) + cntV x := by
  rw [row_next h, cntVs_append]; simp [cntVs]
theorem cntV_part : ∀ {xs : List Va} {x : Va}, x ∈ xs → cntV x ≤ cntVs xs
  | y :: ys, x, h => by
    rw [cntVs]
    rcases List.mem_cons.1 h with rfl | h
    · omega
    · have := cntV_part h; omega

theorem chkTs_append (d : Nat) (xs ys : List Ty) : chkTs d (xs ++ ys) = if chkTs d xs ≠ 0 then chkTs d xs else chkTs d ys := by
  induction xs with
  | nil => simp [chkTs]
  | cons x xs ih =>
    rw [List.cons_append, chkTs, chkTs, ih]
    by_cases h1 : chkT d x ≠ 0
    · rw [if_pos h1, if_pos h1, if_pos h1]
    · rw [if_neg h1, if_neg h1]
theorem chkTs_next {d : Nat} {xs : List Ty} {k : Nat} {x : Ty} (h : xs[k]? = some x) (h0 : chkTs d (xs.take k) = 0) : chkTs d (xs.take (k + 1)) = chkT d x := by
  rw [row_next h, chkTs_append, h0, if_neg (by simp), chkTs, chkTs]
  by_cases h1 : chkT d x ≠ 0
  · rw [if_pos h1]
  · rw [if_neg h1]; omega
theorem chkTs_first {d : Nat} {xs : List Ty} {k : Nat} {x : Ty} (h : xs[k]? = some x) (h0 : chkTs d (xs.take k) = 0) (h1 : chkT d x ≠ 0) : chkTs d xs = chkT d x := by
  obtain ⟨ys, e⟩ := row_parts h
  rw [e, chkTs_append, h0, if_neg (by simp), chkTs, if_pos h1]
theorem fixTs_append (xs ys : List Ty) : fixTs (xs ++ ys) = (fixTs xs && fixTs ys) := by
  induction xs with
  | nil => simp [fixTs]
  | cons x xs ih =>
    rw [List.cons_append, fixTs, fixTs, ih]
    cases fixT x <;> simp
theorem fixTs_next {xs : List Ty} {k : Nat} {x : Ty} (h : xs[k]? = some x) (h0 : fixTs (xs.take k) = true) : fixTs (xs.take (k + 1)) = fixT x := by
  rw [row_next h, fixTs_append, h0, fixTs, fixTs]
  cases fixT x <;> rfl
theorem fixTs_first {xs : List Ty} {k : Nat} {x : Ty} (h : xs[k]? = some x) (h1 : fixT x = false) : fixTs xs = false := by
  obtain ⟨ys, e⟩ := row_parts h
  rw [e, fixTs_append, fixTs, h1]
  simp
theorem szTs_append (xs ys : List Ty) : szTs (xs ++ ys) = szTs xs + szTs ys := by
  induction xs with
  | nil => simp [szTs]
  | cons x xs ih => rw [List.cons_append, szTs, szTs, ih, Nat.add_assoc]
theorem szTs_next {xs : List Ty} {k : Nat} {x : Ty} (h : xs[k]? = some x) : szTs (xs.take (k + 1)) = szTs (xs.take k) + szT x := by
  rw [row_next h, szTs_append]; simp [szTs]
theorem szTs_part (xs : List Ty) (k : Nat) : szTs (xs.take k) ≤ szTs xs := by
  have := szTs_append (xs.take k) (xs.drop k)
  rw [List.take_append_drop] at this
  omega
theorem fitVs_append (k : Int) (ins : List Ty) (pick : Int) (i : Nat) (xs ys : List Va) : fitVs k ins pick i (xs ++ ys) = if fitVs k ins pick i xs ≠ 0 then fitVs k ins pick i xs else fitVs k ins pick (i + xs.length) ys := by
  induction xs generalizing i with
  | nil => simp [fitVs]
  | cons x xs ih =>
    rw [List.cons_append, fitVs, fitVs, ih]
    by_cases h1 : fitV (inT k ins pick i) x ≠ 0
    · rw [if_pos h1, if_pos h1, if_pos h1]
    · rw [if_neg h1, if_neg h1, List.length_cons, show i + 1 + xs.length = i + (xs.length + 1) by omega]
theorem fitVs_next {k : Int} {ins : List Ty} {pick : Int} {xs : List Va} {j : Nat} {x : Va} (h : xs[j]? = some x) (h0 : fitVs k ins pick 0 (xs.take j) = 0) : fitVs k ins pick 0 (xs.take (j + 1)) = fitV (inT k ins pick j) x := by
  have hk := (List.getElem?_eq_some_iff.1 h).1
  rw [row_next h, fitVs_append, h0, if_neg (by simp), fitVs, fitVs, List.length_take, show 0 + min j xs.length = j by omega]
  by_cases h1 : fitV (inT k ins pick j) x ≠ 0
  · rw [if_pos h1]
  · rw [if_neg h1]; omega
theorem fitVs_first {k : Int} {ins : List Ty} {pick : Int} {xs : List Va} {j : Nat} {x : Va} (h : xs[j]? = some x) (h0 : fitVs k ins pick 0 (xs.take j) = 0) (h1 : fitV (inT k ins pick j) x ≠ 0) : fitVs k ins pick 0 xs = fitV (inT k ins pick j) x := by
  have hk := (List.getElem?_eq_some_iff.1 h).1
  obtain ⟨ys, e⟩ := row_parts h
  have hl : (xs.take j).length = j := by rw [List.length_take]; omega
  generalize xs.take j = zs at *
  subst e
  rw [fitVs_append, h0, if_neg (by simp), fitVs, hl, Nat.zero_add, if_pos h1]
theorem sameVs_next : ∀ {xs ys : List Va} {k : Nat} {x y : Va}, xs[k]? = some x → ys[k]? = some y → sameVs (xs.take (k + 1)) (ys.take (k + 1)) = (sameVs (xs.take k) (ys.take k) && sameV x y)
  | [], _, _, _, _, h, _ => by simp at h
  | _ :: _, [], _, _, _, _, h => by simp at h
  | a :: xs, b :: ys, 0, x, y, h, h' => by
    simp at h h'
    subst h h'
    simp [sameVs]
  | a :: xs, b :: ys, k + 1, x, y, h, h' => by
    have := sameVs_next (xs := xs) (ys := ys) (by simpa using h) (by simpa using h')
    rw [List.take_succ_cons, List.take_succ_cons, sameVs, this, List.take_succ_cons, List.take_succ_cons, sameVs, Bool.and_assoc]
theorem sameVs_first : ∀ {xs ys : List Va} {k : Nat} {x y : Va}, xs[k]? = some x → ys[k]? = some y → sameV x y = false → sameVs xs ys = false
  | [], _, _, _, _, h, _, _ => by simp at h
  | _ :: _, [], _, _, _, _, h, _ => by simp at h
  | a :: xs, b :: ys, 0, x, y, h, h', hf => by
    simp at h h'
    subst h h'
    simp [sameVs, hf]
  | a :: xs, b :: ys, k + 1, x, y, h, h', hf => by
    have := sameVs_first (xs := xs) (ys := ys) (by simpa using h) (by simpa using h') hf
    rw [sameVs, this, Bool.and_false]
theorem bits_first : ∀ {xs ys : List Bool} {k : Nat} {x y : Bool}, xs[k]? = some x → ys[k]? = some y → x ≠ y → (xs == ys) = false := by
  intro xs ys k x y h h' hf
  rw [beq_eq_false_iff_ne]
  intro e
  subst e
  rw [h] at h'
  cases h'
  exact hf rfl
end Go.Proofs.YtgloapcfmlijlaaGreatDoor.M
