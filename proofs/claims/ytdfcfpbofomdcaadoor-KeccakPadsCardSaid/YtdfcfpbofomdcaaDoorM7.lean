/- Plain arithmetic: the rounds over 25 lanes, as lists of numbers; no two states have the same one behind a round. -/
namespace Go.Proofs.YtdfcfpbofomdcaaDoor.M

/-- Rotated up. -/
def rotN (n k : Nat) : Nat := (n <<< (k % 64) ||| n >>> (64 - k % 64)) % 18446744073709551616
def gl (a : List Nat) (i : Nat) : Nat := a.getD i 0
/-- 25 lanes of 64 bits. -/
def Lanes (a : List Nat) : Prop := a.length = 25 ∧ ∀ i, gl a i < 18446744073709551616
def lanesOf (f : Nat → Nat) : List Nat := (List.range 25).map f
def col (a : List Nat) (x : Nat) : Nat := gl a x ^^^ gl a (x + 5) ^^^ gl a (x + 10) ^^^ gl a (x + 15) ^^^ gl a (x + 20)
def mixL (a : List Nat) : List Nat := lanesOf fun i => gl a i ^^^ col a ((i % 5 + 4) % 5) ^^^ rotN (col a ((i % 5 + 1) % 5)) 1
def offs : List Nat := [0, 1, 62, 28, 27, 36, 44, 6, 55, 20, 3, 10, 43, 25, 39, 41, 45, 15, 21, 8, 18, 2, 61, 56, 14]
def turnL (a : List Nat) : List Nat := lanesOf fun i => rotN (gl a i) (gl offs i)
def moveL (a : List Nat) : List Nat := lanesOf fun j => gl a ((j % 5 + 3 * (j / 5)) % 5 + 5 * (j % 5))
def chiL (b : List Nat) : List Nat := lanesOf fun k => gl b k ^^^ ((gl b (k - k % 5 + (k % 5 + 1) % 5) ^^^ 18446744073709551615) &&& gl b (k - k % 5 + (k % 5 + 2) % 5))
def iotaL (n : Nat) (a : List Nat) : List Nat := lanesOf fun k => if k = 0 then gl a 0 ^^^ n else gl a k
def rcs : List Nat := [0x0000000000000001, 0x0000000000008082, 0x800000000000808A, 0x8000000080008000, 0x000000000000808B, 0x0000000080000001, 0x8000000080008081, 0x8000000000008009, 0x000000000000008A, 0x0000000000000088, 0x0000000080008009, 0x000000008000000A, 0x000000008000808B, 0x800000000000008B, 0x8000000000008089, 0x8000000000008003, 0x8000000000008002, 0x8000000000000080, 0x000000000000800A, 0x800000008000000A, 0x8000000080008081, 0x8000000000008080, 0x0000000080000001, 0x8000000080008008]
def rndL (n : Nat) (a : List Nat) : List Nat := iotaL n (chiL (moveL (turnL (mixL a))))
def permL (a : List Nat) : List Nat := rcs.foldl (fun a n => rndL n a) a

theorem gl_of (f : Nat → Nat) {i : Nat} (h : i < 25) : gl (lanesOf f) i = f i := by
  simp [gl, lanesOf, h]
theorem gl_out (f : Nat → Nat) {i : Nat} (h : 25 ≤ i) : gl (lanesOf f) i = 0 := by
  simp [gl, lanesOf, h]
theorem of_length (f : Nat → Nat) : (lanesOf f).length = 25 := by simp [lanesOf]
theorem lanes_of {f : Nat → Nat} (h : ∀ i, i < 25 → f i < 18446744073709551616) : Lanes (lanesOf f) := by
  refine ⟨of_length f, fun i => ?_⟩
  rcases Nat.lt_or_ge i 25 with hi | hi
  · rw [gl_of f hi]; exact h i hi
  · rw [gl_out f hi]; omega
theorem lanes_ext {a b : List Nat} (ha : a.length = 25) (hb : b.length = 25) (h : ∀ i, i < 25 → gl a i = gl b i) : a = b := by
  apply List.ext_getElem (by omega)
  intro i h1 h2
  have := h i (by omega)
  simpa [gl, h1, h2] using this

theorem xor_lt64 {a b : Nat} (ha : a < 18446744073709551616) (hb : b < 18446744073709551616) : a ^^^ b < 18446744073709551616 :=
  Nat.xor_lt_two_pow (n := 64) ha hb
theorem and_lt64 {a b : Nat} (hb : b < 18446744073709551616) : a &&& b < 18446744073709551616 := Nat.and_lt_two_pow (n := 64) a hb
theorem rot_lt (n k : Nat) : rotN n k < 18446744073709551616 := Nat.mod_lt _ (by omega)

/-- The bits of a lane that has been rotated. -/
theorem rot_bit {n : Nat} (hn : n < 18446744073709551616) (k i : Nat) (hi : i < 64) : (rotN n k).testBit i = n.testBit ((i + 64 - k % 64) % 64) := by
  unfold rotN
  rw [show (18446744073709551616 : Nat) = 2 ^ 64 from rfl, Nat.testBit_mod_two_pow, Nat.testBit_or, Nat.testBit_shiftLeft, Nat.testBit_shiftRight]
  have hk := Nat.mod_lt k (show 0 < 64 by omega)
  generalize k % 64 = q at hk
  simp only [hi, decide_true, Bool.true_and]
  by_cases h : q ≤ i
  · have e : (i + 64 - q) % 64 = i - q := by omega
    have e2 : n.testBit (64 - q + i) = false := Nat.testBit_lt_two_pow (Nat.lt_of_lt_of_le hn (show 2 ^ 64 ≤ 2 ^ (64 - q + i) from Nat.pow_le_pow_right (by omega) (by omega)))
    rw [e, e2]
    simp [h]
  · have e : (i + 64 - q) % 64 = 64 - q + i := by omega
    rw [e]
    simp [h]

theorem bits_ext {a b : Nat} (ha : a < 18446744073709551616) (hb : b < 18446744073709551616) (h : ∀ i, i < 64 → a.testBit i = b.testBit i) : a = b := by
  apply Nat.eq_of_testBit_eq
  intro i
  rcases Nat.lt_or_ge i 64 with hi | hi
  · exact h i hi
  · rw [Nat.testBit_lt_two_pow (Nat.lt_of_lt_of_le ha (show 2 ^ 64 ≤ 2 ^ i from Nat.pow_le_pow_right (by omega) hi)), Nat.testBit_lt_two_pow (Nat.lt_of_lt_of_le hb (show 2 ^ 64 ≤ 2 ^ i from Nat.pow_le_pow_right (by omega) hi))]

theorem rot_inj {m n k : Nat} (hm : m < 18446744073709551616) (hn : n < 18446744073709551616) (h : rotN m k = rotN n k) : m = n := by
  refine bits_ext hm hn fun i hi => ?_
  have e : (rotN m k).testBit ((i + k % 64) % 64) = (rotN n k).testBit ((i + k % 64) % 64) := by rw [h]
  rw [rot_bit hm k _ (Nat.mod_lt _ (by omega)), rot_bit hn k _ (Nat.mod_lt _ (by omega))] at e
  have hk := Nat.mod_lt k (show 0 < 64 by omega)
  have e2 : ((i + k % 64) % 64 + 64 - k % 64) % 64 = i := by omega
  rwa [e2] at e

/-! The columns: what is put to each lane tells the columns. -/

/-- A column's bits, going round. -/
def pb (c : Nat → Nat) (x z : Int) : Bool := (c (x % 5).toNat).testBit (z % 64).toNat
def pl (k : Int) (c : Int → Int → Bool) (x z : Int) : Bool := (c x z).xor ((c (x - k) z).xor (c (x + k) (z - k)))
theorem pl_two (k : Int) (c : Int → Int → Bool) : pl k (pl k c) = pl (k + k) c := by
  funext x z
  unfold pl
  rw [show x - k + k = x by omega, show x + k - k = x by omega, show x - k - k = x - (k + k) by omega, show x + k + k = x + (k + k) by omega, show z - k - k = z - (k + k) by omega]
  cases c x z <;> cases c (x - k) z <;> cases c (x + k) (z - k) <;> cases c x (z - k) <;> cases c (x - (k + k)) z <;> cases c (x + (k + k)) (z - (k + k)) <;> rfl
theorem pl_up {k : Int} {c d : Int → Int → Bool} (h : pl k c = pl k d) : pl (k + k) c = pl (k + k) d := by
  rw [← pl_two, ← pl_two, h]
/-- Going round by 5 and by 64. -/
def Round (c : Int → Int → Bool) : Prop := (∀ x z, c (x + 5) z = c x z) ∧ ∀ x z, c x (z + 64) = c x z
theorem pb_round (c : Nat → Nat) : Round (pb c) := by
  constructor <;> intro x z <;> unfold pb
  · rw [show (x + 5) % 5 = x % 5 by omega]
  · rw [show (z + 64) % 64 = z % 64 by omega]
theorem round_x {c : Int → Int → Bool} (h : Round c) (x z : Int) (n : Nat) : c (x + 5 * n) z = c x z := by
  induction n with
  | zero => simp
  | succ n ih => rw [show x + 5 * ((n + 1 : Nat) : Int) = x + 5 * (n : Int) + 5 by omega, h.1, ih]
theorem pl_64 {c : Int → Int → Bool} (h : Round c) (x z : Int) : pl 64 c x z = (c x z).xor ((c (x + 1) z).xor (c (x - 1) z)) := by
  unfold pl
  have e1 : c (x - 64) z = c (x + 1) z := by
    have := round_x h (x - 64) z 13
    rw [show x - 64 + 5 * ((13 : Nat) : Int) = x + 1 by omega] at this
    exact this.symm
  have e2 : c (x + 64) (z - 64) = c (x - 1) z := by
    have h1 := h.2 (x + 64) (z - 64)
    rw [show z - 64 + 64 = z by omega] at h1
    rw [← h1]
    have := round_x h (x - 1) z 13
    rw [show x - 1 + 5 * ((13 : Nat) : Int) = x + 64 by omega] at this
    exact this
  rw [e1, e2]
theorem pl_back {c : Int → Int → Bool} (h : Round c) (x z : Int) : c x z = (pl 64 c x z).xor ((pl 64 c (x + 2) z).xor (pl 64 c (x - 2) z)) := by
  rw [pl_64 h, pl_64 h, pl_64 h]
  have e1 : c (x + 2 + 1) z = c (x - 2) z := by
    have := h.1 (x - 2) z
    rw [show x - 2 + 5 = x + 2 + 1 by omega] at this
    exact this
  have e2 : c (x - 2 - 1) z = c (x + 2) z := by
    have := h.1 (x - 2 - 1) z
    rw [show x - 2 - 1 + 5 = x + 2 by omega] at this
    exact this.symm
  rw [e1, e2, show x + 2 - 1 = x + 1 by omega, show x - 2 + 1 = x - 1 by omega]
  cases c x z <;> cases c (x + 1) z <;> cases c (x - 1) z <;> cases c (x + 2) z <;> cases c (x - 2) z <;> rfl
theorem pl_inj {c d : Int → Int → Bool} (hc : Round c) (hd : Round d) (h : pl 1 c = pl 1 d) : c = d := by
  have h2 := pl_up h
  have h4 := pl_up h2
  have h8 := pl_up h4
  have h16 := pl_up h8
  have h32 := pl_up h16
  have h64 := pl_up h32
  replace h64 : pl 64 c = pl 64 d := h64
  funext x z
  rw [pl_back hc, pl_back hd, h64]

theorem col_lt {a : List Nat} (h : Lanes a) (x : Nat) : col a x < 18446744073709551616 :=
  xor_lt64 (xor_lt64 (xor_lt64 (xor_lt64 (h.2 _) (h.2 _)) (h.2 _)) (h.2 _)) (h.2 _)
theorem mix_lanes {a : List Nat} (h : Lanes a) : Lanes (mixL a) :=
  lanes_of fun _ _ => xor_lt64 (xor_lt64 (h.2 _) (col_lt h _)) (rot_lt _ _)
theorem mix_col (a : List Nat) (x : Nat) (hx : x < 5) : col (mixL a) x = col a x ^^^ (col a ((x + 4) % 5) ^^^ rotN (col a ((x + 1) % 5)) 1) := by
  have e : ∀ q, q < 5 → gl (mixL a) (x + 5 * q) = gl a (x + 5 * q) ^^^ (col a ((x + 4) % 5) ^^^ rotN (col a ((x + 1) % 5)) 1) := fun q hq => by
    unfold mixL
    rw [gl_of _ (by omega), show (x + 5 * q) % 5 = x by omega, Nat.xor_assoc]
  have e0 := e 0 (by omega)
  have e1 := e 1 (by omega)
  have e2 := e 2 (by omega)
  have e3 := e 3 (by omega)
  have e4 := e 4 (by omega)
  simp only [Nat.mul_zero, Nat.add_zero, Nat.mul_one, Nat.reduceMul] at e0 e1 e2 e3 e4
  unfold col at *
  rw [e0, e1, e2, e3, e4]
  generalize gl a ((x + 4) % 5) ^^^ gl a ((x + 4) % 5 + 5) ^^^ gl a ((x + 4) % 5 + 10) ^^^ gl a ((x + 4) % 5 + 15) ^^^ gl a ((x + 4) % 5 + 20) ^^^ _ = d
  apply Nat.eq_of_testBit_eq
  intro i
  simp only [Nat.testBit_xor]
  cases (gl a x).testBit i <;> cases (gl a (x + 5)).testBit i <;> cases (gl a (x + 10)).testBit i <;> cases (gl a (x + 15)).testBit i <;> cases (gl a (x + 20)).testBit i <;> cases d.testBit i <;> rfl

theorem cols_same {a b : List Nat} (ha : Lanes a) (hb : Lanes b) (h : ∀ x, x < 5 → col (mixL a) x = col (mixL b) x) (x : Nat) (hx : x < 5) : col a x = col b x := by
  have key : ∀ {a : List Nat}, Lanes a → ∀ x z : Int, pl 1 (pb (col a)) x z = (col (mixL a) (x % 5).toNat).testBit (z % 64).toNat := fun {a} ha x z => by
    rw [mix_col a _ (by omega), Nat.testBit_xor, Nat.testBit_xor, rot_bit (col_lt ha _) 1 _ (by omega)]
    unfold pl pb
    rw [show ((x - 1) % 5).toNat = ((x % 5).toNat + 4) % 5 by omega, show ((x + 1) % 5).toNat = ((x % 5).toNat + 1) % 5 by omega, show ((z - 1) % 64).toNat = ((z % 64).toNat + 64 - 1 % 64) % 64 by omega]
  have hp : pb (col a) = pb (col b) := by
    refine pl_inj (pb_round _) (pb_round _) ?_
    funext x z
    rw [key ha, key hb, h _ (by omega)]
  refine bits_ext (col_lt ha x) (col_lt hb x) fun i hi => ?_
  have := congrFun (congrFun hp (x : Int)) (i : Int)
  unfold pb at this
  rwa [show ((x : Int) % 5).toNat = x by omega, show ((i : Int) % 64).toNat = i by omega] at this

theorem xor_cancel {a b c : Nat} (h : a ^^^ c = b ^^^ c) : a = b := by
  have := congrArg (· ^^^ c) h
  simpa [Nat.xor_assoc] using this

theorem mix_inj {a b : List Nat} (ha : Lanes a) (hb : Lanes b) (h : mixL a = mixL b) : a = b := by
  have hc := cols_same ha hb (fun x _ => by rw [h])
  refine lanes_ext ha.1 hb.1 fun i hi => ?_
  have e : gl (mixL a) i = gl (mixL b) i := by rw [h]
  unfold mixL at e
  rw [gl_of _ hi, gl_of _ hi, hc _ (by omega), hc _ (by omega)] at e
  exact xor_cancel (xor_cancel e)

theorem turn_lanes (a : List Nat) : Lanes (turnL a) := lanes_of fun _ _ => rot_lt _ _
theorem turn_inj {a b : List Nat} (ha : Lanes a) (hb : Lanes b) (h : turnL a = turnL b) : a = b := by
  refine lanes_ext ha.1 hb.1 fun i hi => ?_
  have e : gl (turnL a) i = gl (turnL b) i := by rw [h]
  unfold turnL at e
  rw [gl_of _ hi, gl_of _ hi] at e
  exact rot_inj (ha.2 i) (hb.2 i) e

theorem move_lanes {a : List Nat} (ha : Lanes a) : Lanes (moveL a) := lanes_of fun _ _ => ha.2 _
theorem move_inj {a b : List Nat} (ha : Lanes a) (hb : Lanes b) (h : moveL a = moveL b) : a = b := by
  refine lanes_ext ha.1 hb.1 fun i hi => ?_
  have e : gl (moveL a) (i / 5 + 5 * ((2 * (i % 5) + 3 * (i / 5)) % 5)) = gl (moveL b) (i / 5 + 5 * ((2 * (i % 5) + 3 * (i / 5)) % 5)) := by rw [h]
  unfold moveL at e
  rw [gl_of _ (by omega), gl_of _ (by omega)] at e
  have hj : ∀ i : Fin 25, ((i.val / 5 + 5 * ((2 * (i.val % 5) + 3 * (i.val / 5)) % 5)) % 5 + 3 * ((i.val / 5 + 5 * ((2 * (i.val % 5) + 3 * (i.val / 5)) % 5)) / 5)) % 5 + 5 * ((i.val / 5 + 5 * ((2 * (i.val % 5) + 3 * (i.val / 5)) % 5)) % 5) = i.val := by decide
  rw [hj ⟨i, hi⟩] at e
  exact e

theorem chi_lanes {a : List Nat} (ha : Lanes a) : Lanes (chiL a) := lanes_of fun _ _ => xor_lt64 (ha.2 _) (and_lt64 (ha.2 _))
theorem chi_row : ∀ a0 a1 a2 a3 a4 b0 b1 b2 b3 b4 : Bool, (a0 ^^ (!a1 && a2)) = (b0 ^^ (!b1 && b2)) → (a1 ^^ (!a2 && a3)) = (b1 ^^ (!b2 && b3)) → (a2 ^^ (!a3 && a4)) = (b2 ^^ (!b3 && b4)) → (a3 ^^ (!a4 && a0)) = (b3 ^^ (!b4 && b0)) → (a4 ^^ (!a0 && a1)) = (b4 ^^ (!b0 && b1)) → a0 = b0 ∧ a1 = b1 ∧ a2 = b2 ∧ a3 = b3 ∧ a4 = b4 := by decide
theorem ones_bit {i : Nat} (hi : i < 64) : (18446744073709551615 : Nat).testBit i = true := by
  rw [show (18446744073709551615 : Nat) = 2 ^ 64 - 1 from rfl, Nat.testBit_two_pow_sub_one]
  simp [hi]
theorem chi_bit (a : List Nat) (q x i : Nat) (hq : q < 5) (hx : x < 5) (hi : i < 64) : (gl (chiL a) (5 * q + x)).testBit i = ((gl a (5 * q + x)).testBit i ^^ (!(gl a (5 * q + (x + 1) % 5)).testBit i && (gl a (5 * q + (x + 2) % 5)).testBit i)) := by
  unfold chiL
  rw [gl_of _ (by omega), show (5 * q + x) % 5 = x by omega, show 5 * q + x - x = 5 * q by omega, Nat.testBit_xor, Nat.testBit_and, Nat.testBit_xor, ones_bit hi, Bool.xor_true]
theorem chi_inj {a b : List Nat} (ha : Lanes a) (hb : Lanes b) (h : chiL a = chiL b) : a = b := by
  refine lanes_ext ha.1 hb.1 fun k hk => bits_ext (ha.2 k) (hb.2 k) fun i hi => ?_
  obtain ⟨q, x, hq, hx, rfl⟩ : ∃ q x, q < 5 ∧ x < 5 ∧ k = 5 * q + x := ⟨k / 5, k % 5, by omega, by omega, by omega⟩
  have e : ∀ x, x < 5 → ((gl a (5 * q + x)).testBit i ^^ (!(gl a (5 * q + (x + 1) % 5)).testBit i && (gl a (5 * q + (x + 2) % 5)).testBit i)) = ((gl b (5 * q + x)).testBit i ^^ (!(gl b (5 * q + (x + 1) % 5)).testBit i && (gl b (5 * q + (x + 2) % 5)).testBit i)) := fun x hx => by
    rw [← chi_bit a q x i hq hx hi, ← chi_bit b q x i hq hx hi, h]
  obtain ⟨r0, r1, r2, r3, r4⟩ := chi_row _ _ _ _ _ _ _ _ _ _ (e 0 (by omega)) (e 1 (by omega)) (e 2 (by omega)) (e 3 (by omega)) (e 4 (by omega))
  have : x = 0 ∨ x = 1 ∨ x = 2 ∨ x = 3 ∨ x = 4 := by omega
  rcases this with rfl | rfl | rfl | rfl | rfl
  · exact r0
  · exact r1
  · exact r2
  · exact r3
  · exact r4

theorem iota_lanes {a : List Nat} {n : Nat} (ha : Lanes a) (hn : n < 18446744073709551616) : Lanes (iotaL n a) := lanes_of fun k _ => by
  by_cases h : k = 0
  · simp only [h, if_true]; exact xor_lt64 (ha.2 _) hn
  · simp only [h, if_false]; exact ha.2 _
theorem iota_inj {a b : List Nat} {n : Nat} (ha : Lanes a) (hb : Lanes b) (h : iotaL n a = iotaL n b) : a = b := by
  refine lanes_ext ha.1 hb.1 fun i hi => ?_
  have e : gl (iotaL n a) i = gl (iotaL n b) i := by rw [h]
  unfold iotaL at e
  rw [gl_of _ hi, gl_of _ hi] at e
  by_cases h0 : i = 0
  · subst h0
    simp only [if_true] at e
    exact xor_cancel e
  · simpa only [h0, if_false] using e

theorem rnd_lanes (a : List Nat) {n : Nat} (hn : n < 18446744073709551616) : Lanes (rndL n a) := iota_lanes (chi_lanes (move_lanes (turn_lanes _))) hn
theorem rnd_inj {a b : List Nat} {n : Nat} (ha : Lanes a) (hb : Lanes b) (h : rndL n a = rndL n b) : a = b := by
  unfold rndL at h
  exact mix_inj ha hb (turn_inj (mix_lanes ha) (mix_lanes hb) (move_inj (turn_lanes _) (turn_lanes _) (chi_inj (move_lanes (turn_lanes _)) (move_lanes (turn_lanes _)) (iota_inj (chi_lanes (move_lanes (turn_lanes _))) (chi_lanes (move_lanes (turn_lanes _))) h))))
theorem rnds_lanes (l : List Nat) (hl : ∀ n ∈ l, n < 18446744073709551616) : ∀ {a : List Nat}, Lanes a → Lanes (l.foldl (fun a n => rndL n a) a) := by
  induction l with
  | nil => exact fun ha => ha
  | cons n l ih => exact fun _ => ih (fun m hm => hl m (by simp [hm])) (rnd_lanes _ (hl n (by simp)))
theorem rnds_inj (l : List Nat) (hl : ∀ n ∈ l, n < 18446744073709551616) : ∀ {a b : List Nat}, Lanes a → Lanes b → l.foldl (fun a n => rndL n a) a = l.foldl (fun a n => rndL n a) b → a = b := by
  induction l with
  | nil => exact fun _ _ h => h
  | cons n l ih =>
    intro a b ha hb h
    have hn := hl n (by simp)
    exact rnd_inj ha hb (ih (fun m hm => hl m (by simp [hm])) (rnd_lanes _ hn) (rnd_lanes _ hn) h)
theorem rcs_lt : ∀ n ∈ rcs, n < 18446744073709551616 := by decide
theorem perm_lanes {a : List Nat} (ha : Lanes a) : Lanes (permL a) := rnds_lanes rcs rcs_lt ha
theorem perm_inj {a b : List Nat} (ha : Lanes a) (hb : Lanes b) (h : permL a = permL b) : a = b := rnds_inj rcs rcs_lt ha hb h
theorem perm_zero : gl (permL (List.replicate 25 0)) 0 = 0xF1258F7940E1DDE7 := by decide +kernel
end Go.Proofs.YtdfcfpbofomdcaaDoor.M
