/- unrlp: isList, longOf, lengthOf, ownOf, Head, Next. -/
import Derived.Test.YtgeeoefcepjniaaH1
import Derived.Test.YtgeeoefcepjniaaD0
import Derived.Laws.Bits64b
namespace Go.Proofs.Ytgeeoefcepjniaa
open Go Go.RowKit

theorem drop_head (s : List UInt8) (k : Nat) (c : UInt8) (h : s[k]? = some c) : (s.drop k).headD 0 = c := by
  rw [List.headD_eq_head?_getD, List.head?_drop, h]
  rfl

/-- What a length in m bytes tells. -/
def lg (r : List UInt8) (m : Nat) : Nat × Nat × Nat :=
  if 3 < m then (0, 0, 5) else if r.length < m then (0, 0, 3) else if r.headD 0 = 0 ∨ M.dg (r.take m) < 56 then (0, 0, 8) else (1 + m, M.dg (r.take m), 0)

theorem or_byte {n : Nat} (c : UInt8) (h : n < 65536) : bits BinOp.or IntKind.i64 ((n : Int) * 256) (wrap64 ((c.toNat : Nat) : Int)) = ((n * 256 + c.toNat : Nat) : Int) := by
  have hc := c.toNat_lt
  have e1 : (n : Int) * 256 = ((n * 256 : Nat) : Int) := by omega
  rw [e1, wrap_byte]
  have h1 : (BitVec.ofInt 64 ((n * 256 : Nat) : Int)).toNat = n * 256 := by
    rw [BitVec.ofInt_natCast, BitVec.toNat_ofNat]; exact Nat.mod_eq_of_lt (by omega)
  have h2 : (BitVec.ofInt 64 ((c.toNat : Nat) : Int)).toNat = c.toNat := by
    rw [BitVec.ofInt_natCast, BitVec.toNat_ofNat]; exact Nat.mod_eq_of_lt (by omega)
  have h3 : n * 256 ||| c.toNat = n * 256 + c.toNat := by
    have := Nat.shiftLeft_add_eq_or_of_lt (i := 8) (b := c.toNat) (by omega) n
    rw [Nat.shiftLeft_eq] at this
    rw [← this]
  show IntKind.i64.wrap ((BitVec.ofInt 64 ((n * 256 : Nat) : Int) ||| BitVec.ofInt 64 ((c.toNat : Nat) : Int)).toNat : Int) = _
  rw [BitVec.toNat_or, h1, h2, h3]
  rw [IntKind.wrap_i64]
  omega

/-- How much there is, be it there or not. -/
def ln : List UInt8 → Nat × Nat × Nat
  | [] => (0, 0, 3)
  | c :: r =>
    if c.toNat < 128 then (0, 1, 0) else if c.toNat < 184 then (1, c.toNat - 128, 0) else if c.toNat < 192 then lg r (c.toNat - 183)
    else if c.toNat < 248 then (1, c.toNat - 192, 0) else lg r (c.toNat - 247)

/-- A head's parts, out of the length's. -/
theorem lg_ok {r : List UInt8} {m : Nat} (h : (lg r m).2.2 = 0) : m ≤ 3 ∧ m ≤ r.length ∧ lg r m = (1 + m, M.dg (r.take m), 0) ∧ ∀ l, M.hdLong r m l = if r.length < m + M.dg (r.take m) then M.hdErr 3 else ⟨1 + m, M.dg (r.take m), l, 0⟩ := by
  unfold lg at h ⊢
  by_cases h1 : 3 < m
  · rw [if_pos h1] at h; cases h
  · rw [if_neg h1] at h ⊢
    by_cases h2 : r.length < m
    · rw [if_pos h2] at h; cases h
    · rw [if_neg h2] at h ⊢
      by_cases h3 : r.headD 0 = 0 ∨ M.dg (r.take m) < 56
      · rw [if_pos h3] at h; cases h
      · rw [if_neg h3]
        refine ⟨by omega, by omega, rfl, fun l => ?_⟩
        unfold M.hdLong
        rw [if_neg h1, if_neg h2, if_neg h3]
theorem lg_no {r : List UInt8} {m : Nat} (h : (lg r m).2.2 ≠ 0) : lg r m = (0, 0, (lg r m).2.2) ∧ ∀ l, M.hdLong r m l = M.hdErr (lg r m).2.2 := by
  unfold lg at h ⊢
  unfold M.hdLong
  by_cases h1 : 3 < m
  · simp [h1]
  · by_cases h2 : r.length < m
    · simp [h1, h2]
    · by_cases h3 : r.headD 0 = 0 ∨ M.dg (r.take m) < 56
      · simp only [if_neg h1, if_neg h2, if_pos h3, implies_true, and_self]
      · rw [if_neg h1, if_neg h2, if_neg h3] at h; exact absurd rfl h

structure LnOk (t : List UInt8) : Prop where
  le : (ln t).1 ≤ t.length
  four : (ln t).1 ≤ 4
  few : (ln t).2.1 < 16777216
  short : t.length < (ln t).1 + (ln t).2.1 → M.hdT t = M.hdErr 3
  spare : ¬ t.length < (ln t).1 + (ln t).2.1 → (ln t).1 = 1 ∧ t.headD 0 = 129 ∧ ((t.drop 1).headD 0).toNat < 128 → M.hdT t = M.hdErr 8
  ok : ¬ t.length < (ln t).1 + (ln t).2.1 → ¬ ((ln t).1 = 1 ∧ t.headD 0 = 129 ∧ ((t.drop 1).headD 0).toNat < 128) → M.hdT t = ⟨(ln t).1, (ln t).2.1, decide (192 ≤ (t.headD 0).toNat), 0⟩
theorem ln_no {t : List UInt8} (h : (ln t).2.2 ≠ 0) : ln t = (0, 0, (ln t).2.2) ∧ M.hdT t = M.hdErr (ln t).2.2 := by
  cases t with
  | nil => exact ⟨rfl, rfl⟩
  | cons c r =>
    have hc := c.toNat_lt
    by_cases h1 : c.toNat < 128
    · have hp : ln (c :: r) = (0, 1, 0) := by rw [ln, if_pos h1]
      rw [hp] at h; exact absurd rfl h
    · by_cases h2 : c.toNat < 184
      · have hp : ln (c :: r) = (1, c.toNat - 128, 0) := by rw [ln, if_neg h1, if_pos h2]
        rw [hp] at h; exact absurd rfl h
      · by_cases h3 : c.toNat < 192
        · have hp : ln (c :: r) = lg r (c.toNat - 183) := by rw [ln, if_neg h1, if_neg h2, if_pos h3]
          rw [hp] at h ⊢
          obtain ⟨e1, e2⟩ := lg_no h
          refine ⟨e1, ?_⟩
          rw [M.hdT, if_neg h1, if_neg h2, if_pos h3, e2]
        · by_cases h4 : c.toNat < 248
          · have hp : ln (c :: r) = (1, c.toNat - 192, 0) := by rw [ln, if_neg h1, if_neg h2, if_neg h3, if_pos h4]
            rw [hp] at h; exact absurd rfl h
          · have hp : ln (c :: r) = lg r (c.toNat - 247) := by rw [ln, if_neg h1, if_neg h2, if_neg h3, if_neg h4]
            rw [hp] at h ⊢
            obtain ⟨e1, e2⟩ := lg_no h
            refine ⟨e1, ?_⟩
            rw [M.hdT, if_neg h1, if_neg h2, if_neg h3, if_neg h4, e2]
theorem dg_few {r : List UInt8} {m : Nat} (h : m ≤ 3) : M.dg (r.take m) < 16777216 := Nat.lt_of_lt_of_le (M.dg_lt _) (by
  rw [List.length_take]
  calc 256 ^ (min m r.length) ≤ 256 ^ 3 := Nat.pow_le_pow_right (by omega) (by omega)
    _ = 16777216 := by decide)
set_option maxRecDepth 100000 in
theorem ln_yes {t : List UInt8} (h : (ln t).2.2 = 0) : LnOk t := by
  cases t with
  | nil => cases h
  | cons c r =>
    have hc := c.toNat_lt
    have hn : c ≠ 129 → ¬ ((c :: r).headD 0 = 129) := fun h h' => h h'
    have h129 : c = 129 ↔ c.toNat = 129 := ⟨fun h => by rw [h]; rfl, fun h => by rw [← UInt8.ofNat_toNat (x := c), h]; rfl⟩
    by_cases h1 : c.toNat < 128
    · have hp : ln (c :: r) = (0, 1, 0) := by rw [ln, if_pos h1]
      have hq : M.hdT (c :: r) = ⟨0, 1, false, 0⟩ := by rw [M.hdT, if_pos h1]
      constructor <;> simp only [hp, hq, List.length_cons, List.headD_cons]
      · omega
      · omega
      · omega
      · intro h; omega
      · intro _ h; omega
      · intro _ _; exact congrArg (fun b => (⟨_, _, b, 0⟩ : M.Hd)) (decide_eq_false (by show ¬ 192 ≤ c.toNat; omega)).symm
    · by_cases h2 : c.toNat < 184
      · have hp : ln (c :: r) = (1, c.toNat - 128, 0) := by rw [ln, if_neg h1, if_pos h2]
        have hq : M.hdT (c :: r) = if r.length < c.toNat - 128 then M.hdErr 3 else if c.toNat = 129 ∧ (r.headD 0).toNat < 128 then M.hdErr 8 else ⟨1, c.toNat - 128, false, 0⟩ := by rw [M.hdT, if_neg h1, if_pos h2]
        constructor <;> simp only [hp, hq, List.length_cons, List.headD_cons, List.drop_succ_cons, List.drop_zero]
        · omega
        · omega
        · omega
        · intro h; rw [if_pos (by omega)]
        · rintro h ⟨_, h5, h6⟩; rw [if_neg (by omega), if_pos ⟨h129.1 h5, h6⟩]
        · intro h h5
          rw [if_neg (by omega), if_neg (fun h6 => h5 ⟨trivial, h129.2 h6.1, h6.2⟩)]
          exact congrArg (fun b => (⟨_, _, b, 0⟩ : M.Hd)) (decide_eq_false (by show ¬ 192 ≤ c.toNat; omega)).symm
      · have hne : c ≠ 129 := fun h => by rw [h] at h2; exact h2 (by decide)
        by_cases h3 : c.toNat < 192
        · have hp : ln (c :: r) = lg r (c.toNat - 183) := by rw [ln, if_neg h1, if_neg h2, if_pos h3]
          have hq : M.hdT (c :: r) = M.hdLong r (c.toNat - 183) false := by rw [M.hdT, if_neg h1, if_neg h2, if_pos h3]
          rw [hp] at h
          obtain ⟨e1, e2, e3, e4⟩ := lg_ok h
          have hd := dg_few (r := r) e1
          constructor <;> simp only [hp, hq, e3, e4, List.length_cons, List.headD_cons]
          · omega
          · omega
          · omega
          · intro h; rw [if_pos (by omega)]
          · rintro h ⟨_, h5, h6⟩; exact absurd h5 hne
          · intro h h5
            rw [if_neg (by omega)]
            exact congrArg (fun b => (⟨_, _, b, 0⟩ : M.Hd)) (decide_eq_false (by show ¬ 192 ≤ c.toNat; omega)).symm
        · by_cases h4 : c.toNat < 248
          · have hp : ln (c :: r) = (1, c.toNat - 192, 0) := by rw [ln, if_neg h1, if_neg h2, if_neg h3, if_pos h4]
            have hq : M.hdT (c :: r) = if r.length < c.toNat - 192 then M.hdErr 3 else ⟨1, c.toNat - 192, true, 0⟩ := by rw [M.hdT, if_neg h1, if_neg h2, if_neg h3, if_pos h4]
            constructor <;> simp only [hp, hq, List.length_cons, List.headD_cons]
            · omega
            · omega
            · omega
            · intro h; rw [if_pos (by omega)]
            · rintro h ⟨_, h5, h6⟩; exact absurd h5 hne
            · intro h h5
              rw [if_neg (by omega)]
              exact congrArg (fun b => (⟨_, _, b, 0⟩ : M.Hd)) (decide_eq_true (by show 192 ≤ c.toNat; omega)).symm
          · have hp : ln (c :: r) = lg r (c.toNat - 247) := by rw [ln, if_neg h1, if_neg h2, if_neg h3, if_neg h4]
            have hq : M.hdT (c :: r) = M.hdLong r (c.toNat - 247) true := by rw [M.hdT, if_neg h1, if_neg h2, if_neg h3, if_neg h4]
            rw [hp] at h
            obtain ⟨e1, e2, e3, e4⟩ := lg_ok h
            have hd := dg_few (r := r) e1
            constructor <;> simp only [hp, hq, e3, e4, List.length_cons, List.headD_cons]
            · omega
            · omega
            · omega
            · intro h; rw [if_pos (by omega)]
            · rintro h ⟨_, h5, h6⟩; exact absurd h5 hne
            · intro h h5
              rw [if_neg (by omega)]
              exact congrArg (fun b => (⟨_, _, b, 0⟩ : M.Hd)) (decide_eq_true (by show 192 ≤ c.toNat; omega)).symm
theorem ln_129 (r : List UInt8) : ln (129 :: r) = (1, 1, 0) := rfl

theorem hdT_list_flag {t : List UInt8} (h : (M.hdT t).e = 0) : (M.hdT t).list = decide (192 ≤ (t.headD 0).toNat) := by
  obtain ⟨_, _, _, h1, h2⟩ := M.hdT_ok h
  cases hl : (M.hdT t).list with
  | true => exact (decide_eq_true (h1 hl).2.1).symm
  | false =>
    refine (decide_eq_false ?_).symm
    have := ln_no (t := t)
    by_cases h0 : (ln t).2.2 = 0
    · obtain ⟨_, _, _, hsh, hsp, hok⟩ := ln_yes h0
      by_cases hlt : t.length < (ln t).1 + (ln t).2.1
      · rw [hsh hlt] at h; cases h
      · by_cases hx : (ln t).1 = 1 ∧ t.headD 0 = 129 ∧ ((t.drop 1).headD 0).toNat < 128
        · rw [hsp hlt hx] at h; cases h
        · rw [hok hlt hx] at hl
          exact of_decide_eq_false hl
    · rw [(this h0).2] at h
      exact absurd h h0

theorem results_four {fn : Func} {a b c d : Tmp} (h : fn.results = #[.tmp a, .tmp b, .tmp c, .tmp d]) (tmps : Array Value) (P : Program) (w : World) :
    (results fn tmps).run P w = .ok (.tuple #[tmps.getD a undef, tmps.getD b undef, tmps.getD c undef, tmps.getD d undef]) w := by
  simp [results, h]

end Go.Proofs.Ytgeeoefcepjniaa
