/- num.digits: what its function tells, one digit after the other. -/
import Derived.Test.YtmcchfgblecgoaaDoorN2
import Derived.Test.YtmcchfgblecgoaaDoorW8
import Derived.IntWalk
import Derived.Laws.Bits64b
namespace Go.Proofs.YtmcchfgblecgoaaDoor
open Go Go.RowKit Go.Shelf
attribute [local go_sem] Oper.semAt_some

/-- Digit i of S bits. -/
def digN (S N i : Nat) : Nat := N / 2 ^ (S * i) % 2 ^ S

theorem mask_is (S : Nat) (hS : S = 7 ∨ S = 8) : IntKind.u64.wrap (2 ^ (S : Int).toNat) = ((2 ^ S : Nat) : Int) ∧ IntKind.u64.wrap (((2 ^ S : Nat) : Int) - 1) = ((2 ^ S - 1 : Nat) : Int) := by
  rcases hS with rfl | rfl <;> decide

theorem shift_is (S N j : Nat) (hN : N < 18446744073709551616) : (N : Int) / 2 ^ min ((S * j : Nat) : Int).toNat 64 = ((N / 2 ^ (S * j) : Nat) : Int) := by
  rw [Int.toNat_natCast]
  rcases Nat.le_total (S * j) 64 with h | h
  · rw [Nat.min_eq_left h]
    simp
  · rw [Nat.min_eq_right h]
    have e1 : N / 2 ^ (S * j) = 0 := Nat.div_eq_of_lt (Nat.lt_of_lt_of_le hN (show 2 ^ 64 ≤ 2 ^ (S * j) from Nat.pow_le_pow_right (by omega) h))
    rw [e1]
    omega

theorem digit_is (S N j : Nat) (hS : S = 7 ∨ S = 8) (hN : N < 18446744073709551616) : bits BinOp.and IntKind.u64 ((N / 2 ^ (S * j) : Nat) : Int) ((2 ^ S - 1 : Nat) : Int) = ((digN S N j : Nat) : Int) := by
  have h1 : N / 2 ^ (S * j) < 18446744073709551616 := Nat.lt_of_le_of_lt (Nat.div_le_self _ _) hN
  rw [bits_and_u64_nat _ _ h1 (by rcases hS with rfl | rfl <;> decide), Nat.and_two_pow_sub_one_eq_mod]
  rfl

theorem digN_lt (S N j : Nat) (hS : S = 7 ∨ S = 8) : digN S N j < 256 := by
  unfold digN
  rcases hS with rfl | rfl <;> omega

theorem step_is (S j : Nat) (hS : S = 7 ∨ S = 8) (hj : j ≤ 10) : IntKind.i64.wrap ((S : Int) * (j : Int)) = ((S * j : Nat) : Int) := by
  have h : (S : Int) * (j : Int) = ((S * j : Nat) : Int) := by simp
  rw [h]
  have h2 : S * j ≤ 80 := by rcases hS with rfl | rfl <;> omega
  generalize S * j = q at h2
  exact IntWalk.i64_in _ (by omega)

theorem wpIn_mono' {F : Fence} {n : Nat} {P : Program} {c : Code} {R : Act → World → Prop} {Q : Exit → Act → World → Prop} {a : Act} {w : World} (h : c.wpIn F n P (nrm R) a w) (hQ : ∀ b u, R b u → Q .normal b u) : c.wpIn F n P Q a w :=
  wpIn_mono h (fun e b u h => by cases e <;> first | exact hQ _ _ h | exact h.elim)

set_option maxRecDepth 100000 in
set_option maxHeartbeats 4000000 in
theorem digits_run (n N k S : Nat) (s : Int) (hs : s = S) (hS : S = 7 ∨ S = 8) (hN : N < 18446744073709551616) (hk1 : 1 ≤ k) (hk : k ≤ 10) (hne : ∀ i, 1 ≤ i → i < k → N / 2 ^ (S * i) ≠ 0) (hz : N / 2 ^ (S * k) = 0) (l bn bs : Nat) (J : List Nat → World → Prop)
    (hJ : ∀ pre W, J pre W → W.cell? ⟨bn, 0, none⟩ = some (.int .u64 N) ∧ W.cell? ⟨bs, 0, none⟩ = some (.int .i64 s)) (hd : ∀ pre W, J pre W → J pre W.drew)
    (hY : ∀ i W, i < k → J (List.range i) W → YieldAt Fence.wide n Tryd.prog l #[.int .i64 i, .int .u8 ((digN S N i : Nat) : Int)] W fun e W' => e = .returned (.bool true) ∧ J (List.range (i + 1)) W')
    (W : World) (h0 : J [] W) :
    CallsIn Fence.wide (n + 1) Tryd.prog 26 #[.func (.yield l) #[] #[], .pointer (some ⟨bn, 0, none⟩), .pointer (some ⟨bs, 0, none⟩)] W fun e W' => (∃ v, e = .returned v) ∧ J (List.range k) W' := by
  have HN := Lib.hid hne
  have HZ := Lib.hid hz
  have HJ := Lib.hid hJ
  have HD := Lib.hid hd
  have HS := Lib.hid hS
  have HE := Lib.hid hs
  have HL := Lib.hid hN
  have HY := Lib.hid hY
  clear hne hz hJ hd hS hs hN hY
  have hro : Fence.wide.round = none := rfl
  refine callsIn_of_wp Tryd.func26 rfl trivial ?_ rfl
  simp only [Tryd.ntmps26, List.size_toArray, List.length_cons, List.length_nil, Nat.reduceAdd, Nat.reduceSub, Array.replicate_succ, Array.replicate_zero, List.push_toArray, List.append_toArray, List.nil_append, List.cons_append]
  gi_wp2
  gi_loopw [4] (fun i wr => ∃ j : Nat, j ≤ k ∧ i = .int .i64 j ∧ J (List.range j) wr) (fun i _ => k - (intOf i).toNat)
  case atStart => exact ⟨0, Nat.zero_le _, rfl, h0⟩
  case round =>
    obtain ⟨j, hj, rfl, hJs⟩ := hrel
    obtain ⟨cn, cs⟩ := HJ.out _ _ hJs
    obtain ⟨q, hq⟩ : ∃ q, q = ((S * j : Nat) : Int) := ⟨_, rfl⟩
    obtain ⟨V, hV⟩ : ∃ V, V = ((N / 2 ^ (S * j) : Nat) : Int) := ⟨_, rfl⟩
    have f1 : IntKind.i64.wrap (s * (j : Int)) = q := by rw [HE.out, hq]; exact step_is S j HS.out (by omega)
    have f2 : (N : Int) / 2 ^ min q.toNat 64 = V := by rw [hq, hV]; exact shift_is S N j HL.out
    have f3 : 0 ≤ q := by rw [hq]; omega
    have HQ := Lib.hid hq
    have HV := Lib.hid hV
    clear hq hV
    by_cases hlt : j < k
    · have fin := digits_reg n l bn bs j N s q V ((2 ^ S : Nat) : Int) ((2 ^ S - 1 : Nat) : Int) ((digN S N j : Nat) : Int) wr
      by_cases hj0 : j = 0
      · have hb : (((j : Nat) : Int) == 0) = true := by simp; omega
        gi_wp2
        refine wpIn_mono' (fin _ _ _ _ _ _ _ _ _ _ _ _ _ _ _ _ _ _ _ _ _ _ _ _ _ _ _ _ (by kernel_rfl) _ cn cs f1 f3 (by rcases HS.out with h | h <;> rw [HE.out, h] <;> decide) (by rcases HS.out with h | h <;> rw [HE.out, h] <;> decide) f2 (by rw [HE.out]; exact (mask_is S HS.out).1) (mask_is S HS.out).2 (by rw [HV.out]; exact digit_is S N j HS.out HL.out) (by rw [wrap8_nat, Nat.mod_eq_of_lt (digN_lt S N j HS.out)]) (HY.out j wr.drew hlt (HD.out _ _ hJs))) ?_
        rintro b u ⟨⟨t17, t18, t19, t20, t21, t22, t23, t24, t25, t26, t27, t28, rfl⟩, hJ3⟩
        clear fin
        gi_wp2
        go_roundw
        case rel => exact ⟨j + 1, by omega, by simp <;> omega, hJ3⟩
        case measure => simp [intOf]; omega
      · have hb : (((j : Nat) : Int) == 0) = false := by simp; omega
        have hp : (V != 0) = true := by
          have := HN.out j (by omega) hlt
          rw [HV.out]
          simp only [bne_iff_ne, ne_eq]
          omega
        gi_wp2
        refine wpIn_mono' (fin _ _ _ _ _ _ _ _ _ _ _ _ _ _ _ _ _ _ _ _ _ _ _ _ _ _ _ _ (by kernel_rfl) _ cn cs f1 f3 (by rcases HS.out with h | h <;> rw [HE.out, h] <;> decide) (by rcases HS.out with h | h <;> rw [HE.out, h] <;> decide) f2 (by rw [HE.out]; exact (mask_is S HS.out).1) (mask_is S HS.out).2 (by rw [HV.out]; exact digit_is S N j HS.out HL.out) (by rw [wrap8_nat, Nat.mod_eq_of_lt (digN_lt S N j HS.out)]) (HY.out j wr.drew hlt (HD.out _ _ hJs))) ?_
        rintro b u ⟨⟨t17, t18, t19, t20, t21, t22, t23, t24, t25, t26, t27, t28, rfl⟩, hJ3⟩
        clear fin
        gi_wp2
        go_roundw
        case rel => exact ⟨j + 1, by omega, by simp <;> omega, hJ3⟩
        case measure => simp [intOf]; omega
    · obtain rfl : j = k := by omega
      have hb : (((j : Nat) : Int) == 0) = false := by simp; omega
      have hp : (V != 0) = false := by rw [HV.out, HZ.out]; rfl
      gi_wp2
      go_end0
      exact ⟨⟨_, rfl⟩, hJs⟩
end Go.Proofs.YtmcchfgblecgoaaDoor
