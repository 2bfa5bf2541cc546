/- The reference's rot, bit and number. -/
import Derived.Test.YtdfcfpbofomdcaaDoorQ1
namespace Go.Proofs.YtdfcfpbofomdcaaDoor
open Go Go.RowKit

theorem rot_zero {n k : Nat} (hn : n < 18446744073709551616) (hk : k % 64 = 0) : M.rotN n k = n := by
  unfold M.rotN
  rw [hk]
  have e : n >>> 64 = 0 := by rw [Nat.shiftRight_eq_div_pow]; exact Nat.div_eq_of_lt (by omega)
  simp [e]
  omega
theorem rot_mod (n k : Nat) : M.rotN n (k % 64) = M.rotN n k := by unfold M.rotN; rw [Nat.mod_mod]

set_option maxRecDepth 100000 in
set_option maxHeartbeats 2000000 in
theorem rrot (n k : Nat) (w : World) (hn : n < 18446744073709551616) (hk : k < 1000) :
    Calls Tryd.prog 25 #[.int .u64 (n : Int), .int .i64 (k : Int)] w fun e w' => e = .returned (.int .u64 ((M.rotN n k : Nat) : Int)) ∧ w = w' := by
  have HN := Lib.hid hn
  clear hn
  by_cases h0 : k % 64 = 0
  · have hz : (((k : Int) % 64) == 0) = true := by simp; omega
    have HZ := Lib.hid h0
    clear h0
    go_enter Tryd.func25, Tryd.ntmps25
    go_wp2_with fail
    go_ret
    rw [rot_zero HN.out HZ.out]
    exact ⟨rfl, rfl⟩
  · have hz : (((k : Int) % 64) == 0) = false := by simp; omega
    have h1 : (0 : Int) < (k : Int) % 64 := by omega
    have h2 : (k : Int) % 64 < 64 := by omega
    have HZ := Lib.hid h0
    clear h0
    obtain ⟨q, hq⟩ : ∃ q, q = (k : Int) % 64 := ⟨_, rfl⟩
    go_enter Tryd.func25, Tryd.ntmps25
    go_wp2_with fail
    go_ret
    rw [M.rot_model HN.out (by omega), rot_mod]
    exact ⟨rfl, rfl⟩

/-- What a round's numbers are made of. -/
def bitR : Nat → Nat
  | 0 => 1
  | k + 1 => if 256 ≤ bitR k * 2 then (bitR k * 2) ^^^ 369 else bitR k * 2
theorem bitR_lt (k : Nat) : bitR k < 256 := by
  induction k with
  | zero => decide
  | succ k ih =>
    unfold bitR
    by_cases h : 256 ≤ bitR k * 2
    · rw [if_pos h]
      have : ∀ r : Fin 256, 256 ≤ r.val * 2 → (r.val * 2) ^^^ 369 < 256 := by decide +kernel
      exact this ⟨_, ih⟩ h
    · rw [if_neg h]; omega
theorem bitR_yes {k : Nat} (h : 256 ≤ bitR k * 2) : bits .xor .i64 (((bitR k : Nat) : Int) * 2) 369 = ((bitR (k + 1) : Nat) : Int) := by
  have e : bitR (k + 1) = (bitR k * 2) ^^^ 369 := by rw [bitR, if_pos h]
  rw [e]
  have : ∀ r : Fin 256, bits .xor .i64 (((r.val : Nat) : Int) * 2) 369 = (((r.val * 2) ^^^ 369 : Nat) : Int) := by decide +kernel
  exact this ⟨_, bitR_lt k⟩
theorem bitR_no {k : Nat} (h : ¬ 256 ≤ bitR k * 2) : bitR (k + 1) = bitR k * 2 := by rw [bitR, if_neg h]
def bitV (t : Nat) : Nat := bitR (t % 255) % 2

set_option maxRecDepth 100000 in
set_option maxHeartbeats 2000000 in
theorem rbit (t : Nat) (w : World) (ht : t < 1000) :
    Calls Tryd.prog 26 #[.int .i64 (t : Int)] w fun e w' => e = .returned (.int .u64 ((bitV t : Nat) : Int)) ∧ w = w' := by
  go_enter Tryd.func26, Tryd.ntmps26
  go_wp2_with fail
  go_loop [3, 4] (fun r i => ∃ k : Nat, k ≤ t % 255 ∧ i = .int .i64 (k : Int) ∧ r = .int .i64 ((bitR k : Nat) : Int)) (fun _ i => 255 - (intOf i).toNat)
  case atStart => exact ⟨0, Nat.zero_le _, rfl, rfl⟩
  case round =>
    obtain ⟨k, hk, rfl, rfl⟩ := hrel
    have hl := bitR_lt k
    by_cases hlt : k < t % 255
    · have hlt' : (k : Int) < (t : Int) % 255 := by omega
      by_cases h : 256 ≤ bitR k * 2
      · have hx := bitR_yes h
        have h' : (256 : Int) ≤ ((bitR k : Nat) : Int) * 2 := by omega
        clear h
        go_wp2_with fail
        go_round
        case rel => exact ⟨k + 1, by omega, by go_num, rfl⟩
        case measure => simp [intOf]; omega
      · have HX := Lib.hid (bitR_no h)
        have h' : ((bitR k : Nat) : Int) * 2 < 256 := by omega
        clear h
        go_wp2_with fail
        go_round
        case rel => exact ⟨k + 1, by omega, by go_num, by rw [HX.out]; go_num⟩
        case measure => simp [intOf]; omega
    · obtain rfl : k = t % 255 := by omega
      have HV : Hid (bitV t = bitR (t % 255) % 2) := rfl
      go_wp2_with fail
      go_ret
      rw [HV.out]
      exact ⟨by simp, rfl⟩

def numP (i : Nat) (j : Nat) : Nat := (List.range j).foldl (fun n j => n ||| bitV (7 * i + j) * 2 ^ (2 ^ j - 1)) 0
theorem numP_succ (i j : Nat) : numP i (j + 1) = numP i j ||| bitV (7 * i + j) * 2 ^ (2 ^ j - 1) := by simp [numP, List.range_succ]
theorem numP_all : ∀ i : Fin 24, numP i.val 7 = M.gl M.rcs i.val := by decide +kernel
theorem numP_lt : ∀ i : Fin 24, ∀ j : Fin 8, numP i.val j.val < 18446744073709551616 := by decide +kernel
theorem bitV_lt (t : Nat) : bitV t < 2 := Nat.mod_lt _ (by omega)
theorem shl_is : ∀ j : Fin 7, ∀ b : Fin 2, IntKind.u64.wrap (((b.val : Nat) : Int) * 2 ^ ((((2 ^ j.val : Nat) : Int) - 1).toNat)) = ((b.val * 2 ^ (2 ^ j.val - 1) : Nat) : Int) ∧ b.val * 2 ^ (2 ^ j.val - 1) < 18446744073709551616 := by decide +kernel

set_option maxRecDepth 100000 in
set_option maxHeartbeats 2000000 in
theorem rnum (i : Nat) (w : World) (hi : i < 24) :
    Calls Tryd.prog 18 #[.int .i64 (i : Int)] w fun e w' => e = .returned (.int .u64 ((M.gl M.rcs i : Nat) : Int)) ∧ w = w' := by
  go_enter Tryd.func18, Tryd.ntmps18
  go_wp2_with fail
  go_loop [3, 4, 5] (fun n a q => ∃ (j : Nat) (A : Int), j ≤ 7 ∧ Hid (A = ((2 ^ j : Nat) : Int)) ∧ q = .int .i64 (j : Int) ∧ a = .int .i64 A ∧ n = .int .u64 ((numP i j : Nat) : Int)) (fun _ _ q => 7 - (intOf q).toNat)
  case atStart => exact ⟨0, 1, by omega, rfl, rfl, rfl, rfl⟩
  case round =>
    obtain ⟨j, A, hj, HA, rfl, rfl, rfl⟩ := hrel
    by_cases hlt : j < 7
    · have hA0 : 1 ≤ A := by rw [HA.out]; have := Nat.two_pow_pos j; omega
      have hA1 : A ≤ 64 := by
        rw [HA.out]
        have := Nat.pow_le_pow_right (show 1 ≤ 2 by omega) (show j ≤ 6 by omega)
        omega
      obtain ⟨s1, s2⟩ := shl_is ⟨j, hlt⟩ ⟨bitV (7 * i + j), bitV_lt _⟩
      simp only at s1 s2
      rw [← HA.out] at s1
      have hor := bits_or_u64_nat _ _ (numP_lt ⟨i, hi⟩ ⟨j, by omega⟩) s2
      simp only at hor
      rw [← numP_succ] at hor
      clear s2
      have hN : ((bitV (7 * i + j) * 2 ^ (2 ^ j - 1) : Nat) : Int) = ((bitV (7 * i + j) * 2 ^ (2 ^ j - 1) : Nat) : Int) := rfl
      have HS := Lib.hid s1
      have HO := Lib.hid hor
      clear s1 hor hN
      have hc : Calls Tryd.prog 26 #[.int .i64 (7 * (i : Int) + (j : Int))] w fun e w' => e = .returned (.int .u64 ((bitV (7 * i + j) : Nat) : Int)) ∧ w = w' := by
        have := rbit (7 * i + j) w (by omega)
        simpa using this
      obtain ⟨b, hb⟩ : ∃ b, b = bitV (7 * i + j) := ⟨_, rfl⟩
      rw [← hb] at hc HS HO
      clear hb
      go_wp2_with ((with_reducible refine hc.mono ?_); rintro e w' ⟨rfl, rfl⟩)
      go_round
      case rel =>
        refine ⟨j + 1, A * 2, by omega, ?_, by go_num, rfl, ?_⟩
        · show A * 2 = _
          rw [HA.out, Nat.pow_succ]; simp
        · rw [show A.toNat - 1 = (A - 1).toNat by omega, HS.out, HO.out]
      case measure => simp [intOf]; omega
    · obtain rfl : j = 7 := by omega
      have e := numP_all ⟨i, hi⟩
      simp only at e
      rw [e]
      clear e
      go_wp2_with fail
      go_ret
      exact ⟨rfl, rfl⟩
end Go.Proofs.YtdfcfpbofomdcaaDoor
