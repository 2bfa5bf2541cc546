/- Contracts of num.Be, num.Unbe, num.Unle. -/
import Derived.Test.YtmcchfgblecgoaaDoorW9
import Derived.Test.YtmcchfgblecgoaaDoorKS
import Derived.Test.YtmcchfgblecgoaaDoorM3
namespace Go.Proofs.YtmcchfgblecgoaaDoor
open Go Go.RowKit Go.Shelf

theorem bytes_small (N : Nat) (w : World) (h : N < 18446744073709551616) :
    Calls Tryd.prog 19 #[wd N 0 0 0] w fun e w' => e = .returned (.string ⟨(M.tr (M.f32 N)).toArray⟩) ∧ Below w.heap.size w w' := by
  have := bytes_any N w (in_small N h)
  rwa [wn_small N h] at this

theorem nbe_any (N : Nat) (w : World) (h : N < 18446744073709551616) :
    Calls Tryd.prog 12 #[.int .u64 N] w fun e w' => e = .returned (.string ⟨(M.tr (M.f32 N)).toArray⟩) ∧ Below w.heap.size w w' := by
  go_enter Tryd.func12, Tryd.ntmps12
  go_wp2_with fail
  refine (of_any N _).mono ?_
  rintro e w1 ⟨rfl, hb1⟩
  go_wp2_with fail
  refine (bytes_small N _ h).mono ?_
  rintro e w2 ⟨rfl, hb2⟩
  go_wp2_with fail
  go_ret
  exact ⟨rfl, hb1.trans (hb2.mono hb1.size)⟩

set_option maxHeartbeats 1000000 in
theorem unbe_any (l : List UInt8) (w : World) :
    Calls Tryd.prog 14 #[.string ⟨l.toArray⟩] w fun e w' => e = .returned (.tuple #[.int .u64 ((M.ub l).1 : Nat), .int .i64 ((M.ub l).2 : Nat)]) ∧ Below w.heap.size w w' := by
  by_cases h8 : 8 < l.length
  · have e : M.ub l = (0, 5) := by simp [M.ub, h8]
    rw [e]
    go_enter Tryd.func14, Tryd.ntmps14
    go_wp2_with fail
    go_ret2
    exact ⟨rfl, Below.refl _ _⟩
  · have h8' : l.length ≤ 8 := by omega
    clear h8
    by_cases hp : Lib.hasPrefix l [0] = true
    · have e : M.ub l = (0, 8) := by simp [M.ub, hp, Nat.not_lt.2 h8']
      rw [e]
      have HP := Lib.hid hp
      clear hp e
      go_enter Tryd.func14, Tryd.ntmps14
      go_wp2_with fail
      refine (parse_spare l _ (by omega) HP).mono ?_
      rintro e w1 ⟨rfl, hb1⟩
      go_wp2_with fail
      go_ret2
      exact ⟨rfl, hb1.alloc hb1.size _⟩
    · rw [Bool.not_eq_true] at hp
      have e : M.ub l = (M.dg l, 0) := by simp [M.ub, hp, Nat.not_lt.2 h8']
      rw [e]
      have HP := Lib.hid hp
      clear hp e
      have hw := wn_small _ (M.dg_lt8 h8')
      have hpar := parse_ok l w (by omega) HP
      go_enter Tryd.func14, Tryd.ntmps14
      rw [hw] at hpar
      clear hw
      go_wp2_with fail
      refine hpar.mono ?_
      rintro e w1 ⟨rfl, hb1⟩
      clear hpar
      go_wp2_with fail
      refine (small_yes (M.dg l) _).mono ?_
      rintro e w2 ⟨rfl, hb2⟩
      go_wp2_with fail
      go_ret2
      exact ⟨rfl, (hb1.alloc hb1.size _).trans (hb2.mono (by have := hb1.size; simp; omega))⟩

set_option maxHeartbeats 1000000 in
theorem unle_bad (l : List UInt8) (w : World) (h : ¬ (1 ≤ l.length ∧ l.length ≤ 8)) :
    Calls Tryd.prog 16 #[.string ⟨l.toArray⟩] w fun e w' => e = .returned (.tuple #[.int .u64 0, .int .i64 2]) ∧ w = w' := by
  by_cases h0 : l.length < 1
  · clear h
    go_enter Tryd.func16, Tryd.ntmps16
    go_wp2_with fail
    go_ret2
    exact ⟨rfl, rfl⟩
  · have h1 : 8 < l.length := by omega
    clear h
    go_enter Tryd.func16, Tryd.ntmps16
    go_wp2_with fail
    go_ret2
    exact ⟨rfl, rfl⟩

theorem le_step (l : List UInt8) (j : Nat) (hlt : j < l.length) (h8 : l.length ≤ 8) :
    bits BinOp.or IntKind.u64 ((M.led (List.take j l) : Nat) : Int) (IntKind.u64.wrap (IntKind.u64.wrap (((⟨l.toArray⟩ : ByteArray)[j]'(by simpa [ByteArray.size] using hlt)).toNat : Int) * 2 ^ (8 * j))) = ((M.led (List.take (j + 1) l) : Nat) : Int) := by
  have e0 : ((⟨l.toArray⟩ : ByteArray)[j]'(by simpa [ByteArray.size] using hlt)) = l[j] := rfl
  rw [e0]
  have hc := (l[j]).toNat_lt
  have ht : List.take (j + 1) l = List.take j l ++ [l[j]] := List.take_succ_eq_append_getElem hlt
  have hl : (List.take j l).length = j := by simp; omega
  have ha := M.led_lt (List.take j l)
  rw [hl] at ha
  have hp : (256 : Nat) ^ j = 2 ^ (8 * j) := by rw [show (256 : Nat) = 2 ^ 8 from rfl, ← Nat.pow_mul]
  have hb : (l[j]).toNat * 2 ^ (8 * j) < 18446744073709551616 := by
    have h1 : M.led (List.take (j + 1) l) < 18446744073709551616 := M.led_lt8 (by simp; omega)
    rw [ht, M.led_snoc, hl, hp] at h1
    omega
  have w1 : IntKind.u64.wrap ((l[j]).toNat : Int) = (((l[j]).toNat : Nat) : Int) := by rw [IntKind.wrap_u64]; omega
  have w2 : (((l[j]).toNat : Nat) : Int) * 2 ^ (8 * j) = (((l[j]).toNat * 2 ^ (8 * j) : Nat) : Int) := by simp
  have w3 : IntKind.u64.wrap ((((l[j]).toNat * 2 ^ (8 * j) : Nat) : Int)) = (((l[j]).toNat * 2 ^ (8 * j) : Nat) : Int) := by rw [IntKind.wrap_u64]; omega
  rw [w1, w2, w3, bits_or_u64_nat _ _ (M.led_lt8 (by simp; omega)) hb, ht, M.led_snoc, hl, hp]
  have := Nat.two_pow_add_eq_or_of_lt (i := 8 * j) (b := M.led (List.take j l)) (hp ▸ ha) (l[j]).toNat
  rw [Nat.or_comm, Nat.mul_comm (l[j]).toNat, ← this, Nat.add_comm]

set_option maxRecDepth 100000 in
set_option maxHeartbeats 1000000 in
theorem unle_ok (l : List UInt8) (w : World) (h1 : 1 ≤ l.length) (h8 : l.length ≤ 8) :
    Calls Tryd.prog 16 #[.string ⟨l.toArray⟩] w fun e w' => e = .returned (.tuple #[.int .u64 (M.led l : Nat), .int .i64 0]) ∧ w = w' := by
  go_enter Tryd.func16, Tryd.ntmps16
  go_wp2_with fail
  go_loop [4, 16] (fun n i => ∃ j : Nat, j ≤ l.length ∧ i = .int .i64 j ∧ n = .int .u64 (M.led (l.take j) : Nat)) (fun _ i => l.length - (intOf i).toNat)
  case atStart => exact ⟨0, by omega, rfl, rfl⟩
  case round =>
    obtain ⟨j, hj, rfl, rfl⟩ := hrel
    by_cases hlt : j < l.length
    · go_wp2_with fail
      exact ⟨⟨j + 1, by omega, by simp, by rw [le_step l j hlt h8]⟩, by simp [intOf]; omega⟩
    · obtain rfl : j = l.length := by omega
      go_wp2_with fail
      go_ret2
      exact ⟨rfl, rfl⟩

theorem unle_any (l : List UInt8) (w : World) :
    Calls Tryd.prog 16 #[.string ⟨l.toArray⟩] w fun e w' => e = .returned (.tuple #[.int .u64 ((M.ul l).1 : Nat), .int .i64 ((M.ul l).2 : Nat)]) ∧ w = w' := by
  by_cases h : 1 ≤ l.length ∧ l.length ≤ 8
  · have e : M.ul l = (M.led l, 0) := by simp [M.ul, h]
    rw [e]
    exact unle_ok l w h.1 h.2
  · have e : M.ul l = (0, 2) := by simp [M.ul, h]
    rw [e]
    exact unle_bad l w h
end Go.Proofs.YtmcchfgblecgoaaDoor
