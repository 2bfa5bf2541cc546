/- Contracts of num.Be, num.Unbe. -/
import Derived.Test.YtebkmlbpngpmdaaDoorW9g
import Derived.Test.YtebkmlbpngpmdaaDoorKSg
import Derived.Test.YtebkmlbpngpmdaaDoorMM
namespace Go.Proofs.YtebkmlbpngpmdaaDoor
open Go Go.RowKit Go.Shelf

theorem bytes_small (N : Nat) (w : World) (h : N < 18446744073709551616) :
    Calls Tryd.prog 33 #[wd N 0 0 0] w fun e w' => e = .returned (.string ⟨(M.tr (M.f32 N)).toArray⟩) ∧ Below w.heap.size w w' := by
  have := bytes_any N w (in_small N h)
  rwa [wn_small N h] at this

theorem nbe_any (N : Nat) (w : World) (h : N < 18446744073709551616) :
    Calls Tryd.prog 31 #[.int .u64 N] w fun e w' => e = .returned (.string ⟨(M.tr (M.f32 N)).toArray⟩) ∧ Below w.heap.size w w' := by
  go_enter Tryd.func31, Tryd.ntmps31
  go_wp2_with fail
  refine (of_any N _).mono ?_
  rintro e w1 ⟨rfl, hb1⟩
  go_wp2_with fail
  refine (bytes_small N _ h).mono ?_
  rintro e w2 ⟨rfl, hb2⟩
  go_wp2_with fail
  go_ret
  exact ⟨rfl, hb1.trans (hb2.mono hb1.size)⟩

set_option maxHeartbeats 1000000 in
theorem unbe_any (l : List UInt8) (w : World) :
    Calls Tryd.prog 38 #[.string ⟨l.toArray⟩] w fun e w' => e = .returned (.tuple #[.int .u64 ((M.ub l).1 : Nat), .int .i64 ((M.ub l).2 : Nat)]) ∧ Below w.heap.size w w' := by
  by_cases h8 : 8 < l.length
  · have e : M.ub l = (0, 5) := by simp [M.ub, h8]
    rw [e]
    go_enter Tryd.func38, Tryd.ntmps38
    go_wp2_with fail
    go_ret2
    exact ⟨rfl, Below.refl _ _⟩
  · have h8' : l.length ≤ 8 := by omega
    clear h8
    by_cases hp : Lib.hasPrefix l [0] = true
    · have e : M.ub l = (0, 8) := by simp [M.ub, hp, Nat.not_lt.2 h8']
      rw [e]
      have HP := Lib.hid hp
      clear hp e
      go_enter Tryd.func38, Tryd.ntmps38
      go_wp2_with fail
      refine (parse_spare l _ (by omega) HP).mono ?_
      rintro e w1 ⟨rfl, hb1⟩
      go_wp2_with fail
      go_ret2
      exact ⟨rfl, hb1.alloc hb1.size _⟩
    · rw [Bool.not_eq_true] at hp
      have e : M.ub l = (M.dg l, 0) := by simp [M.ub, hp, Nat.not_lt.2 h8']
      rw [e]
      have HP := Lib.hid hp
      clear hp e
      have hw := wn_small _ (M.dg_lt8 h8')
      have hpar := parse_ok l w (by omega) HP
      go_enter Tryd.func38, Tryd.ntmps38
      rw [hw] at hpar
      clear hw
      go_wp2_with fail
      refine hpar.mono ?_
      rintro e w1 ⟨rfl, hb1⟩
      clear hpar
      go_wp2_with fail
      refine (small_yes (M.dg l) _).mono ?_
      rintro e w2 ⟨rfl, hb2⟩
      go_wp2_with fail
      go_ret2
      exact ⟨rfl, (hb1.alloc hb1.size _).trans (hb2.mono (by have := hb1.size; simp; omega))⟩
end Go.Proofs.YtebkmlbpngpmdaaDoor
