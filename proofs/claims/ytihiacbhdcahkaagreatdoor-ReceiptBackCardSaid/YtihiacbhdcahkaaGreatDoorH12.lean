/- What '==' says of two words. The contract of word.Small. Small numbers as words. Contracts of num.Be, num.Unbe. In a seat where all of package word is called: N4 in the place of B1. The reference's Be, where no more of package word is called. -/
import Derived.Test.YtihiacbhdcahkaaGreatDoorH09
import Derived.Deep.RegionWith
import Derived.Lib.Hide
import Derived.Laws.StructEq
import Derived.Laws.Tables
import Derived.Laws.Cover2
import Derived.Test.YtihiacbhdcahkaaGreatDoorH11
import Derived.Test.YtihiacbhdcahkaaGreatDoorH07
import Derived.Test.YtihiacbhdcahkaaGreatDoorH01
import Derived.Test.YtihiacbhdcahkaaGreatDoorH10
namespace Go.Proofs.YtihiacbhdcahkaaGreatDoor
open Go Go.RowKit

theorem eqW (a b c d a' b' c' d' : Int) (w : World) : (Op.equalIn 10000 89 (wd a b c d) (wd a' b' c' d')).run Tryz.prog w = .ok (a == a' && (b == b' && (c == c' && d == d'))) w := by
  have u3 := Tryz.underlying22
  have a3 := Tryz.isAgg22
  have z3 := Tryz.sizeOf22
  rw [show (10000 : Nat) = 9999 + 1 from rfl, Op.equalIn]
  simp only [Sem.run_bind, run_underlying Tryz.underlying89, Result.andThen_ok]
  simp only [Std.Legacy.Range.forIn_eq_forIn_range', Std.Legacy.Range.size, Nat.sub_zero, Nat.add_sub_cancel, Nat.div_one, List.range'_succ, List.range'_zero, List.forIn_cons, List.forIn_nil]
  go_simp
  by_cases h1 : a = a' <;> by_cases h2 : b = b' <;> by_cases h3 : c = c' <;> by_cases h4 : d = d' <;> simp [h1, h2, h3, h4]

end Go.Proofs.YtihiacbhdcahkaaGreatDoor
namespace Go.Proofs.YtihiacbhdcahkaaGreatDoor
open Go Go.RowKit

set_option maxRecDepth 100000 in
set_option maxHeartbeats 2000000 in
theorem small_yes (a : Int) (w : World) :
    Calls Tryz.prog 185 #[wd a 0 0 0] w fun e w' => e = .returned (.tuple #[.int .u64 a, .bool true]) ∧ Below w.heap.size w w' := by
  have he : ∀ w : World, (Op.equalIn 10000 89 (wd a 0 0 0) (wd a 0 0 0)).run Tryz.prog w = .ok true w := fun w => by rw [eqW]; simp
  go_enter Tryz.func185, Tryz.ntmps185
  go_wp2_with fail
  go_region_with (go_at_call 80; refine (of_any _ _).mono ?_; rintro e w1 ⟨rfl, hb⟩; obtain ⟨hce, hfr⟩ := bcell hb)
  all_goals go_wp2_with fail
  all_goals
    go_ret2
    refine ⟨rfl, Below.trans ?_ (hb.mono (by first | omega | (simp; omega) | simp))⟩
    (repeat (first | exact Below.refl _ _ | refine Below.drew ?_ | refine Below.alloc ?_ (by first | omega | (simp; omega) | simp) _ | refine Below.setCell ?_ (by first | omega | (simp; omega) | simp) _))

theorem small_in {N : Nat} (h : N < 18446744073709551616) : M.pt 0 N = N ∧ M.pt 1 N = 0 ∧ M.pt 2 N = 0 ∧ M.pt 3 N = 0 :=
  M.parts (by omega) (by omega) (by omega) (by omega) (by omega) (by omega) (by omega) (by omega) (by omega)

end Go.Proofs.YtihiacbhdcahkaaGreatDoor
namespace Go.Proofs.YtihiacbhdcahkaaGreatDoor
open Go Go.RowKit

theorem wn_small (n : Nat) (h : n < 18446744073709551616) : wn n = wd n 0 0 0 := by
  obtain ⟨h0, h1, h2, h3⟩ := small_in h
  unfold wn
  rw [h0, h1, h2, h3]
theorem in_small (n : Nat) (h : n < 18446744073709551616) : M.In n := by unfold M.In; omega
end Go.Proofs.YtihiacbhdcahkaaGreatDoor
namespace Go.Proofs.YtihiacbhdcahkaaGreatDoor
open Go Go.RowKit Go.Shelf

theorem bytes_small (N : Nat) (w : World) (h : N < 18446744073709551616) :
    Calls Tryz.prog 79 #[wd N 0 0 0] w fun e w' => e = .returned (.string ⟨(M.tr (M.f32 N)).toArray⟩) ∧ Below w.heap.size w w' := by
  have := bytes_any N w (in_small N h)
  rwa [wn_small N h] at this

theorem nbe_any (N : Nat) (w : World) (h : N < 18446744073709551616) :
    Calls Tryz.prog 43 #[.int .u64 N] w fun e w' => e = .returned (.string ⟨(M.tr (M.f32 N)).toArray⟩) ∧ Below w.heap.size w w' := by
  go_enter Tryz.func43, Tryz.ntmps43
  go_wp2_with fail
  refine (of_any N _).mono ?_
  rintro e w1 ⟨rfl, hb1⟩
  go_wp2_with fail
  refine (bytes_small N _ h).mono ?_
  rintro e w2 ⟨rfl, hb2⟩
  go_wp2_with fail
  go_ret
  exact ⟨rfl, hb1.trans (hb2.mono hb1.size)⟩

set_option maxHeartbeats 1000000 in
theorem unbe_any (l : List UInt8) (w : World) :
    Calls Tryz.prog 108 #[.string ⟨l.toArray⟩] w fun e w' => e = .returned (.tuple #[.int .u64 ((M.ub l).1 : Nat), .int .i64 ((M.ub l).2 : Nat)]) ∧ Below w.heap.size w w' := by
  by_cases h8 : 8 < l.length
  · have e : M.ub l = (0, 5) := by simp [M.ub, h8]
    rw [e]
    go_enter Tryz.func108, Tryz.ntmps108
    go_wp2_with fail
    go_ret2
    exact ⟨rfl, Below.refl _ _⟩
  · have h8' : l.length ≤ 8 := by omega
    clear h8
    by_cases hp : Lib.hasPrefix l [0] = true
    · have e : M.ub l = (0, 8) := by simp [M.ub, hp, Nat.not_lt.2 h8']
      rw [e]
      have HP := Lib.hid hp
      clear hp e
      go_enter Tryz.func108, Tryz.ntmps108
      go_wp2_with fail
      refine (parse_spare l _ (by omega) HP).mono ?_
      rintro e w1 ⟨rfl, hb1⟩
      go_wp2_with fail
      go_ret2
      exact ⟨rfl, hb1.alloc hb1.size _⟩
    · rw [Bool.not_eq_true] at hp
      have e : M.ub l = (M.dg l, 0) := by simp [M.ub, hp, Nat.not_lt.2 h8']
      rw [e]
      have HP := Lib.hid hp
      clear hp e
      have hw := wn_small _ (M.dg_lt8 h8')
      have hpar := parse_ok l w (by omega) HP
      go_enter Tryz.func108, Tryz.ntmps108
      rw [hw] at hpar
      clear hw
      go_wp2_with fail
      refine hpar.mono ?_
      rintro e w1 ⟨rfl, hb1⟩
      clear hpar
      go_wp2_with fail
      refine (small_yes (M.dg l) _).mono ?_
      rintro e w2 ⟨rfl, hb2⟩
      go_wp2_with fail
      go_ret2
      exact ⟨rfl, (hb1.alloc hb1.size _).trans (hb2.mono (by have := hb1.size; simp; omega))⟩
end Go.Proofs.YtihiacbhdcahkaaGreatDoor
namespace Go.Proofs.YtihiacbhdcahkaaGreatDoor
open Go Go.RowKit

end Go.Proofs.YtihiacbhdcahkaaGreatDoor
