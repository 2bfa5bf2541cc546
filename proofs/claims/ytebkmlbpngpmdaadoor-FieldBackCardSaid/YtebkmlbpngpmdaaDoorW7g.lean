/- What '==' says of two words; the contract of word.Small. -/
import Derived.Test.YtebkmlbpngpmdaaDoorW1g
import Derived.Deep.RegionWith
import Derived.Lib.Hide
import Derived.Laws.StructEq
import Derived.Laws.Tables
import Derived.Laws.Cover2
namespace Go.Proofs.YtebkmlbpngpmdaaDoor
open Go Go.RowKit

theorem eqW (a b c d a' b' c' d' : Int) (w : World) : (Op.equalIn 10000 24 (wd a b c d) (wd a' b' c' d')).run Tryd.prog w = .ok (a == a' && (b == b' && (c == c' && d == d'))) w := by
  have u3 := Tryd.underlying22
  have a3 := Tryd.isAgg22
  have z3 := Tryd.sizeOf22
  rw [show (10000 : Nat) = 9999 + 1 from rfl, Op.equalIn]
  simp only [Sem.run_bind, run_underlying Tryd.underlying24, Result.andThen_ok]
  simp only [Std.Legacy.Range.forIn_eq_forIn_range', Std.Legacy.Range.size, Nat.sub_zero, Nat.add_sub_cancel, Nat.div_one, List.range'_succ, List.range'_zero, List.forIn_cons, List.forIn_nil]
  go_simp
  by_cases h1 : a = a' <;> by_cases h2 : b = b' <;> by_cases h3 : c = c' <;> by_cases h4 : d = d' <;> simp [h1, h2, h3, h4]

theorem eqN {A B : Nat} (hA : M.In A) (hB : M.In B) (w : World) : (Op.equalIn 10000 24 (wn A) (wn B)).run Tryd.prog w = .ok (decide (A = B)) w := by
  rw [eqW]
  congr 1
  by_cases h : A = B
  · subst h; simp
  · rw [decide_eq_false h]
    rw [Bool.eq_false_iff]
    intro h'
    simp only [Bool.and_eq_true, beq_iff_eq] at h'
    exact h (M.pt_inj hA hB h'.1 h'.2.1 h'.2.2.1 h'.2.2.2)

set_option maxRecDepth 100000 in
set_option maxHeartbeats 2000000 in
theorem small_yes (a : Int) (w : World) :
    Calls Tryd.prog 65 #[wd a 0 0 0] w fun e w' => e = .returned (.tuple #[.int .u64 a, .bool true]) ∧ Below w.heap.size w w' := by
  have he : ∀ w : World, (Op.equalIn 10000 24 (wd a 0 0 0) (wd a 0 0 0)).run Tryd.prog w = .ok true w := fun w => by rw [eqW]; simp
  go_enter Tryd.func65, Tryd.ntmps65
  go_wp2_with fail
  go_region_with (go_at_call 59; refine (of_any _ _).mono ?_; rintro e w1 ⟨rfl, hb⟩; obtain ⟨hce, hfr⟩ := bcell hb)
  all_goals go_wp2_with fail
  all_goals
    go_ret2
    refine ⟨rfl, Below.trans ?_ (hb.mono (by first | omega | (simp; omega) | simp))⟩
    (repeat (first | exact Below.refl _ _ | refine Below.drew ?_ | refine Below.alloc ?_ (by first | omega | (simp; omega) | simp) _ | refine Below.setCell ?_ (by first | omega | (simp; omega) | simp) _))

set_option maxRecDepth 100000 in
set_option maxHeartbeats 2000000 in
theorem small_no (a b c d : Int) (w : World) (hne : ¬ (b = 0 ∧ c = 0 ∧ d = 0)) :
    Calls Tryd.prog 65 #[wd a b c d] w fun e w' => e = .returned (.tuple #[.int .u64 0, .bool false]) ∧ Below w.heap.size w w' := by
  have he : ∀ w : World, (Op.equalIn 10000 24 (wd a b c d) (wd a 0 0 0)).run Tryd.prog w = .ok false w := fun w => by rw [eqW]; congr 1; rw [Bool.eq_false_iff]; intro h'; simp only [Bool.and_eq_true, beq_iff_eq] at h'; exact hne h'.2
  clear hne
  go_enter Tryd.func65, Tryd.ntmps65
  go_wp2_with fail
  go_region_with (go_at_call 59; refine (of_any _ _).mono ?_; rintro e w1 ⟨rfl, hb⟩; obtain ⟨hce, hfr⟩ := bcell hb)
  all_goals go_wp2_with fail
  all_goals
    go_ret2
    refine ⟨rfl, Below.trans ?_ (hb.mono (by first | omega | (simp; omega) | simp))⟩
    (repeat (first | exact Below.refl _ _ | refine Below.drew ?_ | refine Below.alloc ?_ (by first | omega | (simp; omega) | simp) _ | refine Below.setCell ?_ (by first | omega | (simp; omega) | simp) _))

theorem small_in {N : Nat} (h : N < 18446744073709551616) : M.pt 0 N = N ∧ M.pt 1 N = 0 ∧ M.pt 2 N = 0 ∧ M.pt 3 N = 0 :=
  M.parts (by omega) (by omega) (by omega) (by omega) (by omega) (by omega) (by omega) (by omega) (by omega)

theorem small_lt (N : Nat) (w : World) (h : N < 18446744073709551616) :
    Calls Tryd.prog 65 #[wn N] w fun e w' => e = .returned (.tuple #[.int .u64 (M.pt 0 N), .bool true]) ∧ Below w.heap.size w w' := by
  obtain ⟨h0, h1, h2, h3⟩ := small_in h
  have := small_yes (M.pt 0 N) w
  unfold wn
  rw [h1, h2, h3]
  exact this

theorem small_ge (N : Nat) (w : World) (hN : M.In N) (h : ¬ N < 18446744073709551616) :
    Calls Tryd.prog 65 #[wn N] w fun e w' => e = .returned (.tuple #[.int .u64 0, .bool false]) ∧ Below w.heap.size w w' := by
  refine small_no _ _ _ _ w ?_
  rintro ⟨h1, h2, h3⟩
  have := M.whole hN
  have := M.pt_lt 0 N
  omega
end Go.Proofs.YtebkmlbpngpmdaaDoor
