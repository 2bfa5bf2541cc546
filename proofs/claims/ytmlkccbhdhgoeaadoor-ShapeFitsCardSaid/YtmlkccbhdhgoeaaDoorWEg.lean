/- What '==' says of two words. -/
import Derived.Test.YtmlkccbhdhgoeaaDoorW0g
import Derived.Deep.RegionWith
import Derived.Lib.Hide
import Derived.Laws.StructEq
import Derived.Laws.Tables
import Derived.Laws.Cover2
namespace Go.Proofs.YtmlkccbhdhgoeaaDoor
open Go Go.RowKit

theorem eqW (a b c d a' b' c' d' : Int) (w : World) : (Op.equalIn 10000 27 (wd a b c d) (wd a' b' c' d')).run Tryd.prog w = .ok (a == a' && (b == b' && (c == c' && d == d'))) w := by
  have u3 := Tryd.underlying25
  have a3 := Tryd.isAgg25
  have z3 := Tryd.sizeOf25
  rw [show (10000 : Nat) = 9999 + 1 from rfl, Op.equalIn]
  simp only [Sem.run_bind, run_underlying Tryd.underlying27, Result.andThen_ok]
  simp only [Std.Legacy.Range.forIn_eq_forIn_range', Std.Legacy.Range.size, Nat.sub_zero, Nat.add_sub_cancel, Nat.div_one, List.range'_succ, List.range'_zero, List.forIn_cons, List.forIn_nil]
  go_simp
  by_cases h1 : a = a' <;> by_cases h2 : b = b' <;> by_cases h3 : c = c' <;> by_cases h4 : d = d' <;> simp [h1, h2, h3, h4]

theorem eqN {A B : Nat} (hA : M.In A) (hB : M.In B) (w : World) : (Op.equalIn 10000 27 (wn A) (wn B)).run Tryd.prog w = .ok (decide (A = B)) w := by
  rw [eqW]
  congr 1
  by_cases h : A = B
  · subst h; simp
  · rw [decide_eq_false h]
    rw [Bool.eq_false_iff]
    intro h'
    simp only [Bool.and_eq_true, beq_iff_eq] at h'
    exact h (M.pt_inj hA hB h'.1 h'.2.1 h'.2.2.1 h'.2.2.2)

end Go.Proofs.YtmlkccbhdhgoeaaDoor
