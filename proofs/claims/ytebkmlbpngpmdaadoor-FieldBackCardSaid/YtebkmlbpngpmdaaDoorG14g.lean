/- word.Parse, of any bytes. -/
import Derived.Test.YtebkmlbpngpmdaaDoorN4g
import Derived.Test.YtebkmlbpngpmdaaDoorMM
namespace Go.Proofs.YtebkmlbpngpmdaaDoor
open Go Go.RowKit

theorem wn_zero : wn 0 = wd 0 0 0 0 := by
  show wd _ _ _ _ = _
  rw [show M.pt 0 0 = 0 by decide +kernel, show M.pt 1 0 = 0 by decide +kernel, show M.pt 2 0 = 0 by decide +kernel, show M.pt 3 0 = 0 by decide +kernel]
theorem parse_any (l : List UInt8) (w : World) :
    Calls Tryd.prog 40 #[.string ⟨l.toArray⟩] w fun e w' => e = .returned (.tuple #[wn (M.pw l).1, .int .i64 ((M.pw l).2 : Nat)]) ∧ Below w.heap.size w w' := by
  by_cases h : 32 < l.length
  · rw [show M.pw l = (0, 5) by simp [M.pw, h], wn_zero]
    exact parse_long l w h
  · by_cases hp : Lib.hasPrefix l [0] = true
    · rw [show M.pw l = (0, 8) by simp [M.pw, h, hp], wn_zero]
      exact parse_spare l w (by omega) (Lib.hid hp)
    · rw [Bool.not_eq_true] at hp
      rw [show M.pw l = (M.dg l, 0) by simp [M.pw, h, hp]]
      exact parse_ok l w (by omega) (Lib.hid hp)
end Go.Proofs.YtebkmlbpngpmdaaDoor
