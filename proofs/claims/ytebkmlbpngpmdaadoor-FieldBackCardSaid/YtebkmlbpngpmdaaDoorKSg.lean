/- Small numbers as words. -/
import Derived.Test.YtebkmlbpngpmdaaDoorW7g
namespace Go.Proofs.YtebkmlbpngpmdaaDoor
open Go Go.RowKit

theorem wn_small (n : Nat) (h : n < 18446744073709551616) : wn n = wd n 0 0 0 := by
  obtain ⟨h0, h1, h2, h3⟩ := small_in h
  unfold wn
  rw [h0, h1, h2, h3]
theorem in_small (n : Nat) (h : n < 18446744073709551616) : M.In n := by unfold M.In; omega
end Go.Proofs.YtebkmlbpngpmdaaDoor
