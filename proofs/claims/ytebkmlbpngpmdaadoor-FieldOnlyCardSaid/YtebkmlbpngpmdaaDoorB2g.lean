/- The reference's Be, where no more of package word is called. -/
import Derived.Test.YtebkmlbpngpmdaaDoorR2g
import Derived.Test.YtebkmlbpngpmdaaDoorB1g
namespace Go.Proofs.YtebkmlbpngpmdaaDoor
open Go Go.RowKit

theorem rnbe_any (N : Nat) (w : World) (h : N < 18446744073709551616) :
    Calls Tryd.prog 32 #[.int .u64 N] w fun e w' => e = .returned (.string ⟨(M.tr (M.f32 N)).toArray⟩) ∧ Below w.heap.size w w' := by
  have hb := fun w => rbytes_core N w
  rw [wn_small N h] at hb
  have HB := Lib.hid hb
  clear hb
  go_enter Tryd.func32, Tryd.ntmps32
  go_wp2_with fail
  refine (HB.out _).mono ?_
  rintro e w1 ⟨rfl, hb1⟩
  go_wp2_with fail
  go_ret
  exact ⟨rfl, hb1⟩
end Go.Proofs.YtebkmlbpngpmdaaDoor
