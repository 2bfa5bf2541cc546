/- Few. -/
import Derived.Test.YtebkmlbpngpmdaaDoorMM
import Derived.Test.YtebkmlbpngpmdaaDoorC3g
namespace Go.Proofs.YtebkmlbpngpmdaaDoor
open Go Go.RowKit

set_option maxRecDepth 100000 in
set_option maxHeartbeats 4000000 in
theorem few_any (l : Bool) (d : List UInt8) (xs : List M.It) (v : Value) (w : World) (hL : Lay w w.heap.size xs v) :
    Calls Tryd.prog 26 #[iv l d v] w fun e w' => (∃ b : Bool, e = .returned (.bool b) ∧ (b = true → M.cntI (.mk l d xs) ≤ 120)) ∧ Below w.heap.size w w' := by
  obtain ⟨a, cap, hv, _, _⟩ := hL.slice
  subst hv
  have hb0 : Below w.heap.size w (w.alloc (.cells #[.bool l, .string ⟨d.toArray⟩, .slice a xs.length cap] 30)) := by (repeat (first | exact Below.refl _ _ | refine Below.drew ?_ | refine Below.alloc ?_ (by first | omega | (simp; omega) | simp) _ | refine Below.setCell ?_ (by first | omega | (simp; omega) | simp) _))
  have HM : Hid (∀ W, Below w.heap.size w W → Calls Tryd.prog 48 #[iv l d (.slice a xs.length cap), .int .i64 120, .int .i64 16] W fun e w' => (∃ r : Nat, e = .returned (.int .i64 (r : Nat)) ∧ 1 ≤ r ∧ r ≤ 120 + 1 ∧ (r ≤ 120 → M.cntI (.mk l d xs) ≤ r)) ∧ Below W.heap.size W w') :=
    fun W hb => many_n _ l d xs _ W 120 16 (Nat.le_refl _) ((hL.from_ hb).mono hb.size) (by omega) (by omega) (by omega)
  clear hL
  go_enter Tryd.func26, Tryd.ntmps26
  go_wp2_with fail
  refine (HM.out _ hb0).mono ?_
  rintro e w1 ⟨⟨r, rfl, hr1, hr2, hr3⟩, hb1⟩
  have HR := Lib.hid hr3
  clear hr3
  by_cases h : r ≤ 120
  · have hd : decide ((r : Int) ≤ 120) = true := by simp; omega
    go_wp2_with fail
    go_ret
    exact ⟨⟨true, by simp, fun _ => by have := HR.out h; omega⟩, hb0.trans (hb1.mono (by simp))⟩
  · have hd : decide ((r : Int) ≤ 120) = false := by simp; omega
    go_wp2_with fail
    go_ret
    exact ⟨⟨false, by simp, fun h => by cases h⟩, hb0.trans (hb1.mono (by simp))⟩

end Go.Proofs.YtebkmlbpngpmdaaDoor
