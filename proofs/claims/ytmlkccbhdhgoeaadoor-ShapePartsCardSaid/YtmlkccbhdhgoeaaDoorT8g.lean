/- The reference's only. -/
import Derived.Test.YtmlkccbhdhgoeaaDoorT1g
import Derived.Test.YtmlkccbhdhgoeaaDoorMM
import Derived.Test.YtmlkccbhdhgoeaaDoorWEg
namespace Go.Proofs.YtmlkccbhdhgoeaaDoor
open Go Go.RowKit

theorem wn_nought : wn 0 = wd 0 0 0 0 := by
  show wd _ _ _ _ = _
  rw [show M.pt 0 0 = 0 by decide +kernel, show M.pt 1 0 = 0 by decide +kernel, show M.pt 2 0 = 0 by decide +kernel, show M.pt 3 0 = 0 by decide +kernel]
theorem wn_one : wn 1 = wd 1 0 0 0 := by
  show wd _ _ _ _ = _
  rw [show M.pt 0 1 = 1 by decide +kernel, show M.pt 1 1 = 0 by decide +kernel, show M.pt 2 1 = 0 by decide +kernel, show M.pt 3 1 = 0 by decide +kernel]
theorem eq_nought {N : Nat} (h : M.In N) (w : World) : (Op.equalIn 10000 27 (wn N) (wd 0 0 0 0)).run Tryd.prog w = .ok (decide (N = 0)) w := by
  rw [← wn_nought]
  exact eqN h (by unfold M.In; omega) w
theorem eq_one {N : Nat} (h : M.In N) (w : World) : (Op.equalIn 10000 27 (wn N) (wd 1 0 0 0)).run Tryd.prog w = .ok (decide (N = 1)) w := by
  rw [← wn_one]
  exact eqN h (by unfold M.In; omega) w

set_option maxRecDepth 100000 in
set_option maxHeartbeats 4000000 in
theorem ronly_num (N : Nat) (hN : M.In N) (m l : Nat) (p : Int) (ab : Option Addr) (cb : Nat) (a : Option Addr) (cap : Nat) (w : World) :
    Calls Tryd.prog 78 #[vv N (.slice ab m cb) (.slice a l cap) p, .bool true, .bool false, .bool false, .bool false] w fun e w' => e = .returned (.bool (m == 0 && l == 0 && p == 0)) ∧ Below w.heap.size w w' := by
  have hb0 : ∀ o, Below w.heap.size w (w.alloc o) := fun o => (Below.refl _ w).alloc (Nat.le_refl _) o
  have he := fun W => eq_nought hN W
  go_enter Tryd.func78, Tryd.ntmps78
  go_wp2_with fail
  all_goals go_ret
  all_goals refine ⟨?_, hb0 _⟩
  all_goals simp_all

set_option maxRecDepth 100000 in
set_option maxHeartbeats 4000000 in
theorem ronly_items (N : Nat) (hN : M.In N) (m l : Nat) (p : Int) (ab : Option Addr) (cb : Nat) (a : Option Addr) (cap : Nat) (w : World) :
    Calls Tryd.prog 78 #[vv N (.slice ab m cb) (.slice a l cap) p, .bool false, .bool false, .bool true, .bool false] w fun e w' => e = .returned (.bool (N == 0 && m == 0 && p == 0)) ∧ Below w.heap.size w w' := by
  have hb0 : ∀ o, Below w.heap.size w (w.alloc o) := fun o => (Below.refl _ w).alloc (Nat.le_refl _) o
  have he := fun W => eq_nought hN W
  go_enter Tryd.func78, Tryd.ntmps78
  go_wp2_with fail
  all_goals go_ret
  all_goals refine ⟨?_, hb0 _⟩
  all_goals simp_all

set_option maxRecDepth 100000 in
set_option maxHeartbeats 4000000 in
theorem ronly_bits (N : Nat) (hN : M.In N) (m l : Nat) (p : Int) (ab : Option Addr) (cb : Nat) (a : Option Addr) (cap : Nat) (w : World) :
    Calls Tryd.prog 78 #[vv N (.slice ab m cb) (.slice a l cap) p, .bool false, .bool true, .bool false, .bool false] w fun e w' => e = .returned (.bool (N == 0 && l == 0 && p == 0)) ∧ Below w.heap.size w w' := by
  have hb0 : ∀ o, Below w.heap.size w (w.alloc o) := fun o => (Below.refl _ w).alloc (Nat.le_refl _) o
  have he := fun W => eq_nought hN W
  go_enter Tryd.func78, Tryd.ntmps78
  go_wp2_with fail
  all_goals go_ret
  all_goals refine ⟨?_, hb0 _⟩
  all_goals simp_all

set_option maxRecDepth 100000 in
set_option maxHeartbeats 4000000 in
theorem ronly_pick (N : Nat) (hN : M.In N) (m l : Nat) (p : Int) (ab : Option Addr) (cb : Nat) (a : Option Addr) (cap : Nat) (w : World) :
    Calls Tryd.prog 78 #[vv N (.slice ab m cb) (.slice a l cap) p, .bool false, .bool false, .bool true, .bool true] w fun e w' => e = .returned (.bool (N == 0 && m == 0)) ∧ Below w.heap.size w w' := by
  have hb0 : ∀ o, Below w.heap.size w (w.alloc o) := fun o => (Below.refl _ w).alloc (Nat.le_refl _) o
  have he := fun W => eq_nought hN W
  go_enter Tryd.func78, Tryd.ntmps78
  go_wp2_with fail
  all_goals go_ret
  all_goals refine ⟨?_, hb0 _⟩
  all_goals simp_all

end Go.Proofs.YtmlkccbhdhgoeaaDoor
