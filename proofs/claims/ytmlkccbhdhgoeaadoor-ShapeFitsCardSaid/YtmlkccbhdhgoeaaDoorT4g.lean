/- The reference's form, check, Check. -/
import Derived.Test.YtmlkccbhdhgoeaaDoorT1g
import Derived.Test.YtmlkccbhdhgoeaaDoorMM
namespace Go.Proofs.YtmlkccbhdhgoeaaDoor
open Go Go.RowKit

set_option maxRecDepth 100000 in
set_option maxHeartbeats 4000000 in
theorem tform_1 (n : Int) (m : Nat) (a : Option Addr) (cap : Nat) (w : World) (_hm : m ≤ 9223372036854775807) :
    Calls Tryd.prog 33 #[tv 1 n (.slice a m cap)] w fun e w' => e = .returned (.bool (M.formT 1 n m)) ∧ Below w.heap.size w w' := by
  have hb0 : ∀ o, Below w.heap.size w (w.alloc o) := fun o => (Below.refl _ w).alloc (Nat.le_refl _) o
  go_enter Tryd.func33, Tryd.ntmps33
  go_wp2_with fail
  all_goals go_ret
  all_goals refine ⟨?_, hb0 _⟩
  all_goals simp_all [M.formT]
  all_goals first | omega | (rw [Bool.eq_iff_iff]; simp; omega)

set_option maxRecDepth 100000 in
set_option maxHeartbeats 4000000 in
theorem tform_2 (n : Int) (m : Nat) (a : Option Addr) (cap : Nat) (w : World) (_hm : m ≤ 9223372036854775807) :
    Calls Tryd.prog 33 #[tv 2 n (.slice a m cap)] w fun e w' => e = .returned (.bool (M.formT 2 n m)) ∧ Below w.heap.size w w' := by
  have hb0 : ∀ o, Below w.heap.size w (w.alloc o) := fun o => (Below.refl _ w).alloc (Nat.le_refl _) o
  go_enter Tryd.func33, Tryd.ntmps33
  go_wp2_with fail
  all_goals go_ret
  all_goals refine ⟨?_, hb0 _⟩
  all_goals simp_all [M.formT]
  all_goals first | omega | (rw [Bool.eq_iff_iff]; simp; omega)

set_option maxRecDepth 100000 in
set_option maxHeartbeats 4000000 in
theorem tform_3 (n : Int) (m : Nat) (a : Option Addr) (cap : Nat) (w : World) (_hm : m ≤ 9223372036854775807) :
    Calls Tryd.prog 33 #[tv 3 n (.slice a m cap)] w fun e w' => e = .returned (.bool (M.formT 3 n m)) ∧ Below w.heap.size w w' := by
  have hb0 : ∀ o, Below w.heap.size w (w.alloc o) := fun o => (Below.refl _ w).alloc (Nat.le_refl _) o
  go_enter Tryd.func33, Tryd.ntmps33
  go_wp2_with fail
  all_goals go_ret
  all_goals refine ⟨?_, hb0 _⟩
  all_goals simp_all [M.formT]
  all_goals first | omega | (rw [Bool.eq_iff_iff]; simp; omega)

set_option maxRecDepth 100000 in
set_option maxHeartbeats 4000000 in
theorem tform_4 (n : Int) (m : Nat) (a : Option Addr) (cap : Nat) (w : World) (_hm : m ≤ 9223372036854775807) :
    Calls Tryd.prog 33 #[tv 4 n (.slice a m cap)] w fun e w' => e = .returned (.bool (M.formT 4 n m)) ∧ Below w.heap.size w w' := by
  have hb0 : ∀ o, Below w.heap.size w (w.alloc o) := fun o => (Below.refl _ w).alloc (Nat.le_refl _) o
  go_enter Tryd.func33, Tryd.ntmps33
  go_wp2_with fail
  all_goals go_ret
  all_goals refine ⟨?_, hb0 _⟩
  all_goals simp_all [M.formT]
  all_goals first | omega | (rw [Bool.eq_iff_iff]; simp; omega)

set_option maxRecDepth 100000 in
set_option maxHeartbeats 4000000 in
theorem tform_5 (n : Int) (m : Nat) (a : Option Addr) (cap : Nat) (w : World) (_hm : m ≤ 9223372036854775807) :
    Calls Tryd.prog 33 #[tv 5 n (.slice a m cap)] w fun e w' => e = .returned (.bool (M.formT 5 n m)) ∧ Below w.heap.size w w' := by
  have hb0 : ∀ o, Below w.heap.size w (w.alloc o) := fun o => (Below.refl _ w).alloc (Nat.le_refl _) o
  go_enter Tryd.func33, Tryd.ntmps33
  go_wp2_with fail
  all_goals go_ret
  all_goals refine ⟨?_, hb0 _⟩
  all_goals simp_all [M.formT]
  all_goals first | omega | (rw [Bool.eq_iff_iff]; simp; omega)

set_option maxRecDepth 100000 in
set_option maxHeartbeats 4000000 in
theorem tform_6 (n : Int) (m : Nat) (a : Option Addr) (cap : Nat) (w : World) (_hm : m ≤ 9223372036854775807) :
    Calls Tryd.prog 33 #[tv 6 n (.slice a m cap)] w fun e w' => e = .returned (.bool (M.formT 6 n m)) ∧ Below w.heap.size w w' := by
  have hb0 : ∀ o, Below w.heap.size w (w.alloc o) := fun o => (Below.refl _ w).alloc (Nat.le_refl _) o
  go_enter Tryd.func33, Tryd.ntmps33
  go_wp2_with fail
  all_goals go_ret
  all_goals refine ⟨?_, hb0 _⟩
  all_goals simp_all [M.formT]
  all_goals first | omega | (rw [Bool.eq_iff_iff]; simp; omega)

set_option maxRecDepth 100000 in
set_option maxHeartbeats 4000000 in
theorem tform_7 (n : Int) (m : Nat) (a : Option Addr) (cap : Nat) (w : World) (hm : m ≤ 9223372036854775807) :
    Calls Tryd.prog 33 #[tv 7 n (.slice a m cap)] w fun e w' => e = .returned (.bool (M.formT 7 n m)) ∧ Below w.heap.size w w' := by
  have hb0 : ∀ o, Below w.heap.size w (w.alloc o) := fun o => (Below.refl _ w).alloc (Nat.le_refl _) o
  go_enter Tryd.func33, Tryd.ntmps33
  go_wp2_with fail
  all_goals go_ret
  all_goals refine ⟨?_, hb0 _⟩
  all_goals simp_all [M.formT]
  all_goals first | omega | (rw [Bool.eq_iff_iff]; simp; omega)

set_option maxRecDepth 100000 in
set_option maxHeartbeats 4000000 in
theorem tform_8 (k n : Int) (m : Nat) (a : Option Addr) (cap : Nat) (w : World) (hm : m ≤ 9223372036854775807) (h1 : ¬ k = 1) (h2 : ¬ k = 2) (h3 : ¬ k = 3) (h4 : ¬ k = 4) (h5 : ¬ k = 5) (h6 : ¬ k = 6) (h7 : ¬ k = 7) :
    Calls Tryd.prog 33 #[tv k n (.slice a m cap)] w fun e w' => e = .returned (.bool (M.formT k n m)) ∧ Below w.heap.size w w' := by
  have hb0 : ∀ o, Below w.heap.size w (w.alloc o) := fun o => (Below.refl _ w).alloc (Nat.le_refl _) o
  go_enter Tryd.func33, Tryd.ntmps33
  go_wp2_with fail
  all_goals go_ret
  all_goals refine ⟨?_, hb0 _⟩
  all_goals simp_all [M.formT]
  all_goals first | omega | (rw [Bool.eq_iff_iff]; simp; omega)

theorem tform_any (k n : Int) (m : Nat) (a : Option Addr) (cap : Nat) (w : World) (hm : m ≤ 9223372036854775807) :
    Calls Tryd.prog 33 #[tv k n (.slice a m cap)] w fun e w' => e = .returned (.bool (M.formT k n m)) ∧ Below w.heap.size w w' := by
  by_cases h1 : k = 1
  · subst h1; exact tform_1 n m a cap w hm
  by_cases h2 : k = 2
  · subst h2; exact tform_2 n m a cap w hm
  by_cases h3 : k = 3
  · subst h3; exact tform_3 n m a cap w hm
  by_cases h4 : k = 4
  · subst h4; exact tform_4 n m a cap w hm
  by_cases h5 : k = 5
  · subst h5; exact tform_5 n m a cap w hm
  by_cases h6 : k = 6
  · subst h6; exact tform_6 n m a cap w hm
  by_cases h7 : k = 7
  · subst h7; exact tform_7 n m a cap w hm
  exact tform_8 k n m a cap w hm h1 h2 h3 h4 h5 h6 h7
end Go.Proofs.YtmlkccbhdhgoeaaDoor
