/- Contracts of the word package's plain functions over this seat's translation. -/
import Derived.Test.YtmlkccbhdhgoeaaDoorW0g
namespace Go.Proofs.YtmlkccbhdhgoeaaDoor
open Go Go.RowKit

theorem of_any (n : Int) (w : World) :
    Calls Tryd.prog 45 #[.int .u64 n] w fun e w' => e = .returned (wd n 0 0 0) ∧ Below w.heap.size w w' := by
  go_enter Tryd.func45, Tryd.ntmps45
  go_wp2
  exact bodyPost_ret (v := wd n 0 0 0) (by simp [results, Tryd.results45, go_sem]) rfl ⟨rfl, (Below.refl _ _).alloc (Nat.le_refl _) _⟩

theorem of_exact (n : Int) (w : World) :
    Calls Tryd.prog 45 #[.int .u64 n] w fun e w' => e = .returned (wd n 0 0 0) ∧ w.alloc (.cells #[.int .u64 n, .int .u64 0, .int .u64 0, .int .u64 0] 27) = w' := by
  go_enter Tryd.func45, Tryd.ntmps45
  go_wp2
  exact bodyPost_ret (v := wd n 0 0 0) (by simp [results, Tryd.results45, go_sem]) rfl ⟨rfl, rfl⟩

end Go.Proofs.YtmlkccbhdhgoeaaDoor
