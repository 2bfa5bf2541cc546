/- Contracts of the word package's plain functions over this seat's translation. -/
import Derived.Test.YtebkmlbpngpmdaaDoorA0g
import Derived.Test.YtebkmlbpngpmdaaDoorMM
namespace Go.Proofs.YtebkmlbpngpmdaaDoor
open Go Go.RowKit

/-- A word as a value. -/
abbrev wd (a b c d : Int) : Value := .agg #[.int .u64 a, .int .u64 b, .int .u64 c, .int .u64 d]

theorem of_any (n : Int) (w : World) :
    Calls Tryd.prog 59 #[.int .u64 n] w fun e w' => e = .returned (wd n 0 0 0) ∧ Below w.heap.size w w' := by
  go_enter Tryd.func59, Tryd.ntmps59
  go_wp2
  exact bodyPost_ret (v := wd n 0 0 0) (by simp [results, Tryd.results59, go_sem]) rfl ⟨rfl, (Below.refl _ _).alloc (Nat.le_refl _) _⟩

theorem of_exact (n : Int) (w : World) :
    Calls Tryd.prog 59 #[.int .u64 n] w fun e w' => e = .returned (wd n 0 0 0) ∧ w.alloc (.cells #[.int .u64 n, .int .u64 0, .int .u64 0, .int .u64 0] 24) = w' := by
  go_enter Tryd.func59, Tryd.ntmps59
  go_wp2
  exact bodyPost_ret (v := wd n 0 0 0) (by simp [results, Tryd.results59, go_sem]) rfl ⟨rfl, rfl⟩

/-- A number's word. -/
abbrev wn (N : Nat) : Value := wd (M.pt 0 N) (M.pt 1 N) (M.pt 2 N) (M.pt 3 N)

end Go.Proofs.YtebkmlbpngpmdaaDoor
