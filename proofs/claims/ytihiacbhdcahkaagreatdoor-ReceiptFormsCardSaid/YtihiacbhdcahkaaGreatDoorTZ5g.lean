/- ReceiptForms, for any number that comes in. -/
import Derived.Test.YtihiacbhdcahkaaGreatDoorTZ4g
import Derived.Test.YtihiacbhdcahkaaGreatDoorTZ2g
namespace Go.Proofs.YtihiacbhdcahkaaGreatDoor
open Go Go.RowKit Go.Lib
theorem forms11_at (k : Int) (st : Bool) (ga : Nat) (ls : List M.Lg) (a : Option Addr) (cap : Nat) (fu : Bool) (n0 v0 : Nat) (x : Int) (w : World) (hh : Hdl w) (hL : Ls w w.heap.size ls (.slice a ls.length cap)) (hga : ga < 18446744073709551616) (hx : (Lit.int .u64 x).wf = true) :
    Calls Tryz.prog 7 #[.agg #[.int .i64 k, .bool st, .int .u64 (ga : Nat), .slice a ls.length cap, .bool fu, .int .u64 (n0 : Nat), .int .u64 (v0 : Nat)], .int .u64 x] w fun e w' => e = .returned (.bool true) ∧ Below w.heap.size w w' := by
  obtain ⟨no, rfl, hno⟩ := u64_nat hx
  exact forms11_law k st ga ls a cap fu n0 v0 no w hh hL hga hno
end Go.Proofs.YtihiacbhdcahkaaGreatDoor
