/- Words as values. -/
import Derived.Test.YtmlkccbhdhgoeaaDoorA0g
import Derived.Test.YtmlkccbhdhgoeaaDoorMM
namespace Go.Proofs.YtmlkccbhdhgoeaaDoor
open Go Go.RowKit

/-- A word as a value. -/
abbrev wd (a b c d : Int) : Value := .agg #[.int .u64 a, .int .u64 b, .int .u64 c, .int .u64 d]

/-- A number's word. -/
abbrev wn (N : Nat) : Value := wd (M.pt 0 N) (M.pt 1 N) (M.pt 2 N) (M.pt 3 N)

end Go.Proofs.YtmlkccbhdhgoeaaDoor
