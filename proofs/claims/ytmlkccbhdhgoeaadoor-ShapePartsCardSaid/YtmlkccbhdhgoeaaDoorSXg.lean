/- The landed package shape does what the laws ask of it. -/
import Derived.Test.YtmlkccbhdhgoeaaDoorYEg
import Derived.Test.YtmlkccbhdhgoeaaDoorYFg
namespace Go.Proofs.YtmlkccbhdhgoeaaDoor
open Go Go.RowKit

theorem shape_ok : Shapes := ⟨shape_check, shape_fixed, shape_size, shape_fits, shape_same⟩
end Go.Proofs.YtmlkccbhdhgoeaaDoor
