/- The contract of word.Unfixed. -/
import Derived.Test.YtaajkbclojmbeaaGreatDoorI03
import Derived.Lib.Hide
namespace Go.Proofs.YtaajkbclojmbeaaGreatDoor
open Go Go.RowKit

/-- One more byte behind a number. -/
def st8 (v : Int) (c : UInt8) : Int := bits BinOp.or IntKind.u64 (IntKind.u64.wrap (v * 256)) (IntKind.u64.wrap ↑c.toNat)

end Go.Proofs.YtaajkbclojmbeaaGreatDoor
