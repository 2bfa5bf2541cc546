/- An item more in a row of a call's own, kept in a box: the statement 'l = append(l, it)', in whatever order. -/
import Derived.Test.YtgeeoefcepjniaaJ1
import Derived.Test.YtgeeoefcepjniaaF0
import Derived.OrdersHeld
import Derived.Deep.RegionHeld
namespace Go.Proofs.Ytgeeoefcepjniaa
open Go Go.RowKit

end Go.Proofs.Ytgeeoefcepjniaa
