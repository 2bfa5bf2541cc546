/- What the calls of package unrlp must do; the example of layer 5. -/
import Derived.Test.YtgeeoefcepjniaaM15
import Derived.Test.YtgeeoefcepjniaaC0
namespace Go.Proofs.Ytgeeoefcepjniaa
open Go Go.RowKit

/-- A head at any place. -/
def headZ (s : List UInt8) (k : Int) : M.Hd := if k < 0 then M.hdErr 1 else M.headL s k.toNat
/-- The document's example. -/
abbrev exU : M.It := .mk true [] [.mk false [1] [], .mk true [] []]
theorem ex_dec1 : (M.decodeL [129, 5]).2 = 8 := by decide +kernel
theorem ex_dec2 : (M.decodeL [194, 1]).2 = 3 := by decide +kernel
theorem ex_dec3 : M.decodeL [194, 1, 192] = (exU, 0) := by
  have h : M.bytesI exU = [194, 1, 192] := by decide +kernel
  rw [← h]
  exact M.dec_back (by decide +kernel)
theorem ex_dec4 : (M.decodeL [1, 2]).2 = 4 := by decide +kernel
theorem ex_head : (headZ [120, 194, 1, 192] 1).off = 2 ∧ (headZ [120, 194, 1, 192] 1).n = 2 ∧ (headZ [120, 194, 1, 192] 1).list = true ∧ (headZ [120, 194, 1, 192] 1).e = 0 := by decide +kernel
theorem ex_next : (headZ [130, 97, 98] 0).off + (headZ [130, 97, 98] 0).n = 3 ∧ (headZ [130, 97, 98] 0).e = 0 := by decide +kernel

end Go.Proofs.Ytgeeoefcepjniaa
