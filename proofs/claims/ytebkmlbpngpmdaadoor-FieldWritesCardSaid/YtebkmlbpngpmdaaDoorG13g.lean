/- FieldWrites and FieldBack, at what comes in. -/
import Derived.Test.YtebkmlbpngpmdaaDoorG4g
import Derived.Test.YtebkmlbpngpmdaaDoorG12g
import Derived.OpenShut
namespace Go.Proofs.YtebkmlbpngpmdaaDoor
open Go Go.RowKit Go.ChangeShapes

theorem fwrites_at (HF : Hid Fields) (x : Int) (N : Nat) (s : List UInt8) (v : Bool) (ls : List (List UInt8)) (a : Option Addr) (cap : Nat) (w : World) (hx : (Lit.int .u64 x).wf = true) (hN : M.In N) (hL : Ts w w.heap.size ls (.slice a ls.length cap)) (hlong : ∀ t ∈ ls, t.length ≤ longS) :
    Calls Tryd.prog 3 #[.int .u64 x, wn N, .string ⟨s.toArray⟩, .bool v, .slice a ls.length cap] w fun e w' => e = .returned (.bool true) ∧ Below w.heap.size w w' := by
  have hb := bounds_u64 hx
  obtain ⟨n, rfl⟩ := Int.eq_ofNat_of_zero_le hb.1
  exact fwrites_law HF n N s v ls a cap w (by omega) (Lib.hid hN) hL hlong
theorem fback_at (HF : Hid Fields) (x : Int) (N : Nat) (s : List UInt8) (v : Bool) (ls : List (List UInt8)) (a : Option Addr) (cap : Nat) (w : World) (hx : (Lit.int .u64 x).wf = true) (hN : M.In N) (hL : Ts w w.heap.size ls (.slice a ls.length cap)) (hlong : ∀ t ∈ ls, t.length ≤ longS) :
    Calls Tryd.prog 4 #[.int .u64 x, wn N, .string ⟨s.toArray⟩, .bool v, .slice a ls.length cap] w fun e w' => e = .returned (.bool true) ∧ Below w.heap.size w w' := by
  have hb := bounds_u64 hx
  obtain ⟨n, rfl⟩ := Int.eq_ofNat_of_zero_le hb.1
  exact fback_law HF n N s v ls a cap w (by omega) (Lib.hid hN) hL hlong
end Go.Proofs.YtebkmlbpngpmdaaDoor
