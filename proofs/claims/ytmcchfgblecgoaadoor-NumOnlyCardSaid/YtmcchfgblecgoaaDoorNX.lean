/- The calls that the statements' own example makes, layer 2. -/
import Derived.Test.YtmcchfgblecgoaaDoorN6
import Derived.Test.YtmcchfgblecgoaaDoorN7
import Derived.Test.YtmcchfgblecgoaaDoorN11
import Derived.Laws.IdiomStrings
namespace Go.Proofs.YtmcchfgblecgoaaDoor
open Go Go.RowKit

theorem conv_l (xs : List UInt8) (n : Nat) (hn : xs.length = n) (W : World) : (convert 36 9 (.slice (some ⟨W.heap.size, 0, none⟩) n n)).run Tryd.prog (W.alloc (.cells (xs.map fun c => .int .u8 (c.toNat : Int)).toArray 5)) = .ok (.string ⟨xs.toArray⟩) (W.alloc (.cells (xs.map fun c => .int .u8 (c.toNat : Int)).toArray 5)) := by
  subst hn
  refine run_convert_bytes_back (W.alloc (.cells (xs.map fun c => Value.int .u8 (c.toNat : Int)).toArray 5)) 36 9 5 ⟨W.heap.size, 0, none⟩ xs.length xs Tryd.underlying36 Tryd.underlying5 Tryd.underlying9 ?_
  intro j hj
  by_cases h0 : j = 0
  · subst h0
    simp [Addr.add, go_sem, hj]
  · simp [Addr.add, go_sem, h0, hj]

theorem ex_var (w : World) : Calls Tryd.prog 13 #[.int .u64 300] w fun e w' => e = .returned (.string ⟨#[172, 2]⟩) ∧ Below w.heap.size w w' := by
  have h := var_any 300 w (by omega)
  rwa [show M.vrn 300 = [172, 2] by decide] at h
theorem ex_var0 (w : World) : Calls Tryd.prog 13 #[.int .u64 0] w fun e w' => e = .returned (.string ⟨#[0]⟩) ∧ Below w.heap.size w w' := by
  have h := var_any 0 w (by omega)
  rwa [show M.vrn 0 = [0] by decide] at h
theorem ex_unvar (w : World) : Calls Tryd.prog 15 #[.string ⟨#[120, 172, 2]⟩, .int .i64 1] w fun e w' => e = .returned (.tuple #[.int .u64 300, .int .i64 3, .int .i64 0]) ∧ Below w.heap.size w w' := by
  have h := unvar_any [120, 172, 2] 1 w (by simp)
  rwa [show M.uv [120, 172, 2] 1 = (300, 3, 0) by decide] at h
theorem ex_short (w : World) : Calls Tryd.prog 15 #[.string ⟨#[128]⟩, .int .i64 0] w fun e w' => e = .returned (.tuple #[.int .u64 0, .int .i64 0, .int .i64 3]) ∧ Below w.heap.size w w' := by
  have h := unvar_any [128] 0 w (by simp)
  rwa [show M.uv [128] 0 = (0, 0, 3) by decide] at h
theorem ex_zero (w : World) : Calls Tryd.prog 15 #[.string ⟨#[128, 0]⟩, .int .i64 0] w fun e w' => e = .returned (.tuple #[.int .u64 0, .int .i64 0, .int .i64 8]) ∧ Below w.heap.size w w' := by
  have h := unvar_any [128, 0] 0 w (by simp)
  rwa [show M.uv [128, 0] 0 = (0, 0, 8) by decide] at h
theorem ex_le (w : World) : Calls Tryd.prog 9 #[.int .u64 258, .int .i64 3] w fun e w' => e = .returned (.tuple #[.string ⟨#[2, 1, 0]⟩, .int .i64 0]) ∧ Below w.heap.size w w' := by
  have h := le_any 258 3 w (by omega)
  rwa [show M.lw 258 3 = ([2, 1, 0], 0) by decide] at h
theorem ex_arg (w : World) : Calls Tryd.prog 9 #[.int .u64 256, .int .i64 1] w fun e w' => e = .returned (.tuple #[.string ⟨#[]⟩, .int .i64 1]) ∧ Below w.heap.size w w' := by
  have h := le_any 256 1 w (by omega)
  rwa [show M.lw 256 1 = ([], 1) by decide] at h
theorem ex_unle (w : World) : Calls Tryd.prog 16 #[.string ⟨#[2, 1, 0]⟩] w fun e w' => e = .returned (.tuple #[.int .u64 258, .int .i64 0]) ∧ w = w' := by
  have h := unle_any [2, 1, 0] w
  rwa [show M.ul [2, 1, 0] = (258, 0) by decide] at h
theorem ex_be (w : World) : Calls Tryd.prog 12 #[.int .u64 258] w fun e w' => e = .returned (.string ⟨#[1, 2]⟩) ∧ Below w.heap.size w w' := by
  have h := nbe_any 258 w (by omega)
  rwa [show M.tr (M.f32 258) = [1, 2] by decide] at h
theorem ex_be0 (w : World) : Calls Tryd.prog 12 #[.int .u64 0] w fun e w' => e = .returned (.string ⟨#[]⟩) ∧ Below w.heap.size w w' := by
  have h := nbe_any 0 w (by omega)
  rwa [show M.tr (M.f32 0) = [] by decide] at h
theorem ex_unbe (w : World) : Calls Tryd.prog 14 #[.string ⟨#[1, 2]⟩] w fun e w' => e = .returned (.tuple #[.int .u64 258, .int .i64 0]) ∧ Below w.heap.size w w' := by
  have h := unbe_any [1, 2] w
  rwa [show M.ub [1, 2] = (258, 0) by decide] at h
end Go.Proofs.YtmcchfgblecgoaaDoor
