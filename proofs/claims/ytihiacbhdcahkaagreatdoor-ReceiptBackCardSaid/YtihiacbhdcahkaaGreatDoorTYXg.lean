/- The variables that the cards of layer 11 list: the handle of 'error'; a world that holds them. -/
import Derived.Test.YtihiacbhdcahkaaGreatDoorH29
import Derived.Test.YtihiacbhdcahkaaGreatDoorRows
import Derived.ProofKit
import Derived.OpenShut
import Derived.LaidLaws
import Derived.LaidHandle
import Derived.LaidSub
import Derived.Lay
import Derived.Stop.Joined
namespace Go.Proofs.YtihiacbhdcahkaaGreatDoor
open Go Go.RowKit Go.ChangeShapes Go.WideShapes Go.ChangeAt

theorem g_et : Tryz.prog.globalNamed "errors.errorType" = some 0 := by kernel_rfl
theorem rt11 : (Tryz.prog.cutTypes.find? (·.1 == "internal/reflectlite.rtype")).map (·.2) = some 239 := by kernel_rfl
theorem oneRow11 : ((List.range Tryz.prog.types.size).filter fun t => Tryz.prog.rowNamed t [101, 114, 114, 111, 114]) = [61] := by kernel_rfl
abbrev L11 : List (String × DataW Unit) := [("unicode/utf8.acceptRanges", Rows.laid_unicode_utf8_acceptRanges), ("errors.errorType", Rows.laid_errors_errorType), ("unicode/utf8.first", Rows.laid_unicode_utf8_first)]
abbrev D11 : List (String × DataW Unit) := [("unicode/utf8.acceptRanges", Rows.laid_unicode_utf8_acceptRanges), ("unicode/utf8.first", Rows.laid_unicode_utf8_first)]
theorem hdl_of_laid {W : World} (h : laidMetH Tryz.prog L11 W) : Hdl W := by
  obtain ⟨name, u, ty, e1, e2, e3, e4, e5⟩ := (laidMetH_iff.1 h).2 ("errors.errorType", Rows.laid_errors_errorType) (List.mem_filter.2 ⟨by simp, rfl⟩)
  have en : name = [101, 114, 114, 111, 114] := (Option.some.inj e1).symm
  subst en
  obtain rfl := Option.some.inj (rt11.symm.trans e2)
  have hm : ty ∈ (List.range Tryz.prog.types.size).filter fun t => Tryz.prog.rowNamed t [101, 114, 114, 111, 114] := List.mem_filter.2 ⟨List.mem_range.2 e3, e4⟩
  rw [oneRow11] at hm
  obtain rfl := List.mem_singleton.1 hm
  have hh : typeHandle Tryz.prog 61 = .pointer (some ⟨4, 61, none⟩) := by kernel_rfl
  rw [hh] at e5
  simpa using World.var?_cell g_et e5 0

noncomputable def h11 (os : Os) : World :=
  let w0 := World.holding Tryz.prog os ⟨#[], #[], []⟩
  { w0 with heap := w0.heap.modify 0 fun
      | .cells _ t frozen => .cells #[.iface 239 (.agg #[.pointer (some ⟨4, 61, none⟩)])] t frozen
      | o => o }
noncomputable def w11 (os : Os) : World := (h11 os).layVars Tryz.prog D11
theorem w11_os (os : Os) : (w11 os).os = os := World.layVars_os _ _ _
theorem d11_eq : (L11.filter fun x => x.2.handleName?.isNone) = D11 := by rfl
theorem w11_data (os : Os) (args : Array Value) : laidMet Tryz.prog D11 ((w11 os).forCall (fun _ _ => 0) ⟨#[], args, []⟩).memory := by
  have hf : (h11 os).layFits Tryz.prog D11 [] = true := by kernel_rfl
  have hi : (h11 os).layIfaces Tryz.prog D11 (w11 os) = true := by kernel_rfl
  have e1 : (D11.filter fun x => (D11.map (·.1)).contains x.1) = D11 := List.filter_eq_self.2 fun x hx => List.contains_iff_mem.2 (List.mem_map.2 ⟨x, hx, rfl⟩)
  have e2 : (D11.filter fun x => !(D11.map (·.1)).contains x.1) = [] := List.filter_eq_nil_iff.2 fun x hx => by rw [List.contains_iff_mem.2 (List.mem_map.2 ⟨x, hx, rfl⟩)]; simp
  have h : laidMet Tryz.prog D11 (w11 os) := laidMet_layVars (w0 := h11 os) (D11.map (·.1)) [] (by rw [e1]; rfl) (by rw [e1]; exact hf) (by rw [e1]; exact hi) (by rw [e2]; exact LaidIn.none)
  exact h.of_heap (by simp [World.memory, World.forCall, Input.heap])
theorem w11_met (os : Os) (args : Array Value) : laidMetH Tryz.prog L11 ((w11 os).forCall (fun _ _ => 0) ⟨#[], args, []⟩).memory :=
  laidMetH_of_parts (by rw [d11_eq]; exact w11_data os args) (by kernel_rfl)
end Go.Proofs.YtihiacbhdcahkaaGreatDoor
