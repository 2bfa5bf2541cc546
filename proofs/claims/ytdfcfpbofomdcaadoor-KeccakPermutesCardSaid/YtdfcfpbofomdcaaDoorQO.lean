/- A state that comes in is 25 lanes; the tables as the cards list them. -/
import Derived.Test.YtdfcfpbofomdcaaDoorQ10
import Derived.Test.YtdfcfpbofomdcaaDoorRows
import Derived.ProofKit
import Derived.OpenShut
import Derived.Lib.LaidTab
import Derived.MakeChecks
import Derived.Stop.LaidErr
namespace Go.Proofs.YtdfcfpbofomdcaaDoor
open Go Go.RowKit Go.ChangeShapes Go.WideShapes Go.ChangeAt

theorem state_cells : Tryd.prog.cellsOf 23 = 25 := by kernel_rfl
theorem lane_cells : Tryd.prog.cellsOf 22 = 1 := by kernel_rfl
theorem u64_in {n : Int} (h : (Lit.int .u64 n).wf = true) : 0 ≤ n ∧ n < 18446744073709551616 := by
  have := bounds_u64 h
  omega
theorem part_at {H : Type} {enc : TypeId × Value → H} {W : World} {base : Nat} {sp : Nat → Bool} {held : Bool} {m : Nat} {v : Value} {o : Option (DataW H × List MemPlace)} (ho : o.isSome = true)
    (h : DataW.trod enc Tryd.prog W base sp held m 22 [v] = o) : ∃ n : Nat, v = .int .u64 (n : Int) ∧ n < 18446744073709551616 := by
  obtain ⟨y, rfl⟩ := Option.isSome_iff_exists.1 ho
  obtain ⟨n, e, _, wf⟩ := DataW.trod_int Tryd.underlying22 h
  obtain ⟨h0, h1⟩ := u64_in wf
  obtain ⟨m, rfl⟩ := Int.eq_ofNat_of_zero_le h0
  exact ⟨m, by simpa using e, by omega⟩
/-- The number in a value. -/
def numV : Value → Nat | .int _ n => n.toNat | _ => 0
theorem open_lanes {H : Type} {enc : TypeId × Value → H} {W : World} {r : Reach} {b0 base : Nat} {sp : Nat → Bool} {held : Bool} {v : Value} {d : DataW H} {p : List MemPlace}
    (hv : Value.okWide Tryd.prog W r b0 23 v) (h : DataW.Trod enc Tryd.prog W base sp held 23 v d p) : ∃ a, M.Lanes a ∧ v = st a := by
  simp only [Value.okWide, Tryd.array25] at hv
  obtain ⟨cs, rfl, hsz, _⟩ := hv
  rw [state_cells] at hsz
  obtain ⟨fuel, hf⟩ := h
  obtain ⟨xs, m, _, _, _, hn, hel⟩ := DataW.trod_array Tryd.array25 hf
  have hall : ∀ (i : Nat) (hi : i < cs.size), ∃ n : Nat, cs[i] = .int .u64 (n : Int) ∧ n < 18446744073709551616 := by
    intro i hi
    have e := hel i (by omega)
    rw [lane_cells] at e
    have hd : ((cs.toList.drop (i * 1)).take 1) = [cs[i]] := by
      rw [Nat.mul_one, List.drop_eq_getElem_cons (by simpa using hi)]
      rfl
    rw [show (Value.agg cs).cells.toList = cs.toList from rfl, hd] at e
    exact part_at (by simp [hn]; omega) e
  have hl : ∀ i, i < 25 → M.gl (cs.toList.map numV) i < 18446744073709551616 ∧ cs[i]? = some (.int .u64 ((M.gl (cs.toList.map numV) i : Nat) : Int)) := by
    intro i hi
    obtain ⟨n, e, hlt⟩ := hall i (by omega)
    have : M.gl (cs.toList.map numV) i = n := by
      unfold M.gl
      rw [List.getD_eq_getElem?_getD, List.getElem?_map, Array.getElem?_toList, Array.getElem?_eq_getElem (by omega), e]
      simp [numV]
    rw [this]
    exact ⟨hlt, by rw [Array.getElem?_eq_getElem (by omega), e]⟩
  have hlen : (cs.toList.map numV).length = 25 := by simp [hsz]
  refine ⟨cs.toList.map numV, ⟨hlen, fun i => ?_⟩, ?_⟩
  · rcases Nat.lt_or_ge i 25 with h | h
    · exact (hl i h).1
    · unfold M.gl
      rw [List.getD_eq_getElem?_getD, List.getElem?_eq_none (by omega)]
      simp
  · congr 1
    apply Array.ext_getElem?
    intro i
    rcases Nat.lt_or_ge i 25 with h | h
    · rw [(hl i h).2, lv_get (by omega)]
    · rw [Array.getElem?_eq_none (by omega), Array.getElem?_eq_none (by rw [lv_size]; omega)]

theorem g_turns : Tryd.prog.globalNamed "rescript/keccak.turns" = some 1 := by kernel_rfl
theorem g_numbers : Tryd.prog.globalNamed "rescript/keccak.numbers" = some 0 := by kernel_rfl
theorem t_turns : (Tryd.prog.globals[1]?).map (·.type) = some 52 := by kernel_rfl
theorem t_numbers : (Tryd.prog.globals[0]?).map (·.type) = some 37 := by kernel_rfl
theorem tab_of_laid {W : World} (h : laidMetH Tryd.prog [("rescript/keccak.turns", Rows.laid_rescript_keccak_turns), ("rescript/keccak.numbers", Rows.laid_rescript_keccak_numbers)] W) : Tab W := by
  rw [MakeChecks.laidMetH_plain _ _ _ (by kernel_rfl)] at h
  have h1 := Lib.tabIs_of_head (k := .i64) (zs := M.offs.map fun n : Nat => (n : Int)) (n := 25) (e := 3) g_turns t_turns (by kernel_rfl) (by kernel_rfl) (by kernel_rfl) (by kernel_rfl) h
  have h2 := Lib.tabIs_of_head (k := .u64) (zs := M.rcs.map fun n : Nat => (n : Int)) (n := 24) (e := 22) g_numbers t_numbers (by kernel_rfl) (by kernel_rfl) (by kernel_rfl) (by kernel_rfl) h.tail
  refine ⟨fun i hi => ?_, fun i hi => ?_⟩
  · have hl : i < M.rcs.length := hi
    rw [h2.cell g_numbers i (by rw [List.length_map]; exact hl)]
    unfold M.gl
    simp [List.getD_eq_getElem?_getD, List.getElem?_eq_getElem hl]
  · have hl : i < M.offs.length := hi
    rw [h1.cell g_turns i (by rw [List.length_map]; exact hl)]
    unfold M.gl
    simp [List.getD_eq_getElem?_getD, List.getElem?_eq_getElem hl]
end Go.Proofs.YtdfcfpbofomdcaaDoor
