/- A word that comes in is a number's. -/
import Derived.Test.YtmlkccbhdhgoeaaDoorW0g
import Derived.Test.YtmlkccbhdhgoeaaDoorRows
import Derived.ProofKit
import Derived.OpenShut
namespace Go.Proofs.YtmlkccbhdhgoeaaDoor
open Go Go.RowKit Go.ChangeShapes Go.WideShapes Go.ChangeAt

theorem word_cells : Tryd.prog.cellsOf 27 = 4 := by kernel_rfl
theorem part_cells : Tryd.prog.cellsOf 25 = 1 := by kernel_rfl

theorem u64_in {n : Int} (h : (Lit.int .u64 n).wf = true) : 0 ≤ n ∧ n < 18446744073709551616 := by
  have := bounds_u64 h
  omega

set_option maxRecDepth 100000 in
theorem part_at {H : Type} {enc : TypeId × Value → H} {W : World} {base : Nat} {sp : Nat → Bool} {held : Bool} {m : Nat} {v : Value} {o : Option (DataW H × List MemPlace)} (ho : o.isSome = true)
    (h : DataW.trod enc Tryd.prog W base sp held m 25 [v] = o) : ∃ n : Int, v = .int .u64 n ∧ 0 ≤ n ∧ n < 18446744073709551616 := by
  obtain ⟨y, rfl⟩ := Option.isSome_iff_exists.1 ho
  obtain ⟨n, e, _, wf⟩ := DataW.trod_int Tryd.underlying25 h
  simp at e
  exact ⟨n, e, u64_in wf⟩

set_option maxRecDepth 100000 in
theorem open_word {H : Type} {enc : TypeId × Value → H} {W : World} {r : Reach} {b0 base : Nat} {sp : Nat → Bool} {held : Bool} {v : Value} {d : DataW H} {p : List MemPlace}
    (hv : Value.okWide Tryd.prog W r b0 27 v) (h : DataW.Trod enc Tryd.prog W base sp held 27 v d p) : ∃ N, M.In N ∧ v = wn N := by
  simp only [Value.okWide, Tryd.underlying27] at hv
  obtain ⟨cs, rfl, hsz, _⟩ := hv
  rw [word_cells] at hsz
  obtain ⟨c0, c1, c2, c3, rfl⟩ : ∃ c0 c1 c2 c3, cs = #[c0, c1, c2, c3] := by
    obtain ⟨l⟩ := cs
    match l, hsz with
    | [c0, c1, c2, c3], _ => exact ⟨c0, c1, c2, c3, rfl⟩
  obtain ⟨fuel, hf⟩ := h
  obtain ⟨xs, m, _, _, _, hn, hel⟩ := DataW.trod_array Tryd.underlying27 hf
  have e0 := hel 0 (by omega)
  have e1 := hel 1 (by omega)
  have e2 := hel 2 (by omega)
  have e3 := hel 3 (by omega)
  rw [part_cells] at e0 e1 e2 e3
  obtain ⟨a, rfl, la, ua⟩ := part_at (by simp [hn]) e0
  obtain ⟨b, rfl, lb, ub⟩ := part_at (by simp [hn]) e1
  obtain ⟨c, rfl, lc, uc⟩ := part_at (by simp [hn]) e2
  obtain ⟨e, rfl, le, ue⟩ := part_at (by simp [hn]) e3
  obtain ⟨N, hN, p0, p1, p2, p3⟩ := M.some_number la ua lb ub lc uc le ue
  refine ⟨N, hN, ?_⟩
  unfold wn
  rw [p0, p1, p2, p3]
end Go.Proofs.YtmlkccbhdhgoeaaDoor
