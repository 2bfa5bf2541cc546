/- A schedule that comes in, as it lies in memory. -/
import Derived.Test.YtgmdloiekcifeaaFK1
import Derived.Lib.SmallJoins
import Derived.Deep.Slices
import Derived.SizedLaws
namespace Go.Proofs.Ytgmdloiekcifeaa
open Go Go.RowKit Go.WideShapes Go.ChangeShapes

theorem num_cells : Try.prog.cellsOf 25 = 1 := by kernel_rfl
theorem nums_cells : Try.prog.cellsOf 22 = 1 := by kernel_rfl
theorem sched_cells : Try.prog.cellsOf 24 = 1 := by kernel_rfl
section
variable {H : Type} {enc : TypeId × Value → H} {W : World} {sp : Nat → Bool} {hd : Bool}

set_option maxRecDepth 100000 in
/-- What a slice of numbers leads to. -/
theorem open_nums (fuel : Nat) (u : Value) (x : DataW H × List MemPlace) (h : DataW.trod enc Try.prog W 0 sp hd fuel 22 [u] = some x) : ∃ xs a cap, u = .slice a xs.length cap ∧ Ns W W.heap.size xs (.slice a xs.length cap) := by
  rcases DataW.trod_slice Try.underlying22 h with ⟨hu, _⟩ | ⟨a, len, cap, elems, rest, n, hf, hu, hx, hb, hl, hm, hel, hei, _, _⟩
  · obtain rfl : u = .slice none 0 0 := by simpa using hu
    exact ⟨[], none, 0, rfl, .nil_ (by decide)⟩
  · obtain rfl : u = .slice (some a) len cap := by simpa using hu
    by_cases h0 : len = 0
    · subst h0
      exact ⟨[], some a, cap, rfl, .nil_ hm⟩
    · have each : ∀ i, i < len → ∃ q : Int, W.cell? (a.add i) = some (.int .u64 q) := by
        intro i hi
        have he := hei i hi
        rw [List.getElem?_eq_getElem (by omega)] at he
        obtain ⟨cs, h1, h2⟩ := Option.bind_eq_some_iff.1 he
        rw [num_cells, Nat.mul_one] at h1
        obtain ⟨s, e1, _, _⟩ := DataW.trod_int Try.underlying25 h2
        subst e1
        exact ⟨s, Go.ChangeShapes.cell_of_cells?_one h1⟩
      obtain ⟨q, hq⟩ := Go.Deep.choose_lt each
      obtain ⟨b, o, spot⟩ := a
      have hspot : spot = none := by
        have := hq 0 (by omega)
        simpa [Addr.add] using World.cell?_spot this
      subst hspot
      have hbl : b < W.heap.size := World.block_lt_of_cell? W _ (hq 0 (by omega))
      have hlen : ((List.range len).map q).length = len := by simp
      refine ⟨(List.range len).map q, some ⟨b, o, none⟩, cap, by rw [hlen], .row hbl (by rw [hlen]; exact hl) hm fun i s hi => ?_⟩
      have hi' : i < len := by
        have := (List.getElem?_eq_some_iff.1 hi).1
        rwa [hlen] at this
      simp [hi'] at hi
      subst hi
      have := hq i hi'
      unfold Addr.add at this
      by_cases hz : i = 0
      · subst hz; simpa using this
      · simpa [hz] using this

set_option maxRecDepth 100000 in
/-- A schedule that comes in. -/
theorem open_sched {r : Reach} {b0 : Nat} {v : Value} {d : DataW H} {p : List MemPlace} (hv : Value.okWide Try.prog W r b0 24 v) (h : DataW.Trod enc Try.prog W 0 sp hd 24 v d p) :
    ∃ xs a cap, v = sch (.slice a xs.length cap) ∧ Ns W W.heap.size xs (.slice a xs.length cap) := by
  obtain ⟨cs, rfl, hsz⟩ := okWide_struct Try.underlying24 hv
  rw [sched_cells] at hsz
  obtain ⟨c0, rfl⟩ : ∃ c0, cs = #[c0] := Array.size_eq_one_iff.1 hsz
  obtain ⟨fuel, hf⟩ := h
  obtain ⟨y0, n, hx, _, h0⟩ := trod_struct1 Try.underlying24 hf
  simp only [nums_cells] at h0
  change DataW.trod enc Try.prog W 0 sp hd n 22 [c0] = some y0 at h0
  obtain ⟨xs, a, cap, rfl, hL⟩ := open_nums n c0 y0 h0
  exact ⟨xs, a, cap, rfl, hL⟩
end
theorem u8_in {n : Int} (h : (Lit.int .u8 n).wf = true) : 0 ≤ n ∧ n < 256 := by
  simp [Lit.wf] at h
  have e1 : IntKind.u8.min = 0 := by decide
  have e2 : IntKind.u8.max = 255 := by decide
  omega
end Go.Proofs.Ytgmdloiekcifeaa
