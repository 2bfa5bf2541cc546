/- A slice of texts that comes in, as it lies in memory. -/
import Derived.Test.YtebkmlbpngpmdaaDoorG1g
import Derived.Lib.SmallJoins
import Derived.Deep.Slices
import Derived.SizedLaws
namespace Go.Proofs.YtebkmlbpngpmdaaDoor
open Go Go.RowKit

theorem string_cells : Tryd.prog.cellsOf 9 = 1 := by kernel_rfl
theorem reach_long : reachBytes ≤ longS := by have := reachBytes_lt; unfold longS; omega

theorem weightsAll_in {H : Type} {P : Program} {e : TypeId} : ∀ {ds : List (DataW H)} {d : DataW H}, d ∈ ds → ∀ n ∈ d.weights P e, n ∈ DataW.weightsAll P e ds
  | d' :: ds, d, h, n, hn => by
    rw [DataW.weightsAll]
    rcases List.mem_cons.1 h with rfl | h
    · exact List.mem_append_left _ hn
    · exact List.mem_append_right _ (weightsAll_in h n hn)

section
variable {H : Type} {enc : TypeId × Value → H} {W : World} {sp : Nat → Bool} {hd : Bool}

set_option maxRecDepth 100000 in
/-- What a slice of texts leads to. -/
theorem open_texts_at (fuel : Nat) (u : Value) (x : DataW H × List MemPlace) (h : DataW.trod enc Tryd.prog W 0 sp hd fuel 25 [u] = some x) (hw : ∀ n ∈ x.1.weights Tryd.prog 25, n ≤ reachBytes) :
    ∃ ls a cap, u = .slice a ls.length cap ∧ Ts W W.heap.size ls (.slice a ls.length cap) ∧ ∀ t ∈ ls, t.length ≤ longS := by
  rcases DataW.trod_slice Tryd.underlying25 h with ⟨hu, _⟩ | ⟨a, len, cap, elems, rest, n, hf, hu, hx, hb, hl, hm, hel, hei, _, _⟩
  · obtain rfl : u = .slice none 0 0 := by simpa using hu
    exact ⟨[], none, 0, rfl, .nil_ (by decide), fun t h => by cases h⟩
  · obtain rfl : u = .slice (some a) len cap := by simpa using hu
    by_cases h0 : len = 0
    · subst h0
      exact ⟨[], some a, cap, rfl, .nil_ hm, fun t h => by cases h⟩
    · have each : ∀ i, i < len → ∃ q : List UInt8, W.cell? (a.add i) = some (.string ⟨q.toArray⟩) ∧ q.length ≤ longS := by
        intro i hi
        have he := hei i hi
        rw [List.getElem?_eq_getElem (by omega)] at he
        obtain ⟨cs, h1, h2⟩ := Option.bind_eq_some_iff.1 he
        rw [string_cells, Nat.mul_one] at h1
        obtain ⟨s, e1, hlit, _⟩ := DataW.trod_string Tryd.underlying9 h2
        have hmem : ∀ k ∈ (elems[i]'(by omega)).1.weights Tryd.prog 9, k ≤ reachBytes := by
          intro k hk
          refine hw k ?_
          rw [hx]
          simp only [DataW.weights, Tryd.underlying25]
          exact List.mem_cons_of_mem _ (List.mem_append_left _ (weightsAll_in (List.mem_map.2 ⟨_, List.getElem_mem _, rfl⟩) k hk))
        rw [hlit] at hmem
        have hsl := hmem s.data.toList.length (by simp [DataW.weights])
        subst e1
        exact ⟨s.data.toList, Go.ChangeShapes.cell_of_cells?_one h1, Nat.le_trans hsl reach_long⟩
      obtain ⟨q, hq⟩ := Go.Deep.choose_lt each
      obtain ⟨b, o, spot⟩ := a
      have hspot : spot = none := by
        have := (hq 0 (by omega)).1
        simpa [Addr.add] using World.cell?_spot this
      subst hspot
      have hbl : b < W.heap.size := World.block_lt_of_cell? W _ ((hq 0 (by omega)).1)
      have hlen : ((List.range len).map q).length = len := by simp
      refine ⟨(List.range len).map q, some ⟨b, o, none⟩, cap, by rw [hlen], .row hbl (by rw [hlen]; exact hl) hm fun i s hi => ?_, fun t ht => ?_⟩
      · have hi' : i < len := by
          have := (List.getElem?_eq_some_iff.1 hi).1
          simpa using this
        simp [hi'] at hi
        subst hi
        have := (hq i hi').1
        unfold Addr.add at this
        by_cases hz : i = 0
        · subst hz; simpa using this
        · simpa [hz] using this
      · obtain ⟨i, hi, rfl⟩ := List.mem_map.1 ht
        exact (hq i (List.mem_range.1 hi)).2

set_option maxRecDepth 100000 in
/-- A slice of texts that comes in. -/
theorem open_texts {r : Reach} {b0 : Nat} {v : Value} {d : DataW H} {p : List MemPlace} (hv : Value.okWide Tryd.prog W r b0 25 v) (h : DataW.Trod enc Tryd.prog W 0 sp hd 25 v d p) (hw : ∀ n ∈ d.weights Tryd.prog 25, n ≤ reachBytes) :
    ∃ ls a cap, v = .slice a ls.length cap ∧ Ts W W.heap.size ls (.slice a ls.length cap) ∧ ∀ t ∈ ls, t.length ≤ longS := by
  obtain ⟨m, hm⟩ := h
  obtain ⟨a, l, c, rfl⟩ := Go.WideShapes.okWide_slice Tryd.underlying25 hv
  exact open_texts_at m _ (d, p) hm hw
end
end Go.Proofs.YtebkmlbpngpmdaaDoor
