/- An item that comes in, as it lies in memory. -/
import Derived.Test.YtebkmlbpngpmdaaDoorC1g
import Derived.Lib.SmallJoins
import Derived.Deep.Slices
import Derived.SizedLaws
namespace Go.Proofs.YtebkmlbpngpmdaaDoor
open Go Go.RowKit

theorem item_cells : Tryd.prog.cellsOf 30 = 3 := by kernel_rfl
theorem bool_cells : Tryd.prog.cellsOf 4 = 1 := by kernel_rfl
theorem str_cells : Tryd.prog.cellsOf 9 = 1 := by kernel_rfl
theorem sl_cells : Tryd.prog.cellsOf 28 = 1 := by kernel_rfl

theorem weightsAll_mem {H : Type} {P : Program} {e : TypeId} : ∀ {ds : List (DataW H)} {d : DataW H}, d ∈ ds → ∀ n ∈ d.weights P e, n ∈ DataW.weightsAll P e ds
  | d' :: ds, d, h, n, hn => by
    rw [DataW.weightsAll]
    rcases List.mem_cons.1 h with rfl | h
    · exact List.mem_append_left _ hn
    · exact List.mem_append_right _ (weightsAll_mem h n hn)

theorem M.smIs_of {xs : List M.It} (h : ∀ x ∈ xs, M.smI x) : M.smIs xs := by
  induction xs with
  | nil => trivial
  | cons x xs ih => exact ⟨h x (by simp), ih (fun y hy => h y (by simp [hy]))⟩

theorem add_at (b o i : Nat) : (⟨b, o, none⟩ : Addr).add i = ⟨b, o + i, none⟩ := by
  unfold Addr.add
  split
  · rename_i h; rw [h, Nat.add_zero]
  · rfl

section
variable {H : Type} {enc : TypeId × Value → H} {W : World} {sp : Nat → Bool} {hd : Bool}

set_option maxRecDepth 100000 in
/-- What a slice of items leads to. -/
theorem open_items : ∀ (fuel : Nat) (u : Value) (x : DataW H × List MemPlace), DataW.trod enc Tryd.prog W 0 sp hd fuel 28 [u] = some x → (∀ n ∈ x.1.weights Tryd.prog 28, n ≤ reachBytes) →
    ∃ xs, Lay W W.heap.size xs u ∧ M.smIs xs := by
  intro fuel
  induction fuel using Nat.strongRecOn with
  | _ fuel ih =>
    intro u x h hw
    have h' := h
    rcases DataW.trod_slice Tryd.underlying28 h with ⟨hu, _⟩ | ⟨a, len, cap, elems, rest, n, hf, hu, hx, hb, hl, hm, hel, hei, _, _⟩
    · obtain rfl : u = .slice none 0 0 := by simpa using hu
      exact ⟨[], .nil_ (by decide), trivial⟩
    · obtain rfl : u = .slice (some a) len cap := by simpa using hu
      by_cases h0 : len = 0
      · subst h0
        exact ⟨[], .nil_ hm, trivial⟩
      · have each : ∀ i, i < len → ∃ q : (Bool × List UInt8) × (List M.It × Value), W.cell? (a.add (i * 3)) = some (.bool q.1.1) ∧ W.cell? (a.add (i * 3 + 1)) = some (.string ⟨q.1.2.toArray⟩) ∧ W.cell? (a.add (i * 3 + 2)) = some q.2.2 ∧ Lay W W.heap.size q.2.1 q.2.2 ∧ M.smI (.mk q.1.1 q.1.2 q.2.1) := by
          intro i hi
          have he := hei i hi
          rw [List.getElem?_eq_getElem (by omega)] at he
          obtain ⟨cs, h1, h2⟩ := Option.bind_eq_some_iff.1 he
          rw [item_cells] at h1
          obtain ⟨_, hlen, hcell⟩ := World.cells?_some h1
          obtain ⟨ps, m, hfm, hxy, _, hpl, hfi⟩ := DataW.trod_struct Tryd.underlying30 h2
          have hmem : ∀ k ∈ (elems[i]'(by omega)).1.weights Tryd.prog 30, k ≤ reachBytes := by
            intro k hk
            refine hw k ?_
            rw [hx]
            simp only [DataW.weights, Tryd.underlying28]
            exact List.mem_cons_of_mem _ (List.mem_append_left _ (weightsAll_mem (List.mem_map.2 ⟨_, List.getElem_mem _, rfl⟩) k hk))
          rw [hxy] at hmem
          match cs, hlen, ps, hpl with
          | [v0, v1, v2], _, [y0, y1, y2], _ =>
            have g0 := hfi 0 _ rfl
            have g1 := hfi 1 _ rfl
            have g2 := hfi 2 _ rfl
            simp [bool_cells, str_cells, sl_cells] at g0 g1 g2
            obtain ⟨l, e0, rfl⟩ := DataW.trod_bool Tryd.underlying4 g0
            obtain ⟨s, e1, rfl, _⟩ := DataW.trod_string Tryd.underlying9 g1
            simp only [DataW.weights, Tryd.underlying30, List.map_cons, List.map_nil, DataW.weightsEach] at hmem
            obtain ⟨xs, hLx, hsx⟩ := ih m (by omega) v2 y2 g2 (fun k hk => hmem k (by simp [hk]))
            have hsl := hmem s.data.toList.length (by simp)
            refine ⟨((l, s.data.toList), (xs, v2)), ?_, ?_, ?_, hLx, ?_, hsx⟩
            · have := hcell 0 (by omega)
              rw [Go.Deep.add_add, Nat.add_zero] at this
              simp at e0
              simpa [e0] using this
            · have := hcell 1 (by omega)
              simp at e1
              rw [Go.Deep.add_add] at this
              simpa [e1] using this
            · have := hcell 2 (by omega)
              rw [Go.Deep.add_add] at this
              simpa using this
            · have := reachBytes_lt
              show s.data.toList.length ≤ _
              omega
        obtain ⟨q, hq⟩ := Go.Deep.choose_lt each
        obtain ⟨b, o, spot⟩ := a
        have hspot : spot = none := by
          have := (hq 0 (by omega)).1
          simpa [Addr.add] using World.cell?_spot this
        subst hspot
        have hbl : b < W.heap.size := World.block_lt_of_cell? W _ ((hq 0 (by omega)).1)
        refine ⟨(List.range len).map fun i => .mk (q i).1.1 (q i).1.2 (q i).2.1, ?_, ?_⟩
        · have hlen : len = ((List.range len).map fun i => M.It.mk (q i).1.1 (q i).1.2 (q i).2.1).length := by simp
          have key : ∀ i l d ys, ((List.range len).map fun i => M.It.mk (q i).1.1 (q i).1.2 (q i).2.1)[i]? = some (.mk l d ys) → i < len ∧ (q i).1.1 = l ∧ (q i).1.2 = d ∧ (q i).2.1 = ys := by
            intro i l d ys h
            have hi : i < len := by
              have := (List.getElem?_eq_some_iff.1 h).1
              simpa using this
            simp [hi] at h
            exact ⟨hi, h⟩
          have := Lay.row (w := W) (n := W.heap.size) (xs := (List.range len).map fun i => M.It.mk (q i).1.1 (q i).1.2 (q i).2.1) (b := b) (o := o) (cap := cap) (fun i => (q i).2.2) hbl (by simpa using hl) hm
            (fun i l d ys h => by
              obtain ⟨hi, rfl, rfl, rfl⟩ := key i l d ys h
              have := (hq i hi).1
              rwa [add_at] at this)
            (fun i l d ys h => by
              obtain ⟨hi, rfl, rfl, rfl⟩ := key i l d ys h
              have := (hq i hi).2.1
              rwa [add_at] at this)
            (fun i l d ys h => by
              obtain ⟨hi, rfl, rfl, rfl⟩ := key i l d ys h
              have := (hq i hi).2.2.1
              rwa [add_at] at this)
            (fun i l d ys h => by
              obtain ⟨hi, rfl, rfl, rfl⟩ := key i l d ys h
              exact (hq i hi).2.2.2.1)
          rw [← hlen] at this
          exact this
        · refine M.smIs_of fun x hx => ?_
          obtain ⟨i, hi, rfl⟩ := List.mem_map.1 hx
          exact (hq i (List.mem_range.1 hi)).2.2.2.2

set_option maxRecDepth 100000 in
/-- An item that comes in. -/
theorem open_item {r : Reach} {b0 : Nat} {v : Value} {d : DataW H} {p : List MemPlace} (hv : Value.okWide Tryd.prog W r b0 30 v) (h : DataW.Trod enc Tryd.prog W 0 sp hd 30 v d p) (hw : ∀ n ∈ d.weights Tryd.prog 30, n ≤ reachBytes) :
    ∃ l e xs u, v = iv l e u ∧ Lay W W.heap.size xs u ∧ M.smI (.mk l e xs) := by
  obtain ⟨v0, v1, v2, y0, y1, y2, m, rfl, rfl, rfl, g0, g1, g2⟩ := Go.Joins.open_agg3 Tryd.underlying30 (by kernel_rfl) item_cells hv h
  obtain ⟨l, e0, rfl⟩ := DataW.trod_bool Tryd.underlying4 g0
  obtain ⟨s, e1, rfl, _⟩ := DataW.trod_string Tryd.underlying9 g1
  simp only [DataW.weights, Tryd.underlying30, List.map_cons, List.map_nil, DataW.weightsEach] at hw
  obtain ⟨xs, hLx, hsx⟩ := open_items m v2 y2 g2 (fun k hk => hw k (by simp [hk]))
  have hsl := hw s.data.toList.length (by simp)
  refine ⟨l, s.data.toList, xs, v2, ?_, hLx, ?_, hsx⟩
  · simp at e0 e1
    rw [e0, e1]
  · have := reachBytes_lt
    show s.data.toList.length ≤ _
    omega
end
end Go.Proofs.YtebkmlbpngpmdaaDoor
