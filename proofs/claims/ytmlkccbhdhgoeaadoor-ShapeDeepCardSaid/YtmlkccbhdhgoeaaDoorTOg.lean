/- A type that comes in, as it lies in memory. -/
import Derived.Test.YtmlkccbhdhgoeaaDoorT1g
import Derived.Lib.SmallJoins
import Derived.Deep.Slices
import Derived.SizedLaws
namespace Go.Proofs.YtmlkccbhdhgoeaaDoor
open Go Go.RowKit

theorem type_cells : Tryd.prog.cellsOf 24 = 3 := by kernel_rfl
theorem int_cells : Tryd.prog.cellsOf 3 = 1 := by kernel_rfl
theorem types_cells : Tryd.prog.cellsOf 22 = 1 := by kernel_rfl
theorem at_add (b o i : Nat) : (⟨b, o, none⟩ : Addr).add i = ⟨b, o + i, none⟩ := by
  unfold Addr.add
  split
  · rename_i h; rw [h, Nat.add_zero]
  · rfl

section
variable {H : Type} {enc : TypeId × Value → H} {W : World} {sp : Nat → Bool} {hd : Bool}

set_option maxRecDepth 100000 in
/-- What a slice of types leads to. -/
theorem open_types : ∀ (fuel : Nat) (u : Value) (x : DataW H × List MemPlace), DataW.trod enc Tryd.prog W 0 sp hd fuel 22 [u] = some x →
    ∃ ts a cap, u = .slice a ts.length cap ∧ LayT W W.heap.size ts (.slice a ts.length cap) := by
  intro fuel
  induction fuel using Nat.strongRecOn with
  | _ fuel ih =>
    intro u x h
    rcases DataW.trod_slice Tryd.underlying22 h with ⟨hu, _⟩ | ⟨a, len, cap, elems, rest, n, hf, hu, hx, hb, hl, hm, hel, hei, _, _⟩
    · obtain rfl : u = .slice none 0 0 := by simpa using hu
      exact ⟨[], none, 0, rfl, .nil_ (by decide)⟩
    · obtain rfl : u = .slice (some a) len cap := by simpa using hu
      by_cases h0 : len = 0
      · subst h0
        exact ⟨[], some a, cap, rfl, .nil_ hm⟩
      · have each : ∀ i, i < len → ∃ q : (Int × Int) × (List M.Ty × Value), W.cell? (a.add (i * 3)) = some (.int .i64 q.1.1) ∧ W.cell? (a.add (i * 3 + 1)) = some (.int .i64 q.1.2) ∧ W.cell? (a.add (i * 3 + 2)) = some q.2.2 ∧ LayT W W.heap.size q.2.1 q.2.2 := by
          intro i hi
          have he := hei i hi
          rw [List.getElem?_eq_getElem (by omega)] at he
          obtain ⟨cs, h1, h2⟩ := Option.bind_eq_some_iff.1 he
          rw [type_cells] at h1
          obtain ⟨_, hlen, hcell⟩ := World.cells?_some h1
          obtain ⟨ps, m, hfm, hxy, _, hpl, hfi⟩ := DataW.trod_struct Tryd.underlying24 h2
          match cs, hlen, ps, hpl with
          | [v0, v1, v2], _, [y0, y1, y2], _ =>
            have g0 := hfi 0 _ rfl
            have g1 := hfi 1 _ rfl
            have g2 := hfi 2 _ rfl
            simp [int_cells, types_cells] at g0 g1 g2
            obtain ⟨k, e0, _, _⟩ := DataW.trod_int Tryd.underlying3 g0
            obtain ⟨s, e1, _, _⟩ := DataW.trod_int Tryd.underlying3 g1
            obtain ⟨xs, _, _, rfl, hLx⟩ := ih m (by omega) v2 y2 g2
            refine ⟨((k, s), (xs, _)), ?_, ?_, ?_, hLx⟩
            · have := hcell 0 (by omega)
              rw [Go.Deep.add_add, Nat.add_zero] at this
              simp at e0
              simpa [e0] using this
            · have := hcell 1 (by omega)
              simp at e1
              rw [Go.Deep.add_add] at this
              simpa [e1] using this
            · have := hcell 2 (by omega)
              rw [Go.Deep.add_add] at this
              simpa using this
        obtain ⟨q, hq⟩ := Go.Deep.choose_lt each
        obtain ⟨b, o, spot⟩ := a
        have hspot : spot = none := by
          have := (hq 0 (by omega)).1
          simpa [Addr.add] using World.cell?_spot this
        subst hspot
        have hbl : b < W.heap.size := World.block_lt_of_cell? W _ ((hq 0 (by omega)).1)
        have hlen : ((List.range len).map fun i => M.Ty.mk (q i).1.1 (q i).1.2 (q i).2.1).length = len := by simp
        refine ⟨(List.range len).map fun i => .mk (q i).1.1 (q i).1.2 (q i).2.1, some ⟨b, o, none⟩, cap, by rw [hlen], ?_⟩
        have key : ∀ (i : Nat) (k m : Int) (us : List M.Ty), ((List.range len).map fun i => M.Ty.mk (q i).1.1 (q i).1.2 (q i).2.1)[i]? = some (M.Ty.mk k m us) → i < len ∧ (q i).1.1 = k ∧ (q i).1.2 = m ∧ (q i).2.1 = us := by
          intro i k m us h
          have hi : i < len := by
            have := (List.getElem?_eq_some_iff.1 h).1
            simpa using this
          simp [hi] at h
          exact ⟨hi, h⟩
        exact LayT.row (fun i => (q i).2.2) hbl (by rw [hlen]; exact hl) hm
          (fun i k m us h => by
            obtain ⟨hi, rfl, rfl, rfl⟩ := key i k m us h
            have := (hq i hi).1
            rwa [at_add] at this)
          (fun i k m us h => by
            obtain ⟨hi, rfl, rfl, rfl⟩ := key i k m us h
            have := (hq i hi).2.1
            rwa [at_add] at this)
          (fun i k m us h => by
            obtain ⟨hi, rfl, rfl, rfl⟩ := key i k m us h
            have := (hq i hi).2.2.1
            rwa [at_add] at this)
          (fun i k m us h => by
            obtain ⟨hi, rfl, rfl, rfl⟩ := key i k m us h
            exact (hq i hi).2.2.2)

set_option maxRecDepth 100000 in
/-- A type that comes in. -/
theorem open_type {r : Reach} {b0 : Nat} {v : Value} {d : DataW H} {p : List MemPlace} (hv : Value.okWide Tryd.prog W r b0 24 v) (h : DataW.Trod enc Tryd.prog W 0 sp hd 24 v d p) :
    ∃ k n ts a cap, v = tv k n (.slice a ts.length cap) ∧ LayT W W.heap.size ts (.slice a ts.length cap) := by
  obtain ⟨v0, v1, v2, y0, y1, y2, m, rfl, rfl, rfl, g0, g1, g2⟩ := Go.Joins.open_agg3 Tryd.underlying24 (by kernel_rfl) type_cells hv h
  obtain ⟨k, e0, _, _⟩ := DataW.trod_int Tryd.underlying3 g0
  obtain ⟨n, e1, _, _⟩ := DataW.trod_int Tryd.underlying3 g1
  obtain ⟨ts, a, cap, rfl, hL⟩ := open_types m v2 y2 g2
  simp at e0 e1
  exact ⟨k, n, ts, a, cap, by rw [e0, e1], hL⟩
end
end Go.Proofs.YtmlkccbhdhgoeaaDoor
