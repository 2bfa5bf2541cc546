/- A value that comes in, as it lies in memory. -/
import Derived.Test.YtmlkccbhdhgoeaaDoorTOg
import Derived.Test.YtmlkccbhdhgoeaaDoorOg
namespace Go.Proofs.YtmlkccbhdhgoeaaDoor
open Go Go.RowKit

theorem val_cells : Tryd.prog.cellsOf 31 = 7 := by kernel_rfl
theorem bit_cells : Tryd.prog.cellsOf 4 = 1 := by kernel_rfl
theorem bits_cells : Tryd.prog.cellsOf 28 = 1 := by kernel_rfl
theorem vals_cells : Tryd.prog.cellsOf 29 = 1 := by kernel_rfl

section
variable {H : Type} {enc : TypeId × Value → H} {W : World} {sp : Nat → Bool} {hd : Bool}

set_option maxRecDepth 100000 in
/-- What a slice of bits leads to. -/
theorem open_bits (fuel : Nat) (u : Value) (x : DataW H × List MemPlace) (h : DataW.trod enc Tryd.prog W 0 sp hd fuel 28 [u] = some x) : ∃ bs a cap, u = .slice a bs.length cap ∧ LayB W W.heap.size bs (.slice a bs.length cap) := by
  rcases DataW.trod_slice Tryd.underlying28 h with ⟨hu, _⟩ | ⟨a, len, cap, elems, rest, n, hf, hu, hx, hb, hl, hm, hel, hei, _, _⟩
  · obtain rfl : u = .slice none 0 0 := by simpa using hu
    exact ⟨[], none, 0, rfl, .nil_ (by decide)⟩
  · obtain rfl : u = .slice (some a) len cap := by simpa using hu
    by_cases h0 : len = 0
    · subst h0
      exact ⟨[], some a, cap, rfl, .nil_ hm⟩
    · have each : ∀ i, i < len → ∃ q : Bool, W.cell? (a.add i) = some (.bool q) := by
        intro i hi
        have he := hei i hi
        rw [List.getElem?_eq_getElem (by omega)] at he
        obtain ⟨cs, h1, h2⟩ := Option.bind_eq_some_iff.1 he
        rw [bit_cells, Nat.mul_one] at h1
        obtain ⟨s, e1, _⟩ := DataW.trod_bool Tryd.underlying4 h2
        subst e1
        exact ⟨s, Go.ChangeShapes.cell_of_cells?_one h1⟩
      obtain ⟨q, hq⟩ := Go.Deep.choose_lt each
      obtain ⟨b, o, spot⟩ := a
      have hspot : spot = none := by
        have := hq 0 (by omega)
        simpa [Addr.add] using World.cell?_spot this
      subst hspot
      have hbl : b < W.heap.size := World.block_lt_of_cell? W _ (hq 0 (by omega))
      have hlen : ((List.range len).map q).length = len := by simp
      refine ⟨(List.range len).map q, some ⟨b, o, none⟩, cap, by rw [hlen], .row hbl (by rw [hlen]; exact hl) hm fun i s hi => ?_⟩
      have hi' : i < len := by
        have := (List.getElem?_eq_some_iff.1 hi).1
        rwa [hlen] at this
      simp [hi'] at hi
      subst hi
      have := hq i hi'
      rwa [at_add] at this

set_option maxRecDepth 100000 in
/-- The four parts of a word, out of four cells. -/
theorem open_parts {m : Nat} {c0 c1 c2 c3 : Value} {y : DataW H × List MemPlace} (h : DataW.trod enc Tryd.prog W 0 sp hd m 27 [c0, c1, c2, c3] = some y) : ∃ N, M.In N ∧ c0 = .int .u64 (M.pt 0 N) ∧ c1 = .int .u64 (M.pt 1 N) ∧ c2 = .int .u64 (M.pt 2 N) ∧ c3 = .int .u64 (M.pt 3 N) := by
  obtain ⟨xs, m', _, _, _, hn, hel⟩ := DataW.trod_array Tryd.underlying27 h
  have e0 := hel 0 (by omega)
  have e1 := hel 1 (by omega)
  have e2 := hel 2 (by omega)
  have e3 := hel 3 (by omega)
  rw [part_cells] at e0 e1 e2 e3
  obtain ⟨a, rfl, la, ua⟩ := part_at (by simp [hn]) e0
  obtain ⟨b, rfl, lb, ub⟩ := part_at (by simp [hn]) e1
  obtain ⟨c, rfl, lc, uc⟩ := part_at (by simp [hn]) e2
  obtain ⟨e, rfl, le, ue⟩ := part_at (by simp [hn]) e3
  obtain ⟨N, hN, p0, p1, p2, p3⟩ := M.some_number la ua lb ub lc uc le ue
  exact ⟨N, hN, by rw [p0], by rw [p1], by rw [p2], by rw [p3]⟩

set_option maxRecDepth 100000 in
/-- What a slice of values leads to. -/
theorem open_vals : ∀ (fuel : Nat) (u : Value) (x : DataW H × List MemPlace), DataW.trod enc Tryd.prog W 0 sp hd fuel 29 [u] = some x →
    ∃ vs a cap, u = .slice a vs.length cap ∧ LayV W W.heap.size vs (.slice a vs.length cap) := by
  intro fuel
  induction fuel using Nat.strongRecOn with
  | _ fuel ih =>
    intro u x h
    rcases DataW.trod_slice Tryd.underlying29 h with ⟨hu, _⟩ | ⟨a, len, cap, elems, rest, n, hf, hu, hx, hb, hl, hm, hel, hei, _, _⟩
    · obtain rfl : u = .slice none 0 0 := by simpa using hu
      exact ⟨[], none, 0, rfl, .nil_ (by decide)⟩
    · obtain rfl : u = .slice (some a) len cap := by simpa using hu
      by_cases h0 : len = 0
      · subst h0
        exact ⟨[], some a, cap, rfl, .nil_ hm⟩
      · have each : ∀ i, i < len → ∃ q : (Nat × Int) × ((List Bool × Value) × (List M.Va × Value)), M.In q.1.1 ∧ W.cell? (a.add (i * 7)) = some (.int .u64 (M.pt 0 q.1.1)) ∧ W.cell? (a.add (i * 7 + 1)) = some (.int .u64 (M.pt 1 q.1.1)) ∧ W.cell? (a.add (i * 7 + 2)) = some (.int .u64 (M.pt 2 q.1.1)) ∧ W.cell? (a.add (i * 7 + 3)) = some (.int .u64 (M.pt 3 q.1.1)) ∧
            W.cell? (a.add (i * 7 + 4)) = some q.2.1.2 ∧ W.cell? (a.add (i * 7 + 5)) = some q.2.2.2 ∧ W.cell? (a.add (i * 7 + 6)) = some (.int .i64 q.1.2) ∧ LayB W W.heap.size q.2.1.1 q.2.1.2 ∧ LayV W W.heap.size q.2.2.1 q.2.2.2 := by
          intro i hi
          have he := hei i hi
          rw [List.getElem?_eq_getElem (by omega)] at he
          obtain ⟨cs, h1, h2⟩ := Option.bind_eq_some_iff.1 he
          rw [val_cells] at h1
          obtain ⟨_, hlen, hcell⟩ := World.cells?_some h1
          obtain ⟨ps, m, hfm, hxy, _, hpl, hfi⟩ := DataW.trod_struct Tryd.underlying31 h2
          match cs, hlen, ps, hpl with
          | [v0, v1, v2, v3, v4, v5, v6], _, [y0, y1, y2, y3], _ =>
            have g0 := hfi 0 _ rfl
            have g1 := hfi 1 _ rfl
            have g2 := hfi 2 _ rfl
            have g3 := hfi 3 _ rfl
            simp [int_cells, word_cells, bits_cells, vals_cells] at g0 g1 g2 g3
            obtain ⟨N, hN, e0, e1, e2, e3⟩ := open_parts g0
            obtain ⟨bs, _, _, rfl, hLb⟩ := open_bits m v4 y1 g1
            obtain ⟨vs, _, _, rfl, hLv⟩ := ih m (by omega) v5 y2 g2
            obtain ⟨p, e6, _, _⟩ := DataW.trod_int Tryd.underlying3 g3
            simp at e6
            subst e0 e1 e2 e3 e6
            refine ⟨((N, p), ((bs, _), (vs, _))), hN, ?_, ?_, ?_, ?_, ?_, ?_, ?_, hLb, hLv⟩
            · have := hcell 0 (by omega)
              rw [Go.Deep.add_add, Nat.add_zero] at this
              simpa using this
            · have := hcell 1 (by omega)
              rw [Go.Deep.add_add] at this
              simpa using this
            · have := hcell 2 (by omega)
              rw [Go.Deep.add_add] at this
              simpa using this
            · have := hcell 3 (by omega)
              rw [Go.Deep.add_add] at this
              simpa using this
            · have := hcell 4 (by omega)
              rw [Go.Deep.add_add] at this
              simpa using this
            · have := hcell 5 (by omega)
              rw [Go.Deep.add_add] at this
              simpa using this
            · have := hcell 6 (by omega)
              rw [Go.Deep.add_add] at this
              simpa using this
        obtain ⟨q, hq⟩ := Go.Deep.choose_lt each
        obtain ⟨b, o, spot⟩ := a
        have hspot : spot = none := by
          have := (hq 0 (by omega)).2.1
          simpa [Addr.add] using World.cell?_spot this
        subst hspot
        have hbl : b < W.heap.size := World.block_lt_of_cell? W _ ((hq 0 (by omega)).2.1)
        have hlen : ((List.range len).map fun i => M.Va.mk (q i).1.1 (q i).2.1.1 (q i).2.2.1 (q i).1.2).length = len := by simp
        refine ⟨(List.range len).map fun i => .mk (q i).1.1 (q i).2.1.1 (q i).2.2.1 (q i).1.2, some ⟨b, o, none⟩, cap, by rw [hlen], ?_⟩
        have key : ∀ (i N : Nat) (bs : List Bool) (us : List M.Va) (p : Int), ((List.range len).map fun i => M.Va.mk (q i).1.1 (q i).2.1.1 (q i).2.2.1 (q i).1.2)[i]? = some (M.Va.mk N bs us p) → i < len ∧ (q i).1.1 = N ∧ (q i).2.1.1 = bs ∧ (q i).2.2.1 = us ∧ (q i).1.2 = p := by
          intro i N bs us p h
          have hi : i < len := by
            have := (List.getElem?_eq_some_iff.1 h).1
            simpa using this
          simp [hi] at h
          exact ⟨hi, h⟩
        refine LayV.row (fun i => (q i).2.1.2) (fun i => (q i).2.2.2) hbl (by rw [hlen]; exact hl) hm ?_ ?_ ?_ ?_
        · intro i N bs us p h
          obtain ⟨hi, rfl, rfl, rfl, rfl⟩ := key i N bs us p h
          exact (hq i hi).1
        · intro i N bs us p h
          obtain ⟨hi, rfl, rfl, rfl, rfl⟩ := key i N bs us p h
          obtain ⟨_, k0, k1, k2, k3, k4, k5, k6, _, _⟩ := hq i hi
          rw [at_add] at k0 k1 k2 k3 k4 k5 k6
          exact ⟨k0, k1, k2, k3, k4, k5, k6⟩
        · intro i N bs us p h
          obtain ⟨hi, rfl, rfl, rfl, rfl⟩ := key i N bs us p h
          exact (hq i hi).2.2.2.2.2.2.2.2.1
        · intro i N bs us p h
          obtain ⟨hi, rfl, rfl, rfl, rfl⟩ := key i N bs us p h
          exact (hq i hi).2.2.2.2.2.2.2.2.2

set_option maxRecDepth 100000 in
/-- A value that comes in. -/
theorem open_val {r : Reach} {b0 : Nat} {v : Value} {d : DataW H} {p : List MemPlace} (hv : Value.okWide Tryd.prog W r b0 31 v) (h : DataW.Trod enc Tryd.prog W 0 sp hd 31 v d p) :
    ∃ N bs us q ab cb au cu, v = vv N (.slice ab bs.length cb) (.slice au us.length cu) q ∧ Vl W W.heap.size N bs us ab cb au cu := by
  obtain ⟨cs, rfl, hsz⟩ := Go.WideShapes.okWide_struct Tryd.underlying31 hv
  rw [val_cells] at hsz
  obtain ⟨c0, c1, c2, c3, c4, c5, c6, rfl⟩ : ∃ c0 c1 c2 c3 c4 c5 c6, cs = #[c0, c1, c2, c3, c4, c5, c6] := by
    obtain ⟨l⟩ := cs
    match l, hsz with
    | [c0, c1, c2, c3, c4, c5, c6], _ => exact ⟨c0, c1, c2, c3, c4, c5, c6, rfl⟩
  obtain ⟨fuel, hf⟩ := h
  obtain ⟨ps, m, _, _, _, hpl, hfi⟩ := DataW.trod_struct Tryd.underlying31 hf
  match ps, hpl with
  | [y0, y1, y2, y3], _ =>
    have g0 := hfi 0 _ rfl
    have g1 := hfi 1 _ rfl
    have g2 := hfi 2 _ rfl
    have g3 := hfi 3 _ rfl
    simp [int_cells, word_cells, bits_cells, vals_cells, Value.cells] at g0 g1 g2 g3
    obtain ⟨N, hN, e0, e1, e2, e3⟩ := open_parts g0
    obtain ⟨bs, ab, cb, rfl, hLb⟩ := open_bits m c4 y1 g1
    obtain ⟨us, au, cu, rfl, hLv⟩ := open_vals m c5 y2 g2
    obtain ⟨q, e6, _, _⟩ := DataW.trod_int Tryd.underlying3 g3
    simp at e6
    subst e0 e1 e2 e3 e6
    exact ⟨N, bs, us, q, ab, cb, au, cu, rfl, hN, hLb, hLv⟩
end
end Go.Proofs.YtmlkccbhdhgoeaaDoor
