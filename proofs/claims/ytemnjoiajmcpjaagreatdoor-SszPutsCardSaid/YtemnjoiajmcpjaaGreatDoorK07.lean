/- A type that comes in, as it lies in memory. A word that comes in is a number's. A value that comes in, as it lies in memory. What the calls of package shape must do; the example of layer 7. The landed package shape: what a kind's fields are made of: numbers, forms, sizes. -/
import Derived.Test.YtemnjoiajmcpjaaGreatDoorK01
import Derived.Lib.SmallJoins
import Derived.Deep.Slices
import Derived.SizedLaws
import Derived.Test.YtemnjoiajmcpjaaGreatDoorRows
import Derived.ProofKit
import Derived.OpenShut
import Derived.Test.YtemnjoiajmcpjaaGreatDoorK06
import Derived.Test.YtemnjoiajmcpjaaGreatDoorK02
namespace Go.Proofs.YtemnjoiajmcpjaaGreatDoor
open Go Go.RowKit

theorem type_cells : Tryz.prog.cellsOf 24 = 3 := by kernel_rfl
theorem int_cells : Tryz.prog.cellsOf 3 = 1 := by kernel_rfl
theorem types_cells : Tryz.prog.cellsOf 22 = 1 := by kernel_rfl
theorem at_add (b o i : Nat) : (⟨b, o, none⟩ : Addr).add i = ⟨b, o + i, none⟩ := by
  unfold Addr.add
  split
  · rename_i h; rw [h, Nat.add_zero]
  · rfl

section
variable {H : Type} {enc : TypeId × Value → H} {W : World} {sp : Nat → Bool} {hd : Bool}

set_option maxRecDepth 100000 in
/-- What a slice of types leads to. -/
theorem open_types : ∀ (fuel : Nat) (u : Value) (x : DataW H × List MemPlace), DataW.trod enc Tryz.prog W 0 sp hd fuel 22 [u] = some x →
    ∃ ts a cap, u = .slice a ts.length cap ∧ LayT W W.heap.size ts (.slice a ts.length cap) := by
  intro fuel
  induction fuel using Nat.strongRecOn with
  | _ fuel ih =>
    intro u x h
    rcases DataW.trod_slice Tryz.underlying22 h with ⟨hu, _⟩ | ⟨a, len, cap, elems, rest, n, hf, hu, hx, hb, hl, hm, hel, hei, _, _⟩
    · obtain rfl : u = .slice none 0 0 := by simpa using hu
      exact ⟨[], none, 0, rfl, .nil_ (by decide)⟩
    · obtain rfl : u = .slice (some a) len cap := by simpa using hu
      by_cases h0 : len = 0
      · subst h0
        exact ⟨[], some a, cap, rfl, .nil_ hm⟩
      · have each : ∀ i, i < len → ∃ q : (Int × Int) × (List M.Ty × Value), W.cell? (a.add (i * 3)) = some (.int .i64 q.1.1) ∧ W.cell? (a.add (i * 3 + 1)) = some (.int .i64 q.1.2) ∧ W.cell? (a.add (i * 3 + 2)) = some q.2.2 ∧ LayT W W.heap.size q.2.1 q.2.2 := by
          intro i hi
          have he := hei i hi
          rw [List.getElem?_eq_getElem (by omega)] at he
          obtain ⟨cs, h1, h2⟩ := Option.bind_eq_some_iff.1 he
          rw [type_cells] at h1
          obtain ⟨_, hlen, hcell⟩ := World.cells?_some h1
          obtain ⟨ps, m, hfm, hxy, _, hpl, hfi⟩ := DataW.trod_struct Tryz.underlying24 h2
          match cs, hlen, ps, hpl with
          | [v0, v1, v2], _, [y0, y1, y2], _ =>
            have g0 := hfi 0 _ rfl
            have g1 := hfi 1 _ rfl
            have g2 := hfi 2 _ rfl
            simp [int_cells, types_cells] at g0 g1 g2
            obtain ⟨k, e0, _, _⟩ := DataW.trod_int Tryz.underlying3 g0
            obtain ⟨s, e1, _, _⟩ := DataW.trod_int Tryz.underlying3 g1
            obtain ⟨xs, _, _, rfl, hLx⟩ := ih m (by omega) v2 y2 g2
            refine ⟨((k, s), (xs, _)), ?_, ?_, ?_, hLx⟩
            · have := hcell 0 (by omega)
              rw [Go.Deep.add_add, Nat.add_zero] at this
              simp at e0
              simpa [e0] using this
            · have := hcell 1 (by omega)
              simp at e1
              rw [Go.Deep.add_add] at this
              simpa [e1] using this
            · have := hcell 2 (by omega)
              rw [Go.Deep.add_add] at this
              simpa using this
        obtain ⟨q, hq⟩ := Go.Deep.choose_lt each
        obtain ⟨b, o, spot⟩ := a
        have hspot : spot = none := by
          have := (hq 0 (by omega)).1
          simpa [Addr.add] using World.cell?_spot this
        subst hspot
        have hbl : b < W.heap.size := World.block_lt_of_cell? W _ ((hq 0 (by omega)).1)
        have hlen : ((List.range len).map fun i => M.Ty.mk (q i).1.1 (q i).1.2 (q i).2.1).length = len := by simp
        refine ⟨(List.range len).map fun i => .mk (q i).1.1 (q i).1.2 (q i).2.1, some ⟨b, o, none⟩, cap, by rw [hlen], ?_⟩
        have key : ∀ (i : Nat) (k m : Int) (us : List M.Ty), ((List.range len).map fun i => M.Ty.mk (q i).1.1 (q i).1.2 (q i).2.1)[i]? = some (M.Ty.mk k m us) → i < len ∧ (q i).1.1 = k ∧ (q i).1.2 = m ∧ (q i).2.1 = us := by
          intro i k m us h
          have hi : i < len := by
            have := (List.getElem?_eq_some_iff.1 h).1
            simpa using this
          simp [hi] at h
          exact ⟨hi, h⟩
        exact LayT.row (fun i => (q i).2.2) hbl (by rw [hlen]; exact hl) hm
          (fun i k m us h => by
            obtain ⟨hi, rfl, rfl, rfl⟩ := key i k m us h
            have := (hq i hi).1
            rwa [at_add] at this)
          (fun i k m us h => by
            obtain ⟨hi, rfl, rfl, rfl⟩ := key i k m us h
            have := (hq i hi).2.1
            rwa [at_add] at this)
          (fun i k m us h => by
            obtain ⟨hi, rfl, rfl, rfl⟩ := key i k m us h
            have := (hq i hi).2.2.1
            rwa [at_add] at this)
          (fun i k m us h => by
            obtain ⟨hi, rfl, rfl, rfl⟩ := key i k m us h
            exact (hq i hi).2.2.2)

set_option maxRecDepth 100000 in
/-- A type that comes in. -/
theorem open_type {r : Reach} {b0 : Nat} {v : Value} {d : DataW H} {p : List MemPlace} (hv : Value.okWide Tryz.prog W r b0 24 v) (h : DataW.Trod enc Tryz.prog W 0 sp hd 24 v d p) :
    ∃ k n ts a cap, v = tv k n (.slice a ts.length cap) ∧ LayT W W.heap.size ts (.slice a ts.length cap) := by
  obtain ⟨v0, v1, v2, y0, y1, y2, m, rfl, rfl, rfl, g0, g1, g2⟩ := Go.Joins.open_agg3 Tryz.underlying24 (by kernel_rfl) type_cells hv h
  obtain ⟨k, e0, _, _⟩ := DataW.trod_int Tryz.underlying3 g0
  obtain ⟨n, e1, _, _⟩ := DataW.trod_int Tryz.underlying3 g1
  obtain ⟨ts, a, cap, rfl, hL⟩ := open_types m v2 y2 g2
  simp at e0 e1
  exact ⟨k, n, ts, a, cap, by rw [e0, e1], hL⟩
end
end Go.Proofs.YtemnjoiajmcpjaaGreatDoor
namespace Go.Proofs.YtemnjoiajmcpjaaGreatDoor
open Go Go.RowKit Go.ChangeShapes Go.WideShapes Go.ChangeAt

theorem word_cells : Tryz.prog.cellsOf 27 = 4 := by kernel_rfl
theorem part_cells : Tryz.prog.cellsOf 25 = 1 := by kernel_rfl

theorem u64_in {n : Int} (h : (Lit.int .u64 n).wf = true) : 0 ≤ n ∧ n < 18446744073709551616 := by
  have := bounds_u64 h
  omega

set_option maxRecDepth 100000 in
theorem part_at {H : Type} {enc : TypeId × Value → H} {W : World} {base : Nat} {sp : Nat → Bool} {held : Bool} {m : Nat} {v : Value} {o : Option (DataW H × List MemPlace)} (ho : o.isSome = true)
    (h : DataW.trod enc Tryz.prog W base sp held m 25 [v] = o) : ∃ n : Int, v = .int .u64 n ∧ 0 ≤ n ∧ n < 18446744073709551616 := by
  obtain ⟨y, rfl⟩ := Option.isSome_iff_exists.1 ho
  obtain ⟨n, e, _, wf⟩ := DataW.trod_int Tryz.underlying25 h
  simp at e
  exact ⟨n, e, u64_in wf⟩

set_option maxRecDepth 100000 in
theorem open_word {H : Type} {enc : TypeId × Value → H} {W : World} {r : Reach} {b0 base : Nat} {sp : Nat → Bool} {held : Bool} {v : Value} {d : DataW H} {p : List MemPlace}
    (hv : Value.okWide Tryz.prog W r b0 27 v) (h : DataW.Trod enc Tryz.prog W base sp held 27 v d p) : ∃ N, M.In N ∧ v = wn N := by
  simp only [Value.okWide, Tryz.underlying27] at hv
  obtain ⟨cs, rfl, hsz, _⟩ := hv
  rw [word_cells] at hsz
  obtain ⟨c0, c1, c2, c3, rfl⟩ : ∃ c0 c1 c2 c3, cs = #[c0, c1, c2, c3] := by
    obtain ⟨l⟩ := cs
    match l, hsz with
    | [c0, c1, c2, c3], _ => exact ⟨c0, c1, c2, c3, rfl⟩
  obtain ⟨fuel, hf⟩ := h
  obtain ⟨xs, m, _, _, _, hn, hel⟩ := DataW.trod_array Tryz.underlying27 hf
  have e0 := hel 0 (by omega)
  have e1 := hel 1 (by omega)
  have e2 := hel 2 (by omega)
  have e3 := hel 3 (by omega)
  rw [part_cells] at e0 e1 e2 e3
  obtain ⟨a, rfl, la, ua⟩ := part_at (by simp [hn]) e0
  obtain ⟨b, rfl, lb, ub⟩ := part_at (by simp [hn]) e1
  obtain ⟨c, rfl, lc, uc⟩ := part_at (by simp [hn]) e2
  obtain ⟨e, rfl, le, ue⟩ := part_at (by simp [hn]) e3
  obtain ⟨N, hN, p0, p1, p2, p3⟩ := M.some_number la ua lb ub lc uc le ue
  refine ⟨N, hN, ?_⟩
  unfold wn
  rw [p0, p1, p2, p3]
end Go.Proofs.YtemnjoiajmcpjaaGreatDoor
namespace Go.Proofs.YtemnjoiajmcpjaaGreatDoor
open Go Go.RowKit

theorem val_cells : Tryz.prog.cellsOf 31 = 7 := by kernel_rfl
theorem bit_cells : Tryz.prog.cellsOf 4 = 1 := by kernel_rfl
theorem bits_cells : Tryz.prog.cellsOf 28 = 1 := by kernel_rfl
theorem vals_cells : Tryz.prog.cellsOf 29 = 1 := by kernel_rfl

section
variable {H : Type} {enc : TypeId × Value → H} {W : World} {sp : Nat → Bool} {hd : Bool}

set_option maxRecDepth 100000 in
/-- What a slice of bits leads to. -/
theorem open_bits (fuel : Nat) (u : Value) (x : DataW H × List MemPlace) (h : DataW.trod enc Tryz.prog W 0 sp hd fuel 28 [u] = some x) : ∃ bs a cap, u = .slice a bs.length cap ∧ LayB W W.heap.size bs (.slice a bs.length cap) := by
  rcases DataW.trod_slice Tryz.underlying28 h with ⟨hu, _⟩ | ⟨a, len, cap, elems, rest, n, hf, hu, hx, hb, hl, hm, hel, hei, _, _⟩
  · obtain rfl : u = .slice none 0 0 := by simpa using hu
    exact ⟨[], none, 0, rfl, .nil_ (by decide)⟩
  · obtain rfl : u = .slice (some a) len cap := by simpa using hu
    by_cases h0 : len = 0
    · subst h0
      exact ⟨[], some a, cap, rfl, .nil_ hm⟩
    · have each : ∀ i, i < len → ∃ q : Bool, W.cell? (a.add i) = some (.bool q) := by
        intro i hi
        have he := hei i hi
        rw [List.getElem?_eq_getElem (by omega)] at he
        obtain ⟨cs, h1, h2⟩ := Option.bind_eq_some_iff.1 he
        rw [bit_cells, Nat.mul_one] at h1
        obtain ⟨s, e1, _⟩ := DataW.trod_bool Tryz.underlying4 h2
        subst e1
        exact ⟨s, Go.ChangeShapes.cell_of_cells?_one h1⟩
      obtain ⟨q, hq⟩ := Go.Deep.choose_lt each
      obtain ⟨b, o, spot⟩ := a
      have hspot : spot = none := by
        have := hq 0 (by omega)
        simpa [Addr.add] using World.cell?_spot this
      subst hspot
      have hbl : b < W.heap.size := World.block_lt_of_cell? W _ (hq 0 (by omega))
      have hlen : ((List.range len).map q).length = len := by simp
      refine ⟨(List.range len).map q, some ⟨b, o, none⟩, cap, by rw [hlen], .row hbl (by rw [hlen]; exact hl) hm fun i s hi => ?_⟩
      have hi' : i < len := by
        have := (List.getElem?_eq_some_iff.1 hi).1
        rwa [hlen] at this
      simp [hi'] at hi
      subst hi
      have := hq i hi'
      rwa [at_add] at this

set_option maxRecDepth 100000 in
/-- The four parts of a word, out of four cells. -/
theorem open_parts {m : Nat} {c0 c1 c2 c3 : Value} {y : DataW H × List MemPlace} (h : DataW.trod enc Tryz.prog W 0 sp hd m 27 [c0, c1, c2, c3] = some y) : ∃ N, M.In N ∧ c0 = .int .u64 (M.pt 0 N) ∧ c1 = .int .u64 (M.pt 1 N) ∧ c2 = .int .u64 (M.pt 2 N) ∧ c3 = .int .u64 (M.pt 3 N) := by
  obtain ⟨xs, m', _, _, _, hn, hel⟩ := DataW.trod_array Tryz.underlying27 h
  have e0 := hel 0 (by omega)
  have e1 := hel 1 (by omega)
  have e2 := hel 2 (by omega)
  have e3 := hel 3 (by omega)
  rw [part_cells] at e0 e1 e2 e3
  obtain ⟨a, rfl, la, ua⟩ := part_at (by simp [hn]) e0
  obtain ⟨b, rfl, lb, ub⟩ := part_at (by simp [hn]) e1
  obtain ⟨c, rfl, lc, uc⟩ := part_at (by simp [hn]) e2
  obtain ⟨e, rfl, le, ue⟩ := part_at (by simp [hn]) e3
  obtain ⟨N, hN, p0, p1, p2, p3⟩ := M.some_number la ua lb ub lc uc le ue
  exact ⟨N, hN, by rw [p0], by rw [p1], by rw [p2], by rw [p3]⟩

set_option maxRecDepth 100000 in
/-- What a slice of values leads to. -/
theorem open_vals : ∀ (fuel : Nat) (u : Value) (x : DataW H × List MemPlace), DataW.trod enc Tryz.prog W 0 sp hd fuel 29 [u] = some x →
    ∃ vs a cap, u = .slice a vs.length cap ∧ LayV W W.heap.size vs (.slice a vs.length cap) := by
  intro fuel
  induction fuel using Nat.strongRecOn with
  | _ fuel ih =>
    intro u x h
    rcases DataW.trod_slice Tryz.underlying29 h with ⟨hu, _⟩ | ⟨a, len, cap, elems, rest, n, hf, hu, hx, hb, hl, hm, hel, hei, _, _⟩
    · obtain rfl : u = .slice none 0 0 := by simpa using hu
      exact ⟨[], none, 0, rfl, .nil_ (by decide)⟩
    · obtain rfl : u = .slice (some a) len cap := by simpa using hu
      by_cases h0 : len = 0
      · subst h0
        exact ⟨[], some a, cap, rfl, .nil_ hm⟩
      · have each : ∀ i, i < len → ∃ q : (Nat × Int) × ((List Bool × Value) × (List M.Va × Value)), M.In q.1.1 ∧ W.cell? (a.add (i * 7)) = some (.int .u64 (M.pt 0 q.1.1)) ∧ W.cell? (a.add (i * 7 + 1)) = some (.int .u64 (M.pt 1 q.1.1)) ∧ W.cell? (a.add (i * 7 + 2)) = some (.int .u64 (M.pt 2 q.1.1)) ∧ W.cell? (a.add (i * 7 + 3)) = some (.int .u64 (M.pt 3 q.1.1)) ∧
            W.cell? (a.add (i * 7 + 4)) = some q.2.1.2 ∧ W.cell? (a.add (i * 7 + 5)) = some q.2.2.2 ∧ W.cell? (a.add (i * 7 + 6)) = some (.int .i64 q.1.2) ∧ LayB W W.heap.size q.2.1.1 q.2.1.2 ∧ LayV W W.heap.size q.2.2.1 q.2.2.2 := by
          intro i hi
          have he := hei i hi
          rw [List.getElem?_eq_getElem (by omega)] at he
          obtain ⟨cs, h1, h2⟩ := Option.bind_eq_some_iff.1 he
          rw [val_cells] at h1
          obtain ⟨_, hlen, hcell⟩ := World.cells?_some h1
          obtain ⟨ps, m, hfm, hxy, _, hpl, hfi⟩ := DataW.trod_struct Tryz.underlying31 h2
          match cs, hlen, ps, hpl with
          | [v0, v1, v2, v3, v4, v5, v6], _, [y0, y1, y2, y3], _ =>
            have g0 := hfi 0 _ rfl
            have g1 := hfi 1 _ rfl
            have g2 := hfi 2 _ rfl
            have g3 := hfi 3 _ rfl
            simp [int_cells, word_cells, bits_cells, vals_cells] at g0 g1 g2 g3
            obtain ⟨N, hN, e0, e1, e2, e3⟩ := open_parts g0
            obtain ⟨bs, _, _, rfl, hLb⟩ := open_bits m v4 y1 g1
            obtain ⟨vs, _, _, rfl, hLv⟩ := ih m (by omega) v5 y2 g2
            obtain ⟨p, e6, _, _⟩ := DataW.trod_int Tryz.underlying3 g3
            simp at e6
            subst e0 e1 e2 e3 e6
            refine ⟨((N, p), ((bs, _), (vs, _))), hN, ?_, ?_, ?_, ?_, ?_, ?_, ?_, hLb, hLv⟩
            · have := hcell 0 (by omega)
              rw [Go.Deep.add_add, Nat.add_zero] at this
              simpa using this
            · have := hcell 1 (by omega)
              rw [Go.Deep.add_add] at this
              simpa using this
            · have := hcell 2 (by omega)
              rw [Go.Deep.add_add] at this
              simpa using this
            · have := hcell 3 (by omega)
              rw [Go.Deep.add_add] at this
              simpa using this
            · have := hcell 4 (by omega)
              rw [Go.Deep.add_add] at this
              simpa using this
            · have := hcell 5 (by omega)
              rw [Go.Deep.add_add] at this
              simpa using this
            · have := hcell 6 (by omega)
              rw [Go.Deep.add_add] at this
              simpa using this
        obtain ⟨q, hq⟩ := Go.Deep.choose_lt each
        obtain ⟨b, o, spot⟩ := a
        have hspot : spot = none := by
          have := (hq 0 (by omega)).2.1
          simpa [Addr.add] using World.cell?_spot this
        subst hspot
        have hbl : b < W.heap.size := World.block_lt_of_cell? W _ ((hq 0 (by omega)).2.1)
        have hlen : ((List.range len).map fun i => M.Va.mk (q i).1.1 (q i).2.1.1 (q i).2.2.1 (q i).1.2).length = len := by simp
        refine ⟨(List.range len).map fun i => .mk (q i).1.1 (q i).2.1.1 (q i).2.2.1 (q i).1.2, some ⟨b, o, none⟩, cap, by rw [hlen], ?_⟩
        have key : ∀ (i N : Nat) (bs : List Bool) (us : List M.Va) (p : Int), ((List.range len).map fun i => M.Va.mk (q i).1.1 (q i).2.1.1 (q i).2.2.1 (q i).1.2)[i]? = some (M.Va.mk N bs us p) → i < len ∧ (q i).1.1 = N ∧ (q i).2.1.1 = bs ∧ (q i).2.2.1 = us ∧ (q i).1.2 = p := by
          intro i N bs us p h
          have hi : i < len := by
            have := (List.getElem?_eq_some_iff.1 h).1
            simpa using this
          simp [hi] at h
          exact ⟨hi, h⟩
        refine LayV.row (fun i => (q i).2.1.2) (fun i => (q i).2.2.2) hbl (by rw [hlen]; exact hl) hm ?_ ?_ ?_ ?_
        · intro i N bs us p h
          obtain ⟨hi, rfl, rfl, rfl, rfl⟩ := key i N bs us p h
          exact (hq i hi).1
        · intro i N bs us p h
          obtain ⟨hi, rfl, rfl, rfl, rfl⟩ := key i N bs us p h
          obtain ⟨_, k0, k1, k2, k3, k4, k5, k6, _, _⟩ := hq i hi
          rw [at_add] at k0 k1 k2 k3 k4 k5 k6
          exact ⟨k0, k1, k2, k3, k4, k5, k6⟩
        · intro i N bs us p h
          obtain ⟨hi, rfl, rfl, rfl, rfl⟩ := key i N bs us p h
          exact (hq i hi).2.2.2.2.2.2.2.2.1
        · intro i N bs us p h
          obtain ⟨hi, rfl, rfl, rfl, rfl⟩ := key i N bs us p h
          exact (hq i hi).2.2.2.2.2.2.2.2.2

set_option maxRecDepth 100000 in
/-- A value that comes in. -/
theorem open_val {r : Reach} {b0 : Nat} {v : Value} {d : DataW H} {p : List MemPlace} (hv : Value.okWide Tryz.prog W r b0 31 v) (h : DataW.Trod enc Tryz.prog W 0 sp hd 31 v d p) :
    ∃ N bs us q ab cb au cu, v = vv N (.slice ab bs.length cb) (.slice au us.length cu) q ∧ Vl W W.heap.size N bs us ab cb au cu := by
  obtain ⟨cs, rfl, hsz⟩ := Go.WideShapes.okWide_struct Tryz.underlying31 hv
  rw [val_cells] at hsz
  obtain ⟨c0, c1, c2, c3, c4, c5, c6, rfl⟩ : ∃ c0 c1 c2 c3 c4 c5 c6, cs = #[c0, c1, c2, c3, c4, c5, c6] := by
    obtain ⟨l⟩ := cs
    match l, hsz with
    | [c0, c1, c2, c3, c4, c5, c6], _ => exact ⟨c0, c1, c2, c3, c4, c5, c6, rfl⟩
  obtain ⟨fuel, hf⟩ := h
  obtain ⟨ps, m, _, _, _, hpl, hfi⟩ := DataW.trod_struct Tryz.underlying31 hf
  match ps, hpl with
  | [y0, y1, y2, y3], _ =>
    have g0 := hfi 0 _ rfl
    have g1 := hfi 1 _ rfl
    have g2 := hfi 2 _ rfl
    have g3 := hfi 3 _ rfl
    simp [int_cells, word_cells, bits_cells, vals_cells, Value.cells] at g0 g1 g2 g3
    obtain ⟨N, hN, e0, e1, e2, e3⟩ := open_parts g0
    obtain ⟨bs, ab, cb, rfl, hLb⟩ := open_bits m c4 y1 g1
    obtain ⟨us, au, cu, rfl, hLv⟩ := open_vals m c5 y2 g2
    obtain ⟨q, e6, _, _⟩ := DataW.trod_int Tryz.underlying3 g3
    simp at e6
    subst e0 e1 e2 e3 e6
    exact ⟨N, bs, us, q, ab, cb, au, cu, rfl, hN, hLb, hLv⟩
end
end Go.Proofs.YtemnjoiajmcpjaaGreatDoor
namespace Go.Proofs.YtemnjoiajmcpjaaGreatDoor
open Go Go.RowKit

def SCheckOk : Prop := ∀ (k n : Int) (ts : List M.Ty) (a : Option Addr) (cap : Nat) (W : World), LayT W W.heap.size ts (.slice a ts.length cap) → M.cntT (.mk k n ts) ≤ 1000 →
  Calls Tryz.prog 27 #[tv k n (.slice a ts.length cap)] W fun e w' => e = .returned (.int .i64 (M.chkT 0 (.mk k n ts) : Nat)) ∧ Below W.heap.size W w'
def SFixedOk : Prop := ∀ (k n : Int) (ts : List M.Ty) (a : Option Addr) (cap : Nat) (W : World), LayT W W.heap.size ts (.slice a ts.length cap) → M.cntT (.mk k n ts) ≤ 1000 →
  Calls Tryz.prog 18 #[tv k n (.slice a ts.length cap)] W fun e w' => e = .returned (.bool (M.fixedT (.mk k n ts))) ∧ Below W.heap.size W w'
def SSizeOk : Prop := ∀ (k n : Int) (ts : List M.Ty) (a : Option Addr) (cap : Nat) (W : World), LayT W W.heap.size ts (.slice a ts.length cap) → M.cntT (.mk k n ts) ≤ 1000 →
  Calls Tryz.prog 19 #[tv k n (.slice a ts.length cap)] W fun e w' => e = .returned (.int .i64 (M.sizeT (.mk k n ts) : Nat)) ∧ Below W.heap.size W w'
def SFitsOk : Prop := ∀ (k n : Int) (ts : List M.Ty) (a : Option Addr) (cap : Nat) (N : Nat) (bs : List Bool) (us : List M.Va) (p : Int) (ab : Option Addr) (cb : Nat) (au : Option Addr) (cu : Nat) (W : World), LayT W W.heap.size ts (.slice a ts.length cap) → Vl W W.heap.size N bs us ab cb au cu → M.cntT (.mk k n ts) ≤ 1000 → M.cntV (.mk N bs us p) ≤ 6000 →
  Calls Tryz.prog 16 #[tv k n (.slice a ts.length cap), vv N (.slice ab bs.length cb) (.slice au us.length cu) p] W fun e w' => e = .returned (.int .i64 (M.fitsV (.mk k n ts) (.mk N bs us p) : Nat)) ∧ Below W.heap.size W w'
def SSameOk : Prop := ∀ (N : Nat) (bs : List Bool) (us : List M.Va) (p : Int) (ab : Option Addr) (cb : Nat) (au : Option Addr) (cu : Nat) (N2 : Nat) (bs2 : List Bool) (us2 : List M.Va) (p2 : Int) (ab2 : Option Addr) (cb2 : Nat) (au2 : Option Addr) (cu2 : Nat) (W : World), Vl W W.heap.size N bs us ab cb au cu → Vl W W.heap.size N2 bs2 us2 ab2 cb2 au2 cu2 → M.cntV (.mk N bs us p) ≤ 6000 → M.cntV (.mk N2 bs2 us2 p2) ≤ 6000 →
  Calls Tryz.prog 17 #[vv N (.slice ab bs.length cb) (.slice au us.length cu) p, vv N2 (.slice ab2 bs2.length cb2) (.slice au2 us2.length cu2) p2] W fun e w' => e = .returned (.bool (M.sameV (.mk N bs us p) (.mk N2 bs2 us2 p2))) ∧ Below W.heap.size W w'
structure Shapes : Prop where
  check : SCheckOk
  fixed_ : SFixedOk
  size : SSizeOk
  fits : SFitsOk
  same : SSameOk

theorem vv_0 (u v : Value) (p : Int) : vv 0 u v p = .agg #[.int .u64 0, .int .u64 0, .int .u64 0, .int .u64 0, u, v, .int .i64 p] := by
  show Value.agg _ = _
  rw [show M.pt 0 0 = 0 by decide +kernel, show M.pt 1 0 = 0 by decide +kernel, show M.pt 2 0 = 0 by decide +kernel, show M.pt 3 0 = 0 by decide +kernel]
theorem vv_258 (u v : Value) (p : Int) : vv 258 u v p = .agg #[.int .u64 258, .int .u64 0, .int .u64 0, .int .u64 0, u, v, .int .i64 p] := by
  show Value.agg _ = _
  rw [show M.pt 0 258 = 258 by decide +kernel, show M.pt 1 258 = 0 by decide +kernel, show M.pt 2 258 = 0 by decide +kernel, show M.pt 3 258 = 0 by decide +kernel]
theorem vv_65536 (u v : Value) (p : Int) : vv 65536 u v p = .agg #[.int .u64 65536, .int .u64 0, .int .u64 0, .int .u64 0, u, v, .int .i64 p] := by
  show Value.agg _ = _
  rw [show M.pt 0 65536 = 65536 by decide +kernel, show M.pt 1 65536 = 0 by decide +kernel, show M.pt 2 65536 = 0 by decide +kernel, show M.pt 3 65536 = 0 by decide +kernel]
/-- The example's types and values. -/
def M.two : M.Ty := .mk 1 2 []
def M.one : M.Va := .mk 258 [] [] 0
theorem row_one {W : World} {b : Nat} {n : Nat} (h : W.heap[b]? = some (.cells #[.int .i64 1, .int .i64 2, .slice none 0 0] 24 (0, 0))) (hb : b < n) : LayT W n [M.two] (.slice (some ⟨b, 0, none⟩) 1 1) := by
  refine .row (ts := [M.two]) (fun _ => .slice none 0 0) hb (Nat.le_refl _) (by decide) ?_ ?_ ?_ ?_
  all_goals
    intro i k m us e
    match i, e with
    | 0, e => cases e; first | exact .nil_ (by decide) | simp [World.cell?, h]
theorem row_two {W : World} {b c : Nat} {n : Nat} (h : W.heap[b]? = some (.cells #[.int .i64 1, .int .i64 2, .slice none 0 0, .int .i64 4, .int .i64 2, .slice (some ⟨c, 0, none⟩) 1 1] 24 (0, 0))) (hb : b < n) (hc : LayT W n [M.two] (.slice (some ⟨c, 0, none⟩) 1 1)) : LayT W n [M.two, .mk 4 2 [M.two]] (.slice (some ⟨b, 0, none⟩) 2 2) := by
  refine .row (ts := [M.two, .mk 4 2 [M.two]]) (fun i => if i = 0 then .slice none 0 0 else .slice (some ⟨c, 0, none⟩) 1 1) hb (Nat.le_refl _) (by decide) ?_ ?_ ?_ ?_
  all_goals
    intro i k m us e
    match i, e with
    | 0, e => cases e; first | exact .nil_ (by decide) | simp [World.cell?, h]
    | 1, e => cases e; first | exact hc | simp [World.cell?, h]
theorem vals_of {W : World} {b n m : Nat} {cur : Array Value} (h : W.heap[b]? = some (.cells cur 31 (0, 0))) (hb : b < n) (hm : m ≤ 10) (hc : ∀ i, i < m → cur[i * 7]? = some (Value.int .u64 258) ∧ cur[i * 7 + 1]? = some (Value.int .u64 0) ∧ cur[i * 7 + 2]? = some (Value.int .u64 0) ∧ cur[i * 7 + 3]? = some (Value.int .u64 0) ∧ cur[i * 7 + 4]? = some (Value.slice none 0 0) ∧ cur[i * 7 + 5]? = some (Value.slice none 0 0) ∧ cur[i * 7 + 6]? = some (Value.int .i64 0)) :
    LayV W n (List.replicate m M.one) (.slice (some ⟨b, 0, none⟩) m m) := by
  have key := LayV.row (w := W) (n := n) (vs := List.replicate m M.one) (b := b) (o := 0) (cap := m) (fun _ => .slice none 0 0) (fun _ => .slice none 0 0) hb (by simp) (by simp only [maxLen]; omega) ?_ ?_ ?_ ?_
  · rw [List.length_replicate] at key
    exact key
  all_goals
    intro i N bs us p e
    have hi : i < m := by
      have := (List.getElem?_eq_some_iff.1 e).1
      rwa [List.length_replicate] at this
    rw [List.getElem?_replicate, if_pos hi] at e
    cases e
  · unfold M.In; omega
  · obtain ⟨c0, c1, c2, c3, c4, c5, c6⟩ := hc i hi
    refine ⟨?_, ?_, ?_, ?_, ?_, ?_, ?_⟩
    · rw [show M.pt 0 258 = 258 by decide +kernel]; simp [World.cell?, h, c0]
    · rw [show M.pt 1 258 = 0 by decide +kernel]; simp [World.cell?, h, c1]
    · rw [show M.pt 2 258 = 0 by decide +kernel]; simp [World.cell?, h, c2]
    · rw [show M.pt 3 258 = 0 by decide +kernel]; simp [World.cell?, h, c3]
    · simp [World.cell?, h, c4]
    · simp [World.cell?, h, c5]
    · simp [World.cell?, h, c6]
  · exact .nil_ (by decide)
  · exact .nil_ (by decide)
theorem val_in {W : World} {b c n : Nat} (h : W.heap[b]? = some (.cells #[.int .u64 0, .int .u64 0, .int .u64 0, .int .u64 0, .slice none 0 0, .slice (some ⟨c, 0, none⟩) 1 1, .int .i64 0] 31 (0, 0))) (hb : b < n) (hc : LayV W n [M.one] (.slice (some ⟨c, 0, none⟩) 1 1)) :
    LayV W n [.mk 0 [] [M.one] 0] (.slice (some ⟨b, 0, none⟩) 1 1) := by
  have hcell : Cells7 W b (0 + 0 * 7) 0 (.slice none 0 0) (.slice (some ⟨c, 0, none⟩) 1 1) 0 := by
    refine ⟨?_, ?_, ?_, ?_, ?_, ?_, ?_⟩
    · rw [show M.pt 0 0 = 0 by decide +kernel]; simp [World.cell?, h]
    · rw [show M.pt 1 0 = 0 by decide +kernel]; simp [World.cell?, h]
    · rw [show M.pt 2 0 = 0 by decide +kernel]; simp [World.cell?, h]
    · rw [show M.pt 3 0 = 0 by decide +kernel]; simp [World.cell?, h]
    · simp [World.cell?, h]
    · simp [World.cell?, h]
    · simp [World.cell?, h]
  refine .row (vs := [.mk 0 [] [M.one] 0]) (fun _ => .slice none 0 0) (fun _ => .slice (some ⟨c, 0, none⟩) 1 1) hb (Nat.le_refl _) (by decide) ?_ ?_ ?_ ?_
  all_goals
    intro i N bs us p e
    match i, e with
    | 0, e => cases e; first | exact .nil_ (by decide) | exact hc | exact hcell | (unfold M.In; omega)
end Go.Proofs.YtemnjoiajmcpjaaGreatDoor
namespace Go.Proofs.YtemnjoiajmcpjaaGreatDoor
open Go Go.RowKit

theorem width_any (n : Int) (w : World) : Calls Tryz.prog 66 #[.int .i64 n] w fun e w' => e = .returned (.bool (n == 1 || n == 2 || n == 4 || n == 8 || n == 32)) ∧ w' = w := by
  by_cases h1 : n = 1
  · subst h1
    go_enter Tryz.func66, Tryz.ntmps66
    go_wp2_with fail
    go_ret
    exact ⟨by simp, rfl⟩
  · by_cases h2 : n = 2
    · subst h2
      go_enter Tryz.func66, Tryz.ntmps66
      go_wp2_with fail
      go_ret
      exact ⟨by simp, rfl⟩
    · by_cases h3 : n = 4
      · subst h3
        go_enter Tryz.func66, Tryz.ntmps66
        go_wp2_with fail
        go_ret
        exact ⟨by simp, rfl⟩
      · by_cases h4 : n = 8
        · subst h4
          go_enter Tryz.func66, Tryz.ntmps66
          go_wp2_with fail
          go_ret
          exact ⟨by simp, rfl⟩
        · have e1 : (n == 1) = false := by simp [h1]
          have e2 : (n == 2) = false := by simp [h2]
          have e3 : (n == 4) = false := by simp [h3]
          have e4 : (n == 8) = false := by simp [h4]
          go_enter Tryz.func66, Tryz.ntmps66
          go_wp2_with fail
          go_ret
          exact ⟨by simp [e1, e2, e3, e4], rfl⟩
theorem nought_any (n : Int) (w : World) : Calls Tryz.prog 72 #[.int .i64 n] w fun e w' => e = .returned (.bool (n == 0)) ∧ w' = w := by
  go_enter Tryz.func72, Tryz.ntmps72
  go_wp2_with fail
  go_ret
  exact ⟨by simp, rfl⟩
theorem count_any (n : Int) (w : World) : Calls Tryz.prog 77 #[.int .i64 n] w fun e w' => e = .returned (.bool (decide (1 ≤ n) && decide (n ≤ 512))) ∧ w' = w := by
  by_cases h1 : 1 ≤ n
  · go_enter Tryz.func77, Tryz.ntmps77
    go_wp2_with fail
    go_ret
    exact ⟨by simp [h1], rfl⟩
  · go_enter Tryz.func77, Tryz.ntmps77
    go_wp2_with fail
    go_ret
    exact ⟨by simp; omega, rfl⟩

/-- What 'has' has made: the three captured boxes. -/
structure HasAt (W : World) (n c : Nat) (g : FuncId) (lo hi : Nat) : Prop where
  lt : c + 2 < n
  c0 : W.cell? ⟨c, 0, none⟩ = some (.func (.func g) #[] #[])
  c1 : W.cell? ⟨c + 1, 0, none⟩ = some (.int .i64 lo)
  c2 : W.cell? ⟨c + 2, 0, none⟩ = some (.int .i64 hi)
theorem HasAt.from_ {w W : World} {n c : Nat} {g : FuncId} {lo hi : Nat} (h : HasAt w n c g lo hi) (hb : Below n w W) : HasAt W n c g lo hi :=
  ⟨h.lt, (hb.cell (p := ⟨c, 0, none⟩) (by have := h.lt; simp; omega)).trans h.c0, (hb.cell (p := ⟨c + 1, 0, none⟩) (by have := h.lt; simp; omega)).trans h.c1, (hb.cell (p := ⟨c + 2, 0, none⟩) (by have := h.lt; simp; omega)).trans h.c2⟩
theorem HasAt.mono {w : World} {n m c : Nat} {g : FuncId} {lo hi : Nat} (h : HasAt w n c g lo hi) (hm : n ≤ m) : HasAt w m c g lo hi := ⟨by have := h.lt; omega, h.c0, h.c1, h.c2⟩
/-- The function value. -/
abbrev hasV (c : Nat) : Value := .func (.func 122) #[] #[.pointer (some ⟨c, 0, none⟩), .pointer (some ⟨c + 1, 0, none⟩), .pointer (some ⟨c + 2, 0, none⟩)]

theorem has_any (g : FuncId) (lo hi : Nat) (w : World) : Calls Tryz.prog 65 #[.func (.func g) #[] #[], .int .i64 lo, .int .i64 hi] w fun e w' => e = .returned (hasV w.heap.size) ∧ HasAt w' w'.heap.size w.heap.size g lo hi ∧ Below w.heap.size w w' := by
  have hmf : ∀ (fn : Fn) (first cap : Array Value) (w : World), (Instr.makeFunc fn first cap).run Tryz.prog w = .ok (.func fn first cap) w := fun _ _ _ _ => rfl
  have hb0 : Below w.heap.size w (((w.alloc (.cells #[.func (.func g) #[] #[]] 77)).alloc (.cells #[.int .i64 lo] 3)).alloc (.cells #[.int .i64 hi] 3)) := by (repeat (first | exact Below.refl _ _ | refine Below.drew ?_ | refine Below.alloc ?_ (by first | omega | (simp; omega) | simp) _ | refine Below.setCell ?_ (by first | omega | (simp; omega) | simp) _))
  go_enter Tryz.func65, Tryz.ntmps65
  go_wp2_with fail
  go_ret
  exact ⟨rfl, ⟨by simp, by simp [go_sem], by simp [go_sem], by simp [go_sem]⟩, hb0⟩

set_option maxRecDepth 100000 in
set_option maxHeartbeats 4000000 in
theorem form_any (g : FuncId) (q : Int → Bool) (E1 : ∀ args w, (callFunc g args).run Tryz.prog w = .ok (.enter g args) w) (hg : ∀ n w, Calls Tryz.prog g #[.int .i64 n] w fun e w' => e = .returned (.bool (q n)) ∧ w' = w)
    (c lo hi : Nat) (k n : Int) (m : Nat) (_hm : (m : Int) ≤ 9223372036854775807) (a : Option Addr) (cap : Nat) (w : World) (hH : HasAt w w.heap.size c g lo hi) :
    Calls Tryz.prog 122 #[tv k n (.slice a m cap), .pointer (some ⟨c, 0, none⟩), .pointer (some ⟨c + 1, 0, none⟩), .pointer (some ⟨c + 2, 0, none⟩)] w fun e w' => e = .returned (.bool (q n && decide (lo ≤ m) && decide (m ≤ hi))) ∧ Below w.heap.size w w' := by
  have hb0 : Below w.heap.size w (w.alloc (.cells #[.int .i64 k, .int .i64 n, .slice a m cap] 24)) := by (repeat (first | exact Below.refl _ _ | refine Below.drew ?_ | refine Below.alloc ?_ (by first | omega | (simp; omega) | simp) _ | refine Below.setCell ?_ (by first | omega | (simp; omega) | simp) _))
  have H1 := hH.from_ hb0
  have c0 := H1.c0
  have c1 := H1.c1
  have c2 := H1.c2
  have hlt := hH.lt
  have HG := Lib.hid (hg n)
  clear hg
  generalize q n = b at *
  cases b with
  | false =>
    clear H1 hH
    go_enter Tryz.func122, Tryz.ntmps122
    go_wp2_with fail
    refine (HG.out _).mono ?_
    rintro e w1 ⟨rfl, rfl⟩
    go_wp2_with fail
    go_ret
    exact ⟨by simp, hb0⟩
  | true =>
    by_cases h1 : lo ≤ m
    · have h1' : (lo : Int) ≤ m := by omega
      by_cases h2 : m ≤ hi
      · have h2' : (m : Int) ≤ hi := by omega
        rw [show (true && decide (lo ≤ m) && decide (m ≤ hi)) = true by simp [h1, h2]]
        clear H1 hH h1 h2
        go_enter Tryz.func122, Tryz.ntmps122
        go_wp2_with fail
        refine (HG.out _).mono ?_
        rintro e w1 ⟨rfl, rfl⟩
        go_wp2_with fail
        go_ret
        exact ⟨rfl, hb0⟩
      · have h2' : ¬ (m : Int) ≤ hi := by omega
        rw [show (true && decide (lo ≤ m) && decide (m ≤ hi)) = false by simp [h1, h2]]
        have h3 := Lib.hid h2
        clear H1 hH h1 h2
        go_enter Tryz.func122, Tryz.ntmps122
        go_wp2_with fail
        refine (HG.out _).mono ?_
        rintro e w1 ⟨rfl, rfl⟩
        go_wp2_with fail
        go_ret
        exact ⟨by have := h3.out; simp; omega, hb0⟩
    · have h1' : ¬ (lo : Int) ≤ m := by omega
      rw [show (true && decide (lo ≤ m) && decide (m ≤ hi)) = false by simp [h1]]
      clear H1 hH h1
      go_enter Tryz.func122, Tryz.ntmps122
      go_wp2_with fail
      refine (HG.out _).mono ?_
      rintro e w1 ⟨rfl, rfl⟩
      go_wp2_with fail
      go_ret
      exact ⟨rfl, hb0⟩
end Go.Proofs.YtemnjoiajmcpjaaGreatDoor
