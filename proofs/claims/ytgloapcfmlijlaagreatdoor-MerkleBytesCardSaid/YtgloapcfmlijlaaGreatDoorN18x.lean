/- A type that comes in, as it lies in memory. A word that comes in is a number's. A value that comes in, as it lies in memory. The tables of keccak as the cards of layer 9 list them. -/
import Derived.Test.YtgloapcfmlijlaaGreatDoorEX
import Derived.Test.YtgloapcfmlijlaaGreatDoorRows
import Derived.Lib.SmallJoins
import Derived.Deep.Slices
import Derived.SizedLaws
import Derived.ProofKit
import Derived.OpenShut
import Derived.Lib.LaidTab
import Derived.MakeChecks
import Derived.Stop.LaidErr
namespace Go.Proofs.YtgloapcfmlijlaaGreatDoor
open Go Go.RowKit

theorem type_cells : Tryz.prog.cellsOf 24 = 3 := by kernel_rfl
theorem int_cells : Tryz.prog.cellsOf 3 = 1 := by kernel_rfl
theorem types_cells : Tryz.prog.cellsOf 22 = 1 := by kernel_rfl
theorem at_add (b o i : Nat) : (⟨b, o, none⟩ : Addr).add i = ⟨b, o + i, none⟩ := by
  unfold Addr.add
  split
  · rename_i h; rw [h, Nat.add_zero]
  · rfl

section
variable {H : Type} {enc : TypeId × Value → H} {W : World} {sp : Nat → Bool} {hd : Bool}

set_option maxRecDepth 100000 in
/-- What a slice of types leads to. -/
theorem open_types : ∀ (fuel : Nat) (u : Value) (x : DataW H × List MemPlace), DataW.trod enc Tryz.prog W 0 sp hd fuel 22 [u] = some x →
    ∃ ts a cap, u = .slice a ts.length cap ∧ LayT W W.heap.size ts (.slice a ts.length cap) := by
  intro fuel
  induction fuel using Nat.strongRecOn with
  | _ fuel ih =>
    intro u x h
    rcases DataW.trod_slice Tryz.underlying22 h with ⟨hu, _⟩ | ⟨a, len, cap, elems, rest, n, hf, hu, hx, hb, hl, hm, hel, hei, _, _⟩
    · obtain rfl : u = .slice none 0 0 := by simpa using hu
      exact ⟨[], none, 0, rfl, .nil_ (by decide)⟩
    · obtain rfl : u = .slice (some a) len cap := by simpa using hu
      by_cases h0 : len = 0
      · subst h0
        exact ⟨[], some a, cap, rfl, .nil_ hm⟩
      · have each : ∀ i, i < len → ∃ q : (Int × Int) × (List M.Ty × Value), W.cell? (a.add (i * 3)) = some (.int .i64 q.1.1) ∧ W.cell? (a.add (i * 3 + 1)) = some (.int .i64 q.1.2) ∧ W.cell? (a.add (i * 3 + 2)) = some q.2.2 ∧ LayT W W.heap.size q.2.1 q.2.2 := by
          intro i hi
          have he := hei i hi
          rw [List.getElem?_eq_getElem (by omega)] at he
          obtain ⟨cs, h1, h2⟩ := Option.bind_eq_some_iff.1 he
          rw [type_cells] at h1
          obtain ⟨_, hlen, hcell⟩ := World.cells?_some h1
          obtain ⟨ps, m, hfm, hxy, _, hpl, hfi⟩ := DataW.trod_struct Tryz.underlying24 h2
          match cs, hlen, ps, hpl with
          | [v0, v1, v2], _, [y0, y1, y2], _ =>
            have g0 := hfi 0 _ rfl
            have g1 := hfi 1 _ rfl
            have g2 := hfi 2 _ rfl
            simp [int_cells, types_cells] at g0 g1 g2
            obtain ⟨k, e0, _, _⟩ := DataW.trod_int Tryz.underlying3 g0
            obtain ⟨s, e1, _, _⟩ := DataW.trod_int Tryz.underlying3 g1
            obtain ⟨xs, _, _, rfl, hLx⟩ := ih m (by omega) v2 y2 g2
            refine ⟨((k, s), (xs, _)), ?_, ?_, ?_, hLx⟩
            · have := hcell 0 (by omega)
              rw [Go.Deep.add_add, Nat.add_zero] at this
              simp at e0
              simpa [e0] using this
            · have := hcell 1 (by omega)
              simp at e1
              rw [Go.Deep.add_add] at this
              simpa [e1] using this
            · have := hcell 2 (by omega)
              rw [Go.Deep.add_add] at this
              simpa using this
        obtain ⟨q, hq⟩ := Go.Deep.choose_lt each
        obtain ⟨b, o, spot⟩ := a
        have hspot : spot = none := by
          have := (hq 0 (by omega)).1
          simpa [Addr.add] using World.cell?_spot this
        subst hspot
        have hbl : b < W.heap.size := World.block_lt_of_cell? W _ ((hq 0 (by omega)).1)
        have hlen : ((List.range len).map fun i => M.Ty.mk (q i).1.1 (q i).1.2 (q i).2.1).length = len := by simp
        refine ⟨(List.range len).map fun i => .mk (q i).1.1 (q i).1.2 (q i).2.1, some ⟨b, o, none⟩, cap, by rw [hlen], ?_⟩
        have key : ∀ (i : Nat) (k m : Int) (us : List M.Ty), ((List.range len).map fun i => M.Ty.mk (q i).1.1 (q i).1.2 (q i).2.1)[i]? = some (M.Ty.mk k m us) → i < len ∧ (q i).1.1 = k ∧ (q i).1.2 = m ∧ (q i).2.1 = us := by
          intro i k m us h
          have hi : i < len := by
            have := (List.getElem?_eq_some_iff.1 h).1
            simpa using this
          simp [hi] at h
          exact ⟨hi, h⟩
        exact LayT.row (fun i => (q i).2.2) hbl (by rw [hlen]; exact hl) hm
          (fun i k m us h => by
            obtain ⟨hi, rfl, rfl, rfl⟩ := key i k m us h
            have := (hq i hi).1
            rwa [at_add] at this)
          (fun i k m us h => by
            obtain ⟨hi, rfl, rfl, rfl⟩ := key i k m us h
            have := (hq i hi).2.1
            rwa [at_add] at this)
          (fun i k m us h => by
            obtain ⟨hi, rfl, rfl, rfl⟩ := key i k m us h
            have := (hq i hi).2.2.1
            rwa [at_add] at this)
          (fun i k m us h => by
            obtain ⟨hi, rfl, rfl, rfl⟩ := key i k m us h
            exact (hq i hi).2.2.2)

set_option maxRecDepth 100000 in
/-- A type that comes in. -/
theorem open_type {r : Reach} {b0 : Nat} {v : Value} {d : DataW H} {p : List MemPlace} (hv : Value.okWide Tryz.prog W r b0 24 v) (h : DataW.Trod enc Tryz.prog W 0 sp hd 24 v d p) :
    ∃ k n ts a cap, v = tv k n (.slice a ts.length cap) ∧ LayT W W.heap.size ts (.slice a ts.length cap) := by
  obtain ⟨v0, v1, v2, y0, y1, y2, m, rfl, rfl, rfl, g0, g1, g2⟩ := Go.Joins.open_agg3 Tryz.underlying24 (by kernel_rfl) type_cells hv h
  obtain ⟨k, e0, _, _⟩ := DataW.trod_int Tryz.underlying3 g0
  obtain ⟨n, e1, _, _⟩ := DataW.trod_int Tryz.underlying3 g1
  obtain ⟨ts, a, cap, rfl, hL⟩ := open_types m v2 y2 g2
  simp at e0 e1
  exact ⟨k, n, ts, a, cap, by rw [e0, e1], hL⟩
end
end Go.Proofs.YtgloapcfmlijlaaGreatDoor
namespace Go.Proofs.YtgloapcfmlijlaaGreatDoor
open Go Go.RowKit Go.ChangeShapes Go.WideShapes Go.ChangeAt

theorem word_cells : Tryz.prog.cellsOf 29 = 4 := by kernel_rfl
theorem part_cells : Tryz.prog.cellsOf 27 = 1 := by kernel_rfl

theorem u64_in {n : Int} (h : (Lit.int .u64 n).wf = true) : 0 ≤ n ∧ n < 18446744073709551616 := by
  have := bounds_u64 h
  omega

set_option maxRecDepth 100000 in
theorem part_at {H : Type} {enc : TypeId × Value → H} {W : World} {base : Nat} {sp : Nat → Bool} {held : Bool} {m : Nat} {v : Value} {o : Option (DataW H × List MemPlace)} (ho : o.isSome = true)
    (h : DataW.trod enc Tryz.prog W base sp held m 27 [v] = o) : ∃ n : Int, v = .int .u64 n ∧ 0 ≤ n ∧ n < 18446744073709551616 := by
  obtain ⟨y, rfl⟩ := Option.isSome_iff_exists.1 ho
  obtain ⟨n, e, _, wf⟩ := DataW.trod_int Tryz.underlying27 h
  simp at e
  exact ⟨n, e, u64_in wf⟩

end Go.Proofs.YtgloapcfmlijlaaGreatDoor
namespace Go.Proofs.YtgloapcfmlijlaaGreatDoor
open Go Go.RowKit

theorem val_cells : Tryz.prog.cellsOf 33 = 7 := by kernel_rfl
theorem bit_cells : Tryz.prog.cellsOf 4 = 1 := by kernel_rfl
theorem bits_cells : Tryz.prog.cellsOf 30 = 1 := by kernel_rfl
theorem vals_cells : Tryz.prog.cellsOf 31 = 1 := by kernel_rfl

section
variable {H : Type} {enc : TypeId × Value → H} {W : World} {sp : Nat → Bool} {hd : Bool}

set_option maxRecDepth 100000 in
/-- What a slice of bits leads to. -/
theorem open_bits (fuel : Nat) (u : Value) (x : DataW H × List MemPlace) (h : DataW.trod enc Tryz.prog W 0 sp hd fuel 30 [u] = some x) : ∃ bs a cap, u = .slice a bs.length cap ∧ LayB W W.heap.size bs (.slice a bs.length cap) := by
  rcases DataW.trod_slice Tryz.underlying30 h with ⟨hu, _⟩ | ⟨a, len, cap, elems, rest, n, hf, hu, hx, hb, hl, hm, hel, hei, _, _⟩
  · obtain rfl : u = .slice none 0 0 := by simpa using hu
    exact ⟨[], none, 0, rfl, .nil_ (by decide)⟩
  · obtain rfl : u = .slice (some a) len cap := by simpa using hu
    by_cases h0 : len = 0
    · subst h0
      exact ⟨[], some a, cap, rfl, .nil_ hm⟩
    · have each : ∀ i, i < len → ∃ q : Bool, W.cell? (a.add i) = some (.bool q) := by
        intro i hi
        have he := hei i hi
        rw [List.getElem?_eq_getElem (by omega)] at he
        obtain ⟨cs, h1, h2⟩ := Option.bind_eq_some_iff.1 he
        rw [bit_cells, Nat.mul_one] at h1
        obtain ⟨s, e1, _⟩ := DataW.trod_bool Tryz.underlying4 h2
        subst e1
        exact ⟨s, Go.ChangeShapes.cell_of_cells?_one h1⟩
      obtain ⟨q, hq⟩ := Go.Deep.choose_lt each
      obtain ⟨b, o, spot⟩ := a
      have hspot : spot = none := by
        have := hq 0 (by omega)
        simpa [Addr.add] using World.cell?_spot this
      subst hspot
      have hbl : b < W.heap.size := World.block_lt_of_cell? W _ (hq 0 (by omega))
      have hlen : ((List.range len).map q).length = len := by simp
      refine ⟨(List.range len).map q, some ⟨b, o, none⟩, cap, by rw [hlen], .row hbl (by rw [hlen]; exact hl) hm fun i s hi => ?_⟩
      have hi' : i < len := by
        have := (List.getElem?_eq_some_iff.1 hi).1
        rwa [hlen] at this
      simp [hi'] at hi
      subst hi
      have := hq i hi'
      rwa [at_add] at this

set_option maxRecDepth 100000 in
/-- The four parts of a word, out of four cells. -/
theorem open_parts {m : Nat} {c0 c1 c2 c3 : Value} {y : DataW H × List MemPlace} (h : DataW.trod enc Tryz.prog W 0 sp hd m 29 [c0, c1, c2, c3] = some y) : ∃ N, M.In N ∧ c0 = .int .u64 (M.pt 0 N) ∧ c1 = .int .u64 (M.pt 1 N) ∧ c2 = .int .u64 (M.pt 2 N) ∧ c3 = .int .u64 (M.pt 3 N) := by
  obtain ⟨xs, m', _, _, _, hn, hel⟩ := DataW.trod_array Tryz.underlying29 h
  have e0 := hel 0 (by omega)
  have e1 := hel 1 (by omega)
  have e2 := hel 2 (by omega)
  have e3 := hel 3 (by omega)
  rw [part_cells] at e0 e1 e2 e3
  obtain ⟨a, rfl, la, ua⟩ := part_at (by simp [hn]) e0
  obtain ⟨b, rfl, lb, ub⟩ := part_at (by simp [hn]) e1
  obtain ⟨c, rfl, lc, uc⟩ := part_at (by simp [hn]) e2
  obtain ⟨e, rfl, le, ue⟩ := part_at (by simp [hn]) e3
  obtain ⟨N, hN, p0, p1, p2, p3⟩ := M.some_number la ua lb ub lc uc le ue
  exact ⟨N, hN, by rw [p0], by rw [p1], by rw [p2], by rw [p3]⟩

set_option maxRecDepth 100000 in
/-- What a slice of values leads to. -/
theorem open_vals : ∀ (fuel : Nat) (u : Value) (x : DataW H × List MemPlace), DataW.trod enc Tryz.prog W 0 sp hd fuel 31 [u] = some x →
    ∃ vs a cap, u = .slice a vs.length cap ∧ LayV W W.heap.size vs (.slice a vs.length cap) := by
  intro fuel
  induction fuel using Nat.strongRecOn with
  | _ fuel ih =>
    intro u x h
    rcases DataW.trod_slice Tryz.underlying31 h with ⟨hu, _⟩ | ⟨a, len, cap, elems, rest, n, hf, hu, hx, hb, hl, hm, hel, hei, _, _⟩
    · obtain rfl : u = .slice none 0 0 := by simpa using hu
      exact ⟨[], none, 0, rfl, .nil_ (by decide)⟩
    · obtain rfl : u = .slice (some a) len cap := by simpa using hu
      by_cases h0 : len = 0
      · subst h0
        exact ⟨[], some a, cap, rfl, .nil_ hm⟩
      · have each : ∀ i, i < len → ∃ q : (Nat × Int) × ((List Bool × Value) × (List M.Va × Value)), M.In q.1.1 ∧ W.cell? (a.add (i * 7)) = some (.int .u64 (M.pt 0 q.1.1)) ∧ W.cell? (a.add (i * 7 + 1)) = some (.int .u64 (M.pt 1 q.1.1)) ∧ W.cell? (a.add (i * 7 + 2)) = some (.int .u64 (M.pt 2 q.1.1)) ∧ W.cell? (a.add (i * 7 + 3)) = some (.int .u64 (M.pt 3 q.1.1)) ∧
            W.cell? (a.add (i * 7 + 4)) = some q.2.1.2 ∧ W.cell? (a.add (i * 7 + 5)) = some q.2.2.2 ∧ W.cell? (a.add (i * 7 + 6)) = some (.int .i64 q.1.2) ∧ LayB W W.heap.size q.2.1.1 q.2.1.2 ∧ LayV W W.heap.size q.2.2.1 q.2.2.2 := by
          intro i hi
          have he := hei i hi
          rw [List.getElem?_eq_getElem (by omega)] at he
          obtain ⟨cs, h1, h2⟩ := Option.bind_eq_some_iff.1 he
          rw [val_cells] at h1
          obtain ⟨_, hlen, hcell⟩ := World.cells?_some h1
          obtain ⟨ps, m, hfm, hxy, _, hpl, hfi⟩ := DataW.trod_struct Tryz.underlying33 h2
          match cs, hlen, ps, hpl with
          | [v0, v1, v2, v3, v4, v5, v6], _, [y0, y1, y2, y3], _ =>
            have g0 := hfi 0 _ rfl
            have g1 := hfi 1 _ rfl
            have g2 := hfi 2 _ rfl
            have g3 := hfi 3 _ rfl
            simp [int_cells, word_cells, bits_cells, vals_cells] at g0 g1 g2 g3
            obtain ⟨N, hN, e0, e1, e2, e3⟩ := open_parts g0
            obtain ⟨bs, _, _, rfl, hLb⟩ := open_bits m v4 y1 g1
            obtain ⟨vs, _, _, rfl, hLv⟩ := ih m (by omega) v5 y2 g2
            obtain ⟨p, e6, _, _⟩ := DataW.trod_int Tryz.underlying3 g3
            simp at e6
            subst e0 e1 e2 e3 e6
            refine ⟨((N, p), ((bs, _), (vs, _))), hN, ?_, ?_, ?_, ?_, ?_, ?_, ?_, hLb, hLv⟩
            · have := hcell 0 (by omega)
              rw [Go.Deep.add_add, Nat.add_zero] at this
              simpa using this
            · have := hcell 1 (by omega)
              rw [Go.Deep.add_add] at this
              simpa using this
            · have := hcell 2 (by omega)
              rw [Go.Deep.add_add] at this
              simpa using this
            · have := hcell 3 (by omega)
              rw [Go.Deep.add_add] at this
              simpa using this
            · have := hcell 4 (by omega)
              rw [Go.Deep.add_add] at this
              simpa using this
            · have := hcell 5 (by omega)
              rw [Go.Deep.add_add] at this
              simpa using this
            · have := hcell 6 (by omega)
              rw [Go.Deep.add_add] at this
              simpa using this
        obtain ⟨q, hq⟩ := Go.Deep.choose_lt each
        obtain ⟨b, o, spot⟩ := a
        have hspot : spot = none := by
          have := (hq 0 (by omega)).2.1
          simpa [Addr.add] using World.cell?_spot this
        subst hspot
        have hbl : b < W.heap.size := World.block_lt_of_cell? W _ ((hq 0 (by omega)).2.1)
        have hlen : ((List.range len).map fun i => M.Va.mk (q i).1.1 (q i).2.1.1 (q i).2.2.1 (q i).1.2).length = len := by simp
        refine ⟨(List.range len).map fun i => .mk (q i).1.1 (q i).2.1.1 (q i).2.2.1 (q i).1.2, some ⟨b, o, none⟩, cap, by rw [hlen], ?_⟩
        have key : ∀ (i N : Nat) (bs : List Bool) (us : List M.Va) (p : Int), ((List.range len).map fun i => M.Va.mk (q i).1.1 (q i).2.1.1 (q i).2.2.1 (q i).1.2)[i]? = some (M.Va.mk N bs us p) → i < len ∧ (q i).1.1 = N ∧ (q i).2.1.1 = bs ∧ (q i).2.2.1 = us ∧ (q i).1.2 = p := by
          intro i N bs us p h
          have hi : i < len := by
            have := (List.getElem?_eq_some_iff.1 h).1
            simpa using this
          simp [hi] at h
          exact ⟨hi, h⟩
        refine LayV.row (fun i => (q i).2.1.2) (fun i => (q i).2.2.2) hbl (by rw [hlen]; exact hl) hm ?_ ?_ ?_ ?_
        · intro i N bs us p h
          obtain ⟨hi, rfl, rfl, rfl, rfl⟩ := key i N bs us p h
          exact (hq i hi).1
        · intro i N bs us p h
          obtain ⟨hi, rfl, rfl, rfl, rfl⟩ := key i N bs us p h
          obtain ⟨_, k0, k1, k2, k3, k4, k5, k6, _, _⟩ := hq i hi
          rw [at_add] at k0 k1 k2 k3 k4 k5 k6
          exact ⟨k0, k1, k2, k3, k4, k5, k6⟩
        · intro i N bs us p h
          obtain ⟨hi, rfl, rfl, rfl, rfl⟩ := key i N bs us p h
          exact (hq i hi).2.2.2.2.2.2.2.2.1
        · intro i N bs us p h
          obtain ⟨hi, rfl, rfl, rfl, rfl⟩ := key i N bs us p h
          exact (hq i hi).2.2.2.2.2.2.2.2.2

set_option maxRecDepth 100000 in
/-- A value that comes in. -/
theorem open_val {r : Reach} {b0 : Nat} {v : Value} {d : DataW H} {p : List MemPlace} (hv : Value.okWide Tryz.prog W r b0 33 v) (h : DataW.Trod enc Tryz.prog W 0 sp hd 33 v d p) :
    ∃ N bs us q ab cb au cu, v = vv N (.slice ab bs.length cb) (.slice au us.length cu) q ∧ Vl W W.heap.size N bs us ab cb au cu := by
  obtain ⟨cs, rfl, hsz⟩ := Go.WideShapes.okWide_struct Tryz.underlying33 hv
  rw [val_cells] at hsz
  obtain ⟨c0, c1, c2, c3, c4, c5, c6, rfl⟩ : ∃ c0 c1 c2 c3 c4 c5 c6, cs = #[c0, c1, c2, c3, c4, c5, c6] := by
    obtain ⟨l⟩ := cs
    match l, hsz with
    | [c0, c1, c2, c3, c4, c5, c6], _ => exact ⟨c0, c1, c2, c3, c4, c5, c6, rfl⟩
  obtain ⟨fuel, hf⟩ := h
  obtain ⟨ps, m, _, _, _, hpl, hfi⟩ := DataW.trod_struct Tryz.underlying33 hf
  match ps, hpl with
  | [y0, y1, y2, y3], _ =>
    have g0 := hfi 0 _ rfl
    have g1 := hfi 1 _ rfl
    have g2 := hfi 2 _ rfl
    have g3 := hfi 3 _ rfl
    simp [int_cells, word_cells, bits_cells, vals_cells, Value.cells] at g0 g1 g2 g3
    obtain ⟨N, hN, e0, e1, e2, e3⟩ := open_parts g0
    obtain ⟨bs, ab, cb, rfl, hLb⟩ := open_bits m c4 y1 g1
    obtain ⟨us, au, cu, rfl, hLv⟩ := open_vals m c5 y2 g2
    obtain ⟨q, e6, _, _⟩ := DataW.trod_int Tryz.underlying3 g3
    simp at e6
    subst e0 e1 e2 e3 e6
    exact ⟨N, bs, us, q, ab, cb, au, cu, rfl, hN, hLb, hLv⟩
end
end Go.Proofs.YtgloapcfmlijlaaGreatDoor
namespace Go.Proofs.YtgloapcfmlijlaaGreatDoor
open Go Go.RowKit Go.ChangeShapes Go.WideShapes Go.ChangeAt

theorem g_turns : Tryz.prog.globalNamed "rescript/keccak.turns" = some 1 := by kernel_rfl
theorem g_numbers : Tryz.prog.globalNamed "rescript/keccak.numbers" = some 0 := by kernel_rfl
theorem t_turns : (Tryz.prog.globals[1]?).map (·.type) = some 157 := by kernel_rfl
theorem t_numbers : (Tryz.prog.globals[0]?).map (·.type) = some 103 := by kernel_rfl
theorem tab_of_laid9 {W : World} (h : laidMetH Tryz.prog [("unicode/utf8.acceptRanges", Rows.laid_unicode_utf8_acceptRanges), ("rescript/keccak.turns", Rows.laid_rescript_keccak_turns), ("rescript/keccak.numbers", Rows.laid_rescript_keccak_numbers), ("unicode/utf8.first", Rows.laid_unicode_utf8_first)] W) : Tab W := by
  rw [MakeChecks.laidMetH_plain _ _ _ (by kernel_rfl)] at h
  have h1 := Lib.tabIs_of_head (k := .i64) (zs := M.offs.map fun n : Nat => (n : Int)) (n := 25) (e := 3) g_turns t_turns (by kernel_rfl) (by kernel_rfl) (by kernel_rfl) (by kernel_rfl) h.tail
  have h2 := Lib.tabIs_of_head (k := .u64) (zs := M.rcs.map fun n : Nat => (n : Int)) (n := 24) (e := 27) g_numbers t_numbers (by kernel_rfl) (by kernel_rfl) (by kernel_rfl) (by kernel_rfl) h.tail.tail
  refine ⟨fun i hi => ?_, fun i hi => ?_⟩
  · have hl : i < M.rcs.length := hi
    rw [h2.cell g_numbers i (by rw [List.length_map]; exact hl)]
    unfold M.gl
    simp [List.getD_eq_getElem?_getD, List.getElem?_eq_getElem hl]
  · have hl : i < M.offs.length := hi
    rw [h1.cell g_turns i (by rw [List.length_map]; exact hl)]
    unfold M.gl
    simp [List.getD_eq_getElem?_getD, List.getElem?_eq_getElem hl]
end Go.Proofs.YtgloapcfmlijlaaGreatDoor
