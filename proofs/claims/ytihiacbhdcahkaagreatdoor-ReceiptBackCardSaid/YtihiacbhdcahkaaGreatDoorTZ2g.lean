/- A receipt that comes in, as it lies in memory. -/
import Derived.Test.YtihiacbhdcahkaaGreatDoorH15
import Derived.Lib.SmallJoins
import Derived.Deep.Slices
import Derived.SizedLaws
import Derived.OpenShut
namespace Go.Proofs.YtihiacbhdcahkaaGreatDoor
open Go Go.RowKit

theorem rc_cells : Tryz.prog.cellsOf 25 = 7 := by kernel_rfl
theorem lg_cells : Tryz.prog.cellsOf 40 = 3 := by kernel_rfl
theorem str_cells : Tryz.prog.cellsOf 9 = 1 := by kernel_rfl
theorem strs_cells : Tryz.prog.cellsOf 38 = 1 := by kernel_rfl
theorem lgs_cells : Tryz.prog.cellsOf 23 = 1 := by kernel_rfl
theorem i64_cells : Tryz.prog.cellsOf 3 = 1 := by kernel_rfl
theorem u64_cells : Tryz.prog.cellsOf 22 = 1 := by kernel_rfl
theorem yes_cells : Tryz.prog.cellsOf 4 = 1 := by kernel_rfl
theorem ad_add (b o i : Nat) : (⟨b, o, none⟩ : Addr).add i = ⟨b, o + i, none⟩ := by
  unfold Addr.add
  split
  · rename_i h; rw [h, Nat.add_zero]
  · rfl
section
variable {H : Type} {enc : TypeId × Value → H} {W : World} {sp : Nat → Bool} {hd : Bool}
set_option maxRecDepth 100000 in
/-- What a slice of texts leads to. -/
theorem open_strs (fuel : Nat) (u : Value) (x : DataW H × List MemPlace) (h : DataW.trod enc Tryz.prog W 0 sp hd fuel 38 [u] = some x) :
    ∃ ls a cap, u = .slice a ls.length cap ∧ Ts W W.heap.size ls (.slice a ls.length cap) := by
  rcases DataW.trod_slice Tryz.underlying38 h with ⟨hu, _⟩ | ⟨a, len, cap, elems, rest, n, hf, hu, hx, hb, hl, hm, hel, hei, _, _⟩
  · obtain rfl : u = .slice none 0 0 := by simpa using hu
    exact ⟨[], none, 0, rfl, .nil_ (by decide)⟩
  · obtain rfl : u = .slice (some a) len cap := by simpa using hu
    by_cases h0 : len = 0
    · subst h0
      exact ⟨[], some a, cap, rfl, .nil_ hm⟩
    · have each : ∀ i, i < len → ∃ q : List UInt8, W.cell? (a.add i) = some (.string ⟨q.toArray⟩) := by
        intro i hi
        have he := hei i hi
        rw [List.getElem?_eq_getElem (by omega)] at he
        obtain ⟨cs, h1, h2⟩ := Option.bind_eq_some_iff.1 he
        rw [str_cells, Nat.mul_one] at h1
        obtain ⟨s, e1, _, _⟩ := DataW.trod_string Tryz.underlying9 h2
        subst e1
        exact ⟨s.data.toList, Go.ChangeShapes.cell_of_cells?_one h1⟩
      obtain ⟨q, hq⟩ := Go.Deep.choose_lt each
      obtain ⟨b, o, spot⟩ := a
      have hspot : spot = none := by
        have := hq 0 (by omega)
        simpa [Addr.add] using World.cell?_spot this
      subst hspot
      have hbl : b < W.heap.size := World.block_lt_of_cell? W _ (hq 0 (by omega))
      have hlen : ((List.range len).map q).length = len := by simp
      refine ⟨(List.range len).map q, some ⟨b, o, none⟩, cap, by rw [hlen], ?_⟩
      refine Ts.row hbl (by rw [hlen]; exact hl) hm fun i s e => ?_
      have hi : i < len := by
        have := (List.getElem?_eq_some_iff.1 e).1
        simpa using this
      simp [hi] at e
      subst e
      have := hq i hi
      rwa [ad_add] at this
set_option maxRecDepth 100000 in
/-- What a slice of logs leads to. -/
theorem open_logs (fuel : Nat) (u : Value) (x : DataW H × List MemPlace) (h : DataW.trod enc Tryz.prog W 0 sp hd fuel 23 [u] = some x) :
    ∃ ls a cap, u = .slice a ls.length cap ∧ Ls W W.heap.size ls (.slice a ls.length cap) := by
  rcases DataW.trod_slice Tryz.underlying23 h with ⟨hu, _⟩ | ⟨a, len, cap, elems, rest, n, hf, hu, hx, hb, hl, hm, hel, hei, _, _⟩
  · obtain rfl : u = .slice none 0 0 := by simpa using hu
    exact ⟨[], none, 0, rfl, .nil_ (by decide)⟩
  · obtain rfl : u = .slice (some a) len cap := by simpa using hu
    by_cases h0 : len = 0
    · subst h0
      exact ⟨[], some a, cap, rfl, .nil_ hm⟩
    · have each : ∀ i, i < len → ∃ q : M.Lg × Value, W.cell? (a.add (i * 3)) = some (.string ⟨q.1.addr.toArray⟩) ∧ W.cell? (a.add (i * 3 + 1)) = some q.2 ∧ W.cell? (a.add (i * 3 + 2)) = some (.string ⟨q.1.data.toArray⟩) ∧ Ts W W.heap.size q.1.topics q.2 := by
        intro i hi
        have he := hei i hi
        rw [List.getElem?_eq_getElem (by omega)] at he
        obtain ⟨cs, h1, h2⟩ := Option.bind_eq_some_iff.1 he
        rw [lg_cells] at h1
        obtain ⟨_, hlen, hcell⟩ := World.cells?_some h1
        obtain ⟨ps, m, hfm, hxy, _, hpl, hfi⟩ := DataW.trod_struct Tryz.underlying40 h2
        match cs, hlen, ps, hpl with
        | [v0, v1, v2], _, [y0, y1, y2], _ =>
          have g0 := hfi 0 _ rfl
          have g1 := hfi 1 _ rfl
          have g2 := hfi 2 _ rfl
          simp [str_cells, strs_cells] at g0 g1 g2
          obtain ⟨s0, e0, _, _⟩ := DataW.trod_string Tryz.underlying9 g0
          obtain ⟨ts, ta, tc, rfl, hT⟩ := open_strs m v1 y1 g1
          obtain ⟨s2, e2, _, _⟩ := DataW.trod_string Tryz.underlying9 g2
          simp at e0 e2
          subst e0 e2
          refine ⟨(⟨s0.data.toList, ts, s2.data.toList⟩, _), ?_, ?_, ?_, hT⟩
          · have := hcell 0 (by omega)
            rw [Go.Deep.add_add, Nat.add_zero] at this
            exact this
          · have := hcell 1 (by omega)
            rw [Go.Deep.add_add] at this
            exact this
          · have := hcell 2 (by omega)
            rw [Go.Deep.add_add] at this
            exact this
      haveI : Inhabited (M.Lg × Value) := ⟨(⟨[], [], []⟩, undef)⟩
      obtain ⟨q, hq⟩ := Go.Deep.choose_lt each
      obtain ⟨b, o, spot⟩ := a
      have hspot : spot = none := by
        have := (hq 0 (by omega)).1
        simpa [Addr.add] using World.cell?_spot this
      subst hspot
      have hbl : b < W.heap.size := World.block_lt_of_cell? W _ ((hq 0 (by omega)).1)
      have hlen : ((List.range len).map fun i => (q i).1).length = len := by simp
      refine ⟨(List.range len).map fun i => (q i).1, some ⟨b, o, none⟩, cap, by rw [hlen], ?_⟩
      have key : ∀ (i : Nat) (g : M.Lg), ((List.range len).map fun i => (q i).1)[i]? = some g → i < len ∧ (q i).1 = g := by
        intro i g e
        have hi : i < len := by
          have := (List.getElem?_eq_some_iff.1 e).1
          simpa using this
        simp [hi] at e
        exact ⟨hi, e⟩
      refine Ls.row (fun i => (q i).2) hbl (by rw [hlen]; exact hl) hm ?_ ?_ ?_ ?_
      · intro i g e
        obtain ⟨hi, rfl⟩ := key i g e
        have := (hq i hi).1
        rwa [ad_add] at this
      · intro i g e
        obtain ⟨hi, rfl⟩ := key i g e
        have := (hq i hi).2.1
        rwa [ad_add] at this
      · intro i g e
        obtain ⟨hi, rfl⟩ := key i g e
        have := (hq i hi).2.2.1
        rwa [ad_add] at this
      · intro i g e
        obtain ⟨hi, rfl⟩ := key i g e
        exact (hq i hi).2.2.2
theorem u64_nat {n : Int} (h : (Lit.int .u64 n).wf = true) : ∃ m : Nat, n = m ∧ m < 18446744073709551616 := by
  simp [Lit.wf, IntKind.min, IntKind.max, IntKind.signed, IntKind.bits] at h
  exact ⟨n.toNat, by omega, by omega⟩
set_option maxRecDepth 100000 in
/-- A receipt that comes in. -/
theorem open_receipt {r : Reach} {b0 : Nat} {v : Value} {d : DataW H} {p : List MemPlace} (hv : Value.okWide Tryz.prog W r b0 25 v) (h : DataW.Trod enc Tryz.prog W 0 sp hd 25 v d p) :
    ∃ k st ga ls a cap fu no ve, v = .agg #[.int .i64 k, .bool st, .int .u64 (ga : Nat), .slice a ls.length cap, .bool fu, .int .u64 (no : Nat), .int .u64 (ve : Nat)] ∧ Ls W W.heap.size ls (.slice a ls.length cap) ∧ ga < 18446744073709551616 ∧ no < 18446744073709551616 ∧ ve < 18446744073709551616 := by
  obtain ⟨cs, rfl, hsz⟩ := Go.WideShapes.okWide_struct Tryz.underlying25 hv
  rw [rc_cells] at hsz
  obtain ⟨c0, c1, c2, c3, c4, c5, c6, rfl⟩ : ∃ c0 c1 c2 c3 c4 c5 c6, cs = #[c0, c1, c2, c3, c4, c5, c6] := by
    obtain ⟨l⟩ := cs
    match l, hsz with
    | [c0, c1, c2, c3, c4, c5, c6], _ => exact ⟨c0, c1, c2, c3, c4, c5, c6, rfl⟩
  obtain ⟨fuel, hf⟩ := h
  obtain ⟨ps, m, _, _, _, hpl, hfi⟩ := DataW.trod_struct Tryz.underlying25 hf
  match ps, hpl with
  | [y0, y1, y2, y3, y4, y5, y6], _ =>
    have g0 := hfi 0 _ rfl
    have g1 := hfi 1 _ rfl
    have g2 := hfi 2 _ rfl
    have g3 := hfi 3 _ rfl
    have g4 := hfi 4 _ rfl
    have g5 := hfi 5 _ rfl
    have g6 := hfi 6 _ rfl
    simp [i64_cells, u64_cells, yes_cells, lgs_cells, Value.cells] at g0 g1 g2 g3 g4 g5 g6
    obtain ⟨k, e0, _, _⟩ := DataW.trod_int Tryz.underlying3 g0
    obtain ⟨st, e1, _⟩ := DataW.trod_bool Tryz.underlying4 g1
    obtain ⟨ga, e2, _, w2⟩ := DataW.trod_int Tryz.underlying22 g2
    obtain ⟨ls, a, cap, rfl, hL⟩ := open_logs m c3 y3 g3
    obtain ⟨fu, e4, _⟩ := DataW.trod_bool Tryz.underlying4 g4
    obtain ⟨no, e5, _, w5⟩ := DataW.trod_int Tryz.underlying22 g5
    obtain ⟨ve, e6, _, w6⟩ := DataW.trod_int Tryz.underlying22 g6
    simp at e0 e1 e2 e4 e5 e6
    subst e0 e1 e2 e4 e5 e6
    obtain ⟨ga, rfl, q2⟩ := u64_nat w2
    obtain ⟨no, rfl, q5⟩ := u64_nat w5
    obtain ⟨ve, rfl, q6⟩ := u64_nat w6
    exact ⟨k, st, ga, ls, a, cap, fu, no, ve, rfl, hL, q2, q5, q6⟩
end
end Go.Proofs.YtihiacbhdcahkaaGreatDoor
