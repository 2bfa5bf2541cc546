/- Frames that come in, as they lie in memory. -/
import Derived.Test.YtgeeoefcepjniaaJF1
import Derived.Lib.SmallJoins
import Derived.Deep.Slices
import Derived.SizedLaws
import Derived.OpenShut
import Derived.WideShapes
import Derived.ChangeShapes
namespace Go.Proofs.Ytgeeoefcepjniaa
open Go Go.RowKit

theorem fr_cells : Try.prog.cellsOf 24 = 4 := by kernel_rfl
theorem strF_cells : Try.prog.cellsOf 9 = 1 := by kernel_rfl
theorem intF_cells : Try.prog.cellsOf 3 = 1 := by kernel_rfl
theorem yesF_cells : Try.prog.cellsOf 4 = 1 := by kernel_rfl
theorem ad_addF (b o i : Nat) : (⟨b, o, none⟩ : Addr).add i = ⟨b, o + i, none⟩ := by
  unfold Addr.add
  split
  · rename_i h; rw [h, Nat.add_zero]
  · rfl
section
variable {H : Type} {enc : TypeId × Value → H} {W : World} {sp : Nat → Bool} {hd : Bool}
set_option maxRecDepth 100000 in
/-- What a slice of frames leads to. -/
theorem open_frames_at (fuel : Nat) (u : Value) (x : DataW H × List MemPlace) (h : DataW.trod enc Try.prog W 0 sp hd fuel 22 [u] = some x) :
    ∃ ls a cap, u = .slice a ls.length cap ∧ Fs W W.heap.size ls (.slice a ls.length cap) ∧ (a = none → cap = 0) := by
  rcases DataW.trod_slice Try.underlying22 h with ⟨hu, _⟩ | ⟨a, len, cap, elems, rest, n, hf, hu, hx, hb, hl, hm, hel, hei, _, _⟩
  · obtain rfl : u = .slice none 0 0 := by simpa using hu
    exact ⟨[], none, 0, rfl, .nil_ (by decide), fun _ => rfl⟩
  · obtain rfl : u = .slice (some a) len cap := by simpa using hu
    by_cases h0 : len = 0
    · subst h0
      exact ⟨[], some a, cap, rfl, .nil_ hm, fun h => by cases h⟩
    · have each : ∀ i, i < len → ∃ q : M.Fr, W.cell? (a.add (i * 4)) = some (.string ⟨q.id.toArray⟩) ∧ W.cell? (a.add (i * 4 + 1)) = some (.int .i64 q.num) ∧ W.cell? (a.add (i * 4 + 2)) = some (.string ⟨q.data.toArray⟩) ∧ W.cell? (a.add (i * 4 + 3)) = some (.bool q.last) := by
        intro i hi
        have he := hei i hi
        rw [List.getElem?_eq_getElem (by omega)] at he
        obtain ⟨cs, h1, h2⟩ := Option.bind_eq_some_iff.1 he
        rw [fr_cells] at h1
        obtain ⟨_, hlen, hcell⟩ := World.cells?_some h1
        obtain ⟨ps, m, hfm, hxy, _, hpl, hfi⟩ := DataW.trod_struct Try.underlying24 h2
        match cs, hlen, ps, hpl with
        | [v0, v1, v2, v3], _, [y0, y1, y2, y3], _ =>
          have g0 := hfi 0 _ rfl
          have g1 := hfi 1 _ rfl
          have g2 := hfi 2 _ rfl
          have g3 := hfi 3 _ rfl
          simp [strF_cells, intF_cells, yesF_cells] at g0 g1 g2 g3
          obtain ⟨s0, e0, _, _⟩ := DataW.trod_string Try.underlying9 g0
          obtain ⟨k, e1, _, _⟩ := DataW.trod_int Try.underlying3 g1
          obtain ⟨s2, e2, _, _⟩ := DataW.trod_string Try.underlying9 g2
          obtain ⟨b, e3, _⟩ := DataW.trod_bool Try.underlying4 g3
          simp at e0 e1 e2 e3
          subst e0 e1 e2 e3
          refine ⟨⟨s0.data.toList, k, s2.data.toList, b⟩, ?_, ?_, ?_, ?_⟩
          · have := hcell 0 (by omega)
            rw [Go.Deep.add_add, Nat.add_zero] at this
            exact this
          · have := hcell 1 (by omega)
            rw [Go.Deep.add_add] at this
            exact this
          · have := hcell 2 (by omega)
            rw [Go.Deep.add_add] at this
            exact this
          · have := hcell 3 (by omega)
            rw [Go.Deep.add_add] at this
            exact this
      haveI : Inhabited M.Fr := ⟨⟨[], 0, [], false⟩⟩
      obtain ⟨q, hq⟩ := Go.Deep.choose_lt each
      obtain ⟨b, o, spot⟩ := a
      have hspot : spot = none := by
        have := (hq 0 (by omega)).1
        simpa [Addr.add] using World.cell?_spot this
      subst hspot
      have hbl : b < W.heap.size := World.block_lt_of_cell? W _ ((hq 0 (by omega)).1)
      have hlen : ((List.range len).map q).length = len := by simp
      refine ⟨(List.range len).map q, some ⟨b, o, none⟩, cap, by rw [hlen], ?_, fun h => by cases h⟩
      have key : ∀ (i : Nat) (g : M.Fr), ((List.range len).map q)[i]? = some g → i < len ∧ q i = g := by
        intro i g e
        have hi : i < len := by
          have := (List.getElem?_eq_some_iff.1 e).1
          simpa using this
        simp [hi] at e
        exact ⟨hi, e⟩
      refine Fs.row hbl (by rw [hlen]; exact hl) hm ?_ ?_ ?_ ?_
      · intro i g e
        obtain ⟨hi, rfl⟩ := key i g e
        have := (hq i hi).1
        rwa [ad_addF] at this
      · intro i g e
        obtain ⟨hi, rfl⟩ := key i g e
        have := (hq i hi).2.1
        rwa [ad_addF] at this
      · intro i g e
        obtain ⟨hi, rfl⟩ := key i g e
        have := (hq i hi).2.2.1
        rwa [ad_addF] at this
      · intro i g e
        obtain ⟨hi, rfl⟩ := key i g e
        have := (hq i hi).2.2.2
        rwa [ad_addF] at this
set_option maxRecDepth 100000 in
/-- A slice of frames that comes in. -/
theorem open_frames {r : Reach} {b0 : Nat} {v : Value} {d : DataW H} {p : List MemPlace} (hv : Value.okWide Try.prog W r b0 22 v) (h : DataW.Trod enc Try.prog W 0 sp hd 22 v d p) :
    ∃ ls a cap, v = .slice a ls.length cap ∧ Fs W W.heap.size ls (.slice a ls.length cap) ∧ (a = none → cap = 0) := by
  obtain ⟨m, hm⟩ := h
  obtain ⟨a, l, c, rfl⟩ := Go.WideShapes.okWide_slice Try.underlying22 hv
  exact open_frames_at m _ (d, p) hm
set_option maxRecDepth 100000 in
/-- A frame that comes in. -/
theorem open_frame {r : Reach} {b0 : Nat} {v : Value} {d : DataW H} {p : List MemPlace} (hv : Value.okWide Try.prog W r b0 24 v) (h : DataW.Trod enc Try.prog W 0 sp hd 24 v d p) : ∃ f : M.Fr, v = frv f := by
  obtain ⟨cs, rfl, hsz⟩ := Go.WideShapes.okWide_struct Try.underlying24 hv
  rw [fr_cells] at hsz
  obtain ⟨c0, c1, c2, c3, rfl⟩ : ∃ c0 c1 c2 c3, cs = #[c0, c1, c2, c3] := by
    obtain ⟨l⟩ := cs
    match l, hsz with
    | [c0, c1, c2, c3], _ => exact ⟨c0, c1, c2, c3, rfl⟩
  obtain ⟨fuel, hf⟩ := h
  obtain ⟨ps, m, _, _, _, hpl, hfi⟩ := DataW.trod_struct Try.underlying24 hf
  match ps, hpl with
  | [y0, y1, y2, y3], _ =>
    have g0 := hfi 0 _ rfl
    have g1 := hfi 1 _ rfl
    have g2 := hfi 2 _ rfl
    have g3 := hfi 3 _ rfl
    simp [intF_cells, strF_cells, yesF_cells, Value.cells] at g0 g1 g2 g3
    obtain ⟨s0, e0, _, _⟩ := DataW.trod_string Try.underlying9 g0
    obtain ⟨k, e1, _, _⟩ := DataW.trod_int Try.underlying3 g1
    obtain ⟨s2, e2, _, _⟩ := DataW.trod_string Try.underlying9 g2
    obtain ⟨b, e3, _⟩ := DataW.trod_bool Try.underlying4 g3
    simp at e0 e1 e2 e3
    subst e0 e1 e2 e3
    exact ⟨⟨s0.data.toList, k, s2.data.toList, b⟩, rfl⟩
end
end Go.Proofs.Ytgeeoefcepjniaa
