/- A range over the lanes of a state; the tables; keccak.moveLanes. -/
import Derived.Test.YtdfcfpbofomdcaaDoorQ9
import Derived.Test.YtdfcfpbofomdcaaDoorQ6
namespace Go.Proofs.YtdfcfpbofomdcaaDoor
open Go Go.RowKit Go.Shelf
attribute [local go_sem] Oper.semAt_some

/-- The tables of the program, as they read. -/
structure Tab (W : World) : Prop where
  rc : ∀ i, i < 24 → W.cell? ⟨0, i, none⟩ = some (.int .u64 ((M.gl M.rcs i : Nat) : Int))
  off : ∀ i, i < 25 → W.cell? ⟨1, i, none⟩ = some (.int .i64 ((M.gl M.offs i : Nat) : Int))
theorem Tab.lt {W : World} (h : Tab W) : 0 < W.heap.size ∧ 1 < W.heap.size :=
  ⟨block_lt_of_cell (h.rc 0 (by omega)), block_lt_of_cell (h.off 0 (by omega))⟩
theorem Tab.below {B : Nat} {W W' : World} (h : Tab W) (hb : Below B W W') (hB : W.heap.size ≤ B) : Tab W' :=
  ⟨fun i hi => (hb.cell (p := ⟨_, i, none⟩) (Nat.lt_of_lt_of_le h.lt.1 hB)).trans (h.rc i hi), fun i hi => (hb.cell (p := ⟨_, i, none⟩) (Nat.lt_of_lt_of_le h.lt.2 hB)).trans (h.off i hi)⟩
theorem Tab.from {w W : World} (h : Tab w) (hb : Below w.heap.size w W) : Tab W := h.below hb (Nat.le_refl _)

theorem range_cut {m i : Nat} (h : i < m) : ∃ post, List.range m = List.range i ++ i :: post := by
  obtain ⟨k, rfl⟩ : ∃ k, m = i + (k + 1) := ⟨m - i - 1, by omega⟩
  refine ⟨(List.range k).map (fun x => i + (x + 1)), ?_⟩
  rw [List.range_add, List.range_succ_eq_map]
  simp [List.map_map, Function.comp_def]
theorem range_part {m x : Nat} {pre post : List Nat} (h : List.range m = pre ++ x :: post) : pre = List.range pre.length ∧ x = pre.length ∧ pre.length < m := by
  have hl := congrArg List.length h
  simp at hl
  have hx : (List.range m)[pre.length]? = some x := by rw [h]; simp
  rw [List.getElem?_range (by omega)] at hx
  have ht : (List.range m).take pre.length = pre := by rw [h]; simp
  rw [List.take_range, Nat.min_eq_left (by omega)] at ht
  exact ⟨ht.symm, (Option.some.inj hx).symm, by omega⟩

/-- A lane's place, as a value. -/
abbrev plc (i : Nat) : Array Value := #[.int .i64 ((px i : Nat) : Int), .int .i64 ((py i : Nat) : Int)]
/-- The box of a place. -/
def Pl (W : World) (B i : Nat) : Prop := W.heap[B]? = some (.cells (plc i) 50 (0, 0))
theorem Pl.new (W : World) (i : Nat) : Pl (W.alloc (.cells (plc i) 50)) W.heap.size i := heap_alloc_new W _
theorem Pl.lt {W : World} {B i : Nat} (h : Pl W B i) : B < W.heap.size := (Array.getElem?_eq_some_iff.1 h).1
theorem Pl.x {W : World} {B i : Nat} (h : Pl W B i) : W.cell? ⟨B, 0, none⟩ = some (.int .i64 ((px i : Nat) : Int)) := cell_of_row W B 0 _ _ (0, 0) h
theorem Pl.y {W : World} {B i : Nat} (h : Pl W B i) : W.cell? ⟨B, 1, none⟩ = some (.int .i64 ((py i : Nat) : Int)) := cell_of_row W B 1 _ _ (0, 0) h

theorem range_lanes {a : List Nat} (ha : a.length = 25) {g : Operand} {ps : Array Tmp} {assign body : Code} {Q : Exit → Act → World → Prop} {act : Act} {w : World} {b : Nat}
    (hg : act.eval g = .func (.func 31) #[] #[.pointer (some ⟨b, 0, none⟩)]) (hps : ps.size = 2)
    (I : Nat → World → Prop) (hI : OwnFrom w.heap.size I) (hc : ∀ i W, I i W → Rw W b 23 a ∧ w.heap.size ≤ W.heap.size) (h0 : I 0 w) (f : Nat → Nat → Array Value → Array Value)
    (hassign : ∀ (l i : Nat) (W : World) (K : Act → World → Prop), i < 25 → K { tmps := f W.heap.size i act.tmps, defers := [] } (W.alloc (.cells (plc i) 50)) →
      assign.wpIn (Fence.wide.inRound l) 2 Tryd.prog (Exit.then K (fun _ _ _ => False)) { tmps := (ps.zip #[.agg (plc i), .int .u64 ((M.gl a i : Nat) : Int)]).foldl (fun t (p, v) => t.setIfInBounds p v) act.tmps, defers := [] } W)
    (hbody : ∀ (l i B : Nat) (W : World), i < 25 → I i W → Pl W B i → w.heap.size ≤ B → body.wpIn (Fence.wide.inRound l) 2 Tryd.prog (fun e _ W' => e = .normal ∧ KeepsOthers W W' ∧ I (i + 1) W') { tmps := f B i act.tmps, defers := [] } W)
    (hdone : ∀ (D : Nat) (W : World), w.heap.size ≤ D → I 25 W → W.heap[D]? = some (.deferred (some [])) → Q .normal { act with defers := { target := .collected D, args := #[] } :: act.defers } W) :
    (Code.rangeFunc g ps assign body).wpIn Fence.wide 4 Tryd.prog Q act w := by
  refine range_ax (n := 4) (by omega) hg (enters_of Tryd.func31 (by kernel_rfl) rfl) (encs := fun i : Nat => #[.agg (plc i), .int .u64 ((M.gl a i : Nat) : Int)]) (fun _ => hps.symm) (List.range 25)
    (fun pre W => I pre.length W) (fun pre => hI pre.length) ?_ h0
    (fun _ i a' W => ∃ B, Pl W B i ∧ w.heap.size ≤ B ∧ a' = { tmps := f B i act.tmps, defers := [] } ∧ I i W) ?_ ?_ ?_ hdone
  · intro l J W hJI hd hY hJ0
    refine (lanes_run 2 a ha l b J (fun pre W h => (hc _ _ (hJI pre W h)).1) ?_ W hJ0).mono ?_
    · intro i W1 hi hJ1
      obtain ⟨post, hp⟩ := range_cut hi
      have := hY _ i post W1 hp hJ1
      rwa [← List.range_succ] at this
    · rintro e W' ⟨hv, hj⟩
      exact ⟨hv, hj⟩
  · rintro pre i a' s A B row ⟨Bx, hp, hB, e, hi⟩ hg' hr
    refine ⟨Bx, (hg'.block Bx hp.lt ?_).trans hp, hB, e, hI i A B row hi hg' hr⟩
    intro he
    obtain ⟨_, o, ho, hcell⟩ := hr Bx he.symm
    rw [show A.heap[Bx]? = _ from hp] at ho
    cases ho
    cases hcell
  · intro l pre x post W K hx hi hK
    obtain ⟨h1, h2, h3⟩ := range_part hx
    subst h2
    refine hassign l pre.length W K h3 (hK _ _ (KeepsOthers.alloc _ _) ⟨W.heap.size, Pl.new W _, (hc _ _ hi).2, rfl, hI.alloc _ hi⟩)
  · rintro l pre x post a' W hx ⟨B, hp, hB, rfl, hi⟩
    obtain ⟨h1, h2, h3⟩ := range_part hx
    subst h2
    rw [List.length_append, List.length_singleton]
    exact hbody l pre.length B W h3 hi hp hB
end Go.Proofs.YtdfcfpbofomdcaaDoor
