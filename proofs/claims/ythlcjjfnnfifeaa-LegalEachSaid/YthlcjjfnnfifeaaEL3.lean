/- legal.table: the map, whatever order its entries are put in. -/
import Derived.Test.YthlcjjfnnfifeaaEL2
namespace Go.Proofs.Ythlcjjfnnfifeaa
open Go Go.RowKit

theorem below_grow13 {w W W2 : World} {b : Nat} (h : Below w.heap.size w W) (hg : W.grownBy W2 (some b)) (hb : w.heap.size ≤ b) : Below w.heap.size w W2 :=
  ⟨hg.os.trans h.os, hg.tape.trans h.tape, hg.output.trans h.output, Nat.le_trans h.size hg.size, fun i hi => (hg.block i (Nat.lt_of_lt_of_le hi h.size) (fun e => by cases e; omega)).trans (h.block i hi)⟩
def tabJ : List Nat := [3, 6, 9, 12, 15, 18, 21, 24, 27, 30, 33, 36, 39, 42]
def tabL : Array Bool := #[true, true, true, false, true, true, false, true, true, false, true, true, false, true, true, false, true, true, false, true, true, false, true, true, false, true, true, false, true, true, false, true, true, false, true, true, false, true, true, false, true, true, false, false, false]
def ent13 (i : Nat) : Int × Int × Int × Int := M.legT.getD (i / 3 - 1) (0, 0, 0, 0)
theorem ent13_mem : ∀ i ∈ tabJ, ent13 i ∈ M.legT := by decide
theorem ent13_one : ∀ i ∈ tabJ, ∀ j ∈ tabJ, (ent13 j).1 = (ent13 i).1 → (ent13 j).2.1 = (ent13 i).2.1 → j = i := by decide
theorem lsd_perm {L0 : Array Bool} {d J : List Nat} (h : d.Perm J) : lsd L0 d = lsd L0 J := by
  refine Array.ext (by rw [lsd_size, lsd_size]) fun j h1 h2 => ?_
  have hj : j < L0.size := by rwa [lsd_size] at h1
  have e1 := lsd_at L0 j hj d
  have e2 := lsd_at L0 j hj J
  rw [Array.getElem?_eq_getElem h1] at e1
  rw [Array.getElem?_eq_getElem h2] at e2
  have e1' := Option.some.inj e1
  have e2' := Option.some.inj e2
  rw [e1', e2']
  simp [h.mem_iff]
/-- While the table is made. -/
def TabI (w : World) (done : List Nat) (w' : World) : Prop :=
  ∃ D, AtD D (done.map ent13) ∧ w'.ownsMap Try.prog 40 Rv13 w.heap.size done.length D ∧ Below w.heap.size w w'
/-- The table, in block b. -/
def Tab13 (W : World) (b : Nat) (D : DataW Value) : Prop := AtD D M.legT ∧ W.ownsMap Try.prog 40 Rv13 b 14 D

set_option maxRecDepth 100000 in
set_option maxHeartbeats 8000000 in
theorem table13_any (w : World) : Calls Try.prog 17 #[] w fun e w' => e = .returned (.map (some w.heap.size)) ∧ (∃ D, Tab13 w' w.heap.size D) ∧ Below w.heap.size w w' := by
  have mixed : Try.prog.follows .mixedOrders = true := by kernel_rfl
  have hmm := @run_makeMap Try.prog
  go_enter Try.func17, Try.ntmps17
  go_wp2_with fail
  refine wp_region_held (S := fun _ => True) mixed ?_
  rw [show Array.replicate (Array.size _) false = #[false, false, false, false, false, false, false, false, false, false, false, false, false, false, false, false, false, false, false, false, false, false, false, false, false, false, false, false, false, false, false, false, false, false, false, false, false, false, false, false, false, false, false, false, false] from rfl, show Array.size (α := Oper) _ = 45 from rfl]
  refine wpAnyH_take (i := 1) (v := kS 1 0) rfl (by kernel_rfl) (by kernel_rfl) (by kernel_rfl) (fun _ _ _ h => h) (Or.inl ⟨by rfl, ?_⟩) trivial ?_
  · intro Y hY
    skip
    go_simp
    rfl
  simp only [Act.put, List.getElem_toArray, List.getElem_cons_succ, List.getElem_cons_zero, List.setIfInBounds_toArray, List.set_cons_zero, List.set_cons_succ]
  refine wpAnyH_take (i := 2) (v := rV (0, 5)) rfl (by kernel_rfl) (by kernel_rfl) (by kernel_rfl) (fun _ _ _ h => h) (Or.inl ⟨by rfl, ?_⟩) trivial ?_
  · intro Y hY
    skip
    go_simp
    rfl
  simp only [Act.put, List.getElem_toArray, List.getElem_cons_succ, List.getElem_cons_zero, List.setIfInBounds_toArray, List.set_cons_zero, List.set_cons_succ]
  refine wpAnyH_take (i := 4) (v := kS 1 1) rfl (by kernel_rfl) (by kernel_rfl) (by kernel_rfl) (fun _ _ _ h => h) (Or.inl ⟨by rfl, ?_⟩) trivial ?_
  · intro Y hY
    skip
    go_simp
    rfl
  simp only [Act.put, List.getElem_toArray, List.getElem_cons_succ, List.getElem_cons_zero, List.setIfInBounds_toArray, List.set_cons_zero, List.set_cons_succ]
  refine wpAnyH_take (i := 5) (v := rV (0, 5)) rfl (by kernel_rfl) (by kernel_rfl) (by kernel_rfl) (fun _ _ _ h => h) (Or.inl ⟨by rfl, ?_⟩) trivial ?_
  · intro Y hY
    skip
    go_simp
    rfl
  simp only [Act.put, List.getElem_toArray, List.getElem_cons_succ, List.getElem_cons_zero, List.setIfInBounds_toArray, List.set_cons_zero, List.set_cons_succ]
  refine wpAnyH_take (i := 7) (v := kS 1 2) rfl (by kernel_rfl) (by kernel_rfl) (by kernel_rfl) (fun _ _ _ h => h) (Or.inl ⟨by rfl, ?_⟩) trivial ?_
  · intro Y hY
    skip
    go_simp
    rfl
  simp only [Act.put, List.getElem_toArray, List.getElem_cons_succ, List.getElem_cons_zero, List.setIfInBounds_toArray, List.set_cons_zero, List.set_cons_succ]
  refine wpAnyH_take (i := 8) (v := rV (0, 5)) rfl (by kernel_rfl) (by kernel_rfl) (by kernel_rfl) (fun _ _ _ h => h) (Or.inl ⟨by rfl, ?_⟩) trivial ?_
  · intro Y hY
    skip
    go_simp
    rfl
  simp only [Act.put, List.getElem_toArray, List.getElem_cons_succ, List.getElem_cons_zero, List.setIfInBounds_toArray, List.set_cons_zero, List.set_cons_succ]
  refine wpAnyH_take (i := 10) (v := kS 1 126) rfl (by kernel_rfl) (by kernel_rfl) (by kernel_rfl) (fun _ _ _ h => h) (Or.inl ⟨by rfl, ?_⟩) trivial ?_
  · intro Y hY
    skip
    go_simp
    rfl
  simp only [Act.put, List.getElem_toArray, List.getElem_cons_succ, List.getElem_cons_zero, List.setIfInBounds_toArray, List.set_cons_zero, List.set_cons_succ]
  refine wpAnyH_take (i := 11) (v := rV (0, 5)) rfl (by kernel_rfl) (by kernel_rfl) (by kernel_rfl) (fun _ _ _ h => h) (Or.inl ⟨by rfl, ?_⟩) trivial ?_
  · intro Y hY
    skip
    go_simp
    rfl
  simp only [Act.put, List.getElem_toArray, List.getElem_cons_succ, List.getElem_cons_zero, List.setIfInBounds_toArray, List.set_cons_zero, List.set_cons_succ]
  refine wpAnyH_take (i := 13) (v := kS 1 4) rfl (by kernel_rfl) (by kernel_rfl) (by kernel_rfl) (fun _ _ _ h => h) (Or.inl ⟨by rfl, ?_⟩) trivial ?_
  · intro Y hY
    skip
    go_simp
    rfl
  simp only [Act.put, List.getElem_toArray, List.getElem_cons_succ, List.getElem_cons_zero, List.setIfInBounds_toArray, List.set_cons_zero, List.set_cons_succ]
  refine wpAnyH_take (i := 14) (v := rV (5, 5)) rfl (by kernel_rfl) (by kernel_rfl) (by kernel_rfl) (fun _ _ _ h => h) (Or.inl ⟨by rfl, ?_⟩) trivial ?_
  · intro Y hY
    skip
    go_simp
    rfl
  simp only [Act.put, List.getElem_toArray, List.getElem_cons_succ, List.getElem_cons_zero, List.setIfInBounds_toArray, List.set_cons_zero, List.set_cons_succ]
  refine wpAnyH_take (i := 16) (v := kS 2 0) rfl (by kernel_rfl) (by kernel_rfl) (by kernel_rfl) (fun _ _ _ h => h) (Or.inl ⟨by rfl, ?_⟩) trivial ?_
  · intro Y hY
    skip
    go_simp
    rfl
  simp only [Act.put, List.getElem_toArray, List.getElem_cons_succ, List.getElem_cons_zero, List.setIfInBounds_toArray, List.set_cons_zero, List.set_cons_succ]
  refine wpAnyH_take (i := 17) (v := rV (0, 0)) rfl (by kernel_rfl) (by kernel_rfl) (by kernel_rfl) (fun _ _ _ h => h) (Or.inl ⟨by rfl, ?_⟩) trivial ?_
  · intro Y hY
    skip
    go_simp
    rfl
  simp only [Act.put, List.getElem_toArray, List.getElem_cons_succ, List.getElem_cons_zero, List.setIfInBounds_toArray, List.set_cons_zero, List.set_cons_succ]
  refine wpAnyH_take (i := 19) (v := kS 2 1) rfl (by kernel_rfl) (by kernel_rfl) (by kernel_rfl) (fun _ _ _ h => h) (Or.inl ⟨by rfl, ?_⟩) trivial ?_
  · intro Y hY
    skip
    go_simp
    rfl
  simp only [Act.put, List.getElem_toArray, List.getElem_cons_succ, List.getElem_cons_zero, List.setIfInBounds_toArray, List.set_cons_zero, List.set_cons_succ]
  refine wpAnyH_take (i := 20) (v := rV (1, 1)) rfl (by kernel_rfl) (by kernel_rfl) (by kernel_rfl) (fun _ _ _ h => h) (Or.inl ⟨by rfl, ?_⟩) trivial ?_
  · intro Y hY
    skip
    go_simp
    rfl
  simp only [Act.put, List.getElem_toArray, List.getElem_cons_succ, List.getElem_cons_zero, List.setIfInBounds_toArray, List.set_cons_zero, List.set_cons_succ]
  refine wpAnyH_take (i := 22) (v := kS 2 2) rfl (by kernel_rfl) (by kernel_rfl) (by kernel_rfl) (fun _ _ _ h => h) (Or.inl ⟨by rfl, ?_⟩) trivial ?_
  · intro Y hY
    skip
    go_simp
    rfl
  simp only [Act.put, List.getElem_toArray, List.getElem_cons_succ, List.getElem_cons_zero, List.setIfInBounds_toArray, List.set_cons_zero, List.set_cons_succ]
  refine wpAnyH_take (i := 23) (v := rV (2, 5)) rfl (by kernel_rfl) (by kernel_rfl) (by kernel_rfl) (fun _ _ _ h => h) (Or.inl ⟨by rfl, ?_⟩) trivial ?_
  · intro Y hY
    skip
    go_simp
    rfl
  simp only [Act.put, List.getElem_toArray, List.getElem_cons_succ, List.getElem_cons_zero, List.setIfInBounds_toArray, List.set_cons_zero, List.set_cons_succ]
  refine wpAnyH_take (i := 25) (v := kS 3 0) rfl (by kernel_rfl) (by kernel_rfl) (by kernel_rfl) (fun _ _ _ h => h) (Or.inl ⟨by rfl, ?_⟩) trivial ?_
  · intro Y hY
    skip
    go_simp
    rfl
  simp only [Act.put, List.getElem_toArray, List.getElem_cons_succ, List.getElem_cons_zero, List.setIfInBounds_toArray, List.set_cons_zero, List.set_cons_succ]
  refine wpAnyH_take (i := 26) (v := rV (0, 5)) rfl (by kernel_rfl) (by kernel_rfl) (by kernel_rfl) (fun _ _ _ h => h) (Or.inl ⟨by rfl, ?_⟩) trivial ?_
  · intro Y hY
    skip
    go_simp
    rfl
  simp only [Act.put, List.getElem_toArray, List.getElem_cons_succ, List.getElem_cons_zero, List.setIfInBounds_toArray, List.set_cons_zero, List.set_cons_succ]
  refine wpAnyH_take (i := 28) (v := kS 3 1) rfl (by kernel_rfl) (by kernel_rfl) (by kernel_rfl) (fun _ _ _ h => h) (Or.inl ⟨by rfl, ?_⟩) trivial ?_
  · intro Y hY
    skip
    go_simp
    rfl
  simp only [Act.put, List.getElem_toArray, List.getElem_cons_succ, List.getElem_cons_zero, List.setIfInBounds_toArray, List.set_cons_zero, List.set_cons_succ]
  refine wpAnyH_take (i := 29) (v := rV (3, 5)) rfl (by kernel_rfl) (by kernel_rfl) (by kernel_rfl) (fun _ _ _ h => h) (Or.inl ⟨by rfl, ?_⟩) trivial ?_
  · intro Y hY
    skip
    go_simp
    rfl
  simp only [Act.put, List.getElem_toArray, List.getElem_cons_succ, List.getElem_cons_zero, List.setIfInBounds_toArray, List.set_cons_zero, List.set_cons_succ]
  refine wpAnyH_take (i := 31) (v := kS 4 0) rfl (by kernel_rfl) (by kernel_rfl) (by kernel_rfl) (fun _ _ _ h => h) (Or.inl ⟨by rfl, ?_⟩) trivial ?_
  · intro Y hY
    skip
    go_simp
    rfl
  simp only [Act.put, List.getElem_toArray, List.getElem_cons_succ, List.getElem_cons_zero, List.setIfInBounds_toArray, List.set_cons_zero, List.set_cons_succ]
  refine wpAnyH_take (i := 32) (v := rV (0, 5)) rfl (by kernel_rfl) (by kernel_rfl) (by kernel_rfl) (fun _ _ _ h => h) (Or.inl ⟨by rfl, ?_⟩) trivial ?_
  · intro Y hY
    skip
    go_simp
    rfl
  simp only [Act.put, List.getElem_toArray, List.getElem_cons_succ, List.getElem_cons_zero, List.setIfInBounds_toArray, List.set_cons_zero, List.set_cons_succ]
  refine wpAnyH_take (i := 34) (v := kS 4 2) rfl (by kernel_rfl) (by kernel_rfl) (by kernel_rfl) (fun _ _ _ h => h) (Or.inl ⟨by rfl, ?_⟩) trivial ?_
  · intro Y hY
    skip
    go_simp
    rfl
  simp only [Act.put, List.getElem_toArray, List.getElem_cons_succ, List.getElem_cons_zero, List.setIfInBounds_toArray, List.set_cons_zero, List.set_cons_succ]
  refine wpAnyH_take (i := 35) (v := rV (4, 5)) rfl (by kernel_rfl) (by kernel_rfl) (by kernel_rfl) (fun _ _ _ h => h) (Or.inl ⟨by rfl, ?_⟩) trivial ?_
  · intro Y hY
    skip
    go_simp
    rfl
  simp only [Act.put, List.getElem_toArray, List.getElem_cons_succ, List.getElem_cons_zero, List.setIfInBounds_toArray, List.set_cons_zero, List.set_cons_succ]
  refine wpAnyH_take (i := 37) (v := kS 5 0) rfl (by kernel_rfl) (by kernel_rfl) (by kernel_rfl) (fun _ _ _ h => h) (Or.inl ⟨by rfl, ?_⟩) trivial ?_
  · intro Y hY
    skip
    go_simp
    rfl
  simp only [Act.put, List.getElem_toArray, List.getElem_cons_succ, List.getElem_cons_zero, List.setIfInBounds_toArray, List.set_cons_zero, List.set_cons_succ]
  refine wpAnyH_take (i := 38) (v := rV (0, 4)) rfl (by kernel_rfl) (by kernel_rfl) (by kernel_rfl) (fun _ _ _ h => h) (Or.inl ⟨by rfl, ?_⟩) trivial ?_
  · intro Y hY
    skip
    go_simp
    rfl
  simp only [Act.put, List.getElem_toArray, List.getElem_cons_succ, List.getElem_cons_zero, List.setIfInBounds_toArray, List.set_cons_zero, List.set_cons_succ]
  refine wpAnyH_take (i := 40) (v := kS 5 1) rfl (by kernel_rfl) (by kernel_rfl) (by kernel_rfl) (fun _ _ _ h => h) (Or.inl ⟨by rfl, ?_⟩) trivial ?_
  · intro Y hY
    skip
    go_simp
    rfl
  simp only [Act.put, List.getElem_toArray, List.getElem_cons_succ, List.getElem_cons_zero, List.setIfInBounds_toArray, List.set_cons_zero, List.set_cons_succ]
  refine wpAnyH_take (i := 41) (v := rV (5, 5)) rfl (by kernel_rfl) (by kernel_rfl) (by kernel_rfl) (fun _ _ _ h => h) (Or.inl ⟨by rfl, ?_⟩) trivial ?_
  · intro Y hY
    skip
    go_simp
    rfl
  simp only [Act.put, List.getElem_toArray, List.getElem_cons_succ, List.getElem_cons_zero, List.setIfInBounds_toArray, List.set_cons_zero, List.set_cons_succ]
  refine wpAnyH_ready (rs := [0]) (by kernel_rfl) (by simp) ?_
  refine AllReadyH.cons rfl (fun K hK => ?_) AllReadyH.nil
  go_simp
  refine hK.out _ _ trivial (fun _ => ?_)
  clear hK K
  simp only [List.setIfInBounds_toArray, List.set_cons_zero]
  obtain ⟨w1, hw1⟩ : ∃ w1, (w.alloc (.map #[] 0)).drew = w1 := ⟨_, rfl⟩
  have hI0 : TabI w [] w1 := ⟨.map [], .nil, by rw [← hw1]; exact (World.ownsMap_made w _ _ _).drew, by rw [← hw1]; exact ((Below.refl w.heap.size w).alloc (Nat.le_refl _) _).drew⟩
  rw [hw1]
  clear hw1
  refine wpAnyH_bag (J := tabJ) (L0 := tabL) rfl (by kernel_rfl) (by kernel_rfl) (TabI w) (fun _ _ _ => trivial) ?_ 2 ?_ (by decide) 14 tabJ [] w1 rfl (List.Perm.refl _) hI0
  · intro i done w' K hi hnd hsub hlen hI hK
    obtain ⟨D, hA, hown, hB⟩ := hI
    have hn : done.length < maxLen := by have : tabJ.length = 14 := rfl; unfold maxLen; omega
    have hp : ∀ i ∈ tabJ, i ∉ done → ∀ q ∈ done.map ent13, kL q.1 q.2.1 ≠ kL (ent13 i).1 (ent13 i).2.1 := by
      intro i hi hnd q hq e
      obtain ⟨j, hj, rfl⟩ := List.mem_map.1 hq
      obtain ⟨a1, a2⟩ := leg_wf _ (ent13_mem j (hsub j hj))
      obtain ⟨b1, b2⟩ := leg_wf _ (ent13_mem i hi)
      obtain ⟨e1, e2⟩ := kL_inj a1 a2 b1 b2 e
      exact hnd (ent13_one i hi j (hsub j hj) e1 e2 ▸ hj)
    replace hp := hp i hi hnd
    simp only [tabJ, List.mem_cons, List.not_mem_nil, or_false] at hi
    clear hlen hsub hnd
    rcases hi with rfl | rfl | rfl | rfl | rfl | rfl | rfl | rfl | rfl | rfl | rfl | rfl | rfl | rfl
    · exact wpOp_insert rfl rfl rfl _ _ _ 37 rfl 40 35 fmtKeyed Try.underlying37 Rv13 w.heap.size done.length D rfl hown hn (kS 1 0) (rV (0, 5)) (kL 1 0) rfl rfl (keyS (by unfold wfI; decide) (by unfold wfI; decide)) _ _ rfl (fun w2 h1 h2 => hK w2 ⟨_, hA.put (1, 0, 0, 5) hp, h1, below_grow13 hB h2 (Nat.le_refl _)⟩)
    · exact wpOp_insert rfl rfl rfl _ _ _ 37 rfl 40 35 fmtKeyed Try.underlying37 Rv13 w.heap.size done.length D rfl hown hn (kS 1 1) (rV (0, 5)) (kL 1 1) rfl rfl (keyS (by unfold wfI; decide) (by unfold wfI; decide)) _ _ rfl (fun w2 h1 h2 => hK w2 ⟨_, hA.put (1, 1, 0, 5) hp, h1, below_grow13 hB h2 (Nat.le_refl _)⟩)
    · exact wpOp_insert rfl rfl rfl _ _ _ 37 rfl 40 35 fmtKeyed Try.underlying37 Rv13 w.heap.size done.length D rfl hown hn (kS 1 2) (rV (0, 5)) (kL 1 2) rfl rfl (keyS (by unfold wfI; decide) (by unfold wfI; decide)) _ _ rfl (fun w2 h1 h2 => hK w2 ⟨_, hA.put (1, 2, 0, 5) hp, h1, below_grow13 hB h2 (Nat.le_refl _)⟩)
    · exact wpOp_insert rfl rfl rfl _ _ _ 37 rfl 40 35 fmtKeyed Try.underlying37 Rv13 w.heap.size done.length D rfl hown hn (kS 1 126) (rV (0, 5)) (kL 1 126) rfl rfl (keyS (by unfold wfI; decide) (by unfold wfI; decide)) _ _ rfl (fun w2 h1 h2 => hK w2 ⟨_, hA.put (1, 126, 0, 5) hp, h1, below_grow13 hB h2 (Nat.le_refl _)⟩)
    · exact wpOp_insert rfl rfl rfl _ _ _ 37 rfl 40 35 fmtKeyed Try.underlying37 Rv13 w.heap.size done.length D rfl hown hn (kS 1 4) (rV (5, 5)) (kL 1 4) rfl rfl (keyS (by unfold wfI; decide) (by unfold wfI; decide)) _ _ rfl (fun w2 h1 h2 => hK w2 ⟨_, hA.put (1, 4, 5, 5) hp, h1, below_grow13 hB h2 (Nat.le_refl _)⟩)
    · exact wpOp_insert rfl rfl rfl _ _ _ 37 rfl 40 35 fmtKeyed Try.underlying37 Rv13 w.heap.size done.length D rfl hown hn (kS 2 0) (rV (0, 0)) (kL 2 0) rfl rfl (keyS (by unfold wfI; decide) (by unfold wfI; decide)) _ _ rfl (fun w2 h1 h2 => hK w2 ⟨_, hA.put (2, 0, 0, 0) hp, h1, below_grow13 hB h2 (Nat.le_refl _)⟩)
    · exact wpOp_insert rfl rfl rfl _ _ _ 37 rfl 40 35 fmtKeyed Try.underlying37 Rv13 w.heap.size done.length D rfl hown hn (kS 2 1) (rV (1, 1)) (kL 2 1) rfl rfl (keyS (by unfold wfI; decide) (by unfold wfI; decide)) _ _ rfl (fun w2 h1 h2 => hK w2 ⟨_, hA.put (2, 1, 1, 1) hp, h1, below_grow13 hB h2 (Nat.le_refl _)⟩)
    · exact wpOp_insert rfl rfl rfl _ _ _ 37 rfl 40 35 fmtKeyed Try.underlying37 Rv13 w.heap.size done.length D rfl hown hn (kS 2 2) (rV (2, 5)) (kL 2 2) rfl rfl (keyS (by unfold wfI; decide) (by unfold wfI; decide)) _ _ rfl (fun w2 h1 h2 => hK w2 ⟨_, hA.put (2, 2, 2, 5) hp, h1, below_grow13 hB h2 (Nat.le_refl _)⟩)
    · exact wpOp_insert rfl rfl rfl _ _ _ 37 rfl 40 35 fmtKeyed Try.underlying37 Rv13 w.heap.size done.length D rfl hown hn (kS 3 0) (rV (0, 5)) (kL 3 0) rfl rfl (keyS (by unfold wfI; decide) (by unfold wfI; decide)) _ _ rfl (fun w2 h1 h2 => hK w2 ⟨_, hA.put (3, 0, 0, 5) hp, h1, below_grow13 hB h2 (Nat.le_refl _)⟩)
    · exact wpOp_insert rfl rfl rfl _ _ _ 37 rfl 40 35 fmtKeyed Try.underlying37 Rv13 w.heap.size done.length D rfl hown hn (kS 3 1) (rV (3, 5)) (kL 3 1) rfl rfl (keyS (by unfold wfI; decide) (by unfold wfI; decide)) _ _ rfl (fun w2 h1 h2 => hK w2 ⟨_, hA.put (3, 1, 3, 5) hp, h1, below_grow13 hB h2 (Nat.le_refl _)⟩)
    · exact wpOp_insert rfl rfl rfl _ _ _ 37 rfl 40 35 fmtKeyed Try.underlying37 Rv13 w.heap.size done.length D rfl hown hn (kS 4 0) (rV (0, 5)) (kL 4 0) rfl rfl (keyS (by unfold wfI; decide) (by unfold wfI; decide)) _ _ rfl (fun w2 h1 h2 => hK w2 ⟨_, hA.put (4, 0, 0, 5) hp, h1, below_grow13 hB h2 (Nat.le_refl _)⟩)
    · exact wpOp_insert rfl rfl rfl _ _ _ 37 rfl 40 35 fmtKeyed Try.underlying37 Rv13 w.heap.size done.length D rfl hown hn (kS 4 2) (rV (4, 5)) (kL 4 2) rfl rfl (keyS (by unfold wfI; decide) (by unfold wfI; decide)) _ _ rfl (fun w2 h1 h2 => hK w2 ⟨_, hA.put (4, 2, 4, 5) hp, h1, below_grow13 hB h2 (Nat.le_refl _)⟩)
    · exact wpOp_insert rfl rfl rfl _ _ _ 37 rfl 40 35 fmtKeyed Try.underlying37 Rv13 w.heap.size done.length D rfl hown hn (kS 5 0) (rV (0, 4)) (kL 5 0) rfl rfl (keyS (by unfold wfI; decide) (by unfold wfI; decide)) _ _ rfl (fun w2 h1 h2 => hK w2 ⟨_, hA.put (5, 0, 0, 4) hp, h1, below_grow13 hB h2 (Nat.le_refl _)⟩)
    · exact wpOp_insert rfl rfl rfl _ _ _ 37 rfl 40 35 fmtKeyed Try.underlying37 Rv13 w.heap.size done.length D rfl hown hn (kS 5 1) (rV (5, 5)) (kL 5 1) rfl rfl (keyS (by unfold wfI; decide) (by unfold wfI; decide)) _ _ rfl (fun w2 h1 h2 => hK w2 ⟨_, hA.put (5, 1, 5, 5) hp, h1, below_grow13 hB h2 (Nat.le_refl _)⟩)
  · intro done w2 hperm hI
    obtain ⟨D, hA, hown, hB⟩ := hI
    rw [lsd_perm hperm]
    have hl : done.length = 14 := hperm.length_eq
    have hA' : AtD D M.legT := hA.perm (hperm.map ent13)
    rw [hl] at hown
    show wpAnyH _ _ _ _ _ 2 #[true, true, true, true, true, true, true, true, true, true, true, true, true, true, true, true, true, true, true, true, true, true, true, true, true, true, true, true, true, true, true, true, true, true, true, true, true, true, true, true, true, true, true, false, false] _ _
    clear hA hl hperm hI0 mixed hmm
    obtain hT : Tab13 w2 w.heap.size D := ⟨hA', hown⟩
    clear hA' hown
    refine wpAnyH_take (i := 43) (v := .map (some w.heap.size)) rfl (by kernel_rfl) (by kernel_rfl) (by kernel_rfl) (fun _ _ _ h => h) (Or.inl ⟨by rfl, ?_⟩) trivial ?_
    · intro Y hY
      skip
      go_simp
    simp only [Act.put, List.getElem_toArray, List.getElem_cons_succ, List.getElem_cons_zero, List.setIfInBounds_toArray, List.set_cons_zero, List.set_cons_succ]
    refine wpAnyH_take (i := 44) (v := .map (some w.heap.size)) rfl (by kernel_rfl) (by kernel_rfl) (by kernel_rfl) (fun _ _ _ h => h) (Or.inl ⟨by rfl, ?_⟩) trivial ?_
    · intro Y hY
      skip
      go_simp
    simp only [Act.put, List.getElem_toArray, List.getElem_cons_succ, List.getElem_cons_zero, List.setIfInBounds_toArray, List.set_cons_zero, List.set_cons_succ]
    refine wpAnyH_done (by kernel_rfl) ?_ _
    go_wp2_with fail
    go_ret
    exact ⟨rfl, ⟨D, hT⟩, hB⟩
end Go.Proofs.Ythlcjjfnnfifeaa
