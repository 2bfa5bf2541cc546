/- A row of types of a call's own, all alike. -/
import Derived.Test.YtemnjoiajmcpjaaGreatDoorK06
import Derived.Test.YtemnjoiajmcpjaaGreatDoorK12
import Derived.Test.YtemnjoiajmcpjaaGreatDoorK13
import Derived.Great.BuildSlice
namespace Go.Proofs.YtemnjoiajmcpjaaGreatDoor
open Go Go.RowKit Go.Lib

theorem Tryz.ofType8 : (Tryz.prog.info? 24).map (fun i => (i.zero, i.size, i.bytes)) = some (some (.agg #[.int .i64 0, .int .i64 0, .slice none 0 0]), 3, 40) := by kernel_rfl
theorem add_at (g j : Nat) : (⟨g, 0, none⟩ : Addr).add j = ⟨g, j, none⟩ := by
  unfold Addr.add
  split
  · rename_i h
    rw [h]
  · rw [Nat.zero_add]
def rows3 (tc : List Value) (j : Nat) : List Value := (List.replicate j tc).flatten
theorem rows3_succ (tc : List Value) (j : Nat) : rows3 tc (j + 1) = rows3 tc j ++ tc := by
  unfold rows3
  rw [List.replicate_succ', List.flatten_append]
  simp
theorem rows3_length {tc : List Value} (h : tc.length = 3) (j : Nat) : (rows3 tc j).length = j * 3 := by
  unfold rows3
  rw [List.length_flatten, List.map_replicate, List.sum_replicate_nat, h]
theorem rows3_get {tc : List Value} (h : tc.length = 3) : ∀ (j i c : Nat), i < j → c < 3 → (rows3 tc j)[i * 3 + c]? = tc[c]?
  | j + 1, i, c, hi, hc => by
    have e : rows3 tc (j + 1) = tc ++ rows3 tc j := by unfold rows3; rw [List.replicate_succ, List.flatten_cons]
    rw [e]
    cases i with
    | zero => rw [Nat.zero_mul, Nat.zero_add, List.getElem?_append_left (by omega)]
    | succ i =>
      rw [List.getElem?_append_right (by omega), h, show (i + 1) * 3 + c - 3 = i * 3 + c by omega]
      exact rows3_get h j i c (by omega) hc
/-- So many types alike, in a row of the call's own. -/
def OwT (B j : Nat) (k n : Int) (v x : Value) (w : World) : Prop := w.ownsRow B 24 3 x j (rows3 [.int .i64 k, .int .i64 n, v] j)
theorem OwT.nil (B : Nat) (k n : Int) (v : Value) (w : World) : OwT B 0 k n v (.slice none 0 0) w := World.ownsRow_nil _ _ _ _
theorem OwT.lt {B j : Nat} {k n : Int} {v x : Value} {w : World} (h : OwT B j k n v x w) (g : Nat) (hg : x.ownBlock = some g) : B ≤ g ∧ g < w.heap.size := World.ownsRow.lt h g hg
theorem OwT.grown {B j : Nat} {k n : Int} {v x : Value} {w W : World} {row : Option Nat} (h : OwT B j k n v x w) (hg : w.grownBy W row) (hr : ∀ g, x.ownBlock = some g → row ≠ some g) : OwT B j k n v x W := by
  refine ⟨h.1, ?_⟩
  rcases h.2 with h0 | ⟨g, cap, cur, hv, hB, hgc, h1⟩
  · exact .inl h0
  · exact .inr ⟨g, cap, cur, hv, hB, (hg.block g (Array.getElem?_eq_some_iff.1 hgc).1 (fun e => hr g (by rw [hv]; rfl) e.symm)).trans hgc, h1⟩
theorem OwT.slice {B j : Nat} {k n : Int} {v x : Value} {w : World} (h : OwT B j k n v x w) : ∃ a c, x = .slice a j c := by
  rcases h.2 with ⟨rfl, h0⟩ | ⟨g, cap, cur, rfl, _⟩
  · have := h0; exact ⟨none, 0, by rw [h0]⟩
  · exact ⟨_, _, rfl⟩
theorem OwT.lay {B j : Nat} {k n : Int} {ua : Option Addr} {uc : Nat} {us : List M.Ty} {x : Value} {w : World} (h : OwT B j k n (.slice ua us.length uc) x w) (hj : 1 ≤ j) (hL : LayT w w.heap.size us (.slice ua us.length uc)) : ∃ a c, x = .slice a j c ∧ LayT w w.heap.size (List.replicate j (.mk k n us)) (.slice a (List.replicate j (M.Ty.mk k n us)).length c) := by
  rcases id h.2 with ⟨_, h0⟩ | ⟨g, cap, cur, rfl, hB, hg, hnc, hcm, hcs, htake⟩
  · omega
  · refine ⟨some ⟨g, 0, none⟩, cap, rfl, ?_⟩
    have hcell : ∀ (i c : Nat) (u : Value), i < j → c < 3 → [Value.int .i64 k, .int .i64 n, .slice ua us.length uc][c]? = some u → w.cell? ⟨g, 0 + i * 3 + c, none⟩ = some u := fun i c u hi hc hu => by
      have := World.ownsRow.cells (g := g) h rfl (i * 3 + c) u ((rows3_get rfl j i c hi hc).trans hu)
      rw [add_at] at this
      rw [Nat.zero_add]
      exact this
    have key : ∀ (i : Nat) (k' m : Int) (us' : List M.Ty), (List.replicate j (M.Ty.mk k n us))[i]? = some (M.Ty.mk k' m us') → i < j ∧ k' = k ∧ m = n ∧ us' = us := fun i k' m us' e => by
      rw [List.getElem?_replicate] at e
      split at e
      · cases e; exact ⟨by assumption, rfl, rfl, rfl⟩
      · cases e
    refine LayT.row (fun _ => .slice ua us.length uc) (Array.getElem?_eq_some_iff.1 hg).1 (by rw [List.length_replicate]; exact hnc) hcm ?_ ?_ ?_ ?_
    · intro i k' m us' e
      obtain ⟨hi, rfl, rfl, rfl⟩ := key i k' m us' e
      exact hcell i 0 _ hi (by omega) rfl
    · intro i k' m us' e
      obtain ⟨hi, rfl, rfl, rfl⟩ := key i k' m us' e
      exact hcell i 1 _ hi (by omega) rfl
    · intro i k' m us' e
      obtain ⟨hi, rfl, rfl, rfl⟩ := key i k' m us' e
      exact hcell i 2 _ hi (by omega) rfl
    · intro i k' m us' e
      obtain ⟨hi, rfl, rfl, rfl⟩ := key i k' m us' e
      exact hL
structure AppT (w w' : World) (B j : Nat) (k n : Int) (v x x' : Value) : Prop where
  own : OwT B j k n v x' w'
  grown : w.grownBy w' x.ownBlock
  blk : x'.ownBlock = x.ownBlock ∨ ∀ g, x'.ownBlock = some g → w.heap.size ≤ g
theorem run_append_type (w : World) (ty : TypeId) (B j : Nat) (k n : Int) (v x : Value) (g : Nat) (hown : OwT B j k n v x w) (h1 : v.oneCell' = true) (hc : w.heap[g]? = some (.cells #[.int .i64 k, .int .i64 n, v] 24 (0, 0))) (hn : j ≤ 1000000) (hB : B ≤ w.heap.size) :
    ∃ v' w', (Builtin.append_ #[22, 22] ty #[x, .slice (some ⟨g, 0, none⟩) 1 1]).run Tryz.prog w = .ok v' w' ∧ AppT w w' B (j + 1) k n v x v' := by
  obtain ⟨i0, hi, hz0, hz1, hz2⟩ := info_parts Tryz.ofType8
  obtain ⟨v', w', r1, r2, r3, r4⟩ := run_append_blk (P := Tryz.prog) w B 22 ty 24 i0 _ 3 40 Tryz.underlying22 hi hz0 hz1 hz2 rfl (by decide) x j (rows3 [.int .i64 k, .int .i64 n, v] j) hown ⟨g, 0, none⟩ 1 1 [.int .i64 k, .int .i64 n, v] rfl (fun i u hu => by
    rw [add_at]
    unfold World.cell?
    rw [hc]
    match i, hu with
    | 0, hu => cases hu; rfl
    | 1, hu => cases hu; rfl
    | 2, hu => cases hu; rfl) (fun u hu => by
      simp only [List.mem_cons, List.mem_nil_iff, or_false] at hu
      rcases hu with rfl | rfl | rfl
      · rfl
      · rfl
      · exact h1) (by unfold maxLen; omega) (by omega) hB
  exact ⟨v', w', r1, by unfold OwT; rw [rows3_succ]; exact r2, r3, r4⟩
theorem wp_append_type (w : World) {o : Oper} {a : Act} {K : Act → World → Prop} {Q : Exit → Act → World → Prop} (s x : Operand) (ho : o.op = .call { callee := .builtin .append, args := #[s, x], argTypes := #[22, 22] })
    (B j : Nat) (k n : Int) (v y : Value) (g : Nat) (hs : a.eval s = y) (hx : a.eval x = .slice (some ⟨g, 0, none⟩) 1 1) (hown : OwT B j k n v y w) (h1 : v.oneCell' = true) (hc : w.heap[g]? = some (.cells #[.int .i64 k, .int .i64 n, v] 24 (0, 0))) (hn : j ≤ 1000000) (hB : B ≤ w.heap.size)
    (h : ∀ v' w', AppT w w' B (j + 1) k n v y v' → K (a.put o.dst v') w') : o.wp Tryz.prog a w K Q := by
  obtain ⟨v', w', hr, r1⟩ := run_append_type w o.type B j k n v y g hown h1 hc hn hB
  unfold Oper.wp execOp
  simp only [ho, resolve, invoke, builtin, Sem.run_bind, Sem.run_pure, Result.andThen_ok, List.map_toArray, List.map_cons, List.map_nil, hs, hx, hr]
  exact h v' w' r1
theorem fill_type {n : Nat} (hn : n = 3) (a0 a1 a2 : Value) : Instr.fill (fun i => some (i * n, n)) ((Array.range (1 * n)).map ((Value.agg #[.int .i64 0, .int .i64 0, .slice none 0 0]).cells[· % (Value.agg #[.int .i64 0, .int .i64 0, .slice none 0 0]).cells.size]!)) [(0, .agg #[a0, a1, a2])] = some #[a0, a1, a2] := by
  subst hn
  rw [show Array.range (1 * 3) = #[0, 1, 2] from rfl]
  simp [Instr.fill, Value.cells]
theorem wp_build_type {o : Oper} {a : Act} {w : World} {K : Act → World → Prop} {Q : Exit → Act → World → Prop} (x : Operand) (a0 a1 a2 : Value) (ho : o.op = .buildSlice 22 1 #[(0, x)]) (hx : a.eval x = .agg #[a0, a1, a2])
    (h : K (a.put o.dst (.slice (some ⟨w.heap.size, 0, none⟩) 1 1)) (w.alloc (.cells #[a0, a1, a2] 24))) : o.wp Tryz.prog a w K Q := by
  obtain ⟨i0, hi, hz0, hz1, hz2⟩ := info_parts Tryz.ofType8
  refine wp_buildSlice 22 24 1 _ ho _ i0 _ Tryz.underlying22 hi hz0 (by rw [hz1]; decide) (by rw [hz1]; decide) ?_ h
  have := fill_type hz1 a0 a1 a2
  simpa [hx] using this
end Go.Proofs.YtemnjoiajmcpjaaGreatDoor
