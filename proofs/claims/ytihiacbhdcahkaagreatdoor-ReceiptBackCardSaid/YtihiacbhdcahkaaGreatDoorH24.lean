/- The statement 'l = append(l, it)' of unrlp's list, in whatever order. unrlp.items: the items that stand one behind the other, as a reader reads them. unrlp: a list's items, read one behind the other. -/
import Derived.Test.YtihiacbhdcahkaaGreatDoorH23
import Derived.Test.YtihiacbhdcahkaaGreatDoorH13
import Derived.DefersIn
import Derived.OwnWalkIn
import Derived.TacticsInMore
import Derived.LoopNIn
import Derived.LoopIn
import Derived.Shelf.Abstract
namespace Go.Proofs.YtihiacbhdcahkaaGreatDoor
open Go Go.RowKit

theorem wp_store_one {P : Program} {o : Oper} {a : Act} {w w' : World} {K : Act → World → Prop} {Q : Exit → Act → World → Prop} (ty : TypeId) (x y : Operand) (ho : o.op = .store ty x y)
    (ad : Addr) (val : Value) (hx : a.eval x = .pointer (some ad)) (hy : a.eval y = val) (hr : (storeVar ty ad val).run P w = .ok () w') (h : K (a.put o.dst undef) w') : o.wp P a w K Q := by
  unfold Oper.wp execOp
  simp only [ho, hx, hy, Instr.storeAt, Instr.sureAddr, Sem.run_bind, Sem.run_pure, Result.andThen_ok, hr]
  exact h

/-- What is there when the row has grown by a place, the box not yet stored anew. -/
structure Grown (B bl : Nat) (W X : World) (L : List (M.It × Value)) (v v' : Value) : Prop where
  row : ItRow B X (L ++ [(M.It.mk false [] [], .slice none 0 0)]) v'
  box : Boxed X bl 43 v
  os : X.os = W.os
  tape : X.tape = W.tape
  output : X.output = W.output
  size : W.heap.size ≤ X.heap.size
  block : ∀ b, b < W.heap.size → some b ≠ v.ownBlock → X.heap[b]? = W.heap[b]?
  new : v'.ownBlock = v.ownBlock ∨ ∃ g, v'.ownBlock = some g ∧ W.heap.size ≤ g

set_option maxRecDepth 100000 in
set_option maxHeartbeats 8000000 in
theorem list_reg3 (bl bi B : Nat) (L : List (M.It × Value)) (v v' : Value) (l : Bool) (d : List UInt8) (ys : List M.It) (u : Value) (tb : Nat) (W X : World)
    (t0 t1 t2 t3 t4 t5 t6 t7 t10 t11 t12 t13 t14 t15 t16 t17 t18 t19 t20 t21 t22 t23 t24 t25 t26 t27 t28 t34 t35 : Value) (ops : Array Oper)
    (hcode : Tryz.f181.body.bind (regAt 9) = some (.region 9 ops true)) (hG : Grown B bl W X L v v') (hbl : bl < B) (_hB : B ≤ W.heap.size) (hlen : L.length ≤ 600)
    (hbi : bi < W.heap.size) (hbi2 : some bi ≠ v.ownBlock) (hbi3 : bi ≠ bl)
    (hS : (fun w => w.cell? ⟨bi, 0, none⟩ = some (.bool l) ∧ w.cell? ⟨bi, 1, none⟩ = some (.string ⟨d.toArray⟩) ∧ w.cell? ⟨bi, 2, none⟩ = some u) X) (hu : u.oneCell' = true) (hk : LayS W (fun b => B ≤ b ∧ b < W.heap.size ∧ some b ≠ v.ownBlock) ys u) :
    wpAnyH Tryz.prog .any ops (nrm fun _ U => ∃ v', Boxed U bl 43 v' ∧ ItRow B U (L ++ [(.mk l d ys, u)]) v' ∧ U.os = W.os ∧ U.tape = W.tape ∧ U.output = W.output ∧ W.heap.size ≤ U.heap.size ∧
        ∀ b, b < W.heap.size → b ≠ bl → some b ≠ v.ownBlock → U.heap[b]? = W.heap[b]?) (fun w => w.cell? ⟨bi, 0, none⟩ = some (.bool l) ∧ w.cell? ⟨bi, 1, none⟩ = some (.string ⟨d.toArray⟩) ∧ w.cell? ⟨bi, 2, none⟩ = some u) 3 #[true, true, true, true, true, false, false, false] { tmps := #[t0, t1, t2, t3, t4, t5, t6, t7, .pointer (some ⟨bl, 0, none⟩), .pointer (some ⟨bi, 0, none⟩), t10, t11, t12, t13, t14, t15, t16, t17, t18, t19, t20, t21, t22, t23, t24, t25, t26, t27, t28, v, .agg #[.bool l, .string ⟨d.toArray⟩, u], .int .i64 L.length, .slice (some ⟨tb, 0, none⟩) 1 1, v', t34, t35], defers := [] } X := by
  simp only [Tryz.f181, Option.bind_some, regAt, Option.some_or, Option.none_or, if_true, if_false, Nat.reduceEqDiff, Option.some.injEq, Code.region.injEq, true_and, and_true] at hcode
  subst hcode
  have hbX : bi < X.heap.size := Nat.lt_of_lt_of_le hbi hG.size
  have hkX : ∀ X' : World, X.heap.size ≤ X'.heap.size → (∀ b, B ≤ b → b < W.heap.size → some b ≠ v.ownBlock → X'.heap[b]? = W.heap[b]?) → LayS X' (fun b => B ≤ b ∧ b < X'.heap.size ∧ some b ≠ v'.ownBlock) ys u := fun X' hz hbk =>
    hk.keep fun b ⟨h1, h2, h3⟩ => ⟨⟨h1, by have := hG.size; omega, fun e => by
      rcases hG.new with h | ⟨g, h, hg⟩
      · exact h3 (by rw [e, h])
      · rw [h] at e; cases e; omega⟩, hbk b h1 h2 h3⟩
  have hblX : bl < X.heap.size := hG.box.lt
  have hvf := hG.box.frozen
  have hvc := hG.box.cell
  obtain ⟨g, cap, X1, hv', hr1, hrow1, hg1, hBg⟩ := hG.row.last l d ys u hu (hkX X (Nat.le_refl _) (fun b h1 h2 h3 => hG.block b h2 h3))
  subst hv'
  have hgb : g ≠ bi := fun e => by
    rcases hG.new with h | ⟨g', h, hg'⟩
    · exact hbi2 (by rw [← e]; exact h)
    · have : g = g' := Option.some.inj h
      omega
  have hgl : g ≠ bl := by omega
  have hSk : ∀ {Y Y' : World}, (fun w : World => w.cell? ⟨bi, 0, none⟩ = some (.bool l) ∧ w.cell? ⟨bi, 1, none⟩ = some (.string ⟨d.toArray⟩) ∧ w.cell? ⟨bi, 2, none⟩ = some u) Y → Y'.heap[bi]? = Y.heap[bi]? → (fun w : World => w.cell? ⟨bi, 0, none⟩ = some (.bool l) ∧ w.cell? ⟨bi, 1, none⟩ = some (.string ⟨d.toArray⟩) ∧ w.cell? ⟨bi, 2, none⟩ = some u) Y' := fun {Y Y'} h e =>
    ⟨(World.cell?_of_block (a := ⟨bi, 0, none⟩) e).trans h.1, (World.cell?_of_block (a := ⟨bi, 1, none⟩) e).trans h.2.1, (World.cell?_of_block (a := ⟨bi, 2, none⟩) e).trans h.2.2⟩
  have hix : ((0 : Int) ≤ (L.length : Nat)) ∧ ((L.length : Nat) : Int) < (L.length : Int) + 1 := by omega
  -- the box stored behind the row
  have hend1 : ∃ v', Boxed (X1.setCell ⟨bl, 0, none⟩ (.slice (some ⟨g, 0, none⟩) (L.length + 1) cap)) bl 43 v' ∧ ItRow B (X1.setCell ⟨bl, 0, none⟩ (.slice (some ⟨g, 0, none⟩) (L.length + 1) cap)) (L ++ [(.mk l d ys, u)]) v' ∧ (X1.setCell ⟨bl, 0, none⟩ (.slice (some ⟨g, 0, none⟩) (L.length + 1) cap)).os = W.os ∧ (X1.setCell ⟨bl, 0, none⟩ (.slice (some ⟨g, 0, none⟩) (L.length + 1) cap)).tape = W.tape ∧ (X1.setCell ⟨bl, 0, none⟩ (.slice (some ⟨g, 0, none⟩) (L.length + 1) cap)).output = W.output ∧ W.heap.size ≤ (X1.setCell ⟨bl, 0, none⟩ (.slice (some ⟨g, 0, none⟩) (L.length + 1) cap)).heap.size ∧
        ∀ b, b < W.heap.size → b ≠ bl → some b ≠ v.ownBlock → (X1.setCell ⟨bl, 0, none⟩ (.slice (some ⟨g, 0, none⟩) (L.length + 1) cap)).heap[b]? = W.heap[b]? := by
    have hb1 : Boxed X1 bl 43 v := (hg1.block bl hblX (by simp; omega)).trans hG.box
    refine ⟨_, hb1.set _, hrow1.setCell ⟨bl, 0, none⟩ _ hbl, hg1.os.trans hG.os, hg1.tape.trans hG.tape, hg1.output.trans hG.output, ?_, fun b h1 h2 h3 => ?_⟩
    · have := hg1.size; have := hG.size; simp [World.setCell]; omega
    · have hbg : b ≠ g := fun e => by
        rcases hG.new with h | ⟨g', h, hg'⟩
        · exact h3 (by rw [e]; exact h)
        · have : g = g' := Option.some.inj h
          omega
      exact (Below.heap_setCell _ _ _ _ (by simpa using h2)).trans ((hg1.block b (by have := hG.size; omega) (by simpa using hbg)).trans (hG.block b h1 h3))
  -- the row stored behind the box
  obtain ⟨Y, hY⟩ : ∃ Y, Y = X.setCell ⟨bl, 0, none⟩ (.slice (some ⟨g, 0, none⟩) (L.length + 1) cap) := ⟨_, rfl⟩
  have hYz : Y.heap.size = X.heap.size := by rw [hY]; simp [World.setCell]
  have hYb : ∀ b, b ≠ bl → Y.heap[b]? = X.heap[b]? := fun b hb => by rw [hY]; exact Below.heap_setCell _ _ _ _ (by simpa using hb)
  have hYbox : Boxed Y bl 43 (.slice (some ⟨g, 0, none⟩) (L.length + 1) cap) := by rw [hY]; exact hG.box.set _
  have hYrow : ItRow B Y (L ++ [(M.It.mk false [] [], .slice none 0 0)]) (.slice (some ⟨g, 0, none⟩) (L.length + 1) cap) := by rw [hY]; exact hG.row.setCell ⟨bl, 0, none⟩ _ hbl
  obtain ⟨g2, cap2, Y1, hv2, hr2, hrow2, hg2, _⟩ := hYrow.last l d ys u hu (hkX Y (by omega) (fun b h1 h2 h3 => (hYb b (by omega)).trans (hG.block b h2 h3)))
  obtain ⟨rfl, rfl⟩ : g = g2 ∧ cap = cap2 := by cases hv2; exact ⟨rfl, rfl⟩
  have hend2 : ∃ v', Boxed Y1 bl 43 v' ∧ ItRow B Y1 (L ++ [(.mk l d ys, u)]) v' ∧ Y1.os = W.os ∧ Y1.tape = W.tape ∧ Y1.output = W.output ∧ W.heap.size ≤ Y1.heap.size ∧
        ∀ b, b < W.heap.size → b ≠ bl → some b ≠ v.ownBlock → Y1.heap[b]? = W.heap[b]? := by
    refine ⟨_, (hg2.block bl (by omega) (by simp; omega)).trans hYbox, hrow2, hg2.os.trans (by rw [hY]; exact hG.os), hg2.tape.trans (by rw [hY]; exact hG.tape), hg2.output.trans (by rw [hY]; exact hG.output), ?_, fun b h1 h2 h3 => ?_⟩
    · have := hg2.size; have := hG.size; omega
    · have hbg : b ≠ g := fun e => by
        rcases hG.new with h | ⟨g', h, hg'⟩
        · exact h3 (by rw [e]; exact h)
        · have : g = g' := Option.some.inj h
          omega
      exact (hg2.block b (by have := hG.size; omega) (by simpa using hbg)).trans ((hYb b h2).trans (hG.block b h1 h3))
  have hS1 := hSk hS (Y' := X1) (hg1.block bi hbX (by simp; omega))
  have hSY := hSk hS (Y' := Y) (hYb bi hbi3)
  have hSY1 := hSk hSY (Y' := Y1) (hg2.block bi (by omega) (by simp; omega))
  have hSe := hSk hS1 (Y' := X1.setCell ⟨bl, 0, none⟩ (.slice (some ⟨g, 0, none⟩) (L.length + 1) cap)) (Below.heap_setCell _ _ _ _ (by simpa using hbi3))
  have hvf1 : X1.frozen? ⟨bl, 0, none⟩ = false := (World.frozen?_of_block (a := ⟨bl, 0, none⟩) (hg1.block bl hblX (by simp; omega))).trans hvf
  have hvc1 : X1.cell? ⟨bl, 0, none⟩ = some v := (World.cell?_of_block (a := ⟨bl, 0, none⟩) (hg1.block bl hblX (by simp; omega))).trans hvc
  subst hY
  refine wpAnyH_ready (rs := [5, 7]) (by kernel_rfl) (by simp) ?_
  refine AllReadyH.cons rfl (fun K hK => ?_) (AllReadyH.cons rfl (fun K hK => ?_) AllReadyH.nil)
  · go_simp
    refine hK.out _ _ hS (fun _ => ?_)
    clear hK K
    simp only [List.setIfInBounds_toArray, List.set_cons_zero, List.set_cons_succ]
    refine wpAnyH_ready (rs := [6, 7]) (by kernel_rfl) (by simp) ?_
    refine AllReadyH.cons rfl (fun K hK => ?_) (AllReadyH.cons rfl (fun K hK => ?_) AllReadyH.nil)
    · rw [if_pos (by rfl)]
      refine wp_store_one _ _ _ rfl ⟨g, L.length * 3, none⟩ _ rfl rfl hr1 ?_
      refine hK.out _ _ hS1 (fun _ => ?_)
      clear hK K
      simp only [Act.put, List.getElem_toArray, List.getElem_cons_succ, List.getElem_cons_zero, List.setIfInBounds_toArray, List.set_cons_zero, List.set_cons_succ]
      refine wpAnyH_ready (rs := [7]) (by kernel_rfl) (by simp) ?_
      refine AllReadyH.cons rfl (fun K hK => ?_) AllReadyH.nil
      go_simp
      refine hK.out _ _ hSe (fun _ => ?_)
      refine wpAnyH_done (by kernel_rfl) ?_ _
      exact hend1
    · go_simp
      refine hK.out _ _ hSY (fun _ => ?_)
      clear hK K
      simp only [List.setIfInBounds_toArray, List.set_cons_zero, List.set_cons_succ]
      refine wpAnyH_ready (rs := [6]) (by kernel_rfl) (by simp) ?_
      refine AllReadyH.cons rfl (fun K hK => ?_) AllReadyH.nil
      rw [if_pos (by rfl)]
      refine wp_store_one _ _ _ rfl ⟨g, L.length * 3, none⟩ _ rfl rfl hr2 ?_
      refine hK.out _ _ hSY1 (fun _ => ?_)
      refine wpAnyH_done (by kernel_rfl) ?_ _
      exact hend2
  · go_simp
    refine hK.out _ _ hSY (fun _ => ?_)
    clear hK K
    simp only [List.setIfInBounds_toArray, List.set_cons_zero, List.set_cons_succ]
    refine wpAnyH_ready (rs := [5]) (by kernel_rfl) (by simp) ?_
    refine AllReadyH.cons rfl (fun K hK => ?_) AllReadyH.nil
    go_simp
    refine hK.out _ _ hSY (fun _ => ?_)
    clear hK K
    simp only [List.setIfInBounds_toArray, List.set_cons_zero, List.set_cons_succ]
    refine wpAnyH_ready (rs := [6]) (by kernel_rfl) (by simp) ?_
    refine AllReadyH.cons rfl (fun K hK => ?_) AllReadyH.nil
    rw [if_pos (by rfl)]
    refine wp_store_one _ _ _ rfl ⟨g, L.length * 3, none⟩ _ rfl rfl hr2 ?_
    refine hK.out _ _ hSY1 (fun _ => ?_)
    refine wpAnyH_done (by kernel_rfl) ?_ _
    exact hend2

theorem wp_append_run {P : Program} {o : Oper} {a : Act} {w w' : World} {K : Act → World → Prop} {Q : Exit → Act → World → Prop} (s x : Operand) (ats : Array TypeId) (ho : o.op = .call { callee := .builtin .append, args := #[s, x], argTypes := ats })
    (v u v' : Value) (hs : a.eval s = v) (hx : a.eval x = u) (hr : (Builtin.append_ ats o.type #[v, u]).run P w = .ok v' w') (h : K (a.put o.dst v') w') : o.wp P a w K Q := by
  unfold Oper.wp execOp
  simp only [ho, resolve, invoke, builtin, Sem.run_bind, Sem.run_pure, Result.andThen_ok, List.map_toArray, List.map_cons, List.map_nil, hs, hx, hr]
  exact h

set_option maxRecDepth 100000 in
set_option maxHeartbeats 8000000 in
theorem list_reg2 (bl bi B : Nat) (L : List (M.It × Value)) (v : Value) (l : Bool) (d : List UInt8) (ys : List M.It) (u : Value) (tb : Nat) (W X : World)
    (t0 t1 t2 t3 t4 t5 t6 t7 t10 t11 t12 t13 t14 t15 t16 t17 t18 t19 t20 t21 t22 t23 t24 t25 t26 t27 t28 t33 t34 t35 : Value) (ops : Array Oper)
    (hcode : Tryz.f181.body.bind (regAt 9) = some (.region 9 ops true)) (hbox : Boxed X bl 43 v) (hrow : ItRow B X L v) (hX : Below W.heap.size W X) (hbl : bl < B) (hB : B ≤ W.heap.size) (hlen : L.length ≤ 600)
    (hbi : bi < W.heap.size) (hbi2 : some bi ≠ v.ownBlock) (hbi3 : bi ≠ bl)
    (htb : ∀ j x, ([.bool false, .string ⟨#[]⟩, .slice none 0 0] : List Value)[j]? = some x → X.cell? ((⟨tb, 0, none⟩ : Addr).add j) = some x)
    (hS : (fun w => w.cell? ⟨bi, 0, none⟩ = some (.bool l) ∧ w.cell? ⟨bi, 1, none⟩ = some (.string ⟨d.toArray⟩) ∧ w.cell? ⟨bi, 2, none⟩ = some u) X) (hu : u.oneCell' = true) (hk : LayS W (fun b => B ≤ b ∧ b < W.heap.size ∧ some b ≠ v.ownBlock) ys u) :
    wpAnyH Tryz.prog .any ops (nrm fun _ U => ∃ v', Boxed U bl 43 v' ∧ ItRow B U (L ++ [(.mk l d ys, u)]) v' ∧ U.os = W.os ∧ U.tape = W.tape ∧ U.output = W.output ∧ W.heap.size ≤ U.heap.size ∧
        ∀ b, b < W.heap.size → b ≠ bl → some b ≠ v.ownBlock → U.heap[b]? = W.heap[b]?) (fun w => w.cell? ⟨bi, 0, none⟩ = some (.bool l) ∧ w.cell? ⟨bi, 1, none⟩ = some (.string ⟨d.toArray⟩) ∧ w.cell? ⟨bi, 2, none⟩ = some u) 4 #[true, true, true, true, false, false, false, false] { tmps := #[t0, t1, t2, t3, t4, t5, t6, t7, .pointer (some ⟨bl, 0, none⟩), .pointer (some ⟨bi, 0, none⟩), t10, t11, t12, t13, t14, t15, t16, t17, t18, t19, t20, t21, t22, t23, t24, t25, t26, t27, t28, v, .agg #[.bool l, .string ⟨d.toArray⟩, u], .int .i64 L.length, .slice (some ⟨tb, 0, none⟩) 1 1, t33, t34, t35], defers := [] } X := by
  obtain ⟨v', X3, hr, hrow3, hg, hnew⟩ := item_append hrow (by have := hX.size; omega) (by omega) 43 ⟨tb, 0, none⟩ 1 false [] [] (.slice none 0 0) htb rfl (.nil_ (by decide))
  have hbv : some bl ≠ v.ownBlock := fun e => by have := (World.ownsRow.lt hrow.own bl e.symm).1; omega
  have hz := hX.size
  have hG : Grown B bl W X3 L v v' := ⟨hrow3, (hg.block bl hbox.lt hbv).trans hbox, hg.os.trans hX.os, hg.tape.trans hX.tape, hg.output.trans hX.output, by have := hg.size; omega,
    fun b h1 h2 => (hg.block b (by omega) h2).trans (hX.block b h1), by rcases hnew with h | h; exact .inl h; exact .inr ⟨_, h, hz⟩⟩
  have hS3 : (fun w => w.cell? ⟨bi, 0, none⟩ = some (.bool l) ∧ w.cell? ⟨bi, 1, none⟩ = some (.string ⟨d.toArray⟩) ∧ w.cell? ⟨bi, 2, none⟩ = some u) X3 := by
    have e := hg.block bi (by omega) hbi2
    exact ⟨(World.cell?_of_block (a := ⟨bi, 0, none⟩) e).trans hS.1, (World.cell?_of_block (a := ⟨bi, 1, none⟩) e).trans hS.2.1, (World.cell?_of_block (a := ⟨bi, 2, none⟩) e).trans hS.2.2⟩
  have HE := list_reg3 bl bi B L v v' l d ys u tb W X3 t0 t1 t2 t3 t4 t5 t6 t7 t10 t11 t12 t13 t14 t15 t16 t17 t18 t19 t20 t21 t22 t23 t24 t25 t26 t27 t28 t34 t35 ops hcode hG hbl hB hlen hbi hbi2 hbi3 hS3 hu hk
  simp only [Tryz.f181, Option.bind_some, regAt, Option.some_or, Option.none_or, if_true, if_false, Nat.reduceEqDiff, Option.some.injEq, Code.region.injEq, true_and, and_true] at hcode
  subst hcode
  refine wpAnyH_ready (rs := [4]) (by kernel_rfl) (by simp) ?_
  refine AllReadyH.cons rfl (fun K hK => ?_) AllReadyH.nil
  rw [if_pos (by rfl)]
  refine wp_append_run _ _ _ rfl _ _ v' rfl rfl hr ?_
  refine hK.out _ _ hS3 (fun _ => ?_)
  clear hK K
  simp only [Act.put, List.getElem_toArray, List.getElem_cons_succ, List.getElem_cons_zero, List.setIfInBounds_toArray, List.set_cons_zero, List.set_cons_succ]
  exact HE

set_option maxRecDepth 100000 in
set_option maxHeartbeats 8000000 in
theorem list_reg (rd m bl bi B : Nat) (L : List (M.It × Value)) (v : Value) (l : Bool) (d : List UInt8) (ys : List M.It) (u : Value) (W : World)
    (t0 t1 t2 t3 t4 t5 t6 t7 t10 t11 t12 t13 t14 t15 t16 t17 t18 t19 t20 t21 t22 t23 t24 t25 t26 t27 t28 t29 t30 t31 t32 t33 t34 t35 : Value) (ops : Array Oper)
    (hcode : Tryz.f181.body.bind (regAt 9) = some (.region 9 ops true))
    (hv : Boxed W bl 43 v) (hx : Box W bi l d u) (hrow : ItRow B W L v) (hbl : bl < B) (hB : B ≤ W.heap.size) (hbi : bi < W.heap.size) (hbi2 : some bi ≠ v.ownBlock) (hbi3 : bi ≠ bl) (hlen : L.length ≤ 600)
    (hu : u.oneCell' = true) (hk : LayS W (fun b => B ≤ b ∧ b < W.heap.size ∧ some b ≠ v.ownBlock) ys u) :
    (Code.region 9 ops true).wpIn (Fence.wide.inRound rd) m Tryz.prog (nrm fun _ U => ∃ v', Boxed U bl 43 v' ∧ ItRow B U (L ++ [(.mk l d ys, u)]) v' ∧ U.os = W.os ∧ U.tape = W.tape ∧ U.output = W.output ∧ W.heap.size ≤ U.heap.size ∧
        ∀ b, b < W.heap.size → b ≠ bl → some b ≠ v.ownBlock → U.heap[b]? = W.heap[b]?)
      { tmps := #[t0, t1, t2, t3, t4, t5, t6, t7, .pointer (some ⟨bl, 0, none⟩), .pointer (some ⟨bi, 0, none⟩), t10, t11, t12, t13, t14, t15, t16, t17, t18, t19, t20, t21, t22, t23, t24, t25, t26, t27, t28, t29, t30, t31, t32, t33, t34, t35], defers := [] } W := by
  have hd0 : Below W.heap.size W W.drew := (Below.refl _ W).drew
  have hS0 : (fun w => w.cell? ⟨bi, 0, none⟩ = some (.bool l) ∧ w.cell? ⟨bi, 1, none⟩ = some (.string ⟨d.toArray⟩) ∧ w.cell? ⟨bi, 2, none⟩ = some u) W.drew := ⟨hx.c0, hx.c1, hx.c2⟩
  obtain ⟨X, hX⟩ : ∃ X, X = (W.alloc (.cells #[.bool false, .string ⟨#[]⟩, .slice none 0 0] 45)).drew := ⟨_, rfl⟩
  have hWX : Below W.heap.size W X := by rw [hX]; exact ((Below.refl _ W).alloc (Nat.le_refl _) _).drew
  have hcX : ∀ b o, b < W.heap.size → X.cell? ⟨b, o, none⟩ = W.cell? ⟨b, o, none⟩ := fun b o h => hWX.cell (p := ⟨b, o, none⟩) h
  have hSX : (fun w => w.cell? ⟨bi, 0, none⟩ = some (.bool l) ∧ w.cell? ⟨bi, 1, none⟩ = some (.string ⟨d.toArray⟩) ∧ w.cell? ⟨bi, 2, none⟩ = some u) X := ⟨(hcX bi 0 hbi).trans hx.c0, (hcX bi 1 hbi).trans hx.c1, (hcX bi 2 hbi).trans hx.c2⟩
  have hboxX : Boxed X bl 43 v := (hWX.block bl hv.lt).trans hv
  have htb : ∀ j x, ([.bool false, .string ⟨#[]⟩, .slice none 0 0] : List Value)[j]? = some x → X.cell? ((⟨W.heap.size, 0, none⟩ : Addr).add j) = some x := by
    intro j x hj
    rw [addr_add, hX]
    match j, hj with
    | 0, hj => cases hj; simp [go_sem]
    | 1, hj => cases hj; simp [go_sem]
    | 2, hj => cases hj; simp [go_sem]
  have HE := list_reg2 bl bi B L v l d ys u W.heap.size W X t0 t1 t2 t3 t4 t5 t6 t7 t10 t11 t12 t13 t14 t15 t16 t17 t18 t19 t20 t21 t22 t23 t24 t25 t26 t27 t28 t33 t34 t35 ops hcode hboxX (hrow.from_ hWX) hWX hbl hB hlen hbi hbi2 hbi3 htb hSX hu hk
  obtain ⟨va, vc, rfl⟩ := hrow.slice
  have hvc := hv.cell
  have hvX : X.cell? ⟨bl, 0, none⟩ = some (.slice va L.length vc) := (hcX bl 0 hv.lt).trans hvc
  simp only [Tryz.f181, Option.bind_some, regAt, Option.some_or, Option.none_or, if_true, if_false, Nat.reduceEqDiff, Option.some.injEq, Code.region.injEq, true_and, and_true] at hcode
  subst hcode
  dsimp only
  refine wpIn_region_any (by kernel_rfl) (wpAny_round (by kernel_rfl) _ _ _ _ ?_)
  refine wpAny_of_held (S := fun w => w.cell? ⟨bi, 0, none⟩ = some (.bool l) ∧ w.cell? ⟨bi, 1, none⟩ = some (.string ⟨d.toArray⟩) ∧ w.cell? ⟨bi, 2, none⟩ = some u) _ _ _ _ ?_
  change wpAnyH _ _ _ _ _ _ _ _ W.drew
  rw [show Array.replicate (Array.size _) false = #[false, false, false, false, false, false, false, false] from rfl, show Array.size (α := Oper) _ = 8 from rfl]
  refine wpAnyH_take (i := 1) (v := .agg #[.bool l, .string ⟨d.toArray⟩, u]) rfl (by kernel_rfl) (by kernel_rfl) (by kernel_rfl) (fun _ _ _ h => h) (Or.inl ⟨by rfl, ?_⟩) hS0 ?_
  · rintro w ⟨h0, h1, h2⟩
    go_simp
  simp only [Act.put, List.getElem_toArray, List.getElem_cons_succ, List.getElem_cons_zero, List.setIfInBounds_toArray, List.set_cons_zero, List.set_cons_succ]
  refine wpAnyH_ready (rs := [0, 3]) (by kernel_rfl) (by simp) ?_
  refine AllReadyH.cons rfl (fun K hK => ?_) (AllReadyH.cons rfl (fun K hK => ?_) AllReadyH.nil)
  · go_simp
    refine hK.out _ _ hS0 (fun _ => ?_)
    clear hK K
    simp only [List.setIfInBounds_toArray, List.set_cons_zero]
    refine wpAnyH_take (i := 2) (v := .int .i64 L.length) rfl (by kernel_rfl) (by kernel_rfl) (by kernel_rfl) (fun _ _ _ h => h) (Or.inl ⟨by rfl, ?_⟩) hS0 ?_
    · rintro w ⟨h0, h1, h2⟩
      go_simp
    simp only [Act.put, List.getElem_toArray, List.getElem_cons_succ, List.getElem_cons_zero, List.setIfInBounds_toArray, List.set_cons_zero, List.set_cons_succ]
    refine wpAnyH_ready (rs := [3]) (by kernel_rfl) (by simp) ?_
    refine AllReadyH.cons rfl (fun K hK => ?_) AllReadyH.nil
    go_simp
    rw [← hX]
    clear hX
    refine hK.out _ _ hSX (fun _ => ?_)
    clear hK K
    simp only [List.setIfInBounds_toArray, List.set_cons_zero, List.set_cons_succ]
    exact HE
  · go_simp
    rw [← hX]
    clear hX
    refine hK.out _ _ hSX (fun _ => ?_)
    clear hK K
    simp only [List.setIfInBounds_toArray, List.set_cons_zero, List.set_cons_succ]
    refine wpAnyH_ready (rs := [0]) (by kernel_rfl) (by simp) ?_
    refine AllReadyH.cons rfl (fun K hK => ?_) AllReadyH.nil
    go_simp
    refine hK.out _ _ hSX (fun _ => ?_)
    clear hK K
    simp only [List.setIfInBounds_toArray, List.set_cons_zero]
    refine wpAnyH_take (i := 2) (v := .int .i64 L.length) rfl (by kernel_rfl) (by kernel_rfl) (by kernel_rfl) (fun _ _ _ h => h) (Or.inl ⟨by rfl, ?_⟩) hSX ?_
    · rintro w ⟨h0, h1, h2⟩
      go_simp
    simp only [Act.put, List.getElem_toArray, List.getElem_cons_succ, List.getElem_cons_zero, List.setIfInBounds_toArray, List.set_cons_zero, List.set_cons_succ]
    exact HE
end Go.Proofs.YtihiacbhdcahkaaGreatDoor
namespace Go.Proofs.YtihiacbhdcahkaaGreatDoor
open Go Go.RowKit
attribute [local go_sem] Oper.semAt_some

/-- An item that is read. -/
def ItemC (n : Nat) : Prop := ∀ (s : List UInt8) (k d rb : Nat) (w : World), s.length ≤ 65536 → k ≤ s.length → 2 * (s.length - k) + 1 ≤ n → d ≤ 12 → Boxed w rb 142 (.int .i64 d) →
  Calls Tryz.prog 101 #[.pointer (some ⟨rb, 0, none⟩), .string ⟨s.toArray⟩, .int .i64 k] w fun e w' =>
    ∃ l b xs a cap pl, e = .returned (.tuple #[iv l b (.slice a xs.length cap), .int .i64 (pl : Nat), .int .i64 ((M.readT n (s.drop k) d).2.2 : Nat)]) ∧ (M.readT n (s.drop k) d).1 = .mk l b xs ∧
      Fresh w.heap.size w' xs (.slice a xs.length cap) ∧ Below w.heap.size w w' ∧ ((M.readT n (s.drop k) d).2.2 = 0 → s.drop pl = (M.readT n (s.drop k) d).2.1 ∧ k < pl ∧ pl ≤ s.length)

theorem items_in (n : Nat) (s : List UInt8) (k : Nat) (f : Value) (hf : f.oneCell' = true) (w : World) :
    CallsIn Fence.wide n Tryz.prog 251 #[.string ⟨s.toArray⟩, .int .i64 k, f] w fun e w' =>
      e = .returned (.func (.func 272) #[] #[.pointer (some ⟨w.heap.size + 1, 0, none⟩), .pointer (some ⟨w.heap.size, 0, none⟩), .pointer (some ⟨w.heap.size + 2, 0, none⟩)]) ∧
      w' = ((w.alloc (.cells #[.string ⟨s.toArray⟩] 9)).alloc (.cells #[.int .i64 k] 3)).alloc (.cells #[f] 143) := by
  refine callsIn_of_wp Tryz.func251 rfl trivial ?_ rfl
  simp only [Tryz.ntmps251, List.size_toArray, List.length_cons, List.length_nil, Nat.reduceAdd, Nat.reduceSub, Array.replicate_succ, Array.replicate_zero, List.push_toArray, List.append_toArray, List.nil_append, List.cons_append]
  gi_wp2
  go_ret
  exact ⟨rfl, rfl⟩

/-- What comes each time: an item, the value of its parts, what is wrong. -/
abbrev El := (M.It × Value) × Nat
def encE (x : El) : Array Value := match x.1.1 with | .mk l d _ => #[iv l d x.1.2, .int .i64 (x.2 : Nat)]

def comb (xs : List M.It) (r : List M.It × Nat) : List M.It × Nat := if r.2 ≠ 0 then ([], r.2) else (xs ++ r.1, 0)
theorem comb_nil (n : Nat) (t : List UInt8) (d k : Nat) : comb [] (M.itemsT n t d k) = M.itemsT n t d k := by
  unfold comb
  by_cases h : (M.itemsT n t d k).2 = 0
  · rw [if_neg (by omega), List.nil_append, ← h]
  · rw [if_pos h]
    cases n with
    | zero => rw [M.itemsT]
    | succ n =>
      rw [M.itemsT] at h ⊢
      by_cases h1 : t = []
      · rw [if_pos h1] at h; exact absurd rfl h
      · rw [if_neg h1] at h ⊢
        by_cases h2 : 512 ≤ k
        · rw [if_pos h2]
        · rw [if_neg h2] at h ⊢
          by_cases h3 : (M.readT n t d).2.2 ≠ 0
          · rw [if_pos h3]
          · rw [if_neg h3] at h ⊢
            by_cases h4 : (M.itemsT n (M.readT n t d).2.1 d (k + 1)).2 ≠ 0
            · rw [if_pos h4]
            · rw [if_neg h4] at h; exact absurd rfl h
theorem comb_end (xs : List M.It) (n d k : Nat) : comb xs (M.itemsT (n + 1) [] d k) = (xs, 0) := by
  rw [M.itemsT, if_pos rfl, comb, if_neg (by simp), List.append_nil]
theorem comb_many (xs : List M.It) (n d k : Nat) (t : List UInt8) (ht : t ≠ []) (hk : 512 ≤ k) : comb xs (M.itemsT (n + 1) t d k) = ([], 5) := by
  rw [M.itemsT, if_neg ht, if_pos hk, comb, if_pos (by simp)]
theorem comb_bad (xs : List M.It) (n d k : Nat) (t : List UInt8) (ht : t ≠ []) (hk : ¬ 512 ≤ k) (hr : (M.readT n t d).2.2 ≠ 0) : comb xs (M.itemsT (n + 1) t d k) = ([], (M.readT n t d).2.2) := by
  rw [M.itemsT, if_neg ht, if_neg hk, if_pos hr, comb, if_pos hr]
theorem comb_next (xs : List M.It) (n d k : Nat) (t : List UInt8) (ht : t ≠ []) (hk : ¬ 512 ≤ k) (hr : (M.readT n t d).2.2 = 0) :
    comb xs (M.itemsT (n + 1) t d k) = comb (xs ++ [(M.readT n t d).1]) (M.itemsT n (M.readT n t d).2.1 d (k + 1)) := by
  rw [M.itemsT, if_neg ht, if_neg hk, if_neg (by omega)]
  by_cases h4 : (M.itemsT n (M.readT n t d).2.1 d (k + 1)).2 ≠ 0
  · rw [if_pos h4, comb, if_pos h4, comb, if_pos h4]
  · rw [if_neg h4, comb, if_neg (by simp), comb, if_neg h4, List.append_assoc, List.singleton_append]

/-- What the function reads. -/
structure Env (w : World) (s : List UInt8) (k D rb bA bS bF : Nat) : Prop where
  cA : Boxed w bA 3 (.int .i64 (k : Nat))
  cS : Boxed w bS 9 (.string ⟨s.toArray⟩)
  cF : Boxed w bF 143 (.func (.func 101) #[.pointer (some ⟨rb, 0, none⟩)] #[])
  cR : Boxed w rb 142 (.int .i64 (D : Nat))
theorem Env.keep {w W : World} {s : List UInt8} {k D rb bA bS bF : Nat} (h : Env w s k D rb bA bS bF) (hA : W.heap[bA]? = w.heap[bA]?) (hS : W.heap[bS]? = w.heap[bS]?) (hF : W.heap[bF]? = w.heap[bF]?) (hR : W.heap[rb]? = w.heap[rb]?) : Env W s k D rb bA bS bF :=
  ⟨hA.trans h.cA, hS.trans h.cS, hF.trans h.cF, hR.trans h.cR⟩

set_option maxRecDepth 100000 in
set_option maxHeartbeats 8000000 in
theorem seq_in (N m lp : Nat) (hread : ∀ j, j < N → ItemC j) (s : List UInt8) (k D rb bA bS bF : Nat) (hs : s.length ≤ 65536) (hk : k ≤ s.length) (hN : 2 * (s.length - k) + 2 ≤ N) (hD : D ≤ 12)
    (J : List El → World → Prop) (Jx : El → World → Prop) (T : Nat → Prop) (hA : T bA) (hS : T bS) (hF : T bF) (hR' : T rb) (W : World) (hE : Env W s k D rb bA bS bF)
    (_hJ : ∀ pre A B, J pre A → A.grownBy B none → J pre B)
    (hY : ∀ pre x A B, J pre A → A.grownBy B none → (pre.length ≤ 512 ∧ Fresh A.heap.size B (kids x.1.1) x.1.2) → YieldAt Fence.wide (m - 1) Tryz.prog lp (encE x) B fun e W' =>
        (e = .returned (.bool true) ∧ x.2 = 0 ∧ J (pre ++ [x]) W' ∧ (∀ b, T b → W'.heap[b]? = B.heap[b]?)) ∨ (e = .returned (.bool false) ∧ ¬ x.2 = 0 ∧ Jx x W'))
    (h0 : J [] W) : CallsIn Fence.wide m Tryz.prog 272 #[.func (.yield lp) #[] #[], .pointer (some ⟨bA, 0, none⟩), .pointer (some ⟨bS, 0, none⟩), .pointer (some ⟨bF, 0, none⟩)] W fun e W' =>
      (∃ v, e = .returned v) ∧ ((∃ xs : List El, M.itemsT N (s.drop k) D 0 = (xs.map (·.1.1), 0) ∧ J xs W') ∨ ∃ x : El, (x.2 ≠ 0 ∧ M.itemsT N (s.drop k) D 0 = ([], x.2)) ∧ Jx x W') := by
  have hro : Fence.wide.round = none := rfl
  refine callsIn_of_wp Tryz.func272 rfl trivial ?_ rfl
  simp only [Tryz.ntmps272, List.size_toArray, List.length_cons, List.length_nil, Nat.reduceAdd, Nat.reduceSub, Array.replicate_succ, Array.replicate_zero, List.push_toArray, List.append_toArray, List.nil_append, List.cons_append]
  have cA := hE.cA.cell
  gi_wp2
  gi_loopw [5, 6] (fun p c wr => ∃ (pre : List El) (q n' : Nat), p = .int .i64 (q : Nat) ∧ c = .int .i64 (pre.length : Nat) ∧ q ≤ s.length ∧ pre.length ≤ 512 ∧ 2 * (s.length - q) + 2 ≤ n' ∧ n' ≤ N ∧
      M.itemsT N (s.drop k) D 0 = comb (pre.map (·.1.1)) (M.itemsT n' (s.drop q) D pre.length) ∧ Env wr s k D rb bA bS bF ∧ J pre wr)
    (fun p _ _ => s.length - (intOf p).toNat)
  case atStart => exact ⟨[], k, N, rfl, rfl, hk, by simp, hN, Nat.le_refl _, (comb_nil _ _ _ _).symm, hE, h0⟩
  case round =>
    obtain ⟨pre, q, n', rfl, rfl, hq, hp, hn', hnN, hrel, hEr, hJr⟩ := hrel
    have cS := hEr.cS.cell
    by_cases hlt : q < s.length
    · have hne : s.drop q ≠ [] := by
        intro h
        have := congrArg List.length h
        simp at this
        omega
      have hlt' : ((q : Nat) : Int) < (s.length : Nat) := by omega
      obtain ⟨n1, rfl⟩ : ∃ n1, n' = n1 + 1 := ⟨n' - 1, by omega⟩
      by_cases hmany : pre.length = 512
      · rw [comb_many _ _ _ _ _ hne (by omega)] at hrel
        obtain ⟨fn, tmps, assign, body, hy, hR⟩ := hY pre ((M.It.mk false [] [], .slice none 0 0), 5) wr wr hJr ⟨rfl, rfl, rfl, Nat.le_refl _, fun _ _ _ => rfl⟩ ⟨hp, Fresh.nil _ _ _⟩
        dsimp only [encE, iv] at hy
        rw [show ((5 : Nat) : Int) = 5 from rfl] at hy
        have hm' : (((pre.length : Nat) : Int) == 512) = true := by simp; omega
        gi_wp2
        refine ⟨fun h => (by cases h), hR.mono ?_⟩
        rintro e W' (⟨rfl, hon, _⟩ | ⟨rfl, hoff, hjx⟩)
        · cases hon
        · gi_wp2
          refine bodyPost_ret (results_none rfl _ _ _) rfl ?_
          exact ⟨⟨_, rfl⟩, .inr ⟨_, ⟨by simp, hrel⟩, hjx⟩⟩
      · have hm' : (((pre.length : Nat) : Int) == 512) = false := by simp; omega
        have cF := hEr.cF.cell
        have HRd := Lib.hid (hread n1 (by omega) s q D rb wr hs hq (by omega) hD hEr.cR)
        have hbad := comb_bad (pre.map (·.1.1)) n1 D pre.length (s.drop q) hne (by omega)
        have hnext := comb_next (pre.map (·.1.1)) n1 D pre.length (s.drop q) hne (by omega)
        generalize M.readT n1 (s.drop q) D = r at *
        obtain ⟨it, rest, er⟩ := r
        simp only at HRd hbad hnext
        gi_wp2_with (refine ⟨trivial, fun h => (by cases h), (callsIn_wide.2 HRd.out).mono ?_⟩; rintro e w1 ⟨l, b, xs, a, cap, pl, rfl, hx, hfr, hb1, hpl⟩; obtain ⟨fn, tmps, assign, body, hy, hR⟩ := hY pre ((M.It.mk l b xs, .slice a xs.length cap), er) wr (w1.alloc (.cells #[.bool l, .string ⟨b.toArray⟩, .slice a xs.length cap] 45)) hJr ⟨hb1.os, hb1.tape, hb1.output, by have := hb1.size; simp; omega, fun k' hk' _ => (Below.heap_alloc _ _ _ (by have := hb1.size; omega)).trans (hb1.block k' hk')⟩ ⟨hp, hfr.from_ ((Below.refl _ _).alloc (Nat.le_refl _) _)⟩; dsimp only [encE, iv] at hy)
        refine ⟨fun h => (by cases h), hR.mono ?_⟩
        subst hx
        rintro e W' (⟨rfl, hon, hj, hkeep⟩ | ⟨rfl, hoff, hjx⟩)
        · replace hon : er = 0 := hon
          subst hon
          obtain ⟨hp1, hp2, hp3⟩ := hpl rfl
          rw [hnext rfl, ← hp1] at hrel
          have hbk : ∀ c, c < wr.heap.size → T c → W'.heap[c]? = wr.heap[c]? := fun c hc hTc => (hkeep c hTc).trans ((Below.heap_alloc _ _ _ (by have := hb1.size; omega)).trans (hb1.block c hc))
          have hE2 := hEr.keep (hbk bA hEr.cA.lt hA) (hbk bS hEr.cS.lt hS) (hbk bF hEr.cF.lt hF) (hbk rb hEr.cR.lt hR')
          gi_wp2
          go_roundw
          case rel => exact ⟨pre ++ [((M.It.mk l b xs, .slice a xs.length cap), 0)], pl, n1, rfl, by simp, hp3, by simp; omega, by omega, by omega, by rw [hrel]; simp, hE2, hj⟩
          case measure => simp [intOf]; omega
        · replace hoff : er ≠ 0 := hoff
          have hoff' : ¬ ((er : Nat) : Int) = 0 := by omega
          rw [hbad hoff] at hrel
          gi_wp2
          refine bodyPost_ret (results_none rfl _ _ _) rfl ?_
          exact ⟨⟨_, rfl⟩, .inr ⟨_, ⟨hoff, hrel⟩, hjx⟩⟩
    · obtain rfl : q = s.length := by omega
      obtain ⟨n1, rfl⟩ : ∃ n1, n' = n1 + 1 := ⟨n' - 1, by omega⟩
      rw [List.drop_length, comb_end] at hrel
      gi_wp2
      go_end0
      exact ⟨⟨_, rfl⟩, .inl ⟨pre, hrel, hJr⟩⟩
end Go.Proofs.YtihiacbhdcahkaaGreatDoor
namespace Go.Proofs.YtihiacbhdcahkaaGreatDoor
open Go Go.RowKit Go.Shelf
attribute [local go_sem] Oper.semAt_some

def ListC (n : Nat) : Prop := ∀ (s : List UInt8) (k D rb : Nat) (w : World), s.length ≤ 65536 → k ≤ s.length → 2 * (s.length - k) + 2 ≤ n → D < 12 → Boxed w rb 142 (.int .i64 D) →
  Calls Tryz.prog 181 #[.pointer (some ⟨rb, 0, none⟩), .string ⟨s.toArray⟩, .int .i64 k] w fun e w' =>
    ∃ a cap, e = .returned (.tuple #[.slice a (M.itemsT n (s.drop k) (D + 1) 0).1.length cap, .int .i64 ((M.itemsT n (s.drop k) (D + 1) 0).2 : Nat)]) ∧
      Fresh w.heap.size w' (M.itemsT n (s.drop k) (D + 1) 0).1 (.slice a (M.itemsT n (s.drop k) (D + 1) 0).1.length cap) ∧ Below w.heap.size w w'

/-- The deferred call: one list less. -/
theorem less_d (bR rb : Nat) (D : Nat) (w : World) (hD : D < 12) (hc : w.cell? ⟨bR, 0, none⟩ = some (.pointer (some ⟨rb, 0, none⟩))) (hr : w.cell? ⟨rb, 0, none⟩ = some (.int .i64 ((D + 1 : Nat) : Int))) (hz : w.frozen? ⟨rb, 0, none⟩ = false) (n : Nat) :
    CallsDIn Fence.wide n Tryz.prog 250 #[.pointer (some ⟨bR, 0, none⟩)] .returning w fun e u' w' => (∃ v, e = .returned v) ∧ u' = .returning ∧ w' = w.setCell ⟨rb, 0, none⟩ (.int .i64 (D : Nat)) := by
  have hw : wrap64 (((D + 1 : Nat) : Int) - 1) = ((D : Nat) : Int) := by unfold wrap64; omega
  have hro : Fence.wide.round = none := rfl
  have H : CallsDIn Fence.wide n Tryz.prog 250 #[.pointer (some ⟨bR, 0, none⟩)] .returning w fun e u' w' => u' = .returning ∧ ((∃ v, e = .returned v) ∧ w' = w.setCell ⟨rb, 0, none⟩ (.int .i64 (D : Nat))) := by
    refine callsDIn_of_wp (R := fun e w' => (∃ v, e = .returned v) ∧ w' = w.setCell ⟨rb, 0, none⟩ (.int .i64 (D : Nat))) Tryz.func250 rfl trivial ?_ rfl
    simp only [Tryz.ntmps250, List.size_toArray, List.length_cons, List.length_nil, Nat.reduceAdd, Nat.reduceSub, Array.replicate_succ, Array.replicate_zero, List.push_toArray, List.append_toArray, List.nil_append, List.cons_append]
    gi_wp2
    go_end0
    exact ⟨⟨_, rfl⟩, rfl⟩
  exact H.mono fun e u' w' ⟨h1, h2, h3⟩ => ⟨h2, h1, h3⟩

/-- Whatever lay there lies as it lay, but for some boxes. -/
structure Fr (w3 : World) (E : Nat → Prop) (W : World) : Prop where
  os : W.os = w3.os
  tape : W.tape = w3.tape
  output : W.output = w3.output
  size : w3.heap.size ≤ W.heap.size
  block : ∀ b, b < w3.heap.size → ¬ E b → W.heap[b]? = w3.heap[b]?
theorem Fr.grown {w3 W W' : World} {E : Nat → Prop} (h : Fr w3 E W) {row : Option Nat} (hg : W.grownBy W' row) (hr : ∀ r, row = some r → w3.heap.size ≤ r) : Fr w3 E W' :=
  ⟨hg.os.trans h.os, hg.tape.trans h.tape, hg.output.trans h.output, Nat.le_trans h.size hg.size, fun b hb hne => (hg.block b (Nat.lt_of_lt_of_le hb h.size) (fun e => by have := hr b e.symm; omega)).trans (h.block b hb hne)⟩
theorem Fr.set {w3 W : World} {E : Nat → Prop} (h : Fr w3 E W) (a : Addr) (u : Value) (ha : E a.block) : Fr w3 E (W.setCell a u) :=
  ⟨h.os, h.tape, h.output, by simpa [World.setCell] using h.size, fun b hb hne => (Below.heap_setCell _ _ _ _ (fun e => hne (by rw [e]; exact ha))).trans (h.block b hb hne)⟩
theorem Fr.wider {w3 W : World} {E E' : Nat → Prop} (h : Fr w3 E W) (hE : ∀ b, E b → E' b) : Fr w3 E' W := ⟨h.os, h.tape, h.output, h.size, fun b hb hne => h.block b hb (fun e => hne (hE b e))⟩
theorem ItRow.cells {B : Nat} {w : World} {L : List (M.It × Value)} {v : Value} (h : ItRow B w L v) {k : Nat} (hk : v.ownBlock = some k) : ∃ o : Obj, w.heap[k]? = some o ∧ o.isCells = true := by
  rcases h.own.2 with ⟨h0, _⟩ | ⟨g, cap, cur, hv, hB, hg, _⟩
  · rw [h0] at hk; cases hk
  · rw [hv] at hk; cases hk; exact ⟨_, hg, rfl⟩
/-- Between two rounds: the row of what has come. -/
def LI (w3 : World) (bl : Nat) (pre : List El) (W : World) : Prop := ∃ v, Boxed W bl 43 v ∧ ItRow w3.heap.size W (pre.map (·.1)) v ∧ Fr w3 (fun b => b = bl) W
theorem boxed_kept {W W' : World} {b : Nat} {t : TypeId} {v : Value} (h : Boxed W b t v) {row : Option Nat} (hg : W.grownBy W' row) (hr : ∀ r, row = some r → ∃ o : Obj, W.heap[r]? = some o ∧ o.isCells = false) : Boxed W' b t v :=
  (hg.block b h.lt (fun e => by
    obtain ⟨o, ho, hc⟩ := hr b e.symm
    rw [show W.heap[b]? = _ from h] at ho
    cases ho
    cases hc)).trans h
theorem LI_own {w3 : World} {bl : Nat} : OwnFrom w3.heap.size (LI w3 bl) := fun _pre _W _W' _row ⟨v, hv, hr, hf⟩ hg hrow =>
  ⟨v, boxed_kept hv hg (fun r e => (hrow r e).2), hr.kept hg (fun r e => (hrow r e).2), hf.grown hg (fun r e => (hrow r e).1)⟩

/-- A round has left: the results lie in their boxes. -/
def LX (w3 : World) (bn be bl : Nat) (x : El) (W : World) : Prop := Boxed W bn 43 (.slice none 0 0) ∧ Boxed W be 28 (.int .i64 (x.2 : Nat)) ∧ Fr w3 (fun b => b = bl ∨ b = be ∨ b = bn) W
theorem LX_own {w3 : World} {bn be bl : Nat} : OwnFrom w3.heap.size (LX w3 bn be bl) := fun _x _W _W' _row ⟨h1, h2, hf⟩ hg hrow =>
  ⟨boxed_kept h1 hg (fun r e => (hrow r e).2), boxed_kept h2 hg (fun r e => (hrow r e).2), hf.grown hg (fun r e => (hrow r e).1)⟩
/-- The loop's variables are assigned to. -/
def LAx (w3 : World) (bl : Nat) (A1 : Nat → Value → Nat → Act) (pre : List El) (x : El) (a' : Act) (B : World) : Prop :=
  ∃ (v : Value) (bx : Nat) (l : Bool) (d : List UInt8) (ys : List M.It) (u : Value), x.1 = (.mk l d ys, u) ∧ pre.length ≤ 512 ∧ a' = A1 bx (iv l d u) x.2 ∧ Boxed B bl 43 v ∧ ItRow w3.heap.size B (pre.map (·.1)) v ∧ Fr w3 (fun b => b = bl) B ∧ Box B bx l d u ∧ w3.heap.size ≤ bx ∧ bx < B.heap.size ∧ some bx ≠ v.ownBlock ∧ u.oneCell' = true ∧
    LayS B (fun b => w3.heap.size ≤ b ∧ b < B.heap.size ∧ some b ≠ v.ownBlock) ys u
theorem LAx_own {w3 : World} {bl : Nat} {A1 : Nat → Value → Nat → Act} (pre : List El) (x : El) (a' : Act) : OwnFrom w3.heap.size fun (_ : Unit) B => LAx w3 bl A1 pre x a' B := by
  rintro _ W W' row ⟨v, bx, l, d, ys, u, hx, hp, ha, hv, hr, hf, hb, h1, h2, h3, h4, hk⟩ hg hrow
  have hr' : ∀ r, row = some r → ∃ o : Obj, W.heap[r]? = some o ∧ o.isCells = false := fun r e => (hrow r e).2
  exact ⟨v, bx, l, d, ys, u, hx, hp, ha, boxed_kept hv hg hr', hr.kept hg hr', hf.grown hg (fun r e => (hrow r e).1), ⟨cell_kept hb.c0 hg hr', cell_kept hb.c1 hg hr', cell_kept hb.c2 hg hr'⟩, h1, Nat.lt_of_lt_of_le h2 hg.size, h3, h4,
    (hk.kept hg hr').wider fun b ⟨k1, k2, k3⟩ => ⟨k1, Nat.lt_of_lt_of_le k2 hg.size, k3⟩⟩

theorem results_cells {fn : Func} {p q : Tmp} {ty tz : TypeId} (h : fn.results = #[.cell p ty, .cell q tz]) (tmps : Array Value) (P : Program) (w : World) (a b : Addr) (u v : Value) (hp : tmps.getD p undef = .pointer (some a)) (hq : tmps.getD q undef = .pointer (some b))
    (hu : (loadVar ty a).run P w = .ok u w) (hv : (loadVar tz b).run P w = .ok v w) : (results fn tmps).run P w = .ok (.tuple #[u, v]) w := by
  have hp' : tmps[p]?.getD undef = .pointer (some a) := by simpa using hp
  have hq' : tmps[q]?.getD undef = .pointer (some b) := by simpa using hq
  simp [results, h, hp', hq', Sem.run_bind, Result.andThen, asAddr, hu, hv]

set_option maxRecDepth 100000 in
set_option maxHeartbeats 8000000 in
/-- The function's end: the rounds' deferred calls, of which there are none; then its own one. -/
theorem leave_list (w w3 X : World) (rb Dd D : Nat) (u : Value) (q : Nat) (tmps : Array Value) (a : Option Addr) (n cap : Nat) (hu : u = .slice a n cap) (hz3 : w3.heap.size = w.heap.size + 7) (hlt : rb < w.heap.size) (hD : D < 12) (hDd : w3.heap.size ≤ Dd) (hK : X.heap[Dd]? = some (.deferred (some [])))
    (hXn : Boxed X (w.heap.size + 1) 43 u) (hXe : Boxed X (w.heap.size + 2) 28 (.int .i64 (q : Nat))) (hXf : Fr w3 (fun b => b = w.heap.size + 3 ∨ b = w.heap.size + 2 ∨ b = w.heap.size + 1) X)
    (hP3 : Boxed w3 w.heap.size 140 (.pointer (some ⟨rb, 0, none⟩))) (hR3 : Boxed w3 rb 142 (.int .i64 ((D + 1 : Nat) : Int))) (hR : Boxed w rb 142 (.int .i64 D))
    (hback : w3.os = w.os ∧ w3.tape = w.tape ∧ w3.output = w.output ∧ ∀ b, b < w.heap.size → b ≠ rb → w3.heap[b]? = w.heap[b]?)
    (h6 : tmps.getD 6 undef = .pointer (some ⟨w.heap.size + 1, 0, none⟩)) (h7 : tmps.getD 7 undef = .pointer (some ⟨w.heap.size + 2, 0, none⟩)) (R : Ending → World → Prop)
    (hend : ∀ Z : World, Below w.heap.size w Z → X.heap.size = Z.heap.size → (∀ S xs v, LayS X S xs v → (∀ b, S b → b ≠ rb) → LayS Z S xs v) → R (.returned (.tuple #[u, .int .i64 (q : Nat)])) Z) :
    LeavesInM Fence.wide 3 Tryz.prog Tryz.f181 tmps R [{ target := .collected Dd, args := #[] }, { target := .fn (.func 250) #[.pointer (some ⟨w.heap.size, 0, none⟩)], args := #[] }] .returning X := by
  have hDlt : Dd < X.heap.size := (Array.getElem?_eq_some_iff.1 hK).1
  have hsz := hXf.size
  refine ⟨by simp, .inl ⟨_, _, rfl, run_takeDeferred hK, ?_⟩⟩
  obtain ⟨Y, hY⟩ : ∃ Y, Y = X.putObj Dd (.deferred none) := ⟨_, rfl⟩
  have hYo : ∀ b, b ≠ Dd → Y.heap[b]? = X.heap[b]? := fun b hb => by rw [hY]; exact World.putObj_heap_other hb
  have hYz : Y.heap.size = X.heap.size := by rw [hY]; simp [World.putObj]
  have hP : Boxed Y w.heap.size 140 (.pointer (some ⟨rb, 0, none⟩)) := ((hYo _ (by omega)).trans (hXf.block _ (by omega) (by omega))).trans hP3
  have hRY : Boxed Y rb 142 (.int .i64 ((D + 1 : Nat) : Int)) := ((hYo _ (by omega)).trans (hXf.block _ (by omega) (by omega))).trans hR3
  have ho : Y.os = X.os ∧ Y.tape = X.tape ∧ Y.output = X.output := by rw [hY]; exact ⟨rfl, rfl, rfl⟩
  have hYl : ∀ S xs v, LayS X S xs v → LayS Y S xs v := fun S xs v h => h.kept (row := some Dd) (by rw [hY]; exact grownBy_putObj' _ _ _) (fun r e => by cases e; exact ⟨_, hK, rfl⟩)
  show LeavesInM _ _ _ _ _ _ _ _ (X.putObj Dd (.deferred none))
  rw [← hY]
  clear hY
  refine ⟨by simp, .inr ⟨fun h => (by cases h), _, _, 250, #[.pointer (some ⟨w.heap.size, 0, none⟩)], rfl, ?_, fun _ _ => trivial, ?_⟩⟩
  · have eg := enters_of Tryz.func250 (by kernel_rfl) rfl
    simp [invoke, go_sem]
  · refine (less_d w.heap.size rb D Y hD hP.cell hRY.cell hRY.frozen _).mono ?_
    rintro e u' Z ⟨⟨v, rfl⟩, rfl, hZ⟩
    have hZo : ∀ b, b ≠ rb → Z.heap[b]? = Y.heap[b]? := fun b hb => by rw [hZ]; exact Below.heap_setCell _ _ _ _ (by simpa using hb)
    have hZn : Boxed Z (w.heap.size + 1) 43 u := ((hZo _ (by omega)).trans (hYo _ (by omega))).trans hXn
    have hZe : Boxed Z (w.heap.size + 2) 28 (.int .i64 (q : Nat)) := ((hZo _ (by omega)).trans (hYo _ (by omega))).trans hXe
    have hZr : Boxed Z rb 142 (.int .i64 (D : Nat)) := by rw [hZ]; exact hRY.set _
    have hZz : Z.heap.size = X.heap.size := by rw [← hYz, hZ]; simp [World.setCell]
    have hZB : Below w.heap.size w Z := by
      obtain ⟨b1, b2, b3, b4⟩ := hback
      have hzo : Z.os = Y.os ∧ Z.tape = Y.tape ∧ Z.output = Y.output := by rw [hZ]; exact ⟨rfl, rfl, rfl⟩
      refine ⟨hzo.1.trans (ho.1.trans (hXf.os.trans b1)), hzo.2.1.trans (ho.2.1.trans (hXf.tape.trans b2)), hzo.2.2.trans (ho.2.2.trans (hXf.output.trans b3)), by omega, fun b hb => ?_⟩
      by_cases hbr : b = rb
      · subst hbr
        exact (show _ = _ from hZr).trans (show _ = _ from hR).symm
      · exact (hZo b hbr).trans ((hYo b (by omega)).trans ((hXf.block b (by omega) (by omega)).trans (b4 b hb hbr)))
    have hZl : ∀ S xs v, LayS X S xs v → (∀ b, S b → b ≠ rb) → LayS Z S xs v := fun S xs v h hS => (hYl S xs v h).keep fun b hb => ⟨hb, hZo b (hS b hb)⟩
    clear hZ
    have hcn := hZn.cell
    have hce := hZe.cell
    show LeavesInM _ _ _ _ _ _ [] _ _
    refine ⟨_, results_cells rfl _ _ _ ⟨w.heap.size + 1, 0, none⟩ ⟨w.heap.size + 2, 0, none⟩ u (.int .i64 (q : Nat)) h6 h7 ?_ ?_, hend _ hZB hZz.symm hZl⟩
    · subst hu
      go_simp
    · go_simp

set_option maxRecDepth 100000 in
set_option maxHeartbeats 8000000 in
theorem list_c (n : Nat) (hread : ∀ j, j < n → ItemC j) : ListC n := by
  intro s k D rb w hs hk hn hD hR
  have hro : Fence.wide.round = none := rfl
  have hcr := hR.cell
  have hfr := hR.frozen
  have hlt := hR.lt
  have hw : wrap64 (((D : Nat) : Int) + 1) = ((D + 1 : Nat) : Int) := by unfold wrap64; omega
  have hmf : ∀ (fn : Fn) (first cap : Array Value) (w : World), (Instr.makeFunc fn first cap).run Tryz.prog w = .ok (.func fn first cap) w := fun _ _ _ _ => rfl
  obtain ⟨w0, hw0⟩ : ∃ w0, ((w.alloc (.cells #[.pointer (some ⟨rb, 0, none⟩)] 140)).alloc (.cells #[.slice none 0 0] 43)).alloc (.cells #[.int .i64 0] 28) = w0 := ⟨_, rfl⟩
  have hb0 : Below w.heap.size w w0 := by rw [← hw0]; (repeat (first | exact Below.refl _ _ | refine Below.drew ?_ | refine Below.alloc ?_ (by first | omega | (simp; omega) | simp) _ | refine Below.setCell ?_ (by first | omega | (simp; omega) | simp) _))
  have hz0 : w0.heap.size = w.heap.size + 3 := by rw [← hw0]; simp
  have hR0 : Boxed w0 rb 142 (.int .i64 D) := (hb0.block rb hlt).trans hR
  have hP0 : Boxed w0 w.heap.size 140 (.pointer (some ⟨rb, 0, none⟩)) := by rw [← hw0]; exact ((Boxed.new w _ _).alloc _).alloc _
  have hN0 : Boxed w0 (w.heap.size + 1) 43 (.slice none 0 0) := by
    rw [← hw0]
    have := Boxed.new (w.alloc (.cells #[.pointer (some ⟨rb, 0, none⟩)] 140)) 43 (.slice none 0 0)
    rw [World.size_alloc] at this
    exact this.alloc _
  have hE0 : Boxed w0 (w.heap.size + 2) 28 (.int .i64 0) := by
    rw [← hw0]
    have := Boxed.new ((w.alloc (.cells #[.pointer (some ⟨rb, 0, none⟩)] 140)).alloc (.cells #[.slice none 0 0] 43)) 28 (.int .i64 0)
    rw [World.size_alloc, World.size_alloc] at this
    exact this
  obtain ⟨w1, hw1⟩ : ∃ w1, w0.setCell ⟨rb, 0, none⟩ (.int .i64 ((D + 1 : Nat) : Int)) = w1 := ⟨_, rfl⟩
  have hz1 : w1.heap.size = w0.heap.size := by rw [← hw1]; simp [World.setCell]
  have hbk1 : ∀ b, b ≠ rb → w1.heap[b]? = w0.heap[b]? := fun b hb => by rw [← hw1]; exact Below.heap_setCell _ _ _ _ (by simpa using hb)
  have hR1 : Boxed w1 rb 142 (.int .i64 ((D + 1 : Nat) : Int)) := by rw [← hw1]; exact hR0.set _
  have hP1 : Boxed w1 w.heap.size 140 (.pointer (some ⟨rb, 0, none⟩)) := (hbk1 _ (by omega)).trans hP0
  have hN1 : Boxed w1 (w.heap.size + 1) 43 (.slice none 0 0) := (hbk1 _ (by omega)).trans hN0
  have hE1 : Boxed w1 (w.heap.size + 2) 28 (.int .i64 0) := (hbk1 _ (by omega)).trans hE0
  have c0 := hR0.cell
  have f0 := hR0.frozen
  have p0 := hP0.cell
  have p1 := hP1.cell
  have hnow : ∀ W : World, W.setCell ⟨rb, 0, none⟩ (.int .i64 ((D : Int) + 1)) = W.setCell ⟨rb, 0, none⟩ (.int .i64 ((D + 1 : Nat) : Int)) := fun W => rfl
  refine (callsIn_wide (n := 3)).1 ?_
  refine callsIn_of_wp_marks Tryz.func181 rfl trivial ?_ rfl
  simp only [Tryz.ntmps181, List.size_toArray, List.length_cons, List.length_nil, Nat.reduceAdd, Nat.reduceSub, Array.replicate_succ, Array.replicate_zero, List.push_toArray, List.append_toArray, List.nil_append, List.cons_append]
  gi_wp2
  rw [hw1]
  refine ⟨trivial, (items_in _ s k _ rfl _).mono ?_⟩
  rintro e w3 ⟨rfl, hw3⟩
  have hz2 : (w1.alloc (.cells #[.slice none 0 0] 43)).heap.size = w.heap.size + 4 := by rw [World.size_alloc]; omega
  rw [hz2]
  have hb3 : Below w1.heap.size w1 w3 := by rw [hw3]; exact ((((Below.refl _ w1).alloc (Nat.le_refl _) _).alloc (by simp) _).alloc (by simp; omega) _).alloc (by simp; omega) _
  have hz3 : w3.heap.size = w.heap.size + 7 := by rw [hw3]; simp; omega
  have hR3 : Boxed w3 rb 142 (.int .i64 ((D + 1 : Nat) : Int)) := (hb3.block rb (by omega)).trans hR1
  have hP3 : Boxed w3 w.heap.size 140 (.pointer (some ⟨rb, 0, none⟩)) := (hb3.block _ (by omega)).trans hP1
  have hN3 : Boxed w3 (w.heap.size + 1) 43 (.slice none 0 0) := (hb3.block _ (by omega)).trans hN1
  have hE3 : Boxed w3 (w.heap.size + 2) 28 (.int .i64 0) := (hb3.block _ (by omega)).trans hE1
  have hL3 : Boxed w3 (w.heap.size + 3) 43 (.slice none 0 0) := by
    rw [hw3]
    have := Boxed.new w1 43 (.slice none 0 0)
    rw [show w1.heap.size = w.heap.size + 3 by omega] at this
    exact ((this.alloc _).alloc _).alloc _
  have hS3 : Boxed w3 (w.heap.size + 4) 9 (.string ⟨s.toArray⟩) := by
    rw [hw3]
    have := Boxed.new (w1.alloc (.cells #[.slice none 0 0] 43)) 9 (.string ⟨s.toArray⟩)
    rw [hz2] at this
    exact (this.alloc _).alloc _
  have hA3 : Boxed w3 (w.heap.size + 5) 3 (.int .i64 k) := by
    rw [hw3]
    have := Boxed.new ((w1.alloc (.cells #[.slice none 0 0] 43)).alloc (.cells #[.string ⟨s.toArray⟩] 9)) 3 (.int .i64 k)
    rw [World.size_alloc, hz2] at this
    exact this.alloc _
  have hF3 : Boxed w3 (w.heap.size + 6) 143 (.func (.func 101) #[.pointer (some ⟨rb, 0, none⟩)] #[]) := by
    rw [hw3]
    have := Boxed.new (((w1.alloc (.cells #[.slice none 0 0] 43)).alloc (.cells #[.string ⟨s.toArray⟩] 9)).alloc (.cells #[.int .i64 k] 3)) 143 (.func (.func 101) #[.pointer (some ⟨rb, 0, none⟩)] #[])
    rw [World.size_alloc, World.size_alloc, hz2] at this
    exact this
  clear hw3
  have hback : w3.os = w.os ∧ w3.tape = w.tape ∧ w3.output = w.output ∧ ∀ b, b < w.heap.size → b ≠ rb → w3.heap[b]? = w.heap[b]? := by
    have h1 : w1.os = w0.os ∧ w1.tape = w0.tape ∧ w1.output = w0.output := by rw [← hw1]; exact ⟨rfl, rfl, rfl⟩
    exact ⟨hb3.os.trans (h1.1.trans hb0.os), hb3.tape.trans (h1.2.1.trans hb0.tape), hb3.output.trans (h1.2.2.trans hb0.output), fun b h2 h3 => (hb3.block b (by omega)).trans ((hbk1 b h3).trans (hb0.block b h2))⟩
  gi_wp2
  obtain ⟨A1, hA1⟩ : ∃ A1 : Nat → Value → Nat → Act, A1 = fun bx y e => { tmps := #[.pointer (some ⟨rb, 0, none⟩), .string ⟨s.toArray⟩, .int .i64 k, .pointer (some ⟨w.heap.size, 0, none⟩), undef, undef, .pointer (some ⟨w.heap.size + 1, 0, none⟩), .pointer (some ⟨w.heap.size + 1 + 1, 0, none⟩), .pointer (some ⟨w.heap.size + 3, 0, none⟩), .pointer (some ⟨bx, 0, none⟩), .int .i64 (e : Nat),
    .pointer (some ⟨rb, 0, none⟩), .pointer (some ⟨rb, 0, none⟩), .pointer (some ⟨rb, 0, none⟩), .int .i64 D, .int .i64 ((D : Int) + 1), .pointer (some ⟨rb, 0, none⟩), .pointer (some ⟨rb, 0, none⟩), .func (.func 250) #[] #[.pointer (some ⟨w.heap.size, 0, none⟩)], .string ⟨s.toArray⟩, .int .i64 k, .pointer (some ⟨rb, 0, none⟩), .func (.func 101) #[.pointer (some ⟨rb, 0, none⟩)] #[],
    .func (.func 272) #[] #[.pointer (some ⟨w.heap.size + 4 + 1, 0, none⟩), .pointer (some ⟨w.heap.size + 4, 0, none⟩), .pointer (some ⟨w.heap.size + 4 + 2, 0, none⟩)], y, .int .i64 (e : Nat), undef, undef, undef, undef, undef, undef, undef, undef, undef, undef], defers := [] } := ⟨_, rfl⟩
  refine range_lv (gf := 272) (lb := #[.pointer (some ⟨w.heap.size + 5, 0, none⟩), .pointer (some ⟨w.heap.size + 4, 0, none⟩), .pointer (some ⟨w.heap.size + 6, 0, none⟩)]) (by omega) rfl (enters_of Tryz.func272 (by kernel_rfl) rfl)
    (encs := encE) (fun x => by obtain ⟨⟨⟨l, d, ys⟩, u⟩, e⟩ := x; rfl) (LI w3 (w.heap.size + 3)) (LI_own) (LX w3 (w.heap.size + 1) (w.heap.size + 2) (w.heap.size + 3)) (LX_own)
    (fun b => b < w.heap.size + 7 ∧ b ≠ w.heap.size + 3) (fun b hb => by omega) (fun xs => M.itemsT n (s.drop k) (D + 1) 0 = (xs.map (·.1.1), 0)) (fun x => x.2 ≠ 0 ∧ M.itemsT n (s.drop k) (D + 1) 0 = ([], x.2)) (fun x => x.2 = 0)
    (fun pre x A B => pre.length ≤ 512 ∧ Fresh A.heap.size B (kids x.1.1) x.1.2) ?seq ?zero (LAx w3 (w.heap.size + 3) A1) LAx_own ?assign ?body ?done ?stop
  case seq =>
    intro l J Jx W hzW hTW hJ hY h0
    have tb : ∀ {b t v}, b < w.heap.size + 7 → b ≠ w.heap.size + 3 → Boxed w3 b t v → Boxed W b t v := fun h1 h2 h => (hTW _ ⟨h1, h2⟩).trans h
    exact seq_in n (3 - 1) l hread s k (D + 1) rb (w.heap.size + 5) (w.heap.size + 4) (w.heap.size + 6) hs hk hn (by omega) J Jx (fun b => b < w.heap.size + 7 ∧ b ≠ w.heap.size + 3) (by omega) (by omega) (by omega) (by omega) W
      ⟨tb (by omega) (by omega) hA3, tb (by omega) (by omega) hS3, tb (by omega) (by omega) hF3, tb (by omega) (by omega) hR3⟩ hJ hY h0
  case zero => exact ⟨_, hL3, ItRow.nil _ _, ⟨rfl, rfl, rfl, Nat.le_refl _, fun _ _ _ => rfl⟩⟩
  case assign =>
    rintro l pre ⟨⟨⟨l', d, ys⟩, u⟩, er⟩ A B K ⟨v, hv, hrow, hf⟩ hg ⟨hp, hfresh⟩ hK
    replace hfresh : Fresh A.heap.size B ys u := hfresh
    replace hp : pre.length ≤ 512 := hp
    obtain ⟨ua, uc, hue⟩ := hfresh.slice
    subst hue
    dsimp only [encE, iv]
    have hAB : Below A.heap.size A B := ⟨hg.os, hg.tape, hg.output, hg.size, fun k hk => hg.block k hk (by simp)⟩
    have hAB1 : Below A.heap.size A (B.alloc (.cells #[.bool l', .string ⟨d.toArray⟩, .slice ua ys.length uc] 45)) := hAB.alloc hg.size _
    have hsA := hf.size
    have hAz := hg.size
    have hone : (.slice ua ys.length uc : Value).oneCell' = true := rfl
    have hAX : LAx w3 (w.heap.size + 3) A1 pre ((M.It.mk l' d ys, .slice ua ys.length uc), er) (A1 B.heap.size (iv l' d (.slice ua ys.length uc)) er) (B.alloc (.cells #[.bool l', .string ⟨d.toArray⟩, .slice ua ys.length uc] 45)) :=
      ⟨v, B.heap.size, l', d, ys, .slice ua ys.length uc, rfl, hp, rfl, (hAB1.block _ hv.lt).trans hv, hrow.from_ hAB1, hf.grown (row := none) ⟨hAB1.os, hAB1.tape, hAB1.output, hAB1.size, fun k hk _ => hAB1.block k hk⟩ (fun r e => by cases e),
        Box.new B l' d (.slice ua ys.length uc) _, by omega, by simp, fun e => by have := (World.ownsRow.lt hrow.own _ e.symm).2; omega, rfl, hrow.other hsA (hfresh.from_ ((Below.refl _ B).alloc (Nat.le_refl _) _))⟩
    rw [hA1] at hAX
    gi_wp2
    refine hK _ _ ((KeepsOthers.alloc B _).from _) (fun b hb => Below.heap_alloc _ _ _ (by omega)) ?_
    rw [hA1]
    exact hAX
  case body =>
    rintro l pre ⟨⟨⟨l0, d0, ys0⟩, u0⟩, er⟩ a' B ⟨v, bx, l', d, ys, u, hx, hp, rfl, hv, hrow, hf, hb, hb1, hb2, hb3, hu, hk'⟩
    cases hx
    rw [hA1]
    dsimp only [iv]
    have hbn : Boxed B (w.heap.size + 1) 43 (.slice none 0 0) := (hf.block _ (by omega) (by omega)).trans hN3
    have hbe : Boxed B (w.heap.size + 2) 28 (.int .i64 0) := (hf.block _ (by omega) (by omega)).trans hE3
    have hsz := hf.size
    by_cases he : er = 0
    · subst he
      have HR := Lib.hid (list_reg l 1 (w.heap.size + 3) bx w3.heap.size (pre.map (·.1)) v l0 d0 ys0 u0 B)
      gi_wp2
      refine wpIn_mono' (HR.out _ _ _ _ _ _ _ _ _ _ _ _ _ _ _ _ _ _ _ _ _ _ _ _ _ _ _ _ _ _ _ _ _ _ _ (by kernel_rfl) hv hb hrow (by omega) hf.size hb2 hb3 (by omega) (by simp; omega) hu hk') ?_
      rintro b U ⟨v', hbox, hrow', ho, ht, hou, hsz', hbl⟩
      gi_wp2
      have hbl' : ∀ c, c < B.heap.size → c ≠ w.heap.size + 3 → (w3.heap.size ≤ c → ∃ o, B.heap[c]? = some o ∧ o.isCells = false) → U.heap[c]? = B.heap[c]? := fun c h1 h2 h3 => hbl c h1 h2 fun e => by
        have h4 := (World.ownsRow.lt hrow.own c e.symm).1
        obtain ⟨o, ho, hc⟩ := h3 h4
        obtain ⟨o', ho', hc'⟩ := hrow.cells e.symm
        rw [ho] at ho'
        cases ho'
        rw [hc] at hc'
        cases hc'
      exact ⟨rfl, ⟨hsz', fun c o h1 h2 h3 => (hbl' c (Array.getElem?_eq_some_iff.1 h2).1 (by omega) (fun _ => ⟨o, h2, h3⟩)).trans h2⟩, fun c hc => hbl' c (by omega) hc.2 (fun h => by omega),
        v', hbox, by simpa using hrow', ⟨ho.trans hf.os, ht.trans hf.tape, hou.trans hf.output, by omega, fun c h1 h2 => (hbl' c (by omega) h2 (fun h => by omega)).trans (hf.block c h1 h2)⟩⟩
    · have he' : (((er : Nat) : Int) != 0) = true := by simp; omega
      have cn := hbn.cell
      have fn := hbn.frozen
      have ce := hbe.cell
      have fe := hbe.frozen
      gi_wp2
      refine ⟨fun h => he h, ((KeepsOthers.setCell _ _ _).trans (KeepsOthers.setCell _ _ _)).from _, (hbn.set _).other (by omega) _, (hbe.other (by omega) _).set _, ((hf.wider fun b h => .inl h).set _ _ (.inr (.inr rfl))).set _ _ (.inr (.inl rfl))⟩
  case done =>
    rintro Dd xs W hDd hxs ⟨v, hv, hrow, hf⟩ hK
    have hsz := hf.size
    have hbn : Boxed W (w.heap.size + 1) 43 (.slice none 0 0) := (hf.block _ (by omega) (by omega)).trans hN3
    have hbe : Boxed W (w.heap.size + 2) 28 (.int .i64 0) := (hf.block _ (by omega) (by omega)).trans hE3
    have hbp : Boxed W w.heap.size 140 (.pointer (some ⟨rb, 0, none⟩)) := (hf.block _ (by omega) (by omega)).trans hP3
    have hbr : Boxed W rb 142 (.int .i64 ((D + 1 : Nat) : Int)) := (hf.block _ (by omega) (by omega)).trans hR3
    obtain ⟨va, vc, hve⟩ := hrow.slice
    subst hve
    have cv := hv.cell
    have cn := hbn.cell
    have fn := hbn.frozen
    have ce := hbe.cell
    have fe := hbe.frozen
    have hbe1 : Boxed (W.setCell ⟨w.heap.size + 1, 0, none⟩ (.slice va xs.length vc)) (w.heap.size + 2) 28 (.int .i64 0) := hbe.other (by omega) _
    obtain ⟨X, hX⟩ : ∃ X, X = (W.setCell ⟨w.heap.size + 1, 0, none⟩ (.slice va xs.length vc)).setCell ⟨w.heap.size + 1 + 1, 0, none⟩ (.int .i64 0) := ⟨_, rfl⟩
    have hXo : ∀ b, b ≠ w.heap.size + 1 → b ≠ w.heap.size + 2 → X.heap[b]? = W.heap[b]? := fun b h1 h2 => by
      rw [hX]
      exact (Below.heap_setCell _ _ _ _ (by simpa using h2)).trans (Below.heap_setCell _ _ _ _ (by simpa using h1))
    have hXz : X.heap.size = W.heap.size := by rw [hX]; simp [World.setCell]
    have hXn : Boxed X (w.heap.size + 1) 43 (.slice va xs.length vc) := by rw [hX]; exact (hbn.set _).other (by omega) _
    have hXe : Boxed X (w.heap.size + 2) 28 (.int .i64 0) := by rw [hX]; exact hbe1.set _
    have hXf : Fr w3 (fun b => b = w.heap.size + 3 ∨ b = w.heap.size + 2 ∨ b = w.heap.size + 1) X := by rw [hX]; exact ((hf.wider fun b h => .inl h).set _ _ (.inr (.inr rfl))).set _ _ (.inr (.inl rfl))
    have hXr : LayS X (fun b => w3.heap.size ≤ b ∧ b < W.heap.size) (xs.map (·.1.1)) (.slice va xs.length vc) := by
      have h1 := hrow.fresh
      simp only [List.map_map, List.length_map] at h1
      exact h1.keep fun b ⟨h2, h3⟩ => ⟨⟨h2, h3⟩, hXo b (by omega) (by omega)⟩
    have hKX : X.heap[Dd]? = some (.deferred (some [])) := (hXo Dd (by omega) (by omega)).trans hK
    have hDlt : Dd < X.heap.size := (Array.getElem?_eq_some_iff.1 hKX).1
    have hres : (xs.map (·.1.1)).length = xs.length := List.length_map _
    gi_wp2
    rw [← hX]
    refine leave_list w w3 X rb Dd D (.slice va xs.length vc) 0 _ va xs.length vc rfl hz3 hlt hD hDd hKX hXn hXe hXf hP3 hR3 hR hback rfl rfl _ ?_
    intro Z hB hz hl
    refine ⟨va, vc, rfl, ?_, hB⟩
    have h2 := hl _ _ _ hXr (fun b hb => by omega)
    exact h2.wider fun b hb => by omega
  case stop =>
    rintro Dd x W hDd ⟨hx0, hxi⟩ ⟨hXn, hXe, hXf⟩ hK
    gi_wp2
    refine leave_list w w3 W rb Dd D (.slice none 0 0) x.2 _ none 0 0 rfl hz3 hlt hD hDd hK hXn hXe hXf hP3 hR3 hR hback rfl rfl _ ?_
    intro Z hB hz hl
    exact ⟨none, 0, rfl, Fresh.nil _ _ _, hB⟩
end Go.Proofs.YtihiacbhdcahkaaGreatDoor
