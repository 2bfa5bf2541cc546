/- The statement 'l = append(l, it)' of unrlp's list, in whatever order. -/
import Derived.Test.YtcjhgnepehnjjaaDoorJ4
namespace Go.Proofs.YtcjhgnepehnjjaaDoor
open Go Go.RowKit

theorem wp_store_one {P : Program} {o : Oper} {a : Act} {w w' : World} {K : Act → World → Prop} {Q : Exit → Act → World → Prop} (ty : TypeId) (x y : Operand) (ho : o.op = .store ty x y)
    (ad : Addr) (val : Value) (hx : a.eval x = .pointer (some ad)) (hy : a.eval y = val) (hr : (storeVar ty ad val).run P w = .ok () w') (h : K (a.put o.dst undef) w') : o.wp P a w K Q := by
  unfold Oper.wp execOp
  simp only [ho, hx, hy, Instr.storeAt, Instr.sureAddr, Sem.run_bind, Sem.run_pure, Result.andThen_ok, hr]
  exact h

/-- What is there when the row has grown by a place, the box not yet stored anew. -/
structure Grown (B bl : Nat) (W X : World) (L : List (M.It × Value)) (v v' : Value) : Prop where
  row : ItRow B X (L ++ [(M.It.mk false [] [], .slice none 0 0)]) v'
  box : Boxed X bl 22 v
  os : X.os = W.os
  tape : X.tape = W.tape
  output : X.output = W.output
  size : W.heap.size ≤ X.heap.size
  block : ∀ b, b < W.heap.size → some b ≠ v.ownBlock → X.heap[b]? = W.heap[b]?
  new : v'.ownBlock = v.ownBlock ∨ ∃ g, v'.ownBlock = some g ∧ W.heap.size ≤ g

set_option maxRecDepth 100000 in
set_option maxHeartbeats 8000000 in
theorem list_reg3 (bl bi B : Nat) (L : List (M.It × Value)) (v v' : Value) (l : Bool) (d : List UInt8) (ys : List M.It) (u : Value) (tb : Nat) (W X : World)
    (t0 t1 t2 t3 t4 t5 t6 t7 t10 t11 t12 t13 t14 t15 t16 t17 t18 t19 t20 t21 t22 t23 t24 t25 t26 t27 t28 t34 t35 : Value) (ops : Array Oper)
    (hcode : Tryd.f39.body.bind (regAt 9) = some (.region 9 ops true)) (hG : Grown B bl W X L v v') (hbl : bl < B) (_hB : B ≤ W.heap.size) (hlen : L.length ≤ 600)
    (hbi : bi < W.heap.size) (hbi2 : some bi ≠ v.ownBlock) (hbi3 : bi ≠ bl)
    (hS : (fun w => w.cell? ⟨bi, 0, none⟩ = some (.bool l) ∧ w.cell? ⟨bi, 1, none⟩ = some (.string ⟨d.toArray⟩) ∧ w.cell? ⟨bi, 2, none⟩ = some u) X) (hu : u.oneCell' = true) (hk : LayS W (fun b => B ≤ b ∧ b < W.heap.size ∧ some b ≠ v.ownBlock) ys u) :
    wpAnyH Tryd.prog .any ops (nrm fun _ U => ∃ v', Boxed U bl 22 v' ∧ ItRow B U (L ++ [(.mk l d ys, u)]) v' ∧ U.os = W.os ∧ U.tape = W.tape ∧ U.output = W.output ∧ W.heap.size ≤ U.heap.size ∧
        ∀ b, b < W.heap.size → b ≠ bl → some b ≠ v.ownBlock → U.heap[b]? = W.heap[b]?) (fun w => w.cell? ⟨bi, 0, none⟩ = some (.bool l) ∧ w.cell? ⟨bi, 1, none⟩ = some (.string ⟨d.toArray⟩) ∧ w.cell? ⟨bi, 2, none⟩ = some u) 3 #[true, true, true, true, true, false, false, false] { tmps := #[t0, t1, t2, t3, t4, t5, t6, t7, .pointer (some ⟨bl, 0, none⟩), .pointer (some ⟨bi, 0, none⟩), t10, t11, t12, t13, t14, t15, t16, t17, t18, t19, t20, t21, t22, t23, t24, t25, t26, t27, t28, v, .agg #[.bool l, .string ⟨d.toArray⟩, u], .int .i64 L.length, .slice (some ⟨tb, 0, none⟩) 1 1, v', t34, t35], defers := [] } X := by
  simp only [Tryd.f39, Option.bind_some, regAt, Option.some_or, Option.none_or, if_true, if_false, Nat.reduceEqDiff, Option.some.injEq, Code.region.injEq, true_and, and_true] at hcode
  subst hcode
  have hbX : bi < X.heap.size := Nat.lt_of_lt_of_le hbi hG.size
  have hkX : ∀ X' : World, X.heap.size ≤ X'.heap.size → (∀ b, B ≤ b → b < W.heap.size → some b ≠ v.ownBlock → X'.heap[b]? = W.heap[b]?) → LayS X' (fun b => B ≤ b ∧ b < X'.heap.size ∧ some b ≠ v'.ownBlock) ys u := fun X' hz hbk =>
    hk.keep fun b ⟨h1, h2, h3⟩ => ⟨⟨h1, by have := hG.size; omega, fun e => by
      rcases hG.new with h | ⟨g, h, hg⟩
      · exact h3 (by rw [e, h])
      · rw [h] at e; cases e; omega⟩, hbk b h1 h2 h3⟩
  have hblX : bl < X.heap.size := hG.box.lt
  have hvf := hG.box.frozen
  have hvc := hG.box.cell
  obtain ⟨g, cap, X1, hv', hr1, hrow1, hg1, hBg⟩ := hG.row.last l d ys u hu (hkX X (Nat.le_refl _) (fun b h1 h2 h3 => hG.block b h2 h3))
  subst hv'
  have hgb : g ≠ bi := fun e => by
    rcases hG.new with h | ⟨g', h, hg'⟩
    · exact hbi2 (by rw [← e]; exact h)
    · have : g = g' := Option.some.inj h
      omega
  have hgl : g ≠ bl := by omega
  have hSk : ∀ {Y Y' : World}, (fun w : World => w.cell? ⟨bi, 0, none⟩ = some (.bool l) ∧ w.cell? ⟨bi, 1, none⟩ = some (.string ⟨d.toArray⟩) ∧ w.cell? ⟨bi, 2, none⟩ = some u) Y → Y'.heap[bi]? = Y.heap[bi]? → (fun w : World => w.cell? ⟨bi, 0, none⟩ = some (.bool l) ∧ w.cell? ⟨bi, 1, none⟩ = some (.string ⟨d.toArray⟩) ∧ w.cell? ⟨bi, 2, none⟩ = some u) Y' := fun {Y Y'} h e =>
    ⟨(World.cell?_of_block (a := ⟨bi, 0, none⟩) e).trans h.1, (World.cell?_of_block (a := ⟨bi, 1, none⟩) e).trans h.2.1, (World.cell?_of_block (a := ⟨bi, 2, none⟩) e).trans h.2.2⟩
  have hix : ((0 : Int) ≤ (L.length : Nat)) ∧ ((L.length : Nat) : Int) < (L.length : Int) + 1 := by omega
  -- the box stored behind the row
  have hend1 : ∃ v', Boxed (X1.setCell ⟨bl, 0, none⟩ (.slice (some ⟨g, 0, none⟩) (L.length + 1) cap)) bl 22 v' ∧ ItRow B (X1.setCell ⟨bl, 0, none⟩ (.slice (some ⟨g, 0, none⟩) (L.length + 1) cap)) (L ++ [(.mk l d ys, u)]) v' ∧ (X1.setCell ⟨bl, 0, none⟩ (.slice (some ⟨g, 0, none⟩) (L.length + 1) cap)).os = W.os ∧ (X1.setCell ⟨bl, 0, none⟩ (.slice (some ⟨g, 0, none⟩) (L.length + 1) cap)).tape = W.tape ∧ (X1.setCell ⟨bl, 0, none⟩ (.slice (some ⟨g, 0, none⟩) (L.length + 1) cap)).output = W.output ∧ W.heap.size ≤ (X1.setCell ⟨bl, 0, none⟩ (.slice (some ⟨g, 0, none⟩) (L.length + 1) cap)).heap.size ∧
        ∀ b, b < W.heap.size → b ≠ bl → some b ≠ v.ownBlock → (X1.setCell ⟨bl, 0, none⟩ (.slice (some ⟨g, 0, none⟩) (L.length + 1) cap)).heap[b]? = W.heap[b]? := by
    have hb1 : Boxed X1 bl 22 v := (hg1.block bl hblX (by simp; omega)).trans hG.box
    refine ⟨_, hb1.set _, hrow1.setCell ⟨bl, 0, none⟩ _ hbl, hg1.os.trans hG.os, hg1.tape.trans hG.tape, hg1.output.trans hG.output, ?_, fun b h1 h2 h3 => ?_⟩
    · have := hg1.size; have := hG.size; simp [World.setCell]; omega
    · have hbg : b ≠ g := fun e => by
        rcases hG.new with h | ⟨g', h, hg'⟩
        · exact h3 (by rw [e]; exact h)
        · have : g = g' := Option.some.inj h
          omega
      exact (Below.heap_setCell _ _ _ _ (by simpa using h2)).trans ((hg1.block b (by have := hG.size; omega) (by simpa using hbg)).trans (hG.block b h1 h3))
  -- the row stored behind the box
  obtain ⟨Y, hY⟩ : ∃ Y, Y = X.setCell ⟨bl, 0, none⟩ (.slice (some ⟨g, 0, none⟩) (L.length + 1) cap) := ⟨_, rfl⟩
  have hYz : Y.heap.size = X.heap.size := by rw [hY]; simp [World.setCell]
  have hYb : ∀ b, b ≠ bl → Y.heap[b]? = X.heap[b]? := fun b hb => by rw [hY]; exact Below.heap_setCell _ _ _ _ (by simpa using hb)
  have hYbox : Boxed Y bl 22 (.slice (some ⟨g, 0, none⟩) (L.length + 1) cap) := by rw [hY]; exact hG.box.set _
  have hYrow : ItRow B Y (L ++ [(M.It.mk false [] [], .slice none 0 0)]) (.slice (some ⟨g, 0, none⟩) (L.length + 1) cap) := by rw [hY]; exact hG.row.setCell ⟨bl, 0, none⟩ _ hbl
  obtain ⟨g2, cap2, Y1, hv2, hr2, hrow2, hg2, _⟩ := hYrow.last l d ys u hu (hkX Y (by omega) (fun b h1 h2 h3 => (hYb b (by omega)).trans (hG.block b h2 h3)))
  obtain ⟨rfl, rfl⟩ : g = g2 ∧ cap = cap2 := by cases hv2; exact ⟨rfl, rfl⟩
  have hend2 : ∃ v', Boxed Y1 bl 22 v' ∧ ItRow B Y1 (L ++ [(.mk l d ys, u)]) v' ∧ Y1.os = W.os ∧ Y1.tape = W.tape ∧ Y1.output = W.output ∧ W.heap.size ≤ Y1.heap.size ∧
        ∀ b, b < W.heap.size → b ≠ bl → some b ≠ v.ownBlock → Y1.heap[b]? = W.heap[b]? := by
    refine ⟨_, (hg2.block bl (by omega) (by simp; omega)).trans hYbox, hrow2, hg2.os.trans (by rw [hY]; exact hG.os), hg2.tape.trans (by rw [hY]; exact hG.tape), hg2.output.trans (by rw [hY]; exact hG.output), ?_, fun b h1 h2 h3 => ?_⟩
    · have := hg2.size; have := hG.size; omega
    · have hbg : b ≠ g := fun e => by
        rcases hG.new with h | ⟨g', h, hg'⟩
        · exact h3 (by rw [e]; exact h)
        · have : g = g' := Option.some.inj h
          omega
      exact (hg2.block b (by have := hG.size; omega) (by simpa using hbg)).trans ((hYb b h2).trans (hG.block b h1 h3))
  have hS1 := hSk hS (Y' := X1) (hg1.block bi hbX (by simp; omega))
  have hSY := hSk hS (Y' := Y) (hYb bi hbi3)
  have hSY1 := hSk hSY (Y' := Y1) (hg2.block bi (by omega) (by simp; omega))
  have hSe := hSk hS1 (Y' := X1.setCell ⟨bl, 0, none⟩ (.slice (some ⟨g, 0, none⟩) (L.length + 1) cap)) (Below.heap_setCell _ _ _ _ (by simpa using hbi3))
  have hvf1 : X1.frozen? ⟨bl, 0, none⟩ = false := (World.frozen?_of_block (a := ⟨bl, 0, none⟩) (hg1.block bl hblX (by simp; omega))).trans hvf
  have hvc1 : X1.cell? ⟨bl, 0, none⟩ = some v := (World.cell?_of_block (a := ⟨bl, 0, none⟩) (hg1.block bl hblX (by simp; omega))).trans hvc
  subst hY
  refine wpAnyH_ready (rs := [5, 7]) (by kernel_rfl) (by simp) ?_
  refine AllReadyH.cons rfl (fun K hK => ?_) (AllReadyH.cons rfl (fun K hK => ?_) AllReadyH.nil)
  · go_simp
    refine hK.out _ _ hS (fun _ => ?_)
    clear hK K
    simp only [List.setIfInBounds_toArray, List.set_cons_zero, List.set_cons_succ]
    refine wpAnyH_ready (rs := [6, 7]) (by kernel_rfl) (by simp) ?_
    refine AllReadyH.cons rfl (fun K hK => ?_) (AllReadyH.cons rfl (fun K hK => ?_) AllReadyH.nil)
    · rw [if_pos (by rfl)]
      refine wp_store_one _ _ _ rfl ⟨g, L.length * 3, none⟩ _ rfl rfl hr1 ?_
      refine hK.out _ _ hS1 (fun _ => ?_)
      clear hK K
      simp only [Act.put, List.getElem_toArray, List.getElem_cons_succ, List.getElem_cons_zero, List.setIfInBounds_toArray, List.set_cons_zero, List.set_cons_succ]
      refine wpAnyH_ready (rs := [7]) (by kernel_rfl) (by simp) ?_
      refine AllReadyH.cons rfl (fun K hK => ?_) AllReadyH.nil
      go_simp
      refine hK.out _ _ hSe (fun _ => ?_)
      refine wpAnyH_done (by kernel_rfl) ?_ _
      exact hend1
    · go_simp
      refine hK.out _ _ hSY (fun _ => ?_)
      clear hK K
      simp only [List.setIfInBounds_toArray, List.set_cons_zero, List.set_cons_succ]
      refine wpAnyH_ready (rs := [6]) (by kernel_rfl) (by simp) ?_
      refine AllReadyH.cons rfl (fun K hK => ?_) AllReadyH.nil
      rw [if_pos (by rfl)]
      refine wp_store_one _ _ _ rfl ⟨g, L.length * 3, none⟩ _ rfl rfl hr2 ?_
      refine hK.out _ _ hSY1 (fun _ => ?_)
      refine wpAnyH_done (by kernel_rfl) ?_ _
      exact hend2
  · go_simp
    refine hK.out _ _ hSY (fun _ => ?_)
    clear hK K
    simp only [List.setIfInBounds_toArray, List.set_cons_zero, List.set_cons_succ]
    refine wpAnyH_ready (rs := [5]) (by kernel_rfl) (by simp) ?_
    refine AllReadyH.cons rfl (fun K hK => ?_) AllReadyH.nil
    go_simp
    refine hK.out _ _ hSY (fun _ => ?_)
    clear hK K
    simp only [List.setIfInBounds_toArray, List.set_cons_zero, List.set_cons_succ]
    refine wpAnyH_ready (rs := [6]) (by kernel_rfl) (by simp) ?_
    refine AllReadyH.cons rfl (fun K hK => ?_) AllReadyH.nil
    rw [if_pos (by rfl)]
    refine wp_store_one _ _ _ rfl ⟨g, L.length * 3, none⟩ _ rfl rfl hr2 ?_
    refine hK.out _ _ hSY1 (fun _ => ?_)
    refine wpAnyH_done (by kernel_rfl) ?_ _
    exact hend2

theorem wp_append_run {P : Program} {o : Oper} {a : Act} {w w' : World} {K : Act → World → Prop} {Q : Exit → Act → World → Prop} (s x : Operand) (ats : Array TypeId) (ho : o.op = .call { callee := .builtin .append, args := #[s, x], argTypes := ats })
    (v u v' : Value) (hs : a.eval s = v) (hx : a.eval x = u) (hr : (Builtin.append_ ats o.type #[v, u]).run P w = .ok v' w') (h : K (a.put o.dst v') w') : o.wp P a w K Q := by
  unfold Oper.wp execOp
  simp only [ho, resolve, invoke, builtin, Sem.run_bind, Sem.run_pure, Result.andThen_ok, List.map_toArray, List.map_cons, List.map_nil, hs, hx, hr]
  exact h

set_option maxRecDepth 100000 in
set_option maxHeartbeats 8000000 in
theorem list_reg2 (bl bi B : Nat) (L : List (M.It × Value)) (v : Value) (l : Bool) (d : List UInt8) (ys : List M.It) (u : Value) (tb : Nat) (W X : World)
    (t0 t1 t2 t3 t4 t5 t6 t7 t10 t11 t12 t13 t14 t15 t16 t17 t18 t19 t20 t21 t22 t23 t24 t25 t26 t27 t28 t33 t34 t35 : Value) (ops : Array Oper)
    (hcode : Tryd.f39.body.bind (regAt 9) = some (.region 9 ops true)) (hbox : Boxed X bl 22 v) (hrow : ItRow B X L v) (hX : Below W.heap.size W X) (hbl : bl < B) (hB : B ≤ W.heap.size) (hlen : L.length ≤ 600)
    (hbi : bi < W.heap.size) (hbi2 : some bi ≠ v.ownBlock) (hbi3 : bi ≠ bl)
    (htb : ∀ j x, ([.bool false, .string ⟨#[]⟩, .slice none 0 0] : List Value)[j]? = some x → X.cell? ((⟨tb, 0, none⟩ : Addr).add j) = some x)
    (hS : (fun w => w.cell? ⟨bi, 0, none⟩ = some (.bool l) ∧ w.cell? ⟨bi, 1, none⟩ = some (.string ⟨d.toArray⟩) ∧ w.cell? ⟨bi, 2, none⟩ = some u) X) (hu : u.oneCell' = true) (hk : LayS W (fun b => B ≤ b ∧ b < W.heap.size ∧ some b ≠ v.ownBlock) ys u) :
    wpAnyH Tryd.prog .any ops (nrm fun _ U => ∃ v', Boxed U bl 22 v' ∧ ItRow B U (L ++ [(.mk l d ys, u)]) v' ∧ U.os = W.os ∧ U.tape = W.tape ∧ U.output = W.output ∧ W.heap.size ≤ U.heap.size ∧
        ∀ b, b < W.heap.size → b ≠ bl → some b ≠ v.ownBlock → U.heap[b]? = W.heap[b]?) (fun w => w.cell? ⟨bi, 0, none⟩ = some (.bool l) ∧ w.cell? ⟨bi, 1, none⟩ = some (.string ⟨d.toArray⟩) ∧ w.cell? ⟨bi, 2, none⟩ = some u) 4 #[true, true, true, true, false, false, false, false] { tmps := #[t0, t1, t2, t3, t4, t5, t6, t7, .pointer (some ⟨bl, 0, none⟩), .pointer (some ⟨bi, 0, none⟩), t10, t11, t12, t13, t14, t15, t16, t17, t18, t19, t20, t21, t22, t23, t24, t25, t26, t27, t28, v, .agg #[.bool l, .string ⟨d.toArray⟩, u], .int .i64 L.length, .slice (some ⟨tb, 0, none⟩) 1 1, t33, t34, t35], defers := [] } X := by
  obtain ⟨v', X3, hr, hrow3, hg, hnew⟩ := item_append hrow (by have := hX.size; omega) (by omega) 22 ⟨tb, 0, none⟩ 1 false [] [] (.slice none 0 0) htb rfl (.nil_ (by decide))
  have hbv : some bl ≠ v.ownBlock := fun e => by have := (World.ownsRow.lt hrow.own bl e.symm).1; omega
  have hz := hX.size
  have hG : Grown B bl W X3 L v v' := ⟨hrow3, (hg.block bl hbox.lt hbv).trans hbox, hg.os.trans hX.os, hg.tape.trans hX.tape, hg.output.trans hX.output, by have := hg.size; omega,
    fun b h1 h2 => (hg.block b (by omega) h2).trans (hX.block b h1), by rcases hnew with h | h; exact .inl h; exact .inr ⟨_, h, hz⟩⟩
  have hS3 : (fun w => w.cell? ⟨bi, 0, none⟩ = some (.bool l) ∧ w.cell? ⟨bi, 1, none⟩ = some (.string ⟨d.toArray⟩) ∧ w.cell? ⟨bi, 2, none⟩ = some u) X3 := by
    have e := hg.block bi (by omega) hbi2
    exact ⟨(World.cell?_of_block (a := ⟨bi, 0, none⟩) e).trans hS.1, (World.cell?_of_block (a := ⟨bi, 1, none⟩) e).trans hS.2.1, (World.cell?_of_block (a := ⟨bi, 2, none⟩) e).trans hS.2.2⟩
  have HE := list_reg3 bl bi B L v v' l d ys u tb W X3 t0 t1 t2 t3 t4 t5 t6 t7 t10 t11 t12 t13 t14 t15 t16 t17 t18 t19 t20 t21 t22 t23 t24 t25 t26 t27 t28 t34 t35 ops hcode hG hbl hB hlen hbi hbi2 hbi3 hS3 hu hk
  simp only [Tryd.f39, Option.bind_some, regAt, Option.some_or, Option.none_or, if_true, if_false, Nat.reduceEqDiff, Option.some.injEq, Code.region.injEq, true_and, and_true] at hcode
  subst hcode
  refine wpAnyH_ready (rs := [4]) (by kernel_rfl) (by simp) ?_
  refine AllReadyH.cons rfl (fun K hK => ?_) AllReadyH.nil
  rw [if_pos (by rfl)]
  refine wp_append_run _ _ _ rfl _ _ v' rfl rfl hr ?_
  refine hK.out _ _ hS3 (fun _ => ?_)
  clear hK K
  simp only [Act.put, List.getElem_toArray, List.getElem_cons_succ, List.getElem_cons_zero, List.setIfInBounds_toArray, List.set_cons_zero, List.set_cons_succ]
  exact HE

set_option maxRecDepth 100000 in
set_option maxHeartbeats 8000000 in
theorem list_reg (rd m bl bi B : Nat) (L : List (M.It × Value)) (v : Value) (l : Bool) (d : List UInt8) (ys : List M.It) (u : Value) (W : World)
    (t0 t1 t2 t3 t4 t5 t6 t7 t10 t11 t12 t13 t14 t15 t16 t17 t18 t19 t20 t21 t22 t23 t24 t25 t26 t27 t28 t29 t30 t31 t32 t33 t34 t35 : Value) (ops : Array Oper)
    (hcode : Tryd.f39.body.bind (regAt 9) = some (.region 9 ops true))
    (hv : Boxed W bl 22 v) (hx : Box W bi l d u) (hrow : ItRow B W L v) (hbl : bl < B) (hB : B ≤ W.heap.size) (hbi : bi < W.heap.size) (hbi2 : some bi ≠ v.ownBlock) (hbi3 : bi ≠ bl) (hlen : L.length ≤ 600)
    (hu : u.oneCell' = true) (hk : LayS W (fun b => B ≤ b ∧ b < W.heap.size ∧ some b ≠ v.ownBlock) ys u) :
    (Code.region 9 ops true).wpIn (Fence.wide.inRound rd) m Tryd.prog (nrm fun _ U => ∃ v', Boxed U bl 22 v' ∧ ItRow B U (L ++ [(.mk l d ys, u)]) v' ∧ U.os = W.os ∧ U.tape = W.tape ∧ U.output = W.output ∧ W.heap.size ≤ U.heap.size ∧
        ∀ b, b < W.heap.size → b ≠ bl → some b ≠ v.ownBlock → U.heap[b]? = W.heap[b]?)
      { tmps := #[t0, t1, t2, t3, t4, t5, t6, t7, .pointer (some ⟨bl, 0, none⟩), .pointer (some ⟨bi, 0, none⟩), t10, t11, t12, t13, t14, t15, t16, t17, t18, t19, t20, t21, t22, t23, t24, t25, t26, t27, t28, t29, t30, t31, t32, t33, t34, t35], defers := [] } W := by
  have hd0 : Below W.heap.size W W.drew := (Below.refl _ W).drew
  have hS0 : (fun w => w.cell? ⟨bi, 0, none⟩ = some (.bool l) ∧ w.cell? ⟨bi, 1, none⟩ = some (.string ⟨d.toArray⟩) ∧ w.cell? ⟨bi, 2, none⟩ = some u) W.drew := ⟨hx.c0, hx.c1, hx.c2⟩
  obtain ⟨X, hX⟩ : ∃ X, X = (W.alloc (.cells #[.bool false, .string ⟨#[]⟩, .slice none 0 0] 24)).drew := ⟨_, rfl⟩
  have hWX : Below W.heap.size W X := by rw [hX]; exact ((Below.refl _ W).alloc (Nat.le_refl _) _).drew
  have hcX : ∀ b o, b < W.heap.size → X.cell? ⟨b, o, none⟩ = W.cell? ⟨b, o, none⟩ := fun b o h => hWX.cell (p := ⟨b, o, none⟩) h
  have hSX : (fun w => w.cell? ⟨bi, 0, none⟩ = some (.bool l) ∧ w.cell? ⟨bi, 1, none⟩ = some (.string ⟨d.toArray⟩) ∧ w.cell? ⟨bi, 2, none⟩ = some u) X := ⟨(hcX bi 0 hbi).trans hx.c0, (hcX bi 1 hbi).trans hx.c1, (hcX bi 2 hbi).trans hx.c2⟩
  have hboxX : Boxed X bl 22 v := (hWX.block bl hv.lt).trans hv
  have htb : ∀ j x, ([.bool false, .string ⟨#[]⟩, .slice none 0 0] : List Value)[j]? = some x → X.cell? ((⟨W.heap.size, 0, none⟩ : Addr).add j) = some x := by
    intro j x hj
    rw [addr_add, hX]
    match j, hj with
    | 0, hj => cases hj; simp [go_sem]
    | 1, hj => cases hj; simp [go_sem]
    | 2, hj => cases hj; simp [go_sem]
  have HE := list_reg2 bl bi B L v l d ys u W.heap.size W X t0 t1 t2 t3 t4 t5 t6 t7 t10 t11 t12 t13 t14 t15 t16 t17 t18 t19 t20 t21 t22 t23 t24 t25 t26 t27 t28 t33 t34 t35 ops hcode hboxX (hrow.from_ hWX) hWX hbl hB hlen hbi hbi2 hbi3 htb hSX hu hk
  obtain ⟨va, vc, rfl⟩ := hrow.slice
  have hvc := hv.cell
  have hvX : X.cell? ⟨bl, 0, none⟩ = some (.slice va L.length vc) := (hcX bl 0 hv.lt).trans hvc
  simp only [Tryd.f39, Option.bind_some, regAt, Option.some_or, Option.none_or, if_true, if_false, Nat.reduceEqDiff, Option.some.injEq, Code.region.injEq, true_and, and_true] at hcode
  subst hcode
  dsimp only
  refine wpIn_region_any (by kernel_rfl) (wpAny_round (by kernel_rfl) _ _ _ _ ?_)
  refine wpAny_of_held (S := fun w => w.cell? ⟨bi, 0, none⟩ = some (.bool l) ∧ w.cell? ⟨bi, 1, none⟩ = some (.string ⟨d.toArray⟩) ∧ w.cell? ⟨bi, 2, none⟩ = some u) _ _ _ _ ?_
  change wpAnyH _ _ _ _ _ _ _ _ W.drew
  rw [show Array.replicate (Array.size _) false = #[false, false, false, false, false, false, false, false] from rfl, show Array.size (α := Oper) _ = 8 from rfl]
  refine wpAnyH_take (i := 1) (v := .agg #[.bool l, .string ⟨d.toArray⟩, u]) rfl (by kernel_rfl) (by kernel_rfl) (by kernel_rfl) (fun _ _ _ h => h) (Or.inl ⟨by rfl, ?_⟩) hS0 ?_
  · rintro w ⟨h0, h1, h2⟩
    go_simp
  simp only [Act.put, List.getElem_toArray, List.getElem_cons_succ, List.getElem_cons_zero, List.setIfInBounds_toArray, List.set_cons_zero, List.set_cons_succ]
  refine wpAnyH_ready (rs := [0, 3]) (by kernel_rfl) (by simp) ?_
  refine AllReadyH.cons rfl (fun K hK => ?_) (AllReadyH.cons rfl (fun K hK => ?_) AllReadyH.nil)
  · go_simp
    refine hK.out _ _ hS0 (fun _ => ?_)
    clear hK K
    simp only [List.setIfInBounds_toArray, List.set_cons_zero]
    refine wpAnyH_take (i := 2) (v := .int .i64 L.length) rfl (by kernel_rfl) (by kernel_rfl) (by kernel_rfl) (fun _ _ _ h => h) (Or.inl ⟨by rfl, ?_⟩) hS0 ?_
    · rintro w ⟨h0, h1, h2⟩
      go_simp
    simp only [Act.put, List.getElem_toArray, List.getElem_cons_succ, List.getElem_cons_zero, List.setIfInBounds_toArray, List.set_cons_zero, List.set_cons_succ]
    refine wpAnyH_ready (rs := [3]) (by kernel_rfl) (by simp) ?_
    refine AllReadyH.cons rfl (fun K hK => ?_) AllReadyH.nil
    go_simp
    rw [← hX]
    clear hX
    refine hK.out _ _ hSX (fun _ => ?_)
    clear hK K
    simp only [List.setIfInBounds_toArray, List.set_cons_zero, List.set_cons_succ]
    exact HE
  · go_simp
    rw [← hX]
    clear hX
    refine hK.out _ _ hSX (fun _ => ?_)
    clear hK K
    simp only [List.setIfInBounds_toArray, List.set_cons_zero, List.set_cons_succ]
    refine wpAnyH_ready (rs := [0]) (by kernel_rfl) (by simp) ?_
    refine AllReadyH.cons rfl (fun K hK => ?_) AllReadyH.nil
    go_simp
    refine hK.out _ _ hSX (fun _ => ?_)
    clear hK K
    simp only [List.setIfInBounds_toArray, List.set_cons_zero]
    refine wpAnyH_take (i := 2) (v := .int .i64 L.length) rfl (by kernel_rfl) (by kernel_rfl) (by kernel_rfl) (fun _ _ _ h => h) (Or.inl ⟨by rfl, ?_⟩) hSX ?_
    · rintro w ⟨h0, h1, h2⟩
      go_simp
    simp only [Act.put, List.getElem_toArray, List.getElem_cons_succ, List.getElem_cons_zero, List.setIfInBounds_toArray, List.set_cons_zero, List.set_cons_succ]
    exact HE
end Go.Proofs.YtcjhgnepehnjjaaDoor
