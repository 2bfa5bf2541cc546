/- The reference's Texts of layer 6: a list of bytes as an item. -/
import Derived.Test.YtebkmlbpngpmdaaDoorG9g
import Derived.Test.YtebkmlbpngpmdaaDoorI1g
import Derived.Test.YtebkmlbpngpmdaaDoorF0g
import Derived.OrdersHeld
namespace Go.Proofs.YtebkmlbpngpmdaaDoor
open Go Go.RowKit

theorem wp_append_run {P : Program} {o : Oper} {a : Act} {w w' : World} {K : Act → World → Prop} {Q : Exit → Act → World → Prop} (s x : Operand) (ats : Array TypeId) (ho : o.op = .call { callee := .builtin .append, args := #[s, x], argTypes := ats })
    (v u v' : Value) (hs : a.eval s = v) (hx : a.eval x = u) (hr : (Builtin.append_ ats o.type #[v, u]).run P w = .ok v' w') (h : K (a.put o.dst v') w') : o.wp P a w K Q := by
  unfold Oper.wp execOp
  simp only [ho, resolve, invoke, builtin, Sem.run_bind, Sem.run_pure, Result.andThen_ok, List.map_toArray, List.map_cons, List.map_nil, hs, hx, hr]
  exact h

/-- What the rounds keep: the item's box, and the row that its list is. -/
structure TB (B g : Nat) (W0 W : World) (L : List (M.It × Value)) (v : Value) : Prop where
  box : W.heap[g]? = some (.cells #[.bool true, .string ⟨#[]⟩, v] 30 (0, 0))
  row : ItRow B W L v
  below : Below g W0 W

theorem TB.kept {B g : Nat} {W0 W W' : World} {L : List (M.It × Value)} {v : Value} (h : TB B g W0 W L v) (hg : g < W.heap.size) (_hB : B ≤ W.heap.size) (hb : Below W.heap.size W W') : TB B g W0 W' L v :=
  ⟨(hb.block g hg).trans h.box, h.row.from_ hb, h.below.trans (hb.mono (by omega))⟩
theorem TB.cell {B g : Nat} {W0 W : World} {L : List (M.It × Value)} {v : Value} (h : TB B g W0 W L v) : W.cell? ⟨g, 2, none⟩ = some v := by simp [World.cell?, h.box]

/-- A row of bytes, each an item. -/
def tl (ls : List (List UInt8)) : List (M.It × Value) := ls.map fun s => (M.textI s, .slice none 0 0)

set_option maxRecDepth 100000 in
set_option maxHeartbeats 8000000 in
theorem texts_reg2 (g b o B k m tb : Nat) (W0 X : World) (L : List (M.It × Value)) (v t0 t1 t2 t5 t6 t7 t8 t9 t10 t11 t12 t14 t15 t16 t17 t18 t20 t21 t22 : Value) (s : List UInt8) (ops : Array Oper)
    (hcode : Tryd.f17.body.bind (regAt 5) = some (.region 5 ops true)) (hT : TB B g W0 X L v) (hg : g < B) (hB : B ≤ X.heap.size) (hlen : L.length ≤ 600) (hbg : b < g) (hm : m ≤ X.heap.size)
    (hc : (fun w : World => w.cell? ⟨b, o + k, none⟩ = some (.string ⟨s.toArray⟩)) X) (htb : ∀ j x, ([.bool false, .string ⟨s.toArray⟩, .slice none 0 0] : List Value)[j]? = some x → X.cell? ((⟨tb, 0, none⟩ : Addr).add j) = some x) :
    wpAnyH Tryd.prog .any ops (nrm fun a' U => ∃ v' z12 z13 z14 z15 z16 z17 z18 z19 z20 z21, a' = { tmps := #[t0, t1, t2, .pointer (some ⟨g, 0, none⟩), .int .i64 k, t5, t6, t7, t8, t9, t10, t11, z12, z13, z14, z15, z16, z17, z18, z19, z20, z21, t22], defers := [] } ∧ TB B g W0 U (L ++ [(M.textI s, .slice none 0 0)]) v' ∧ m ≤ U.heap.size) (fun w : World => w.cell? ⟨b, o + k, none⟩ = some (.string ⟨s.toArray⟩)) 3 #[true, true, true, true, true, true, true, true, false, false, false] { tmps := #[t0, t1, t2, .pointer (some ⟨g, 0, none⟩), .int .i64 k, t5, t6, t7, t8, t9, t10, t11, t12, v, t14, t15, t16, t17, t18, .slice (some ⟨tb, 0, none⟩) 1 1, t20, t21, t22], defers := [] } X := by
  obtain ⟨v', X3, hr, hrow3, hgr, hnew⟩ := item_append hT.row hB (by omega) 28 ⟨tb, 0, none⟩ 1 false s [] (.slice none 0 0) htb rfl (.nil_ (by decide))
  obtain ⟨va, nn, vc, rfl⟩ : ∃ a n c, v' = .slice a n c := by obtain ⟨a, c, h⟩ := hrow3.slice; exact ⟨a, _, c, h⟩
  have hgX : g < X.heap.size := by omega
  have ownge : ∀ q, q < B → some q ≠ v.ownBlock := fun q hq e => by have := (World.ownsRow.lt hT.row.own q e.symm).1; omega
  have hbox3 : X3.heap[g]? = _ := (hgr.block g hgX (ownge g hg)).trans hT.box
  have hB3 : Below g X X3 := ⟨hgr.os, hgr.tape, hgr.output, hgr.size, fun q hq => hgr.block q (by omega) (ownge q (by omega))⟩
  have hS3 : (fun w : World => w.cell? ⟨b, o + k, none⟩ = some (.string ⟨s.toArray⟩)) X3 := (World.cell?_of_block (a := ⟨b, o + k, none⟩) (hgr.block b (by omega) (ownge b (by omega)))).trans hc
  obtain ⟨⟨_, z0⟩, ⟨_, z1⟩, ⟨_, z2⟩, y0, y1, y2⟩ := cells_three hbox3
  have hset := heap_setCell_same X3 g 2 _ 30 (.slice va nn vc) hbox3
  have hTe : TB B g W0 (X3.setCell ⟨g, 2, none⟩ (.slice va nn vc)) (L ++ [(M.textI s, .slice none 0 0)]) (.slice va nn vc) := ⟨hset, hrow3.setCell ⟨g, 2, none⟩ _ hg, hT.below.trans (hB3.trans ⟨rfl, rfl, rfl, by simp [World.setCell], fun q hq => Below.heap_setCell _ _ _ _ (by simp; omega)⟩)⟩
  have hSe : (fun w : World => w.cell? ⟨b, o + k, none⟩ = some (.string ⟨s.toArray⟩)) (X3.setCell ⟨g, 2, none⟩ (.slice va nn vc)) := (World.cell?_of_block (a := ⟨b, o + k, none⟩) (Below.heap_setCell _ _ _ _ (by simp; omega))).trans hS3
  have hze : m ≤ (X3.setCell ⟨g, 2, none⟩ (.slice va nn vc)).heap.size := by have := hgr.size; simp [World.setCell]; omega
  simp only [Tryd.f17, Option.bind_some, regAt, Option.some_or, Option.none_or, if_true, if_false, Nat.reduceEqDiff, Option.some.injEq, Code.region.injEq, true_and, and_true] at hcode
  subst hcode
  refine wpAnyH_ready (rs := [8]) (by kernel_rfl) (by simp) ?_
  refine AllReadyH.cons rfl (fun K hK => ?_) AllReadyH.nil
  rw [if_pos (by rfl)]
  refine wp_append_run _ _ _ rfl _ _ (.slice va nn vc) rfl rfl hr ?_
  refine hK.out _ _ hS3 (fun _ => ?_)
  clear hK K
  simp only [Act.put, List.getElem_toArray, List.getElem_cons_succ, List.getElem_cons_zero, List.setIfInBounds_toArray, List.set_cons_zero, List.set_cons_succ]
  refine wpAnyH_ready (rs := [9]) (by kernel_rfl) (by simp) ?_
  refine AllReadyH.cons rfl (fun K hK => ?_) AllReadyH.nil
  go_simp
  refine hK.out _ _ hS3 (fun _ => ?_)
  clear hK K
  simp only [List.setIfInBounds_toArray, List.set_cons_zero, List.set_cons_succ]
  refine wpAnyH_ready (rs := [10]) (by kernel_rfl) (by simp) ?_
  refine AllReadyH.cons rfl (fun K hK => ?_) AllReadyH.nil
  go_simp
  refine hK.out _ _ hSe (fun _ => ?_)
  refine wpAnyH_done (by kernel_rfl) ?_ _
  exact ⟨.slice va nn vc, _, _, _, _, _, _, _, _, _, _, rfl, hTe, hze⟩

set_option maxRecDepth 100000 in
set_option maxHeartbeats 8000000 in
theorem texts_reg (g b o B k m : Nat) (W0 W : World) (L : List (M.It × Value)) (v t0 t1 t2 t5 t6 t7 t8 t9 t10 t11 t12 t13 t14 t15 t16 t17 t18 t19 t20 t21 t22 : Value) (s : List UInt8) (n cap : Nat) (ops : Array Oper)
    (ht0 : t0 = .slice (some ⟨b, o, none⟩) n cap) (hk : k < n) (_hk2 : k < 600)
    (hcode : Tryd.f17.body.bind (regAt 5) = some (.region 5 ops true)) (hT : TB B g W0 W L v) (hg : g < B) (hB : B ≤ W.heap.size) (hlen : L.length ≤ 600) (hbg : b < g) (hm : m ≤ W.heap.size)
    (hc : W.cell? ⟨b, o + k, none⟩ = some (.string ⟨s.toArray⟩)) :
    (Code.region 5 ops true).wp Tryd.prog (nrm fun a' U => ∃ v' z12 z13 z14 z15 z16 z17 z18 z19 z20 z21, a' = { tmps := #[t0, t1, t2, .pointer (some ⟨g, 0, none⟩), .int .i64 k, t5, t6, t7, t8, t9, t10, t11, z12, z13, z14, z15, z16, z17, z18, z19, z20, z21, t22], defers := [] } ∧ TB B g W0 U (L ++ [(M.textI s, .slice none 0 0)]) v' ∧ m ≤ U.heap.size)
      { tmps := #[t0, t1, t2, .pointer (some ⟨g, 0, none⟩), .int .i64 k, t5, t6, t7, t8, t9, t10, t11, t12, t13, t14, t15, t16, t17, t18, t19, t20, t21, t22], defers := [] } W := by
  subst ht0
  have hgW : g < W.heap.size := by omega
  obtain ⟨⟨_, z0⟩, ⟨_, z1⟩, _, y0, y1, y2⟩ := cells_three hT.box
  have z2 : W.cell? ⟨g, 2, none⟩ = some v := by simp [World.cell?, hT.box]
  have hk' : ((k : Nat) : Int) < (n : Nat) := by omega
  simp only [Tryd.f17, Option.bind_some, regAt, Option.some_or, Option.none_or, if_true, if_false, Nat.reduceEqDiff, Option.some.injEq, Code.region.injEq, true_and, and_true] at hcode
  subst hcode
  refine wp_region_held (S := fun w => w.cell? ⟨b, o + k, none⟩ = some (.string ⟨s.toArray⟩)) (by kernel_rfl) ?_
  change wpAnyH _ _ _ _ _ _ _ _ W.drew
  rw [show Array.replicate (Array.size _) false = #[false, false, false, false, false, false, false, false, false, false, false] from rfl, show Array.size (α := Oper) _ = 11 from rfl]
  have hS0 : (fun w : World => w.cell? ⟨b, o + k, none⟩ = some (.string ⟨s.toArray⟩)) W.drew := hc
  refine wpAnyH_take (i := 0) (v := .pointer (some ⟨g, 2, none⟩)) rfl (by kernel_rfl) (by kernel_rfl) (by kernel_rfl) (fun _ _ _ h => h) (Or.inl ⟨by rfl, ?_⟩) hS0 ?_
  · intro w hw
    go_simp
  simp only [Act.put, List.getElem_toArray, List.getElem_cons_zero, List.setIfInBounds_toArray, List.set_cons_zero, List.set_cons_succ]
  refine wpAnyH_take (i := 2) (v := .slice (some ⟨b, o, none⟩) n cap) rfl (by kernel_rfl) (by kernel_rfl) (by kernel_rfl) (fun _ _ _ h => h) (Or.inl ⟨by rfl, ?_⟩) hS0 ?_
  · intro w hw
    go_simp
  simp only [Act.put, List.getElem_toArray, List.getElem_cons_succ, List.getElem_cons_zero, List.setIfInBounds_toArray, List.set_cons_zero, List.set_cons_succ]
  refine wpAnyH_take (i := 3) (v := .int .i64 k) rfl (by kernel_rfl) (by kernel_rfl) (by kernel_rfl) (fun _ _ _ h => h) (Or.inl ⟨by rfl, ?_⟩) hS0 ?_
  · intro w hw
    go_simp
  simp only [Act.put, List.getElem_toArray, List.getElem_cons_succ, List.getElem_cons_zero, List.setIfInBounds_toArray, List.set_cons_zero, List.set_cons_succ]
  refine wpAnyH_take (i := 4) (v := .pointer (some ⟨b, o + k, none⟩)) rfl (by kernel_rfl) (by kernel_rfl) (by kernel_rfl) (fun _ _ _ h => h) (Or.inl ⟨by rfl, ?_⟩) hS0 ?_
  · intro w hw
    go_simp
  simp only [Act.put, List.getElem_toArray, List.getElem_cons_succ, List.getElem_cons_zero, List.setIfInBounds_toArray, List.set_cons_zero, List.set_cons_succ]
  refine wpAnyH_take (i := 5) (v := .string ⟨s.toArray⟩) rfl (by kernel_rfl) (by kernel_rfl) (by kernel_rfl) (fun _ _ _ h => h) (Or.inl ⟨by rfl, ?_⟩) hS0 ?_
  · intro w hw
    go_simp
  simp only [Act.put, List.getElem_toArray, List.getElem_cons_succ, List.getElem_cons_zero, List.setIfInBounds_toArray, List.set_cons_zero, List.set_cons_succ]
  refine wpAnyH_ready (rs := [1, 6]) (by kernel_rfl) (by simp) ?_
  refine AllReadyH.cons rfl (fun K hK => ?_) (AllReadyH.cons rfl (fun K hK => ?_) AllReadyH.nil)
  · go_simp
    refine hK.out _ _ hS0 (fun _ => ?_)
    clear hK K
    simp only [List.setIfInBounds_toArray, List.set_cons_zero, List.set_cons_succ]
    refine wpAnyH_ready (rs := [6]) (by kernel_rfl) (by simp) ?_
    refine AllReadyH.cons rfl (fun K hK => ?_) AllReadyH.nil
    go_simp
    refine (rf_text s _).mono ?_
    rintro e w1 ⟨rfl, hb1'⟩
    have hb1 : Below W.heap.size W w1 := (Below.refl _ W).drew.trans hb1'
    clear hb1'
    have hS1 : (fun w : World => w.cell? ⟨b, o + k, none⟩ = some (.string ⟨s.toArray⟩)) w1 := (hb1.cell (p := ⟨b, o + k, none⟩) (by show b < _; omega)).trans hc
    have hT1 : TB B g W0 w1 L v := hT.kept hgW hB hb1
    have hz1 : W.heap.size ≤ w1.heap.size := hb1.size
    try go_wp2_with fail
    refine hK.out _ _ hS1 (fun _ => ?_)
    clear hK K
    simp only [List.setIfInBounds_toArray, List.set_cons_zero, List.set_cons_succ]
    refine wpAnyH_ready (rs := [7]) (by kernel_rfl) (by simp) ?_
    refine AllReadyH.cons rfl (fun K hK => ?_) AllReadyH.nil
    go_simp
    have hX : (fun w : World => w.cell? ⟨b, o + k, none⟩ = some (.string ⟨s.toArray⟩)) (w1.alloc (.cells #[.bool false, .string ⟨s.toArray⟩, .slice none 0 0] 30)) := (((Below.refl _ w1).alloc (Nat.le_refl _) _).cell (p := ⟨b, o + k, none⟩) (by show b < _; omega)).trans hS1
    have htb : ∀ j x, ([.bool false, .string ⟨s.toArray⟩, .slice none 0 0] : List Value)[j]? = some x → (w1.alloc (.cells #[.bool false, .string ⟨s.toArray⟩, .slice none 0 0] 30)).cell? ((⟨w1.heap.size, 0, none⟩ : Addr).add j) = some x := by
      intro j x hj
      rw [addr_add]
      match j, hj with
      | 0, hj => cases hj; simp [go_sem]
      | 1, hj => cases hj; simp [go_sem]
      | 2, hj => cases hj; simp [go_sem]
    have hTX : TB B g W0 (w1.alloc (.cells #[.bool false, .string ⟨s.toArray⟩, .slice none 0 0] 30)) L v := hT1.kept (by omega) (by omega) ((Below.refl _ w1).alloc (Nat.le_refl _) _)
    refine hK.out _ _ hX (fun _ => ?_)
    clear hK K
    simp only [List.setIfInBounds_toArray, List.set_cons_zero, List.set_cons_succ]
    exact texts_reg2 g b o B k m _ W0 _ L v _ _ _ _ _ _ _ _ _ _ _ _ _ _ _ _ _ _ _ s _ (by kernel_rfl) hTX hg (by simp; omega) hlen hbg (by simp; omega) hX htb
  · go_simp
    refine (rf_text s _).mono ?_
    rintro e w1 ⟨rfl, hb1'⟩
    have hb1 : Below W.heap.size W w1 := (Below.refl _ W).drew.trans hb1'
    clear hb1'
    have hS1 : (fun w : World => w.cell? ⟨b, o + k, none⟩ = some (.string ⟨s.toArray⟩)) w1 := (hb1.cell (p := ⟨b, o + k, none⟩) (by show b < _; omega)).trans hc
    have hT1 : TB B g W0 w1 L v := hT.kept hgW hB hb1
    have hz1 : W.heap.size ≤ w1.heap.size := hb1.size
    try go_wp2_with fail
    refine hK.out _ _ hS1 (fun _ => ?_)
    clear hK K
    simp only [List.setIfInBounds_toArray, List.set_cons_zero, List.set_cons_succ]
    refine wpAnyH_ready (rs := [1, 7]) (by kernel_rfl) (by simp) ?_
    refine AllReadyH.cons rfl (fun K hK => ?_) (AllReadyH.cons rfl (fun K hK => ?_) AllReadyH.nil)
    · have z2' := hT1.cell
      go_simp
      refine hK.out _ _ hS1 (fun _ => ?_)
      clear hK K
      simp only [List.setIfInBounds_toArray, List.set_cons_zero, List.set_cons_succ]
      refine wpAnyH_ready (rs := [7]) (by kernel_rfl) (by simp) ?_
      refine AllReadyH.cons rfl (fun K hK => ?_) AllReadyH.nil
      go_simp
      have hX : (fun w : World => w.cell? ⟨b, o + k, none⟩ = some (.string ⟨s.toArray⟩)) (w1.alloc (.cells #[.bool false, .string ⟨s.toArray⟩, .slice none 0 0] 30)) := (((Below.refl _ w1).alloc (Nat.le_refl _) _).cell (p := ⟨b, o + k, none⟩) (by show b < _; omega)).trans hS1
      have htb : ∀ j x, ([.bool false, .string ⟨s.toArray⟩, .slice none 0 0] : List Value)[j]? = some x → (w1.alloc (.cells #[.bool false, .string ⟨s.toArray⟩, .slice none 0 0] 30)).cell? ((⟨w1.heap.size, 0, none⟩ : Addr).add j) = some x := by
        intro j x hj
        rw [addr_add]
        match j, hj with
        | 0, hj => cases hj; simp [go_sem]
        | 1, hj => cases hj; simp [go_sem]
        | 2, hj => cases hj; simp [go_sem]
      have hTX : TB B g W0 (w1.alloc (.cells #[.bool false, .string ⟨s.toArray⟩, .slice none 0 0] 30)) L v := hT1.kept (by omega) (by omega) ((Below.refl _ w1).alloc (Nat.le_refl _) _)
      refine hK.out _ _ hX (fun _ => ?_)
      clear hK K
      simp only [List.setIfInBounds_toArray, List.set_cons_zero, List.set_cons_succ]
      exact texts_reg2 g b o B k m _ W0 _ L v _ _ _ _ _ _ _ _ _ _ _ _ _ _ _ _ _ _ _ s _ (by kernel_rfl) hTX hg (by simp; omega) hlen hbg (by simp; omega) hX htb
    · go_simp
      have hX : (fun w : World => w.cell? ⟨b, o + k, none⟩ = some (.string ⟨s.toArray⟩)) (w1.alloc (.cells #[.bool false, .string ⟨s.toArray⟩, .slice none 0 0] 30)) := (((Below.refl _ w1).alloc (Nat.le_refl _) _).cell (p := ⟨b, o + k, none⟩) (by show b < _; omega)).trans hS1
      have htb : ∀ j x, ([.bool false, .string ⟨s.toArray⟩, .slice none 0 0] : List Value)[j]? = some x → (w1.alloc (.cells #[.bool false, .string ⟨s.toArray⟩, .slice none 0 0] 30)).cell? ((⟨w1.heap.size, 0, none⟩ : Addr).add j) = some x := by
        intro j x hj
        rw [addr_add]
        match j, hj with
        | 0, hj => cases hj; simp [go_sem]
        | 1, hj => cases hj; simp [go_sem]
        | 2, hj => cases hj; simp [go_sem]
      have hTX : TB B g W0 (w1.alloc (.cells #[.bool false, .string ⟨s.toArray⟩, .slice none 0 0] 30)) L v := hT1.kept (by omega) (by omega) ((Below.refl _ w1).alloc (Nat.le_refl _) _)
      refine hK.out _ _ hX (fun _ => ?_)
      clear hK K
      simp only [List.setIfInBounds_toArray, List.set_cons_zero, List.set_cons_succ]
      refine wpAnyH_ready (rs := [1]) (by kernel_rfl) (by simp) ?_
      refine AllReadyH.cons rfl (fun K hK => ?_) AllReadyH.nil
      have z2' := hTX.cell
      go_simp
      refine hK.out _ _ hX (fun _ => ?_)
      clear hK K
      simp only [List.setIfInBounds_toArray, List.set_cons_zero, List.set_cons_succ]
      exact texts_reg2 g b o B k m _ W0 _ L v _ _ _ _ _ _ _ _ _ _ _ _ _ _ _ _ _ _ _ s _ (by kernel_rfl) hTX hg (by simp; omega) hlen hbg (by simp; omega) hX htb
end Go.Proofs.YtebkmlbpngpmdaaDoor
