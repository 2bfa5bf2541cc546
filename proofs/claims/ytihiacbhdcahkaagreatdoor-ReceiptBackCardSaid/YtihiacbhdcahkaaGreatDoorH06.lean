/- Package tx: is it a transaction: one that is nought but for its kind. Package tx: Check of one that is nought but for its kind, at every kind. Package receipt: is it a kind: it asks the layer of transactions. Package receipt: the head of a kind, and how many parts it may have. Package receipt: the kind that the first byte tells. -/
import Derived.Test.YtihiacbhdcahkaaGreatDoorH05
import Derived.Test.YtihiacbhdcahkaaGreatDoorTXAg
import Derived.Test.YtihiacbhdcahkaaGreatDoorH02
namespace Go.Proofs.YtihiacbhdcahkaaGreatDoor
open Go Go.RowKit Go.Lib Go.Shelf
attribute [local go_sem] Oper.semAt_some

theorem wpList_load_rowg {P : Program} {ops : Array Oper} {rest : List Oper} {o : Oper} {a : Act} {w : World} {Q : Exit → Act → World → Prop} (hw : Region.wanted o (yielded ops a.tmps) = true) (ty : TypeId) (x : Operand) (ho : o.op = .load ty x) (g : Nat) (hx : a.eval x = .pointer (some ⟨g, 0, none⟩)) (c : Array Value)
    (hl : (loadVar ty ⟨g, 0, none⟩).run P w = .ok (.agg c) w) (h : wpList P ops Q rest (a.put o.dst (.agg c)) w) : wpList P ops Q (o :: rest) a w := by
  refine wpList_step fun K hK => ?_
  rw [if_pos hw]
  unfold Oper.wp
  unfold execOp
  simp only [ho, hx, Instr.loadAt, Instr.sureAddr, Sem.run_bind, Sem.run_pure, Result.andThen_ok, hl]
  exact hK _ _ h
set_option maxRecDepth 100000 in
set_option maxHeartbeats 4000000 in
theorem check_no (c : Array Value) (k : Int) (w : World) (_hc : c.size = 36) (h0 : c[0]? = some (.int .i64 k)) (hk : ¬ isKd k)
:
    Calls Tryz.prog 54 #[.agg c] w fun e w' => e = .returned (.int .i64 9) ∧ Below w.heap.size w w' := by
  have mixed : Tryz.prog.follows .mixedOrders = true := by kernel_rfl
  have r0 : (w.alloc (.cells c 93)).heap[w.heap.size]? = some (.cells c 93 (0, 0)) := heap_alloc_new _ _
  have hb0 : Below w.heap.size w (w.alloc (.cells c 93)) := (Below.refl _ _).alloc (Nat.le_refl _) _
  have hlt0 : w.heap.size < (w.alloc (.cells c 93)).heap.size := by simp
  obtain ⟨w0, hw0⟩ : ∃ w0, w.alloc (.cells c 93) = w0 := ⟨_, rfl⟩
  rw [hw0] at r0 hb0 hlt0
  have k0 : w0.cell? ⟨w.heap.size, 0, none⟩ = some (.int .i64 k) := by simp only [World.cell?, r0]; exact h0
  have HW := Lib.hid hw0
  have HK0 := Lib.hid (fun X (_ : Below w0.heap.size w0 X) => kinds_any X)
  clear hw0 h0
  go_enter Tryz.func54, Tryz.ntmps54
  go_wp2_with fail
  rw [HW.out]
  refine wp_region_held (S := fun Y => Below w0.heap.size w0 Y) mixed ?_
  have hS0 : Below w0.heap.size w0 w0.drew := Below.drew (Below.refl _ _)
  rw [show Array.replicate (Array.size _) false = #[false, false, false, false, false, false, false, false, false] from rfl, show Array.size (α := Oper) _ = 9 from rfl]
  refine wpAnyH_take (i := 1) (v := .pointer (some ⟨w.heap.size, 0, none⟩)) rfl (by kernel_rfl) (by kernel_rfl) (by kernel_rfl) (fun _ _ _ h => h) (Or.inl ⟨by rfl, ?_⟩) hS0 ?_
  · intro Y hY
    skip
    go_simp
  simp only [Act.put, List.getElem_toArray, List.getElem_cons_succ, List.getElem_cons_zero, List.setIfInBounds_toArray, List.set_cons_zero, List.set_cons_succ]
  refine wpAnyH_take (i := 2) (v := .int .i64 k) rfl (by kernel_rfl) (by kernel_rfl) (by kernel_rfl) (fun _ _ _ h => h) (Or.inl ⟨by rfl, ?_⟩) hS0 ?_
  · intro Y hY
    have f0 := (hY.cell (p := ⟨w.heap.size, 0, none⟩) hlt0).trans k0
    go_simp
  simp only [Act.put, List.getElem_toArray, List.getElem_cons_succ, List.getElem_cons_zero, List.setIfInBounds_toArray, List.set_cons_zero, List.set_cons_succ]
  refine wpAnyH_ready (rs := [0]) (by kernel_rfl) (by simp) ?_
  refine AllReadyH.cons rfl (fun K hK => ?_) AllReadyH.nil
  go_simp
  refine (HK0.out _ hS0).mono ?_
  rintro e w1 ⟨⟨m, rfl, hTK⟩, hb1⟩
  have hS1 : Below w0.heap.size w0 w1 := hS0.trans (Below.mono hb1 hS0.size)
  have hlook := hTK.miss k hk
  clear hTK
  try go_wp2_with fail
  refine hK.out _ _ hS1 (fun _ => ?_)
  clear hK K
  simp only [List.setIfInBounds_toArray, List.set_cons_zero]
  refine wpAnyH_ready (rs := [3]) (by kernel_rfl) (by simp) ?_
  refine AllReadyH.cons rfl (fun K hK => ?_) AllReadyH.nil
  go_simp
  refine hK.out _ _ hS1 (fun _ => ?_)
  clear hK K
  simp only [List.setIfInBounds_toArray, List.set_cons_zero, List.set_cons_succ]
  refine wpAnyH_ready (rs := [4]) (by kernel_rfl) (by simp) ?_
  refine AllReadyH.cons rfl (fun K hK => ?_) AllReadyH.nil
  go_simp
  refine hK.out _ _ hS1 (fun _ => ?_)
  clear hK K
  simp only [List.setIfInBounds_toArray, List.set_cons_zero, List.set_cons_succ]
  refine wpAnyH_take (i := 5) (v := .slice none 0 0) rfl (by kernel_rfl) (by kernel_rfl) (by kernel_rfl) (fun _ _ _ h => h) (Or.inl ⟨by rfl, ?_⟩) hS1 ?_
  · intro Y hY
    skip
    go_simp
  simp only [Act.put, List.getElem_toArray, List.getElem_cons_succ, List.getElem_cons_zero, List.setIfInBounds_toArray, List.set_cons_zero, List.set_cons_succ]
  refine wpAnyH_take (i := 6) (v := .bool false) rfl (by kernel_rfl) (by kernel_rfl) (by kernel_rfl) (fun _ _ _ h => h) (Or.inl ⟨by rfl, ?_⟩) hS1 ?_
  · intro Y hY
    skip
    go_simp
  simp only [Act.put, List.getElem_toArray, List.getElem_cons_succ, List.getElem_cons_zero, List.setIfInBounds_toArray, List.set_cons_zero, List.set_cons_succ]
  refine wpAnyH_ready (rs := [7]) (by kernel_rfl) (by simp) ?_
  refine AllReadyH.cons rfl (fun K hK => ?_) AllReadyH.nil
  go_simp
  refine hK.out _ _ hS1 (fun _ => ?_)
  clear hK K
  simp only [List.setIfInBounds_toArray, List.set_cons_zero, List.set_cons_succ]
  refine wpAnyH_ready (rs := [8]) (by kernel_rfl) (by simp) ?_
  refine AllReadyH.cons rfl (fun K hK => ?_) AllReadyH.nil
  go_simp
  refine hK.out _ _ hS1 (fun _ => ?_)
  clear hK K
  simp only [List.setIfInBounds_toArray, List.set_cons_zero, List.set_cons_succ]
  refine wpAnyH_done (by kernel_rfl) ?_ _
  go_wp2_with fail
  go_ret
  exact ⟨rfl, hb0.trans (hS1.mono hb0.size)⟩
set_option maxRecDepth 100000 in
set_option maxHeartbeats 4000000 in
theorem check_yes (c : Array Value) (k : Int) (w : World) (hc : c.size = 36) (h0 : c[0]? = some (.int .i64 k)) (hk : isKd k)
    (HM : Hid (∀ (r n : Nat) (W : World), RowOk W.heap.size W r n → n ≤ 13 → Calls Tryz.prog 95 #[rowS r n, .agg c] W fun e w' => (∃ b, e = .returned (.bool b)) ∧ Below W.heap.size W w'))
    (HF : Hid (∀ W, Calls Tryz.prog 96 #[.agg c] W fun e w' => (∃ b, e = .returned (.bool b)) ∧ Below W.heap.size W w'))
    (HT : Hid (∀ W, Calls Tryz.prog 97 #[.agg c] W fun e w' => (∃ b, e = .returned (.bool b)) ∧ Below W.heap.size W w')) :
    Calls Tryz.prog 54 #[.agg c] w fun e w' => (∃ n : Int, e = .returned (.int .i64 n) ∧ n ≠ 9) ∧ Below w.heap.size w w' := by
  have mixed : Tryz.prog.follows .mixedOrders = true := by kernel_rfl
  have r0 : (w.alloc (.cells c 93)).heap[w.heap.size]? = some (.cells c 93 (0, 0)) := heap_alloc_new _ _
  have hb0 : Below w.heap.size w (w.alloc (.cells c 93)) := (Below.refl _ _).alloc (Nat.le_refl _) _
  have hlt0 : w.heap.size < (w.alloc (.cells c 93)).heap.size := by simp
  obtain ⟨w0, hw0⟩ : ∃ w0, w.alloc (.cells c 93) = w0 := ⟨_, rfl⟩
  rw [hw0] at r0 hb0 hlt0
  have k0 : w0.cell? ⟨w.heap.size, 0, none⟩ = some (.int .i64 k) := by simp only [World.cell?, r0]; exact h0
  have HW := Lib.hid hw0
  have HK0 := Lib.hid (fun X (_ : Below w0.heap.size w0 X) => kinds_any X)
  clear hw0 h0
  go_enter Tryz.func54, Tryz.ntmps54
  go_wp2_with fail
  rw [HW.out]
  refine wp_region_held (S := fun Y => Below w0.heap.size w0 Y) mixed ?_
  have hS0 : Below w0.heap.size w0 w0.drew := Below.drew (Below.refl _ _)
  rw [show Array.replicate (Array.size _) false = #[false, false, false, false, false, false, false, false, false] from rfl, show Array.size (α := Oper) _ = 9 from rfl]
  refine wpAnyH_take (i := 1) (v := .pointer (some ⟨w.heap.size, 0, none⟩)) rfl (by kernel_rfl) (by kernel_rfl) (by kernel_rfl) (fun _ _ _ h => h) (Or.inl ⟨by rfl, ?_⟩) hS0 ?_
  · intro Y hY
    skip
    go_simp
  simp only [Act.put, List.getElem_toArray, List.getElem_cons_succ, List.getElem_cons_zero, List.setIfInBounds_toArray, List.set_cons_zero, List.set_cons_succ]
  refine wpAnyH_take (i := 2) (v := .int .i64 k) rfl (by kernel_rfl) (by kernel_rfl) (by kernel_rfl) (fun _ _ _ h => h) (Or.inl ⟨by rfl, ?_⟩) hS0 ?_
  · intro Y hY
    have f0 := (hY.cell (p := ⟨w.heap.size, 0, none⟩) hlt0).trans k0
    go_simp
  simp only [Act.put, List.getElem_toArray, List.getElem_cons_succ, List.getElem_cons_zero, List.setIfInBounds_toArray, List.set_cons_zero, List.set_cons_succ]
  refine wpAnyH_ready (rs := [0]) (by kernel_rfl) (by simp) ?_
  refine AllReadyH.cons rfl (fun K hK => ?_) AllReadyH.nil
  go_simp
  refine (HK0.out _ hS0).mono ?_
  rintro e w1 ⟨⟨m, rfl, hTK⟩, hb1⟩
  have hS1 : Below w0.heap.size w0 w1 := hS0.trans (Below.mono hb1 hS0.size)
  obtain ⟨r, len, hlen, hrow, hlook⟩ := hTK.look k hk
  clear hTK
  try go_wp2_with fail
  refine hK.out _ _ hS1 (fun _ => ?_)
  clear hK K
  simp only [List.setIfInBounds_toArray, List.set_cons_zero]
  refine wpAnyH_ready (rs := [3]) (by kernel_rfl) (by simp) ?_
  refine AllReadyH.cons rfl (fun K hK => ?_) AllReadyH.nil
  go_simp
  refine hK.out _ _ hS1 (fun _ => ?_)
  clear hK K
  simp only [List.setIfInBounds_toArray, List.set_cons_zero, List.set_cons_succ]
  refine wpAnyH_ready (rs := [4]) (by kernel_rfl) (by simp) ?_
  refine AllReadyH.cons rfl (fun K hK => ?_) AllReadyH.nil
  go_simp
  refine hK.out _ _ hS1 (fun _ => ?_)
  clear hK K
  simp only [List.setIfInBounds_toArray, List.set_cons_zero, List.set_cons_succ]
  refine wpAnyH_take (i := 5) (v := rowS r len) rfl (by kernel_rfl) (by kernel_rfl) (by kernel_rfl) (fun _ _ _ h => h) (Or.inl ⟨by rfl, ?_⟩) hS1 ?_
  · intro Y hY
    skip
    go_simp
  simp only [Act.put, List.getElem_toArray, List.getElem_cons_succ, List.getElem_cons_zero, List.setIfInBounds_toArray, List.set_cons_zero, List.set_cons_succ]
  refine wpAnyH_take (i := 6) (v := .bool true) rfl (by kernel_rfl) (by kernel_rfl) (by kernel_rfl) (fun _ _ _ h => h) (Or.inl ⟨by rfl, ?_⟩) hS1 ?_
  · intro Y hY
    skip
    go_simp
  simp only [Act.put, List.getElem_toArray, List.getElem_cons_succ, List.getElem_cons_zero, List.setIfInBounds_toArray, List.set_cons_zero, List.set_cons_succ]
  refine wpAnyH_ready (rs := [7]) (by kernel_rfl) (by simp) ?_
  refine AllReadyH.cons rfl (fun K hK => ?_) AllReadyH.nil
  go_simp
  refine hK.out _ _ hS1 (fun _ => ?_)
  clear hK K
  simp only [List.setIfInBounds_toArray, List.set_cons_zero, List.set_cons_succ]
  refine wpAnyH_ready (rs := [8]) (by kernel_rfl) (by simp) ?_
  refine AllReadyH.cons rfl (fun K hK => ?_) AllReadyH.nil
  go_simp
  refine hK.out _ _ hS1 (fun _ => ?_)
  clear hK K
  simp only [List.setIfInBounds_toArray, List.set_cons_zero, List.set_cons_succ]
  refine wpAnyH_done (by kernel_rfl) ?_ _
  have r1 : w1.heap[w.heap.size]? = some (.cells c 93 (0, 0)) := (hS1.block _ hlt0).trans r0
  have hl1 := run_loadVar_row (P := Tryz.prog) w1 w.heap.size 93 93 c (0, 0) _ r1 Tryz.underlying93 rfl (by rw [Tryz.txSize, hc])
  have hbw1 := hb0.trans (hS1.mono hb0.size)
  go_wp2_with (refine wpList_load_rowg (by first | rfl | simp [Region.wanted, yielded, go_sem]) _ _ rfl _ rfl c hl1 ?_)
  refine (HM.out r len w1 hrow hlen).mono ?_
  rintro e w2 ⟨⟨b1, rfl⟩, hb2⟩
  have r2 : w2.heap[w.heap.size]? = some (.cells c 93 (0, 0)) := (hb2.block _ (Array.getElem?_eq_some_iff.1 r1).1).trans r1
  have hl2 := run_loadVar_row (P := Tryz.prog) w2 w.heap.size 93 93 c (0, 0) _ r2 Tryz.underlying93 rfl (by rw [Tryz.txSize, hc])
  have hbw2 := hbw1.trans (hb2.mono hbw1.size)
  cases b1 with
  | true =>
    go_wp2_with fail
    go_ret
    exact ⟨⟨2, rfl, by decide⟩, hbw2⟩
  | false =>
    go_wp2_with (refine wpList_load_rowg (by first | rfl | simp [Region.wanted, yielded, go_sem]) _ _ rfl _ rfl c hl2 ?_)
    refine (HF.out w2).mono ?_
    rintro e w3 ⟨⟨b2, rfl⟩, hb3⟩
    have r3 : w3.heap[w.heap.size]? = some (.cells c 93 (0, 0)) := (hb3.block _ (Array.getElem?_eq_some_iff.1 r2).1).trans r2
    have hl3 := run_loadVar_row (P := Tryz.prog) w3 w.heap.size 93 93 c (0, 0) _ r3 Tryz.underlying93 rfl (by rw [Tryz.txSize, hc])
    have hbw3 := hbw2.trans (hb3.mono hbw2.size)
    cases b2 with
    | false =>
      go_wp2_with fail
      go_ret
      exact ⟨⟨2, rfl, by decide⟩, hbw3⟩
    | true =>
      go_wp2_with (refine wpList_load_rowg (by first | rfl | simp [Region.wanted, yielded, go_sem]) _ _ rfl _ rfl c hl3 ?_)
      refine (HT.out w3).mono ?_
      rintro e w4 ⟨⟨b3, rfl⟩, hb4⟩
      have hbw4 := hbw3.trans (hb4.mono hbw3.size)
      cases b3 with
      | false =>
        go_wp2_with fail
        go_ret
        exact ⟨⟨0, rfl, by decide⟩, hbw4⟩
      | true =>
        go_wp2_with fail
        go_ret
        exact ⟨⟨5, rfl, by decide⟩, hbw4⟩
end Go.Proofs.YtihiacbhdcahkaaGreatDoor
namespace Go.Proofs.YtihiacbhdcahkaaGreatDoor
open Go Go.RowKit Go.Lib Go.Shelf
attribute [local go_sem] Oper.semAt_some

def ckd (k : Int) : Array Value := #[.int .i64 k, .int .u64 0, .int .u64 0, .int .u64 0, .int .u64 0, .int .u64 0, .int .u64 0, .int .u64 0, .int .u64 0, .int .u64 0, .int .u64 0, .int .u64 0, .string ⟨#[]⟩, .int .u64 0, .int .u64 0, .int .u64 0, .int .u64 0, .string ⟨#[]⟩, .slice none 0 0, .slice none 0 0, .int .u64 0, .int .u64 0, .int .u64 0, .int .u64 0, .int .u64 0, .int .u64 0, .int .u64 0, .int .u64 0, .int .u64 0, .string ⟨#[]⟩, .string ⟨#[]⟩, .int .u64 0, .int .u64 0, .int .u64 0, .int .u64 0, .bool false]
def dkd (k : Int) (v : Int) : Array Value := #[.int .i64 k, .int .u64 0, .int .u64 0, .int .u64 0, .int .u64 0, .int .u64 0, .int .u64 0, .int .u64 0, .int .u64 0, .int .u64 0, .int .u64 0, .int .u64 0, .string ⟨#[]⟩, .int .u64 0, .int .u64 0, .int .u64 0, .int .u64 0, .string ⟨#[]⟩, .slice none 0 0, .slice none 0 0, .int .u64 0, .int .u64 0, .int .u64 0, .int .u64 0, .int .u64 0, .int .u64 0, .int .u64 0, .int .u64 0, .int .u64 0, .string ⟨#[]⟩, .string ⟨#[]⟩, .int .u64 0, .int .u64 0, .int .u64 0, .int .u64 0, .bool false, .int .u64 v]
theorem dkd_all (k v : Int) : (dkd k v).all (·.oneCell') = true := by simp [dkd, Value.oneCell']
theorem dkd_fold (k : Int) : Array.foldl (fun (cs : Array Value) (x : Value × Nat) => cs.setIfInBounds x.snd x.fst) #[.int .i64 0, .int .u64 0, .int .u64 0, .int .u64 0, .int .u64 0, .int .u64 0, .int .u64 0, .int .u64 0, .int .u64 0, .int .u64 0, .int .u64 0, .int .u64 0, .string ⟨#[]⟩, .int .u64 0, .int .u64 0, .int .u64 0, .int .u64 0, .string ⟨#[]⟩, .slice none 0 0, .slice none 0 0, .int .u64 0, .int .u64 0, .int .u64 0, .int .u64 0, .int .u64 0, .int .u64 0, .int .u64 0, .int .u64 0, .int .u64 0, .string ⟨#[]⟩, .string ⟨#[]⟩, .int .u64 0, .int .u64 0, .int .u64 0, .int .u64 0, .bool false, .int .u64 0] (ckd k).zipIdx 0 36 = dkd k 0 := by kernel_rfl
theorem same_any (W : World) : Calls Tryz.prog 171 #[.agg ztx, .agg ztx] W fun e w' => (∃ b, e = .returned (.bool b)) ∧ Below W.heap.size W w' := txSame_nought W
theorem more_n (k : Int) (hk : ¬ k = 0) (r n : Nat) (W : World) (hR : RowOk W.heap.size W r n) (hn : n ≤ 13) : Calls Tryz.prog 95 #[rowS r n, .agg (ckd k)] W fun e w' => (∃ b, e = .returned (.bool b)) ∧ Below W.heap.size W w' :=
  hasMore_any (ckd k) (dkd k 0) 0 r n W rfl rfl (dkd_all k 0) ⟨_, rfl⟩ rfl (Lib.hid (fun X => written_n (ckd k) (dkd k 0) k X hk rfl rfl (dkd_all k 0) (dkd_fold k) rfl)) (Lib.hid same_any) hR hn
theorem more_0 (r n : Nat) (W : World) (hR : RowOk W.heap.size W r n) (hn : n ≤ 13) : Calls Tryz.prog 95 #[rowS r n, .agg (ckd 0)] W fun e w' => (∃ b, e = .returned (.bool b)) ∧ Below W.heap.size W w' :=
  hasMore_any (ckd 0) (dkd 0 27) 27 r n W rfl rfl (dkd_all 0 27) ⟨_, rfl⟩ rfl (Lib.hid (fun X => written_0 (ckd 0) (dkd 0 0) (dkd 0 27) X rfl rfl (dkd_all 0 0) (dkd_fold 0) rfl rfl rfl rfl rfl rfl rfl rfl (dkd_all 0 27))) (Lib.hid same_any) hR hn
theorem check_kd (k : Int) (w : World) (hk : isKd k) : Calls Tryz.prog 54 #[.agg (ckd k)] w fun e w' => (∃ n : Int, e = .returned (.int .i64 n) ∧ n ≠ 9) ∧ Below w.heap.size w w' := by
  have HT : ∀ W, Calls Tryz.prog 97 #[.agg (ckd k)] W fun e w' => (∃ b, e = .returned (.bool b)) ∧ Below W.heap.size W w' :=
    fun W => isTooLong_any (ckd k) k W rfl rfl rfl rfl rfl rfl rfl rfl rfl rfl
  rcases id hk with rfl | rfl | rfl | rfl | rfl
  · exact check_yes _ _ w rfl rfl hk (Lib.hid (fun r n W hR hn => more_0 r n W hR hn)) (Lib.hid (fun W => isFormed_0 (ckd 0) W rfl rfl rfl rfl rfl rfl rfl rfl rfl rfl)) (Lib.hid HT)
  · exact check_yes _ _ w rfl rfl hk (Lib.hid (fun r n W hR hn => more_n 1 (by decide) r n W hR hn)) (Lib.hid (fun W => isFormed_1 (ckd 1) W rfl rfl rfl rfl rfl rfl rfl rfl rfl rfl)) (Lib.hid HT)
  · exact check_yes _ _ w rfl rfl hk (Lib.hid (fun r n W hR hn => more_n 2 (by decide) r n W hR hn)) (Lib.hid (fun W => isFormed_2 (ckd 2) W rfl rfl rfl rfl rfl rfl rfl rfl rfl rfl)) (Lib.hid HT)
  · exact check_yes _ _ w rfl rfl hk (Lib.hid (fun r n W hR hn => more_n 4 (by decide) r n W hR hn)) (Lib.hid (fun W => isFormed_4 (ckd 4) W rfl rfl rfl rfl rfl rfl rfl rfl rfl rfl)) (Lib.hid HT)
  · exact check_yes _ _ w rfl rfl hk (Lib.hid (fun r n W hR hn => more_n 126 (by decide) r n W hR hn)) (Lib.hid (fun W => isFormed_126 (ckd 126) W rfl rfl rfl rfl rfl rfl rfl rfl rfl rfl)) (Lib.hid HT)
theorem check_miss (k : Int) (w : World) (hk : ¬ isKd k) : Calls Tryz.prog 54 #[.agg (ckd k)] w fun e w' => e = .returned (.int .i64 9) ∧ Below w.heap.size w w' := check_no _ k w rfl rfl hk
end Go.Proofs.YtihiacbhdcahkaaGreatDoor
namespace Go.Proofs.YtihiacbhdcahkaaGreatDoor
open Go Go.RowKit Go.Lib Go.Shelf
attribute [local go_sem] Oper.semAt_some

set_option maxRecDepth 100000 in
set_option maxHeartbeats 1000000 in
theorem isKind_yes (k : Int) (w : World) (hk : isKd k) : Calls Tryz.prog 32 #[.int .i64 k] w fun e w' => e = .returned (.bool true) ∧ Below w.heap.size w w' := by
  have H := Lib.hid (check_kd k w hk)
  clear hk
  go_enter Tryz.func32, Tryz.ntmps32
  go_wp2_with fail
  refine H.out.mono ?_
  rintro e w1 ⟨⟨n, rfl, hn⟩, hb⟩
  have hn1 : (n == 9) = false := by simpa using hn
  have hn2 : (n != 9) = true := by simp [hn]
  go_wp2_with fail
  go_ret
  first | exact ⟨rfl, hb⟩ | exact ⟨hn, hb⟩ | (refine ⟨?_, hb⟩; simp [hn, hn1, hn2])
set_option maxRecDepth 100000 in
set_option maxHeartbeats 1000000 in
theorem isKind_no (k : Int) (w : World) (hk : ¬ isKd k) : Calls Tryz.prog 32 #[.int .i64 k] w fun e w' => e = .returned (.bool false) ∧ Below w.heap.size w w' := by
  have H := Lib.hid (check_miss k w hk)
  clear hk
  go_enter Tryz.func32, Tryz.ntmps32
  go_wp2_with fail
  refine H.out.mono ?_
  rintro e w1 ⟨rfl, hb⟩
  go_wp2_with fail
  go_ret
  exact ⟨rfl, hb⟩
instance (k : Int) : Decidable (isKd k) := by unfold isKd; infer_instance
theorem isKind_any (k : Int) (w : World) : Calls Tryz.prog 32 #[.int .i64 k] w fun e w' => e = .returned (.bool (decide (isKd k))) ∧ Below w.heap.size w w' := by
  by_cases hk : isKd k
  · simpa [hk] using isKind_yes k w hk
  · simpa [hk] using isKind_no k w hk
end Go.Proofs.YtihiacbhdcahkaaGreatDoor
namespace Go.Proofs.YtihiacbhdcahkaaGreatDoor
open Go Go.RowKit Go.Lib Go.Shelf
attribute [local go_sem] Oper.semAt_some

theorem rhead_nil (w : World) : Calls Tryz.prog 29 #[.int .i64 0] w fun e w' => e = .returned (.string ⟨#[]⟩) ∧ Below w.heap.size w w' := by
  go_enter Tryz.func29, Tryz.ntmps29
  go_wp2_with fail
  go_ret
  exact ⟨rfl, Below.refl _ _⟩
theorem mostParts_any (k : Int) (w : World) : Calls Tryz.prog 64 #[.int .i64 k] w fun e w' => e = .returned (.int .i64 (if k = 126 then 5 else 3)) ∧ Below w.heap.size w w' := by
  by_cases hk : k = 126
  · subst hk
    go_enter Tryz.func64, Tryz.ntmps64
    go_wp2_with fail
    go_ret
    exact ⟨rfl, Below.refl _ _⟩
  · have hk1 : (k == 126) = false := by simpa using hk
    go_enter Tryz.func64, Tryz.ntmps64
    go_wp2_with fail
    go_ret
    exact ⟨by simp [], Below.refl _ _⟩
set_option maxRecDepth 100000 in
theorem rhead_any (k : Nat) (w : World) (hk : 0 < k) (hk' : k < 256) : Calls Tryz.prog 29 #[.int .i64 k] w fun e w' => e = .returned (.string ⟨#[UInt8.ofNat k]⟩) ∧ Below w.heap.size w w' := by
  have hk0 : ¬ (k : Int) = 0 := by omega
  have hk1 : ((k : Int) == 0) = false := by simpa using hk0
  go_enter Tryz.func29, Tryz.ntmps29
  go_wp2_with fail
  obtain ⟨W, hW⟩ : ∃ W, w.alloc (.cells #[.int .u8 k] 5) = W := ⟨_, rfl⟩
  have r1 : W.heap[w.heap.size]? = some (.cells #[.int .u8 k] 5 (0, 0)) := by rw [← hW]; exact heap_alloc_new _ _
  have hb : Below w.heap.size w W := by rw [← hW]; exact (Below.refl _ _).alloc (Nat.le_refl _) _
  have hcv := conv_at [UInt8.ofNat k] W w.heap.size (fun j hj => by
    have : j = 0 := by simpa using hj
    subst this
    simp only [World.cell?, r1]
    simp [Nat.mod_eq_of_lt hk'])
  rw [List.length_singleton] at hcv
  rw [hW, hcv]
  clear hW
  go_wp2_with fail
  go_ret
  exact ⟨rfl, hb⟩
end Go.Proofs.YtihiacbhdcahkaaGreatDoor
namespace Go.Proofs.YtihiacbhdcahkaaGreatDoor
open Go Go.RowKit Go.Lib Go.Shelf
attribute [local go_sem] Oper.semAt_some

/-- The kind that bytes tell, and the number of what is wrong. -/
def kdOf (s : List UInt8) : Nat × Nat :=
  match s with
  | [] => (0, 3)
  | c :: _ => if 192 ≤ c.toNat then (0, 0) else if c.toNat = 1 ∨ c.toNat = 2 ∨ c.toNat = 4 ∨ c.toNat = 126 then (c.toNat, 0) else (0, 9)
set_option maxRecDepth 100000 in
set_option maxHeartbeats 2000000 in
theorem kindOf_any (s : List UInt8) (w : World) : Calls Tryz.prog 60 #[.string ⟨s.toArray⟩] w fun e w' =>
    e = .returned (.tuple #[.int .i64 ((kdOf s).1 : Nat), .int .i64 ((kdOf s).2 : Nat)]) ∧ Below w.heap.size w w' := by
  cases s with
  | nil =>
    go_enter Tryz.func60, Tryz.ntmps60
    go_wp2_with fail
    exact bodyPost_ret (results_tmp2 rfl _ _ _) rfl ⟨rfl, Below.refl _ _⟩
  | cons c r =>
    have hne : ((⟨(c :: r).toArray⟩ : ByteArray) == ⟨#[]⟩) = false := by rfl
    have hb := wrap_byte c
    have hc := c.toNat_lt
    have hix : ∀ hk : 0 < (⟨(c :: r).toArray⟩ : ByteArray).size, (⟨(c :: r).toArray⟩ : ByteArray)[0]'hk = c := idx_at (by rfl)
    by_cases h1 : 192 ≤ c.toNat
    · have hp : kdOf (c :: r) = (0, 0) := by rw [kdOf, if_pos h1]
      rw [hp]
      have h1' : (192 : Int) ≤ ((c.toNat : Nat) : Int) := by omega
      go_enter Tryz.func60, Tryz.ntmps60
      go_wp2_with fail
      exact bodyPost_ret (results_tmp2 rfl _ _ _) rfl ⟨rfl, Below.refl _ _⟩
    · have h1' : ¬ (192 : Int) ≤ ((c.toNat : Nat) : Int) := by omega
      by_cases h2 : isKd (c.toNat : Nat)
      · have H := Lib.hid (isKind_yes (c.toNat : Nat) w h2)
        by_cases h3 : c.toNat = 0
        · have hp : kdOf (c :: r) = (0, 9) := by rw [kdOf, if_neg h1, if_neg (by omega)]
          rw [hp]
          have H2 := Lib.hid (fun W => rhead_nil W)
          rw [h3] at H
          clear h1 h2
          go_enter Tryz.func60, Tryz.ntmps60
          go_wp2_with fail
          refine H.out.mono ?_
          rintro e W ⟨rfl, hb1⟩
          go_wp2_with fail
          refine (H2.out _).mono ?_
          rintro e W' ⟨rfl, hb2⟩
          go_wp2_with fail
          exact bodyPost_ret (results_tmp2 rfl _ _ _) rfl ⟨rfl, hb1.trans (hb2.mono hb1.size)⟩
        · have hp : kdOf (c :: r) = (c.toNat, 0) := by unfold isKd at h2; rw [kdOf, if_neg h1, if_pos (by omega)]
          rw [hp]
          have H2 := Lib.hid (fun W => rhead_any c.toNat W (by omega) hc)
          clear h1 h2
          have hne2 : ((⟨#[UInt8.ofNat c.toNat]⟩ : ByteArray) == ⟨#[]⟩) = false := by rfl
          go_enter Tryz.func60, Tryz.ntmps60
          go_wp2_with fail
          refine H.out.mono ?_
          rintro e W ⟨rfl, hb1⟩
          go_wp2_with fail
          refine (H2.out _).mono ?_
          rintro e W' ⟨rfl, hb2⟩
          go_wp2_with fail
          exact bodyPost_ret (results_tmp2 rfl _ _ _) rfl ⟨rfl, hb1.trans (hb2.mono hb1.size)⟩
      · have hp : kdOf (c :: r) = (0, 9) := by unfold isKd at h2; rw [kdOf, if_neg h1, if_neg (by omega)]
        rw [hp]
        have H := Lib.hid (isKind_no (c.toNat : Nat) w h2)
        clear h1 h2
        go_enter Tryz.func60, Tryz.ntmps60
        go_wp2_with fail
        refine H.out.mono ?_
        rintro e W ⟨rfl, hb1⟩
        go_wp2_with fail
        exact bodyPost_ret (results_tmp2 rfl _ _ _) rfl ⟨rfl, hb1⟩
end Go.Proofs.YtihiacbhdcahkaaGreatDoor
