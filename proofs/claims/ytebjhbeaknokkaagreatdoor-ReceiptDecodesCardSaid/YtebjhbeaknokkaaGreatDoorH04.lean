/- Package tx: two transactions that are nought. Package tx: is it a transaction: one that is nought but for its kind. Package tx: Check of one that is nought but for its kind, at every kind. Package receipt: is it a kind: it asks the layer of transactions. Package receipt: the head of a kind, and how many parts it may have. -/
import Derived.Test.YtebjhbeaknokkaaGreatDoorH03
import Derived.Test.YtebjhbeaknokkaaGreatDoorH01
namespace Go.Proofs.YtebjhbeaknokkaaGreatDoor
open Go Go.RowKit Go.Lib Go.Shelf
attribute [local go_sem] Oper.semAt_some

theorem word_noughts (W : World) : (Op.equalIn 10000 88 (.agg #[.int .u64 0, .int .u64 0, .int .u64 0, .int .u64 0]) (.agg #[.int .u64 0, .int .u64 0, .int .u64 0, .int .u64 0])).run Tryz.prog W = .ok true W := by kernel_rfl
set_option maxRecDepth 100000 in
theorem equalA_nil (g : FuncId) (w : World) : Calls Tryz.prog 240 #[.slice none 0 0, .slice none 0 0, .func (.func g) #[] #[]] w fun e w' => e = .returned (.bool true) ∧ w = w' := by
  go_enter Tryz.func240, Tryz.ntmps240
  go_wp2_with fail
  refine wp_loop_rounds 1 ?_
  rw [rounds_succ]
  go_wp2_with fail
  go_ret
  exact ⟨rfl, rfl⟩
set_option maxRecDepth 100000 in
theorem equalU_nil (w : World) : Calls Tryz.prog 242 #[.slice none 0 0, .slice none 0 0] w fun e w' => e = .returned (.bool true) ∧ w = w' := by
  go_enter Tryz.func242, Tryz.ntmps242
  go_wp2_with fail
  refine wp_loop_rounds 1 ?_
  rw [rounds_succ]
  go_wp2_with fail
  go_ret
  exact ⟨rfl, rfl⟩
set_option maxRecDepth 100000 in
set_option maxHeartbeats 8000000 in
theorem txSame_nought (w : World) : Calls Tryz.prog 168 #[.agg ztx, .agg ztx] w fun e w' => (∃ b, e = .returned (.bool b)) ∧ Below w.heap.size w w' := by
  have hz : ztx.size = 36 := rfl
  obtain ⟨zt, hzt⟩ : ∃ zt, ztx = zt := ⟨_, rfl⟩
  have g : ∀ (i : Nat) (v : Value), ztx[i]? = some v → zt[i]? = some v := fun i v h => by rw [← hzt]; exact h
  have h0 : zt[0]? = some (.int .i64 0) := g 0 _ rfl
  have h1 : zt[1]? = some (.int .u64 0) := g 1 _ rfl
  have h2 : zt[2]? = some (.int .u64 0) := g 2 _ rfl
  have h3 : zt[3]? = some (.int .u64 0) := g 3 _ rfl
  have h4 : zt[4]? = some (.int .u64 0) := g 4 _ rfl
  have h5 : zt[5]? = some (.int .u64 0) := g 5 _ rfl
  have h6 : zt[6]? = some (.int .u64 0) := g 6 _ rfl
  have h7 : zt[7]? = some (.int .u64 0) := g 7 _ rfl
  have h8 : zt[8]? = some (.int .u64 0) := g 8 _ rfl
  have h9 : zt[9]? = some (.int .u64 0) := g 9 _ rfl
  have h10 : zt[10]? = some (.int .u64 0) := g 10 _ rfl
  have h11 : zt[11]? = some (.int .u64 0) := g 11 _ rfl
  have h12 : zt[12]? = some (.string ⟨#[]⟩) := g 12 _ rfl
  have h13 : zt[13]? = some (.int .u64 0) := g 13 _ rfl
  have h14 : zt[14]? = some (.int .u64 0) := g 14 _ rfl
  have h15 : zt[15]? = some (.int .u64 0) := g 15 _ rfl
  have h16 : zt[16]? = some (.int .u64 0) := g 16 _ rfl
  have h17 : zt[17]? = some (.string ⟨#[]⟩) := g 17 _ rfl
  have h18 : zt[18]? = some (.slice none 0 0) := g 18 _ rfl
  have h19 : zt[19]? = some (.slice none 0 0) := g 19 _ rfl
  have h20 : zt[20]? = some (.int .u64 0) := g 20 _ rfl
  have h21 : zt[21]? = some (.int .u64 0) := g 21 _ rfl
  have h22 : zt[22]? = some (.int .u64 0) := g 22 _ rfl
  have h23 : zt[23]? = some (.int .u64 0) := g 23 _ rfl
  have h24 : zt[24]? = some (.int .u64 0) := g 24 _ rfl
  have h25 : zt[25]? = some (.int .u64 0) := g 25 _ rfl
  have h26 : zt[26]? = some (.int .u64 0) := g 26 _ rfl
  have h27 : zt[27]? = some (.int .u64 0) := g 27 _ rfl
  have h28 : zt[28]? = some (.int .u64 0) := g 28 _ rfl
  have h29 : zt[29]? = some (.string ⟨#[]⟩) := g 29 _ rfl
  have h30 : zt[30]? = some (.string ⟨#[]⟩) := g 30 _ rfl
  have h31 : zt[31]? = some (.int .u64 0) := g 31 _ rfl
  have h32 : zt[32]? = some (.int .u64 0) := g 32 _ rfl
  have h33 : zt[33]? = some (.int .u64 0) := g 33 _ rfl
  have h34 : zt[34]? = some (.int .u64 0) := g 34 _ rfl
  have h35 : zt[35]? = some (.bool false) := g 35 _ rfl
  rw [hzt] at hz ⊢
  clear g hzt
  have r1 : ((w.alloc (.cells zt 92)).alloc (.cells zt 92)).heap[w.heap.size]? = some (.cells zt 92 (0, 0)) := (Below.heap_alloc _ _ _ (by simp)).trans (heap_alloc_new _ _)
  have r2 : ((w.alloc (.cells zt 92)).alloc (.cells zt 92)).heap[w.heap.size + 1]? = some (.cells zt 92 (0, 0)) := by
    rw [show w.heap.size + 1 = (w.alloc (.cells zt 92)).heap.size by simp]
    exact heap_alloc_new _ _
  have hbW : Below w.heap.size w ((w.alloc (.cells zt 92)).alloc (.cells zt 92)) := ((Below.refl _ _).alloc (Nat.le_refl _) _).alloc (by simp) _
  obtain ⟨W, hW⟩ : ∃ W, ((w.alloc (.cells zt 92)).alloc (.cells zt 92)) = W := ⟨_, rfl⟩
  rw [hW] at r1 r2 hbW
  have HW := Lib.hid hW
  clear hW
  have a0 : W.cell? ⟨w.heap.size, 0, none⟩ = some (.int .i64 0) := by simp only [World.cell?, r1]; exact h0
  have b0 : W.cell? ⟨w.heap.size + 1, 0, none⟩ = some (.int .i64 0) := by simp only [World.cell?, r2]; exact h0
  have a1 : W.cell? ⟨w.heap.size, 1, none⟩ = some (.int .u64 0) := by simp only [World.cell?, r1]; exact h1
  have b1 : W.cell? ⟨w.heap.size + 1, 1, none⟩ = some (.int .u64 0) := by simp only [World.cell?, r2]; exact h1
  have a2 : W.cell? ⟨w.heap.size, 2, none⟩ = some (.int .u64 0) := by simp only [World.cell?, r1]; exact h2
  have b2 : W.cell? ⟨w.heap.size + 1, 2, none⟩ = some (.int .u64 0) := by simp only [World.cell?, r2]; exact h2
  have a3 : W.cell? ⟨w.heap.size, 3, none⟩ = some (.int .u64 0) := by simp only [World.cell?, r1]; exact h3
  have b3 : W.cell? ⟨w.heap.size + 1, 3, none⟩ = some (.int .u64 0) := by simp only [World.cell?, r2]; exact h3
  have a4 : W.cell? ⟨w.heap.size, 4, none⟩ = some (.int .u64 0) := by simp only [World.cell?, r1]; exact h4
  have b4 : W.cell? ⟨w.heap.size + 1, 4, none⟩ = some (.int .u64 0) := by simp only [World.cell?, r2]; exact h4
  have a5 : W.cell? ⟨w.heap.size, 5, none⟩ = some (.int .u64 0) := by simp only [World.cell?, r1]; exact h5
  have b5 : W.cell? ⟨w.heap.size + 1, 5, none⟩ = some (.int .u64 0) := by simp only [World.cell?, r2]; exact h5
  have a6 : W.cell? ⟨w.heap.size, 6, none⟩ = some (.int .u64 0) := by simp only [World.cell?, r1]; exact h6
  have b6 : W.cell? ⟨w.heap.size + 1, 6, none⟩ = some (.int .u64 0) := by simp only [World.cell?, r2]; exact h6
  have a7 : W.cell? ⟨w.heap.size, 7, none⟩ = some (.int .u64 0) := by simp only [World.cell?, r1]; exact h7
  have b7 : W.cell? ⟨w.heap.size + 1, 7, none⟩ = some (.int .u64 0) := by simp only [World.cell?, r2]; exact h7
  have a8 : W.cell? ⟨w.heap.size, 8, none⟩ = some (.int .u64 0) := by simp only [World.cell?, r1]; exact h8
  have b8 : W.cell? ⟨w.heap.size + 1, 8, none⟩ = some (.int .u64 0) := by simp only [World.cell?, r2]; exact h8
  have a9 : W.cell? ⟨w.heap.size, 9, none⟩ = some (.int .u64 0) := by simp only [World.cell?, r1]; exact h9
  have b9 : W.cell? ⟨w.heap.size + 1, 9, none⟩ = some (.int .u64 0) := by simp only [World.cell?, r2]; exact h9
  have a10 : W.cell? ⟨w.heap.size, 10, none⟩ = some (.int .u64 0) := by simp only [World.cell?, r1]; exact h10
  have b10 : W.cell? ⟨w.heap.size + 1, 10, none⟩ = some (.int .u64 0) := by simp only [World.cell?, r2]; exact h10
  have a11 : W.cell? ⟨w.heap.size, 11, none⟩ = some (.int .u64 0) := by simp only [World.cell?, r1]; exact h11
  have b11 : W.cell? ⟨w.heap.size + 1, 11, none⟩ = some (.int .u64 0) := by simp only [World.cell?, r2]; exact h11
  have a12 : W.cell? ⟨w.heap.size, 12, none⟩ = some (.string ⟨#[]⟩) := by simp only [World.cell?, r1]; exact h12
  have b12 : W.cell? ⟨w.heap.size + 1, 12, none⟩ = some (.string ⟨#[]⟩) := by simp only [World.cell?, r2]; exact h12
  have a13 : W.cell? ⟨w.heap.size, 13, none⟩ = some (.int .u64 0) := by simp only [World.cell?, r1]; exact h13
  have b13 : W.cell? ⟨w.heap.size + 1, 13, none⟩ = some (.int .u64 0) := by simp only [World.cell?, r2]; exact h13
  have a14 : W.cell? ⟨w.heap.size, 14, none⟩ = some (.int .u64 0) := by simp only [World.cell?, r1]; exact h14
  have b14 : W.cell? ⟨w.heap.size + 1, 14, none⟩ = some (.int .u64 0) := by simp only [World.cell?, r2]; exact h14
  have a15 : W.cell? ⟨w.heap.size, 15, none⟩ = some (.int .u64 0) := by simp only [World.cell?, r1]; exact h15
  have b15 : W.cell? ⟨w.heap.size + 1, 15, none⟩ = some (.int .u64 0) := by simp only [World.cell?, r2]; exact h15
  have a16 : W.cell? ⟨w.heap.size, 16, none⟩ = some (.int .u64 0) := by simp only [World.cell?, r1]; exact h16
  have b16 : W.cell? ⟨w.heap.size + 1, 16, none⟩ = some (.int .u64 0) := by simp only [World.cell?, r2]; exact h16
  have a17 : W.cell? ⟨w.heap.size, 17, none⟩ = some (.string ⟨#[]⟩) := by simp only [World.cell?, r1]; exact h17
  have b17 : W.cell? ⟨w.heap.size + 1, 17, none⟩ = some (.string ⟨#[]⟩) := by simp only [World.cell?, r2]; exact h17
  have a18 : W.cell? ⟨w.heap.size, 18, none⟩ = some (.slice none 0 0) := by simp only [World.cell?, r1]; exact h18
  have b18 : W.cell? ⟨w.heap.size + 1, 18, none⟩ = some (.slice none 0 0) := by simp only [World.cell?, r2]; exact h18
  have a19 : W.cell? ⟨w.heap.size, 19, none⟩ = some (.slice none 0 0) := by simp only [World.cell?, r1]; exact h19
  have b19 : W.cell? ⟨w.heap.size + 1, 19, none⟩ = some (.slice none 0 0) := by simp only [World.cell?, r2]; exact h19
  have a20 : W.cell? ⟨w.heap.size, 20, none⟩ = some (.int .u64 0) := by simp only [World.cell?, r1]; exact h20
  have b20 : W.cell? ⟨w.heap.size + 1, 20, none⟩ = some (.int .u64 0) := by simp only [World.cell?, r2]; exact h20
  have a21 : W.cell? ⟨w.heap.size, 21, none⟩ = some (.int .u64 0) := by simp only [World.cell?, r1]; exact h21
  have b21 : W.cell? ⟨w.heap.size + 1, 21, none⟩ = some (.int .u64 0) := by simp only [World.cell?, r2]; exact h21
  have a22 : W.cell? ⟨w.heap.size, 22, none⟩ = some (.int .u64 0) := by simp only [World.cell?, r1]; exact h22
  have b22 : W.cell? ⟨w.heap.size + 1, 22, none⟩ = some (.int .u64 0) := by simp only [World.cell?, r2]; exact h22
  have a23 : W.cell? ⟨w.heap.size, 23, none⟩ = some (.int .u64 0) := by simp only [World.cell?, r1]; exact h23
  have b23 : W.cell? ⟨w.heap.size + 1, 23, none⟩ = some (.int .u64 0) := by simp only [World.cell?, r2]; exact h23
  have a24 : W.cell? ⟨w.heap.size, 24, none⟩ = some (.int .u64 0) := by simp only [World.cell?, r1]; exact h24
  have b24 : W.cell? ⟨w.heap.size + 1, 24, none⟩ = some (.int .u64 0) := by simp only [World.cell?, r2]; exact h24
  have a25 : W.cell? ⟨w.heap.size, 25, none⟩ = some (.int .u64 0) := by simp only [World.cell?, r1]; exact h25
  have b25 : W.cell? ⟨w.heap.size + 1, 25, none⟩ = some (.int .u64 0) := by simp only [World.cell?, r2]; exact h25
  have a26 : W.cell? ⟨w.heap.size, 26, none⟩ = some (.int .u64 0) := by simp only [World.cell?, r1]; exact h26
  have b26 : W.cell? ⟨w.heap.size + 1, 26, none⟩ = some (.int .u64 0) := by simp only [World.cell?, r2]; exact h26
  have a27 : W.cell? ⟨w.heap.size, 27, none⟩ = some (.int .u64 0) := by simp only [World.cell?, r1]; exact h27
  have b27 : W.cell? ⟨w.heap.size + 1, 27, none⟩ = some (.int .u64 0) := by simp only [World.cell?, r2]; exact h27
  have a28 : W.cell? ⟨w.heap.size, 28, none⟩ = some (.int .u64 0) := by simp only [World.cell?, r1]; exact h28
  have b28 : W.cell? ⟨w.heap.size + 1, 28, none⟩ = some (.int .u64 0) := by simp only [World.cell?, r2]; exact h28
  have a29 : W.cell? ⟨w.heap.size, 29, none⟩ = some (.string ⟨#[]⟩) := by simp only [World.cell?, r1]; exact h29
  have b29 : W.cell? ⟨w.heap.size + 1, 29, none⟩ = some (.string ⟨#[]⟩) := by simp only [World.cell?, r2]; exact h29
  have a30 : W.cell? ⟨w.heap.size, 30, none⟩ = some (.string ⟨#[]⟩) := by simp only [World.cell?, r1]; exact h30
  have b30 : W.cell? ⟨w.heap.size + 1, 30, none⟩ = some (.string ⟨#[]⟩) := by simp only [World.cell?, r2]; exact h30
  have a31 : W.cell? ⟨w.heap.size, 31, none⟩ = some (.int .u64 0) := by simp only [World.cell?, r1]; exact h31
  have b31 : W.cell? ⟨w.heap.size + 1, 31, none⟩ = some (.int .u64 0) := by simp only [World.cell?, r2]; exact h31
  have a32 : W.cell? ⟨w.heap.size, 32, none⟩ = some (.int .u64 0) := by simp only [World.cell?, r1]; exact h32
  have b32 : W.cell? ⟨w.heap.size + 1, 32, none⟩ = some (.int .u64 0) := by simp only [World.cell?, r2]; exact h32
  have a33 : W.cell? ⟨w.heap.size, 33, none⟩ = some (.int .u64 0) := by simp only [World.cell?, r1]; exact h33
  have b33 : W.cell? ⟨w.heap.size + 1, 33, none⟩ = some (.int .u64 0) := by simp only [World.cell?, r2]; exact h33
  have a34 : W.cell? ⟨w.heap.size, 34, none⟩ = some (.int .u64 0) := by simp only [World.cell?, r1]; exact h34
  have b34 : W.cell? ⟨w.heap.size + 1, 34, none⟩ = some (.int .u64 0) := by simp only [World.cell?, r2]; exact h34
  have a35 : W.cell? ⟨w.heap.size, 35, none⟩ = some (.bool false) := by simp only [World.cell?, r1]; exact h35
  have b35 : W.cell? ⟨w.heap.size + 1, 35, none⟩ = some (.bool false) := by simp only [World.cell?, r2]; exact h35
  clear r1 r2 h0 h1 h2 h3 h4 h5 h6 h7 h8 h9 h10 h11 h12 h13 h14 h15 h16 h17 h18 h19 h20 h21 h22 h23 h24 h25 h26 h27 h28 h29 h30 h31 h32 h33 h34 h35
  have hw := word_noughts
  have HE := Lib.hid equalA_nil
  have HU := Lib.hid equalU_nil
  refine calls_of_wpE (n := 6) Tryz.func168 rfl ?_
  simp only [Tryz.ntmps168, List.size_toArray, List.length_cons, List.length_nil, Nat.reduceAdd, Nat.reduceSub, Array.replicate_succ, Array.replicate_zero, List.push_toArray, List.append_toArray, List.nil_append, List.cons_append]
  refine wpE_then (n := 6) ?_
  gi_wp2_with fail
  rw [HW.out]
  refine wpE_then (n := 6) ?_
  gi_wp2_with (first | (refine ⟨trivial, (callsIn_wide.2 (HE.out _ _)).mono ?_⟩; rintro e w1 ⟨rfl, rfl⟩) | (refine ⟨trivial, (callsIn_wide.2 (HU.out _)).mono ?_⟩; rintro e w1 ⟨rfl, rfl⟩))
  refine WpE.of (n := 6) (wpIn_ret ?_)
  refine ⟨.bool true, ?_, ⟨true, rfl⟩, hbW⟩
  simp [results, Tryz.f168, go_sem]
end Go.Proofs.YtebjhbeaknokkaaGreatDoor
namespace Go.Proofs.YtebjhbeaknokkaaGreatDoor
open Go Go.RowKit Go.Lib Go.Shelf
attribute [local go_sem] Oper.semAt_some

theorem wpList_load_rowg {P : Program} {ops : Array Oper} {rest : List Oper} {o : Oper} {a : Act} {w : World} {Q : Exit → Act → World → Prop} (hw : Region.wanted o (yielded ops a.tmps) = true) (ty : TypeId) (x : Operand) (ho : o.op = .load ty x) (g : Nat) (hx : a.eval x = .pointer (some ⟨g, 0, none⟩)) (c : Array Value)
    (hl : (loadVar ty ⟨g, 0, none⟩).run P w = .ok (.agg c) w) (h : wpList P ops Q rest (a.put o.dst (.agg c)) w) : wpList P ops Q (o :: rest) a w := by
  refine wpList_step fun K hK => ?_
  rw [if_pos hw]
  unfold Oper.wp
  unfold execOp
  simp only [ho, hx, Instr.loadAt, Instr.sureAddr, Sem.run_bind, Sem.run_pure, Result.andThen_ok, hl]
  exact hK _ _ h
set_option maxRecDepth 100000 in
set_option maxHeartbeats 4000000 in
theorem check_no (c : Array Value) (k : Int) (w : World) (_hc : c.size = 36) (h0 : c[0]? = some (.int .i64 k)) (hk : ¬ isKd k)
:
    Calls Tryz.prog 51 #[.agg c] w fun e w' => e = .returned (.int .i64 9) ∧ Below w.heap.size w w' := by
  have mixed : Tryz.prog.follows .mixedOrders = true := by kernel_rfl
  have r0 : (w.alloc (.cells c 92)).heap[w.heap.size]? = some (.cells c 92 (0, 0)) := heap_alloc_new _ _
  have hb0 : Below w.heap.size w (w.alloc (.cells c 92)) := (Below.refl _ _).alloc (Nat.le_refl _) _
  have hlt0 : w.heap.size < (w.alloc (.cells c 92)).heap.size := by simp
  obtain ⟨w0, hw0⟩ : ∃ w0, w.alloc (.cells c 92) = w0 := ⟨_, rfl⟩
  rw [hw0] at r0 hb0 hlt0
  have k0 : w0.cell? ⟨w.heap.size, 0, none⟩ = some (.int .i64 k) := by simp only [World.cell?, r0]; exact h0
  have HW := Lib.hid hw0
  have HK0 := Lib.hid (fun X (_ : Below w0.heap.size w0 X) => kinds_any X)
  clear hw0 h0
  go_enter Tryz.func51, Tryz.ntmps51
  go_wp2_with fail
  rw [HW.out]
  refine wp_region_held (S := fun Y => Below w0.heap.size w0 Y) mixed ?_
  have hS0 : Below w0.heap.size w0 w0.drew := Below.drew (Below.refl _ _)
  rw [show Array.replicate (Array.size _) false = #[false, false, false, false, false, false, false, false, false] from rfl, show Array.size (α := Oper) _ = 9 from rfl]
  refine wpAnyH_take (i := 1) (v := .pointer (some ⟨w.heap.size, 0, none⟩)) rfl (by kernel_rfl) (by kernel_rfl) (by kernel_rfl) (fun _ _ _ h => h) (Or.inl ⟨by rfl, ?_⟩) hS0 ?_
  · intro Y hY
    skip
    go_simp
  simp only [Act.put, List.getElem_toArray, List.getElem_cons_succ, List.getElem_cons_zero, List.setIfInBounds_toArray, List.set_cons_zero, List.set_cons_succ]
  refine wpAnyH_take (i := 2) (v := .int .i64 k) rfl (by kernel_rfl) (by kernel_rfl) (by kernel_rfl) (fun _ _ _ h => h) (Or.inl ⟨by rfl, ?_⟩) hS0 ?_
  · intro Y hY
    have f0 := (hY.cell (p := ⟨w.heap.size, 0, none⟩) hlt0).trans k0
    go_simp
  simp only [Act.put, List.getElem_toArray, List.getElem_cons_succ, List.getElem_cons_zero, List.setIfInBounds_toArray, List.set_cons_zero, List.set_cons_succ]
  refine wpAnyH_ready (rs := [0]) (by kernel_rfl) (by simp) ?_
  refine AllReadyH.cons rfl (fun K hK => ?_) AllReadyH.nil
  go_simp
  refine (HK0.out _ hS0).mono ?_
  rintro e w1 ⟨⟨m, rfl, hTK⟩, hb1⟩
  have hS1 : Below w0.heap.size w0 w1 := hS0.trans (Below.mono hb1 hS0.size)
  have hlook := hTK.miss k hk
  clear hTK
  try go_wp2_with fail
  refine hK.out _ _ hS1 (fun _ => ?_)
  clear hK K
  simp only [List.setIfInBounds_toArray, List.set_cons_zero]
  refine wpAnyH_ready (rs := [3]) (by kernel_rfl) (by simp) ?_
  refine AllReadyH.cons rfl (fun K hK => ?_) AllReadyH.nil
  go_simp
  refine hK.out _ _ hS1 (fun _ => ?_)
  clear hK K
  simp only [List.setIfInBounds_toArray, List.set_cons_zero, List.set_cons_succ]
  refine wpAnyH_ready (rs := [4]) (by kernel_rfl) (by simp) ?_
  refine AllReadyH.cons rfl (fun K hK => ?_) AllReadyH.nil
  go_simp
  refine hK.out _ _ hS1 (fun _ => ?_)
  clear hK K
  simp only [List.setIfInBounds_toArray, List.set_cons_zero, List.set_cons_succ]
  refine wpAnyH_take (i := 5) (v := .slice none 0 0) rfl (by kernel_rfl) (by kernel_rfl) (by kernel_rfl) (fun _ _ _ h => h) (Or.inl ⟨by rfl, ?_⟩) hS1 ?_
  · intro Y hY
    skip
    go_simp
  simp only [Act.put, List.getElem_toArray, List.getElem_cons_succ, List.getElem_cons_zero, List.setIfInBounds_toArray, List.set_cons_zero, List.set_cons_succ]
  refine wpAnyH_take (i := 6) (v := .bool false) rfl (by kernel_rfl) (by kernel_rfl) (by kernel_rfl) (fun _ _ _ h => h) (Or.inl ⟨by rfl, ?_⟩) hS1 ?_
  · intro Y hY
    skip
    go_simp
  simp only [Act.put, List.getElem_toArray, List.getElem_cons_succ, List.getElem_cons_zero, List.setIfInBounds_toArray, List.set_cons_zero, List.set_cons_succ]
  refine wpAnyH_ready (rs := [7]) (by kernel_rfl) (by simp) ?_
  refine AllReadyH.cons rfl (fun K hK => ?_) AllReadyH.nil
  go_simp
  refine hK.out _ _ hS1 (fun _ => ?_)
  clear hK K
  simp only [List.setIfInBounds_toArray, List.set_cons_zero, List.set_cons_succ]
  refine wpAnyH_ready (rs := [8]) (by kernel_rfl) (by simp) ?_
  refine AllReadyH.cons rfl (fun K hK => ?_) AllReadyH.nil
  go_simp
  refine hK.out _ _ hS1 (fun _ => ?_)
  clear hK K
  simp only [List.setIfInBounds_toArray, List.set_cons_zero, List.set_cons_succ]
  refine wpAnyH_done (by kernel_rfl) ?_ _
  go_wp2_with fail
  go_ret
  exact ⟨rfl, hb0.trans (hS1.mono hb0.size)⟩
set_option maxRecDepth 100000 in
set_option maxHeartbeats 4000000 in
theorem check_yes (c : Array Value) (k : Int) (w : World) (hc : c.size = 36) (h0 : c[0]? = some (.int .i64 k)) (hk : isKd k)
    (HM : Hid (∀ (r n : Nat) (W : World), RowOk W.heap.size W r n → n ≤ 13 → Calls Tryz.prog 92 #[rowS r n, .agg c] W fun e w' => (∃ b, e = .returned (.bool b)) ∧ Below W.heap.size W w'))
    (HF : Hid (∀ W, Calls Tryz.prog 93 #[.agg c] W fun e w' => (∃ b, e = .returned (.bool b)) ∧ Below W.heap.size W w'))
    (HT : Hid (∀ W, Calls Tryz.prog 94 #[.agg c] W fun e w' => (∃ b, e = .returned (.bool b)) ∧ Below W.heap.size W w')) :
    Calls Tryz.prog 51 #[.agg c] w fun e w' => (∃ n : Int, e = .returned (.int .i64 n) ∧ n ≠ 9) ∧ Below w.heap.size w w' := by
  have mixed : Tryz.prog.follows .mixedOrders = true := by kernel_rfl
  have r0 : (w.alloc (.cells c 92)).heap[w.heap.size]? = some (.cells c 92 (0, 0)) := heap_alloc_new _ _
  have hb0 : Below w.heap.size w (w.alloc (.cells c 92)) := (Below.refl _ _).alloc (Nat.le_refl _) _
  have hlt0 : w.heap.size < (w.alloc (.cells c 92)).heap.size := by simp
  obtain ⟨w0, hw0⟩ : ∃ w0, w.alloc (.cells c 92) = w0 := ⟨_, rfl⟩
  rw [hw0] at r0 hb0 hlt0
  have k0 : w0.cell? ⟨w.heap.size, 0, none⟩ = some (.int .i64 k) := by simp only [World.cell?, r0]; exact h0
  have HW := Lib.hid hw0
  have HK0 := Lib.hid (fun X (_ : Below w0.heap.size w0 X) => kinds_any X)
  clear hw0 h0
  go_enter Tryz.func51, Tryz.ntmps51
  go_wp2_with fail
  rw [HW.out]
  refine wp_region_held (S := fun Y => Below w0.heap.size w0 Y) mixed ?_
  have hS0 : Below w0.heap.size w0 w0.drew := Below.drew (Below.refl _ _)
  rw [show Array.replicate (Array.size _) false = #[false, false, false, false, false, false, false, false, false] from rfl, show Array.size (α := Oper) _ = 9 from rfl]
  refine wpAnyH_take (i := 1) (v := .pointer (some ⟨w.heap.size, 0, none⟩)) rfl (by kernel_rfl) (by kernel_rfl) (by kernel_rfl) (fun _ _ _ h => h) (Or.inl ⟨by rfl, ?_⟩) hS0 ?_
  · intro Y hY
    skip
    go_simp
  simp only [Act.put, List.getElem_toArray, List.getElem_cons_succ, List.getElem_cons_zero, List.setIfInBounds_toArray, List.set_cons_zero, List.set_cons_succ]
  refine wpAnyH_take (i := 2) (v := .int .i64 k) rfl (by kernel_rfl) (by kernel_rfl) (by kernel_rfl) (fun _ _ _ h => h) (Or.inl ⟨by rfl, ?_⟩) hS0 ?_
  · intro Y hY
    have f0 := (hY.cell (p := ⟨w.heap.size, 0, none⟩) hlt0).trans k0
    go_simp
  simp only [Act.put, List.getElem_toArray, List.getElem_cons_succ, List.getElem_cons_zero, List.setIfInBounds_toArray, List.set_cons_zero, List.set_cons_succ]
  refine wpAnyH_ready (rs := [0]) (by kernel_rfl) (by simp) ?_
  refine AllReadyH.cons rfl (fun K hK => ?_) AllReadyH.nil
  go_simp
  refine (HK0.out _ hS0).mono ?_
  rintro e w1 ⟨⟨m, rfl, hTK⟩, hb1⟩
  have hS1 : Below w0.heap.size w0 w1 := hS0.trans (Below.mono hb1 hS0.size)
  obtain ⟨r, len, hlen, hrow, hlook⟩ := hTK.look k hk
  clear hTK
  try go_wp2_with fail
  refine hK.out _ _ hS1 (fun _ => ?_)
  clear hK K
  simp only [List.setIfInBounds_toArray, List.set_cons_zero]
  refine wpAnyH_ready (rs := [3]) (by kernel_rfl) (by simp) ?_
  refine AllReadyH.cons rfl (fun K hK => ?_) AllReadyH.nil
  go_simp
  refine hK.out _ _ hS1 (fun _ => ?_)
  clear hK K
  simp only [List.setIfInBounds_toArray, List.set_cons_zero, List.set_cons_succ]
  refine wpAnyH_ready (rs := [4]) (by kernel_rfl) (by simp) ?_
  refine AllReadyH.cons rfl (fun K hK => ?_) AllReadyH.nil
  go_simp
  refine hK.out _ _ hS1 (fun _ => ?_)
  clear hK K
  simp only [List.setIfInBounds_toArray, List.set_cons_zero, List.set_cons_succ]
  refine wpAnyH_take (i := 5) (v := rowS r len) rfl (by kernel_rfl) (by kernel_rfl) (by kernel_rfl) (fun _ _ _ h => h) (Or.inl ⟨by rfl, ?_⟩) hS1 ?_
  · intro Y hY
    skip
    go_simp
  simp only [Act.put, List.getElem_toArray, List.getElem_cons_succ, List.getElem_cons_zero, List.setIfInBounds_toArray, List.set_cons_zero, List.set_cons_succ]
  refine wpAnyH_take (i := 6) (v := .bool true) rfl (by kernel_rfl) (by kernel_rfl) (by kernel_rfl) (fun _ _ _ h => h) (Or.inl ⟨by rfl, ?_⟩) hS1 ?_
  · intro Y hY
    skip
    go_simp
  simp only [Act.put, List.getElem_toArray, List.getElem_cons_succ, List.getElem_cons_zero, List.setIfInBounds_toArray, List.set_cons_zero, List.set_cons_succ]
  refine wpAnyH_ready (rs := [7]) (by kernel_rfl) (by simp) ?_
  refine AllReadyH.cons rfl (fun K hK => ?_) AllReadyH.nil
  go_simp
  refine hK.out _ _ hS1 (fun _ => ?_)
  clear hK K
  simp only [List.setIfInBounds_toArray, List.set_cons_zero, List.set_cons_succ]
  refine wpAnyH_ready (rs := [8]) (by kernel_rfl) (by simp) ?_
  refine AllReadyH.cons rfl (fun K hK => ?_) AllReadyH.nil
  go_simp
  refine hK.out _ _ hS1 (fun _ => ?_)
  clear hK K
  simp only [List.setIfInBounds_toArray, List.set_cons_zero, List.set_cons_succ]
  refine wpAnyH_done (by kernel_rfl) ?_ _
  have r1 : w1.heap[w.heap.size]? = some (.cells c 92 (0, 0)) := (hS1.block _ hlt0).trans r0
  have hl1 := run_loadVar_row (P := Tryz.prog) w1 w.heap.size 92 92 c (0, 0) _ r1 Tryz.underlying92 rfl (by rw [Tryz.txSize, hc])
  have hbw1 := hb0.trans (hS1.mono hb0.size)
  go_wp2_with (refine wpList_load_rowg (by first | rfl | simp [Region.wanted, yielded, go_sem]) _ _ rfl _ rfl c hl1 ?_)
  refine (HM.out r len w1 hrow hlen).mono ?_
  rintro e w2 ⟨⟨b1, rfl⟩, hb2⟩
  have r2 : w2.heap[w.heap.size]? = some (.cells c 92 (0, 0)) := (hb2.block _ (Array.getElem?_eq_some_iff.1 r1).1).trans r1
  have hl2 := run_loadVar_row (P := Tryz.prog) w2 w.heap.size 92 92 c (0, 0) _ r2 Tryz.underlying92 rfl (by rw [Tryz.txSize, hc])
  have hbw2 := hbw1.trans (hb2.mono hbw1.size)
  cases b1 with
  | true =>
    go_wp2_with fail
    go_ret
    exact ⟨⟨2, rfl, by decide⟩, hbw2⟩
  | false =>
    go_wp2_with (refine wpList_load_rowg (by first | rfl | simp [Region.wanted, yielded, go_sem]) _ _ rfl _ rfl c hl2 ?_)
    refine (HF.out w2).mono ?_
    rintro e w3 ⟨⟨b2, rfl⟩, hb3⟩
    have r3 : w3.heap[w.heap.size]? = some (.cells c 92 (0, 0)) := (hb3.block _ (Array.getElem?_eq_some_iff.1 r2).1).trans r2
    have hl3 := run_loadVar_row (P := Tryz.prog) w3 w.heap.size 92 92 c (0, 0) _ r3 Tryz.underlying92 rfl (by rw [Tryz.txSize, hc])
    have hbw3 := hbw2.trans (hb3.mono hbw2.size)
    cases b2 with
    | false =>
      go_wp2_with fail
      go_ret
      exact ⟨⟨2, rfl, by decide⟩, hbw3⟩
    | true =>
      go_wp2_with (refine wpList_load_rowg (by first | rfl | simp [Region.wanted, yielded, go_sem]) _ _ rfl _ rfl c hl3 ?_)
      refine (HT.out w3).mono ?_
      rintro e w4 ⟨⟨b3, rfl⟩, hb4⟩
      have hbw4 := hbw3.trans (hb4.mono hbw3.size)
      cases b3 with
      | false =>
        go_wp2_with fail
        go_ret
        exact ⟨⟨0, rfl, by decide⟩, hbw4⟩
      | true =>
        go_wp2_with fail
        go_ret
        exact ⟨⟨5, rfl, by decide⟩, hbw4⟩
end Go.Proofs.YtebjhbeaknokkaaGreatDoor
namespace Go.Proofs.YtebjhbeaknokkaaGreatDoor
open Go Go.RowKit Go.Lib Go.Shelf
attribute [local go_sem] Oper.semAt_some

def ckd (k : Int) : Array Value := #[.int .i64 k, .int .u64 0, .int .u64 0, .int .u64 0, .int .u64 0, .int .u64 0, .int .u64 0, .int .u64 0, .int .u64 0, .int .u64 0, .int .u64 0, .int .u64 0, .string ⟨#[]⟩, .int .u64 0, .int .u64 0, .int .u64 0, .int .u64 0, .string ⟨#[]⟩, .slice none 0 0, .slice none 0 0, .int .u64 0, .int .u64 0, .int .u64 0, .int .u64 0, .int .u64 0, .int .u64 0, .int .u64 0, .int .u64 0, .int .u64 0, .string ⟨#[]⟩, .string ⟨#[]⟩, .int .u64 0, .int .u64 0, .int .u64 0, .int .u64 0, .bool false]
def dkd (k : Int) (v : Int) : Array Value := #[.int .i64 k, .int .u64 0, .int .u64 0, .int .u64 0, .int .u64 0, .int .u64 0, .int .u64 0, .int .u64 0, .int .u64 0, .int .u64 0, .int .u64 0, .int .u64 0, .string ⟨#[]⟩, .int .u64 0, .int .u64 0, .int .u64 0, .int .u64 0, .string ⟨#[]⟩, .slice none 0 0, .slice none 0 0, .int .u64 0, .int .u64 0, .int .u64 0, .int .u64 0, .int .u64 0, .int .u64 0, .int .u64 0, .int .u64 0, .int .u64 0, .string ⟨#[]⟩, .string ⟨#[]⟩, .int .u64 0, .int .u64 0, .int .u64 0, .int .u64 0, .bool false, .int .u64 v]
theorem dkd_all (k v : Int) : (dkd k v).all (·.oneCell') = true := by simp [dkd, Value.oneCell']
theorem dkd_fold (k : Int) : Array.foldl (fun (cs : Array Value) (x : Value × Nat) => cs.setIfInBounds x.snd x.fst) #[.int .i64 0, .int .u64 0, .int .u64 0, .int .u64 0, .int .u64 0, .int .u64 0, .int .u64 0, .int .u64 0, .int .u64 0, .int .u64 0, .int .u64 0, .int .u64 0, .string ⟨#[]⟩, .int .u64 0, .int .u64 0, .int .u64 0, .int .u64 0, .string ⟨#[]⟩, .slice none 0 0, .slice none 0 0, .int .u64 0, .int .u64 0, .int .u64 0, .int .u64 0, .int .u64 0, .int .u64 0, .int .u64 0, .int .u64 0, .int .u64 0, .string ⟨#[]⟩, .string ⟨#[]⟩, .int .u64 0, .int .u64 0, .int .u64 0, .int .u64 0, .bool false, .int .u64 0] (ckd k).zipIdx 0 36 = dkd k 0 := by kernel_rfl
theorem same_any (W : World) : Calls Tryz.prog 168 #[.agg ztx, .agg ztx] W fun e w' => (∃ b, e = .returned (.bool b)) ∧ Below W.heap.size W w' := txSame_nought W
theorem more_n (k : Int) (hk : ¬ k = 0) (r n : Nat) (W : World) (hR : RowOk W.heap.size W r n) (hn : n ≤ 13) : Calls Tryz.prog 92 #[rowS r n, .agg (ckd k)] W fun e w' => (∃ b, e = .returned (.bool b)) ∧ Below W.heap.size W w' :=
  hasMore_any (ckd k) (dkd k 0) 0 r n W rfl rfl (dkd_all k 0) ⟨_, rfl⟩ rfl (Lib.hid (fun X => written_n (ckd k) (dkd k 0) k X hk rfl rfl (dkd_all k 0) (dkd_fold k) rfl)) (Lib.hid same_any) hR hn
theorem more_0 (r n : Nat) (W : World) (hR : RowOk W.heap.size W r n) (hn : n ≤ 13) : Calls Tryz.prog 92 #[rowS r n, .agg (ckd 0)] W fun e w' => (∃ b, e = .returned (.bool b)) ∧ Below W.heap.size W w' :=
  hasMore_any (ckd 0) (dkd 0 27) 27 r n W rfl rfl (dkd_all 0 27) ⟨_, rfl⟩ rfl (Lib.hid (fun X => written_0 (ckd 0) (dkd 0 0) (dkd 0 27) X rfl rfl (dkd_all 0 0) (dkd_fold 0) rfl rfl rfl rfl rfl rfl rfl rfl (dkd_all 0 27))) (Lib.hid same_any) hR hn
theorem check_kd (k : Int) (w : World) (hk : isKd k) : Calls Tryz.prog 51 #[.agg (ckd k)] w fun e w' => (∃ n : Int, e = .returned (.int .i64 n) ∧ n ≠ 9) ∧ Below w.heap.size w w' := by
  have HT : ∀ W, Calls Tryz.prog 94 #[.agg (ckd k)] W fun e w' => (∃ b, e = .returned (.bool b)) ∧ Below W.heap.size W w' :=
    fun W => isTooLong_any (ckd k) k W rfl rfl rfl rfl rfl rfl rfl rfl rfl rfl
  rcases id hk with rfl | rfl | rfl | rfl | rfl
  · exact check_yes _ _ w rfl rfl hk (Lib.hid (fun r n W hR hn => more_0 r n W hR hn)) (Lib.hid (fun W => isFormed_0 (ckd 0) W rfl rfl rfl rfl rfl rfl rfl rfl rfl rfl)) (Lib.hid HT)
  · exact check_yes _ _ w rfl rfl hk (Lib.hid (fun r n W hR hn => more_n 1 (by decide) r n W hR hn)) (Lib.hid (fun W => isFormed_1 (ckd 1) W rfl rfl rfl rfl rfl rfl rfl rfl rfl rfl)) (Lib.hid HT)
  · exact check_yes _ _ w rfl rfl hk (Lib.hid (fun r n W hR hn => more_n 2 (by decide) r n W hR hn)) (Lib.hid (fun W => isFormed_2 (ckd 2) W rfl rfl rfl rfl rfl rfl rfl rfl rfl rfl)) (Lib.hid HT)
  · exact check_yes _ _ w rfl rfl hk (Lib.hid (fun r n W hR hn => more_n 4 (by decide) r n W hR hn)) (Lib.hid (fun W => isFormed_4 (ckd 4) W rfl rfl rfl rfl rfl rfl rfl rfl rfl rfl)) (Lib.hid HT)
  · exact check_yes _ _ w rfl rfl hk (Lib.hid (fun r n W hR hn => more_n 126 (by decide) r n W hR hn)) (Lib.hid (fun W => isFormed_126 (ckd 126) W rfl rfl rfl rfl rfl rfl rfl rfl rfl rfl)) (Lib.hid HT)
theorem check_miss (k : Int) (w : World) (hk : ¬ isKd k) : Calls Tryz.prog 51 #[.agg (ckd k)] w fun e w' => e = .returned (.int .i64 9) ∧ Below w.heap.size w w' := check_no _ k w rfl rfl hk
end Go.Proofs.YtebjhbeaknokkaaGreatDoor
namespace Go.Proofs.YtebjhbeaknokkaaGreatDoor
open Go Go.RowKit Go.Lib Go.Shelf
attribute [local go_sem] Oper.semAt_some

set_option maxRecDepth 100000 in
set_option maxHeartbeats 1000000 in
theorem isKind_yes (k : Int) (w : World) (hk : isKd k) : Calls Tryz.prog 29 #[.int .i64 k] w fun e w' => e = .returned (.bool true) ∧ Below w.heap.size w w' := by
  have H := Lib.hid (check_kd k w hk)
  clear hk
  go_enter Tryz.func29, Tryz.ntmps29
  go_wp2_with fail
  refine H.out.mono ?_
  rintro e w1 ⟨⟨n, rfl, hn⟩, hb⟩
  have hn1 : (n == 9) = false := by simpa using hn
  have hn2 : (n != 9) = true := by simp [hn]
  go_wp2_with fail
  go_ret
  first | exact ⟨rfl, hb⟩ | exact ⟨hn, hb⟩ | (refine ⟨?_, hb⟩; simp [hn, hn1, hn2])
set_option maxRecDepth 100000 in
set_option maxHeartbeats 1000000 in
theorem isKind_no (k : Int) (w : World) (hk : ¬ isKd k) : Calls Tryz.prog 29 #[.int .i64 k] w fun e w' => e = .returned (.bool false) ∧ Below w.heap.size w w' := by
  have H := Lib.hid (check_miss k w hk)
  clear hk
  go_enter Tryz.func29, Tryz.ntmps29
  go_wp2_with fail
  refine H.out.mono ?_
  rintro e w1 ⟨rfl, hb⟩
  go_wp2_with fail
  go_ret
  exact ⟨rfl, hb⟩
instance (k : Int) : Decidable (isKd k) := by unfold isKd; infer_instance
theorem isKind_any (k : Int) (w : World) : Calls Tryz.prog 29 #[.int .i64 k] w fun e w' => e = .returned (.bool (decide (isKd k))) ∧ Below w.heap.size w w' := by
  by_cases hk : isKd k
  · simpa [hk] using isKind_yes k w hk
  · simpa [hk] using isKind_no k w hk
end Go.Proofs.YtebjhbeaknokkaaGreatDoor
namespace Go.Proofs.YtebjhbeaknokkaaGreatDoor
open Go Go.RowKit Go.Lib Go.Shelf
attribute [local go_sem] Oper.semAt_some

theorem rhead_nil (w : World) : Calls Tryz.prog 26 #[.int .i64 0] w fun e w' => e = .returned (.string ⟨#[]⟩) ∧ Below w.heap.size w w' := by
  go_enter Tryz.func26, Tryz.ntmps26
  go_wp2_with fail
  go_ret
  exact ⟨rfl, Below.refl _ _⟩
theorem mostParts_any (k : Int) (w : World) : Calls Tryz.prog 61 #[.int .i64 k] w fun e w' => e = .returned (.int .i64 (if k = 126 then 5 else 3)) ∧ Below w.heap.size w w' := by
  by_cases hk : k = 126
  · subst hk
    go_enter Tryz.func61, Tryz.ntmps61
    go_wp2_with fail
    go_ret
    exact ⟨rfl, Below.refl _ _⟩
  · have hk1 : (k == 126) = false := by simpa using hk
    go_enter Tryz.func61, Tryz.ntmps61
    go_wp2_with fail
    go_ret
    exact ⟨by simp [], Below.refl _ _⟩
set_option maxRecDepth 100000 in
theorem rhead_any (k : Nat) (w : World) (hk : 0 < k) (hk' : k < 256) : Calls Tryz.prog 26 #[.int .i64 k] w fun e w' => e = .returned (.string ⟨#[UInt8.ofNat k]⟩) ∧ Below w.heap.size w w' := by
  have hk0 : ¬ (k : Int) = 0 := by omega
  have hk1 : ((k : Int) == 0) = false := by simpa using hk0
  go_enter Tryz.func26, Tryz.ntmps26
  go_wp2_with fail
  obtain ⟨W, hW⟩ : ∃ W, w.alloc (.cells #[.int .u8 k] 5) = W := ⟨_, rfl⟩
  have r1 : W.heap[w.heap.size]? = some (.cells #[.int .u8 k] 5 (0, 0)) := by rw [← hW]; exact heap_alloc_new _ _
  have hb : Below w.heap.size w W := by rw [← hW]; exact (Below.refl _ _).alloc (Nat.le_refl _) _
  have hcv := conv_at [UInt8.ofNat k] W w.heap.size (fun j hj => by
    have : j = 0 := by simpa using hj
    subst this
    simp only [World.cell?, r1]
    simp [Nat.mod_eq_of_lt hk'])
  rw [List.length_singleton] at hcv
  rw [hW, hcv]
  clear hW
  go_wp2_with fail
  go_ret
  exact ⟨rfl, hb⟩
end Go.Proofs.YtebjhbeaknokkaaGreatDoor
