/- Package tx: two transactions that are nought. -/
import Derived.Test.YtihiacbhdcahkaaGreatDoorH05
namespace Go.Proofs.YtihiacbhdcahkaaGreatDoor
open Go Go.RowKit Go.Lib Go.Shelf
attribute [local go_sem] Oper.semAt_some

theorem word_noughts (W : World) : (Op.equalIn 10000 89 (.agg #[.int .u64 0, .int .u64 0, .int .u64 0, .int .u64 0]) (.agg #[.int .u64 0, .int .u64 0, .int .u64 0, .int .u64 0])).run Tryz.prog W = .ok true W := by kernel_rfl
set_option maxRecDepth 100000 in
theorem equalA_nil (g : FuncId) (w : World) : Calls Tryz.prog 243 #[.slice none 0 0, .slice none 0 0, .func (.func g) #[] #[]] w fun e w' => e = .returned (.bool true) ∧ w = w' := by
  go_enter Tryz.func243, Tryz.ntmps243
  go_wp2_with fail
  refine wp_loop_rounds 1 ?_
  rw [rounds_succ]
  go_wp2_with fail
  go_ret
  exact ⟨rfl, rfl⟩
set_option maxRecDepth 100000 in
theorem equalU_nil (w : World) : Calls Tryz.prog 245 #[.slice none 0 0, .slice none 0 0] w fun e w' => e = .returned (.bool true) ∧ w = w' := by
  go_enter Tryz.func245, Tryz.ntmps245
  go_wp2_with fail
  refine wp_loop_rounds 1 ?_
  rw [rounds_succ]
  go_wp2_with fail
  go_ret
  exact ⟨rfl, rfl⟩
set_option maxRecDepth 100000 in
set_option maxHeartbeats 8000000 in
theorem txSame_nought (w : World) : Calls Tryz.prog 171 #[.agg ztx, .agg ztx] w fun e w' => (∃ b, e = .returned (.bool b)) ∧ Below w.heap.size w w' := by
  have hz : ztx.size = 36 := rfl
  obtain ⟨zt, hzt⟩ : ∃ zt, ztx = zt := ⟨_, rfl⟩
  have g : ∀ (i : Nat) (v : Value), ztx[i]? = some v → zt[i]? = some v := fun i v h => by rw [← hzt]; exact h
  have h0 : zt[0]? = some (.int .i64 0) := g 0 _ rfl
  have h1 : zt[1]? = some (.int .u64 0) := g 1 _ rfl
  have h2 : zt[2]? = some (.int .u64 0) := g 2 _ rfl
  have h3 : zt[3]? = some (.int .u64 0) := g 3 _ rfl
  have h4 : zt[4]? = some (.int .u64 0) := g 4 _ rfl
  have h5 : zt[5]? = some (.int .u64 0) := g 5 _ rfl
  have h6 : zt[6]? = some (.int .u64 0) := g 6 _ rfl
  have h7 : zt[7]? = some (.int .u64 0) := g 7 _ rfl
  have h8 : zt[8]? = some (.int .u64 0) := g 8 _ rfl
  have h9 : zt[9]? = some (.int .u64 0) := g 9 _ rfl
  have h10 : zt[10]? = some (.int .u64 0) := g 10 _ rfl
  have h11 : zt[11]? = some (.int .u64 0) := g 11 _ rfl
  have h12 : zt[12]? = some (.string ⟨#[]⟩) := g 12 _ rfl
  have h13 : zt[13]? = some (.int .u64 0) := g 13 _ rfl
  have h14 : zt[14]? = some (.int .u64 0) := g 14 _ rfl
  have h15 : zt[15]? = some (.int .u64 0) := g 15 _ rfl
  have h16 : zt[16]? = some (.int .u64 0) := g 16 _ rfl
  have h17 : zt[17]? = some (.string ⟨#[]⟩) := g 17 _ rfl
  have h18 : zt[18]? = some (.slice none 0 0) := g 18 _ rfl
  have h19 : zt[19]? = some (.slice none 0 0) := g 19 _ rfl
  have h20 : zt[20]? = some (.int .u64 0) := g 20 _ rfl
  have h21 : zt[21]? = some (.int .u64 0) := g 21 _ rfl
  have h22 : zt[22]? = some (.int .u64 0) := g 22 _ rfl
  have h23 : zt[23]? = some (.int .u64 0) := g 23 _ rfl
  have h24 : zt[24]? = some (.int .u64 0) := g 24 _ rfl
  have h25 : zt[25]? = some (.int .u64 0) := g 25 _ rfl
  have h26 : zt[26]? = some (.int .u64 0) := g 26 _ rfl
  have h27 : zt[27]? = some (.int .u64 0) := g 27 _ rfl
  have h28 : zt[28]? = some (.int .u64 0) := g 28 _ rfl
  have h29 : zt[29]? = some (.string ⟨#[]⟩) := g 29 _ rfl
  have h30 : zt[30]? = some (.string ⟨#[]⟩) := g 30 _ rfl
  have h31 : zt[31]? = some (.int .u64 0) := g 31 _ rfl
  have h32 : zt[32]? = some (.int .u64 0) := g 32 _ rfl
  have h33 : zt[33]? = some (.int .u64 0) := g 33 _ rfl
  have h34 : zt[34]? = some (.int .u64 0) := g 34 _ rfl
  have h35 : zt[35]? = some (.bool false) := g 35 _ rfl
  rw [hzt] at hz ⊢
  clear g hzt
  have r1 : ((w.alloc (.cells zt 93)).alloc (.cells zt 93)).heap[w.heap.size]? = some (.cells zt 93 (0, 0)) := (Below.heap_alloc _ _ _ (by simp)).trans (heap_alloc_new _ _)
  have r2 : ((w.alloc (.cells zt 93)).alloc (.cells zt 93)).heap[w.heap.size + 1]? = some (.cells zt 93 (0, 0)) := by
    rw [show w.heap.size + 1 = (w.alloc (.cells zt 93)).heap.size by simp]
    exact heap_alloc_new _ _
  have hbW : Below w.heap.size w ((w.alloc (.cells zt 93)).alloc (.cells zt 93)) := ((Below.refl _ _).alloc (Nat.le_refl _) _).alloc (by simp) _
  obtain ⟨W, hW⟩ : ∃ W, ((w.alloc (.cells zt 93)).alloc (.cells zt 93)) = W := ⟨_, rfl⟩
  rw [hW] at r1 r2 hbW
  have HW := Lib.hid hW
  clear hW
  have a0 : W.cell? ⟨w.heap.size, 0, none⟩ = some (.int .i64 0) := by simp only [World.cell?, r1]; exact h0
  have b0 : W.cell? ⟨w.heap.size + 1, 0, none⟩ = some (.int .i64 0) := by simp only [World.cell?, r2]; exact h0
  have a1 : W.cell? ⟨w.heap.size, 1, none⟩ = some (.int .u64 0) := by simp only [World.cell?, r1]; exact h1
  have b1 : W.cell? ⟨w.heap.size + 1, 1, none⟩ = some (.int .u64 0) := by simp only [World.cell?, r2]; exact h1
  have a2 : W.cell? ⟨w.heap.size, 2, none⟩ = some (.int .u64 0) := by simp only [World.cell?, r1]; exact h2
  have b2 : W.cell? ⟨w.heap.size + 1, 2, none⟩ = some (.int .u64 0) := by simp only [World.cell?, r2]; exact h2
  have a3 : W.cell? ⟨w.heap.size, 3, none⟩ = some (.int .u64 0) := by simp only [World.cell?, r1]; exact h3
  have b3 : W.cell? ⟨w.heap.size + 1, 3, none⟩ = some (.int .u64 0) := by simp only [World.cell?, r2]; exact h3
  have a4 : W.cell? ⟨w.heap.size, 4, none⟩ = some (.int .u64 0) := by simp only [World.cell?, r1]; exact h4
  have b4 : W.cell? ⟨w.heap.size + 1, 4, none⟩ = some (.int .u64 0) := by simp only [World.cell?, r2]; exact h4
  have a5 : W.cell? ⟨w.heap.size, 5, none⟩ = some (.int .u64 0) := by simp only [World.cell?, r1]; exact h5
  have b5 : W.cell? ⟨w.heap.size + 1, 5, none⟩ = some (.int .u64 0) := by simp only [World.cell?, r2]; exact h5
  have a6 : W.cell? ⟨w.heap.size, 6, none⟩ = some (.int .u64 0) := by simp only [World.cell?, r1]; exact h6
  have b6 : W.cell? ⟨w.heap.size + 1, 6, none⟩ = some (.int .u64 0) := by simp only [World.cell?, r2]; exact h6
  have a7 : W.cell? ⟨w.heap.size, 7, none⟩ = some (.int .u64 0) := by simp only [World.cell?, r1]; exact h7
  have b7 : W.cell? ⟨w.heap.size + 1, 7, none⟩ = some (.int .u64 0) := by simp only [World.cell?, r2]; exact h7
  have a8 : W.cell? ⟨w.heap.size, 8, none⟩ = some (.int .u64 0) := by simp only [World.cell?, r1]; exact h8
  have b8 : W.cell? ⟨w.heap.size + 1, 8, none⟩ = some (.int .u64 0) := by simp only [World.cell?, r2]; exact h8
  have a9 : W.cell? ⟨w.heap.size, 9, none⟩ = some (.int .u64 0) := by simp only [World.cell?, r1]; exact h9
  have b9 : W.cell? ⟨w.heap.size + 1, 9, none⟩ = some (.int .u64 0) := by simp only [World.cell?, r2]; exact h9
  have a10 : W.cell? ⟨w.heap.size, 10, none⟩ = some (.int .u64 0) := by simp only [World.cell?, r1]; exact h10
  have b10 : W.cell? ⟨w.heap.size + 1, 10, none⟩ = some (.int .u64 0) := by simp only [World.cell?, r2]; exact h10
  have a11 : W.cell? ⟨w.heap.size, 11, none⟩ = some (.int .u64 0) := by simp only [World.cell?, r1]; exact h11
  have b11 : W.cell? ⟨w.heap.size + 1, 11, none⟩ = some (.int .u64 0) := by simp only [World.cell?, r2]; exact h11
  have a12 : W.cell? ⟨w.heap.size, 12, none⟩ = some (.string ⟨#[]⟩) := by simp only [World.cell?, r1]; exact h12
  have b12 : W.cell? ⟨w.heap.size + 1, 12, none⟩ = some (.string ⟨#[]⟩) := by simp only [World.cell?, r2]; exact h12
  have a13 : W.cell? ⟨w.heap.size, 13, none⟩ = some (.int .u64 0) := by simp only [World.cell?, r1]; exact h13
  have b13 : W.cell? ⟨w.heap.size + 1, 13, none⟩ = some (.int .u64 0) := by simp only [World.cell?, r2]; exact h13
  have a14 : W.cell? ⟨w.heap.size, 14, none⟩ = some (.int .u64 0) := by simp only [World.cell?, r1]; exact h14
  have b14 : W.cell? ⟨w.heap.size + 1, 14, none⟩ = some (.int .u64 0) := by simp only [World.cell?, r2]; exact h14
  have a15 : W.cell? ⟨w.heap.size, 15, none⟩ = some (.int .u64 0) := by simp only [World.cell?, r1]; exact h15
  have b15 : W.cell? ⟨w.heap.size + 1, 15, none⟩ = some (.int .u64 0) := by simp only [World.cell?, r2]; exact h15
  have a16 : W.cell? ⟨w.heap.size, 16, none⟩ = some (.int .u64 0) := by simp only [World.cell?, r1]; exact h16
  have b16 : W.cell? ⟨w.heap.size + 1, 16, none⟩ = some (.int .u64 0) := by simp only [World.cell?, r2]; exact h16
  have a17 : W.cell? ⟨w.heap.size, 17, none⟩ = some (.string ⟨#[]⟩) := by simp only [World.cell?, r1]; exact h17
  have b17 : W.cell? ⟨w.heap.size + 1, 17, none⟩ = some (.string ⟨#[]⟩) := by simp only [World.cell?, r2]; exact h17
  have a18 : W.cell? ⟨w.heap.size, 18, none⟩ = some (.slice none 0 0) := by simp only [World.cell?, r1]; exact h18
  have b18 : W.cell? ⟨w.heap.size + 1, 18, none⟩ = some (.slice none 0 0) := by simp only [World.cell?, r2]; exact h18
  have a19 : W.cell? ⟨w.heap.size, 19, none⟩ = some (.slice none 0 0) := by simp only [World.cell?, r1]; exact h19
  have b19 : W.cell? ⟨w.heap.size + 1, 19, none⟩ = some (.slice none 0 0) := by simp only [World.cell?, r2]; exact h19
  have a20 : W.cell? ⟨w.heap.size, 20, none⟩ = some (.int .u64 0) := by simp only [World.cell?, r1]; exact h20
  have b20 : W.cell? ⟨w.heap.size + 1, 20, none⟩ = some (.int .u64 0) := by simp only [World.cell?, r2]; exact h20
  have a21 : W.cell? ⟨w.heap.size, 21, none⟩ = some (.int .u64 0) := by simp only [World.cell?, r1]; exact h21
  have b21 : W.cell? ⟨w.heap.size + 1, 21, none⟩ = some (.int .u64 0) := by simp only [World.cell?, r2]; exact h21
  have a22 : W.cell? ⟨w.heap.size, 22, none⟩ = some (.int .u64 0) := by simp only [World.cell?, r1]; exact h22
  have b22 : W.cell? ⟨w.heap.size + 1, 22, none⟩ = some (.int .u64 0) := by simp only [World.cell?, r2]; exact h22
  have a23 : W.cell? ⟨w.heap.size, 23, none⟩ = some (.int .u64 0) := by simp only [World.cell?, r1]; exact h23
  have b23 : W.cell? ⟨w.heap.size + 1, 23, none⟩ = some (.int .u64 0) := by simp only [World.cell?, r2]; exact h23
  have a24 : W.cell? ⟨w.heap.size, 24, none⟩ = some (.int .u64 0) := by simp only [World.cell?, r1]; exact h24
  have b24 : W.cell? ⟨w.heap.size + 1, 24, none⟩ = some (.int .u64 0) := by simp only [World.cell?, r2]; exact h24
  have a25 : W.cell? ⟨w.heap.size, 25, none⟩ = some (.int .u64 0) := by simp only [World.cell?, r1]; exact h25
  have b25 : W.cell? ⟨w.heap.size + 1, 25, none⟩ = some (.int .u64 0) := by simp only [World.cell?, r2]; exact h25
  have a26 : W.cell? ⟨w.heap.size, 26, none⟩ = some (.int .u64 0) := by simp only [World.cell?, r1]; exact h26
  have b26 : W.cell? ⟨w.heap.size + 1, 26, none⟩ = some (.int .u64 0) := by simp only [World.cell?, r2]; exact h26
  have a27 : W.cell? ⟨w.heap.size, 27, none⟩ = some (.int .u64 0) := by simp only [World.cell?, r1]; exact h27
  have b27 : W.cell? ⟨w.heap.size + 1, 27, none⟩ = some (.int .u64 0) := by simp only [World.cell?, r2]; exact h27
  have a28 : W.cell? ⟨w.heap.size, 28, none⟩ = some (.int .u64 0) := by simp only [World.cell?, r1]; exact h28
  have b28 : W.cell? ⟨w.heap.size + 1, 28, none⟩ = some (.int .u64 0) := by simp only [World.cell?, r2]; exact h28
  have a29 : W.cell? ⟨w.heap.size, 29, none⟩ = some (.string ⟨#[]⟩) := by simp only [World.cell?, r1]; exact h29
  have b29 : W.cell? ⟨w.heap.size + 1, 29, none⟩ = some (.string ⟨#[]⟩) := by simp only [World.cell?, r2]; exact h29
  have a30 : W.cell? ⟨w.heap.size, 30, none⟩ = some (.string ⟨#[]⟩) := by simp only [World.cell?, r1]; exact h30
  have b30 : W.cell? ⟨w.heap.size + 1, 30, none⟩ = some (.string ⟨#[]⟩) := by simp only [World.cell?, r2]; exact h30
  have a31 : W.cell? ⟨w.heap.size, 31, none⟩ = some (.int .u64 0) := by simp only [World.cell?, r1]; exact h31
  have b31 : W.cell? ⟨w.heap.size + 1, 31, none⟩ = some (.int .u64 0) := by simp only [World.cell?, r2]; exact h31
  have a32 : W.cell? ⟨w.heap.size, 32, none⟩ = some (.int .u64 0) := by simp only [World.cell?, r1]; exact h32
  have b32 : W.cell? ⟨w.heap.size + 1, 32, none⟩ = some (.int .u64 0) := by simp only [World.cell?, r2]; exact h32
  have a33 : W.cell? ⟨w.heap.size, 33, none⟩ = some (.int .u64 0) := by simp only [World.cell?, r1]; exact h33
  have b33 : W.cell? ⟨w.heap.size + 1, 33, none⟩ = some (.int .u64 0) := by simp only [World.cell?, r2]; exact h33
  have a34 : W.cell? ⟨w.heap.size, 34, none⟩ = some (.int .u64 0) := by simp only [World.cell?, r1]; exact h34
  have b34 : W.cell? ⟨w.heap.size + 1, 34, none⟩ = some (.int .u64 0) := by simp only [World.cell?, r2]; exact h34
  have a35 : W.cell? ⟨w.heap.size, 35, none⟩ = some (.bool false) := by simp only [World.cell?, r1]; exact h35
  have b35 : W.cell? ⟨w.heap.size + 1, 35, none⟩ = some (.bool false) := by simp only [World.cell?, r2]; exact h35
  clear r1 r2 h0 h1 h2 h3 h4 h5 h6 h7 h8 h9 h10 h11 h12 h13 h14 h15 h16 h17 h18 h19 h20 h21 h22 h23 h24 h25 h26 h27 h28 h29 h30 h31 h32 h33 h34 h35
  have hw := word_noughts
  have HE := Lib.hid equalA_nil
  have HU := Lib.hid equalU_nil
  refine calls_of_wpE (n := 6) Tryz.func171 rfl ?_
  simp only [Tryz.ntmps171, List.size_toArray, List.length_cons, List.length_nil, Nat.reduceAdd, Nat.reduceSub, Array.replicate_succ, Array.replicate_zero, List.push_toArray, List.append_toArray, List.nil_append, List.cons_append]
  refine wpE_then (n := 6) ?_
  gi_wp2_with fail
  rw [HW.out]
  refine wpE_then (n := 6) ?_
  gi_wp2_with (first | (refine ⟨trivial, (callsIn_wide.2 (HE.out _ _)).mono ?_⟩; rintro e w1 ⟨rfl, rfl⟩) | (refine ⟨trivial, (callsIn_wide.2 (HU.out _)).mono ?_⟩; rintro e w1 ⟨rfl, rfl⟩))
  refine WpE.of (n := 6) (wpIn_ret ?_)
  refine ⟨.bool true, ?_, ⟨true, rfl⟩, hbW⟩
  simp [results, Tryz.f171, go_sem]
end Go.Proofs.YtihiacbhdcahkaaGreatDoor
