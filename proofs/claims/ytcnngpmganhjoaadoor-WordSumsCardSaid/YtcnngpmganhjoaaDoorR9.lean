/- The reference's Sub. -/
import Derived.Test.YtcnngpmganhjoaaDoorR8
namespace Go.Proofs.YtcnngpmganhjoaaDoor
open Go Go.RowKit

theorem big_part {k : Nat} (hk : k < 32) : (256 : Nat) ^ 32 = 256 ^ k * (256 * 256 ^ (31 - k)) := by
  rw [← Nat.pow_succ', ← Nat.pow_add]
  congr 1
  omega
theorem part_big (A k : Nat) (hk : k < 32) : (A + 256 ^ 32) / 256 ^ k % 256 = A / 256 ^ k % 256 := by
  have hp : 0 < 256 ^ k := Nat.pow_pos (by omega)
  rw [big_part hk, Nat.add_mul_div_left _ _ hp]
  omega
theorem sb_step {A B D : Nat} (hD : D + B = A + 256 ^ 32) (k : Nat) (hk : k < 32) :
    ((((A / 256 ^ k % 256 : Nat) : Int) - ((B / 256 ^ k % 256 : Nat) : Int) - (cy D B k : Int) < 0) → ((A / 256 ^ k % 256 : Nat) : Int) - ((B / 256 ^ k % 256 : Nat) : Int) - (cy D B k : Int) + 256 = ((D / 256 ^ k % 256 : Nat) : Int) ∧ (1 : Int) = (cy D B (k + 1) : Int)) ∧
    ((¬ ((A / 256 ^ k % 256 : Nat) : Int) - ((B / 256 ^ k % 256 : Nat) : Int) - (cy D B k : Int) < 0) → ((A / 256 ^ k % 256 : Nat) : Int) - ((B / 256 ^ k % 256 : Nat) : Int) - (cy D B k : Int) = ((D / 256 ^ k % 256 : Nat) : Int) ∧ (0 : Int) = (cy D B (k + 1) : Int)) := by
  have h := cy_step D B k
  have b := cy_lt D B k
  have b' := cy_lt D B (k + 1)
  rw [hD, part_big A k hk] at h
  omega
theorem sb_no {A B D : Nat} (hA : M.In A) (hB : M.In B) (h : B ≤ A) (hD : D + B = A + 256 ^ 32) : cy D B 32 = 0 := by
  unfold cy M.In at *
  rw [show (256 : Nat) ^ 32 = 115792089237316195423570985008687907853269984665640564039457584007913129639936 by decide] at *
  omega
theorem sb_yes {A B D : Nat} (hA : M.In A) (hB : M.In B) (h : A < B) (hD : D + B = A + 256 ^ 32) : cy D B 32 = 1 := by
  unfold cy M.In at *
  rw [show (256 : Nat) ^ 32 = 115792089237316195423570985008687907853269984665640564039457584007913129639936 by decide] at *
  omega
theorem sb_dig {A B D j : Nat} (h : B ≤ A) (hD : D + B = A + 256 ^ 32) (hj : j < 32) : D / 256 ^ j % 256 = (A - B) / 256 ^ j % 256 := by
  rw [show D = (A - B) + 256 ^ 32 by omega, part_big _ j hj]

set_option maxRecDepth 100000 in
set_option maxHeartbeats 4000000 in
theorem rsub_no (A B D : Nat) (w : World) (hA : Hid (M.In A)) (hB : Hid (M.In B)) (hAB : Hid (B ≤ A)) (hD : Hid (D + B = A + 256 ^ 32)) :
    Calls Tryd.prog 13 #[wn A, wn B] w fun e w' => e = .returned (.tuple #[wn (A - B), .int .i64 0]) ∧ Below w.heap.size w w' := by
  obtain ⟨i0, hi, hz0, hz1, hz2⟩ := info_parts Tryd.infoI
  go_enter Tryd.func13, Tryd.ntmps13
  go_wp2_with fail
  go_loopw [6, 7, 8] (fun v m i wr => ∃ k : Nat, k ≤ 32 ∧ i = .int .i64 (k : Int) ∧ m = .int .i64 (((cy D B k : Nat) : Int)) ∧ wr.ownsRow (w.heap.size + 3) 3 1 v k ((low D k).map (Value.int .i64)) ∧ W4 wr w.heap.size (M.pt 0 A) (M.pt 1 A) (M.pt 2 A) (M.pt 3 A) ∧ W4 wr (w.heap.size + 1) (M.pt 0 B) (M.pt 1 B) (M.pt 2 B) (M.pt 3 B) ∧ C4 wr (w.heap.size + 1 + 1) 0 0 0 0 ∧ Below w.heap.size w wr)
    (fun _ _ i _ => (32 - intOf i).toNat)
  case atStart =>
    refine ⟨0, by omega, rfl, by rw [cy_zero]; rfl, World.ownsRow_nil _ _ _ _, ?_, ?_, ?_, ?_⟩
    · exact ((W4.new w (M.pt 0 A) (M.pt 1 A) (M.pt 2 A) (M.pt 3 A) 24).below ((Below.refl _ _).alloc (Nat.le_refl _) _)).below ((Below.refl _ _).alloc (Nat.le_refl _) _)
    · have := (W4.new (w.alloc (.cells #[.int .u64 (M.pt 0 A), .int .u64 (M.pt 1 A), .int .u64 (M.pt 2 A), .int .u64 (M.pt 3 A)] 24)) (M.pt 0 B) (M.pt 1 B) (M.pt 2 B) (M.pt 3 B) 24).below ((Below.refl _ _).alloc (Nat.le_refl _) (.cells #[.int .u64 0, .int .u64 0, .int .u64 0, .int .u64 0] 24))
      rw [World.size_alloc] at this
      exact this
    · constructor
      all_goals simp [go_sem]
    · (repeat (first | exact Below.refl _ _ | refine Below.drew ?_ | refine Below.alloc ?_ (by first | omega | (simp; omega) | simp) _ | refine Below.setCell ?_ (by first | omega | (simp; omega) | simp) _))
  case round =>
    obtain ⟨k, hk, rfl, rfl, hown, H1, H2, H3, LW⟩ := hrel
    by_cases hlt : k < 32
    · go_wp2_with fail
      have hS2 : S2 (fun W => W.ownsRow (w.heap.size + 3) 3 1 u6 k ((low D k).map (Value.int .i64)) ∧ C4 W (w.heap.size + 1 + 1) 0 0 0 0 ∧ Below w.heap.size w W) w.heap.size (w.heap.size + 1) (M.pt 0 A) (M.pt 1 A) (M.pt 2 A) (M.pt 3 A) (M.pt 0 B) (M.pt 1 B) (M.pt 2 B) (M.pt 3 B) wr :=
        ⟨H1, H2, ⟨hown, H3, LW⟩, fun _ _ h hb => ⟨owned_below h.1 hb, h.2.1.belowN hb h.2.1.lt0, h.2.2.trans (hb.mono h.2.2.size)⟩⟩
      have hx : Hid (∀ w : World, Calls Tryd.prog 29 #[wn A, .int .i64 (k : Int)] w fun e w' => e = .returned (.int .i64 ((A / 256 ^ k % 256 : Nat) : Int)) ∧ Below w.heap.size w w') := fun w => digit_any A k w hlt
      have hy : Hid (∀ w : World, Calls Tryd.prog 29 #[wn B, .int .i64 (k : Int)] w fun e w' => e = .returned (.int .i64 ((B / 256 ^ k % 256 : Nat) : Int)) ∧ Below w.heap.size w w') := fun w => digit_any B k w hlt
      have bx := dg_lt A k
      have bY := dg_lt B k
      have bm := cy_lt D B k
      have hst := Lib.hid (sb_step hD.out k hlt)
      clear H1 H2 H3 LW hown
      generalize ((A / 256 ^ k % 256 : Nat) : Int) = x at hx bx hst
      generalize ((B / 256 ^ k % 256 : Nat) : Int) = y at hy bY hst
      generalize ((cy D B k : Nat) : Int) = m at bm hst ⊢
      generalize hm' : ((cy D B (k + 1) : Nat) : Int) = m' at hst
      obtain ⟨bx0, bx1⟩ := bx
      obtain ⟨by0, by1⟩ := bY
      obtain ⟨bm0, bm1⟩ := bm
      refine Code.wp_mono ?_ (rsub_wp _ _ w.heap.size (w.heap.size + 1) _ _ _ _ _ _ _ _ (k : Int) x y m hx hy bx0 bx1 by0 by1 bm0 bm1 _ _ _ _ _ _ _ _ _ _ _ _ _ _ _ _ _ _ _ _ _ _ _ _ _ _ _ _ _ _ _ _ _ (by kernel_rfl) hS2)
      clear hS2 hx hy
      rintro _ b U ⟨rfl, rfl, hU⟩
      obtain ⟨H1, H2, ⟨hown, H3, LW⟩, _⟩ := hU
      by_cases hneg : x - y - m < 0
      · obtain ⟨hz1', hz2'⟩ := hst.out.1 hneg
        rw [← hm'] at hz2'
        generalize hzz : ((D / 256 ^ k % 256 : Nat) : Int) = z at hz1'
        have HZ := Lib.hid hzz
        have HM := Lib.hid hz2'
        clear hst hzz hm' hz2'
        have hsz := H3.lt0
        go_wp2_with (at_builtin; refine wpList_append_own _ rfl _ _ 43 rfl (w.heap.size + 3) 3 i0 (.int .i64 0) 1 8 Tryd.underlying43 hi hz0 hz1 hz2 rfl (by decide) _ _ _ rfl (hown.alloc _) ⟨U.heap.size, 0, none⟩ 1 1 [.int .i64 z] rfl rfl (cell_one_new _ _ _) (by simp [Value.oneCell']) (by unfold maxLen; omega) (by omega) (by simp; omega) ?_; intro v' w2 hown' hgrow _)
        have hown2 : w2.ownsRow (w.heap.size + 3) 3 1 v' (k + 1) ((low D (k + 1)).map (Value.int .i64)) := by
          rw [low_succ, HZ.out, List.map_append]
          exact hown'
        have hbel : Below (w.heap.size + 3) U w2 := by
          exact ((Below.refl _ U).alloc (by have := H3.lt0; omega) _).grown hgrow (by have := H3.lt0; simp; omega) (fun q e => (hown.lt q e).1)
        replace H1 := H1.belowN hbel (by omega)
        replace H2 := H2.belowN hbel (by omega)
        replace H3 := H3.belowN hbel (by omega)
        replace LW := LW.trans (hbel.mono (by omega))
        clear hown hown' hgrow hbel
        go_wp2_with fail
        refine ⟨⟨k + 1, by omega, by congr 1, by rw [← HM.out], hown2, H1, H2, H3, LW⟩, by simp [intOf]; omega⟩
      · obtain ⟨hz1', hz2'⟩ := hst.out.2 hneg
        rw [← hm'] at hz2'
        generalize hzz : ((D / 256 ^ k % 256 : Nat) : Int) = z at hz1'
        have HZ := Lib.hid hzz
        have HM := Lib.hid hz2'
        clear hst hzz hm' hz2'
        have hsz := H3.lt0
        go_wp2_with (at_builtin; refine wpList_append_own _ rfl _ _ 43 rfl (w.heap.size + 3) 3 i0 (.int .i64 0) 1 8 Tryd.underlying43 hi hz0 hz1 hz2 rfl (by decide) _ _ _ rfl (hown.alloc _) ⟨U.heap.size, 0, none⟩ 1 1 [.int .i64 z] rfl rfl (cell_one_new _ _ _) (by simp [Value.oneCell']) (by unfold maxLen; omega) (by omega) (by simp; omega) ?_; intro v' w2 hown' hgrow _)
        have hown2 : w2.ownsRow (w.heap.size + 3) 3 1 v' (k + 1) ((low D (k + 1)).map (Value.int .i64)) := by
          rw [low_succ, HZ.out, List.map_append]
          exact hown'
        have hbel : Below (w.heap.size + 3) U w2 := by
          exact ((Below.refl _ U).alloc (by have := H3.lt0; omega) _).grown hgrow (by have := H3.lt0; simp; omega) (fun q e => (hown.lt q e).1)
        replace H1 := H1.belowN hbel (by omega)
        replace H2 := H2.belowN hbel (by omega)
        replace H3 := H3.belowN hbel (by omega)
        replace LW := LW.trans (hbel.mono (by omega))
        clear hown hown' hgrow hbel
        go_wp2_with fail
        refine ⟨⟨k + 1, by omega, by congr 1, by rw [← HM.out], hown2, H1, H2, H3, LW⟩, by simp [intOf]; omega⟩
    · obtain rfl : k = 32 := by omega
      rw [show ((cy D B 32 : Nat) : Int) = 0 by rw [sb_no hA.out hB.out hAB.out hD.out]; rfl]
      have hlt := fun q e => hown.lt q e
      obtain ⟨g, cap, rfl, hcells⟩ := row_cells hown (by omega)
      have hg := (hlt g rfl).2
      obtain ⟨r0, r1, r2, r3, g0, g1, g2, g3⟩ := H3
      clear hown hlt H1 H2
      go_wp2_with fail
      refine (rof_any (A - B) g cap _ (fun j hj => by rw [hcells j (by rw [low_length]; exact hj), low_get D 32 j hj, sb_dig hAB.out hD.out hj]) hg).mono ?_
      rintro e w2 ⟨rfl, hb⟩
      have lr : w.heap.size + 1 + 1 < wr.heap.size := World.lt_of_cell r0
      obtain ⟨hce, hfr⟩ := bcell hb
      replace LW := LW.trans (hb.mono LW.size)
      clear hb hcells
      go_wp2_with fail
      refine bodyPost_ret (v := .tuple #[wn (A - B), .int .i64 0]) (by simp [results, Tryd.results13, go_sem, hce, lr, r0, r1, r2, r3]) rfl ⟨rfl, ?_⟩
      refine Below.setCell (Below.setCell (Below.setCell (Below.setCell LW (by first | omega | (simp; omega) | simp) _) (by first | omega | (simp; omega) | simp) _) (by first | omega | (simp; omega) | simp) _) (by first | omega | (simp; omega) | simp) _


set_option maxRecDepth 100000 in
set_option maxHeartbeats 4000000 in
theorem rsub_yes (A B D : Nat) (w : World) (hA : Hid (M.In A)) (hB : Hid (M.In B)) (hAB : Hid (A < B)) (hD : Hid (D + B = A + 256 ^ 32)) :
    Calls Tryd.prog 13 #[wn A, wn B] w fun e w' => e = .returned (.tuple #[wd 0 0 0 0, .int .i64 6]) ∧ Below w.heap.size w w' := by
  obtain ⟨i0, hi, hz0, hz1, hz2⟩ := info_parts Tryd.infoI
  go_enter Tryd.func13, Tryd.ntmps13
  go_wp2_with fail
  go_loopw [6, 7, 8] (fun v m i wr => ∃ k : Nat, k ≤ 32 ∧ i = .int .i64 (k : Int) ∧ m = .int .i64 (((cy D B k : Nat) : Int)) ∧ wr.ownsRow (w.heap.size + 3) 3 1 v k ((low D k).map (Value.int .i64)) ∧ W4 wr w.heap.size (M.pt 0 A) (M.pt 1 A) (M.pt 2 A) (M.pt 3 A) ∧ W4 wr (w.heap.size + 1) (M.pt 0 B) (M.pt 1 B) (M.pt 2 B) (M.pt 3 B) ∧ C4 wr (w.heap.size + 1 + 1) 0 0 0 0 ∧ Below w.heap.size w wr)
    (fun _ _ i _ => (32 - intOf i).toNat)
  case atStart =>
    refine ⟨0, by omega, rfl, by rw [cy_zero]; rfl, World.ownsRow_nil _ _ _ _, ?_, ?_, ?_, ?_⟩
    · exact ((W4.new w (M.pt 0 A) (M.pt 1 A) (M.pt 2 A) (M.pt 3 A) 24).below ((Below.refl _ _).alloc (Nat.le_refl _) _)).below ((Below.refl _ _).alloc (Nat.le_refl _) _)
    · have := (W4.new (w.alloc (.cells #[.int .u64 (M.pt 0 A), .int .u64 (M.pt 1 A), .int .u64 (M.pt 2 A), .int .u64 (M.pt 3 A)] 24)) (M.pt 0 B) (M.pt 1 B) (M.pt 2 B) (M.pt 3 B) 24).below ((Below.refl _ _).alloc (Nat.le_refl _) (.cells #[.int .u64 0, .int .u64 0, .int .u64 0, .int .u64 0] 24))
      rw [World.size_alloc] at this
      exact this
    · constructor
      all_goals simp [go_sem]
    · (repeat (first | exact Below.refl _ _ | refine Below.drew ?_ | refine Below.alloc ?_ (by first | omega | (simp; omega) | simp) _ | refine Below.setCell ?_ (by first | omega | (simp; omega) | simp) _))
  case round =>
    obtain ⟨k, hk, rfl, rfl, hown, H1, H2, H3, LW⟩ := hrel
    by_cases hlt : k < 32
    · go_wp2_with fail
      have hS2 : S2 (fun W => W.ownsRow (w.heap.size + 3) 3 1 u6 k ((low D k).map (Value.int .i64)) ∧ C4 W (w.heap.size + 1 + 1) 0 0 0 0 ∧ Below w.heap.size w W) w.heap.size (w.heap.size + 1) (M.pt 0 A) (M.pt 1 A) (M.pt 2 A) (M.pt 3 A) (M.pt 0 B) (M.pt 1 B) (M.pt 2 B) (M.pt 3 B) wr :=
        ⟨H1, H2, ⟨hown, H3, LW⟩, fun _ _ h hb => ⟨owned_below h.1 hb, h.2.1.belowN hb h.2.1.lt0, h.2.2.trans (hb.mono h.2.2.size)⟩⟩
      have hx : Hid (∀ w : World, Calls Tryd.prog 29 #[wn A, .int .i64 (k : Int)] w fun e w' => e = .returned (.int .i64 ((A / 256 ^ k % 256 : Nat) : Int)) ∧ Below w.heap.size w w') := fun w => digit_any A k w hlt
      have hy : Hid (∀ w : World, Calls Tryd.prog 29 #[wn B, .int .i64 (k : Int)] w fun e w' => e = .returned (.int .i64 ((B / 256 ^ k % 256 : Nat) : Int)) ∧ Below w.heap.size w w') := fun w => digit_any B k w hlt
      have bx := dg_lt A k
      have bY := dg_lt B k
      have bm := cy_lt D B k
      have hst := Lib.hid (sb_step hD.out k hlt)
      clear H1 H2 H3 LW hown
      generalize ((A / 256 ^ k % 256 : Nat) : Int) = x at hx bx hst
      generalize ((B / 256 ^ k % 256 : Nat) : Int) = y at hy bY hst
      generalize ((cy D B k : Nat) : Int) = m at bm hst ⊢
      generalize hm' : ((cy D B (k + 1) : Nat) : Int) = m' at hst
      obtain ⟨bx0, bx1⟩ := bx
      obtain ⟨by0, by1⟩ := bY
      obtain ⟨bm0, bm1⟩ := bm
      refine Code.wp_mono ?_ (rsub_wp _ _ w.heap.size (w.heap.size + 1) _ _ _ _ _ _ _ _ (k : Int) x y m hx hy bx0 bx1 by0 by1 bm0 bm1 _ _ _ _ _ _ _ _ _ _ _ _ _ _ _ _ _ _ _ _ _ _ _ _ _ _ _ _ _ _ _ _ _ (by kernel_rfl) hS2)
      clear hS2 hx hy
      rintro _ b U ⟨rfl, rfl, hU⟩
      obtain ⟨H1, H2, ⟨hown, H3, LW⟩, _⟩ := hU
      by_cases hneg : x - y - m < 0
      · obtain ⟨hz1', hz2'⟩ := hst.out.1 hneg
        rw [← hm'] at hz2'
        generalize hzz : ((D / 256 ^ k % 256 : Nat) : Int) = z at hz1'
        have HZ := Lib.hid hzz
        have HM := Lib.hid hz2'
        clear hst hzz hm' hz2'
        have hsz := H3.lt0
        go_wp2_with (at_builtin; refine wpList_append_own _ rfl _ _ 43 rfl (w.heap.size + 3) 3 i0 (.int .i64 0) 1 8 Tryd.underlying43 hi hz0 hz1 hz2 rfl (by decide) _ _ _ rfl (hown.alloc _) ⟨U.heap.size, 0, none⟩ 1 1 [.int .i64 z] rfl rfl (cell_one_new _ _ _) (by simp [Value.oneCell']) (by unfold maxLen; omega) (by omega) (by simp; omega) ?_; intro v' w2 hown' hgrow _)
        have hown2 : w2.ownsRow (w.heap.size + 3) 3 1 v' (k + 1) ((low D (k + 1)).map (Value.int .i64)) := by
          rw [low_succ, HZ.out, List.map_append]
          exact hown'
        have hbel : Below (w.heap.size + 3) U w2 := by
          exact ((Below.refl _ U).alloc (by have := H3.lt0; omega) _).grown hgrow (by have := H3.lt0; simp; omega) (fun q e => (hown.lt q e).1)
        replace H1 := H1.belowN hbel (by omega)
        replace H2 := H2.belowN hbel (by omega)
        replace H3 := H3.belowN hbel (by omega)
        replace LW := LW.trans (hbel.mono (by omega))
        clear hown hown' hgrow hbel
        go_wp2_with fail
        refine ⟨⟨k + 1, by omega, by congr 1, by rw [← HM.out], hown2, H1, H2, H3, LW⟩, by simp [intOf]; omega⟩
      · obtain ⟨hz1', hz2'⟩ := hst.out.2 hneg
        rw [← hm'] at hz2'
        generalize hzz : ((D / 256 ^ k % 256 : Nat) : Int) = z at hz1'
        have HZ := Lib.hid hzz
        have HM := Lib.hid hz2'
        clear hst hzz hm' hz2'
        have hsz := H3.lt0
        go_wp2_with (at_builtin; refine wpList_append_own _ rfl _ _ 43 rfl (w.heap.size + 3) 3 i0 (.int .i64 0) 1 8 Tryd.underlying43 hi hz0 hz1 hz2 rfl (by decide) _ _ _ rfl (hown.alloc _) ⟨U.heap.size, 0, none⟩ 1 1 [.int .i64 z] rfl rfl (cell_one_new _ _ _) (by simp [Value.oneCell']) (by unfold maxLen; omega) (by omega) (by simp; omega) ?_; intro v' w2 hown' hgrow _)
        have hown2 : w2.ownsRow (w.heap.size + 3) 3 1 v' (k + 1) ((low D (k + 1)).map (Value.int .i64)) := by
          rw [low_succ, HZ.out, List.map_append]
          exact hown'
        have hbel : Below (w.heap.size + 3) U w2 := by
          exact ((Below.refl _ U).alloc (by have := H3.lt0; omega) _).grown hgrow (by have := H3.lt0; simp; omega) (fun q e => (hown.lt q e).1)
        replace H1 := H1.belowN hbel (by omega)
        replace H2 := H2.belowN hbel (by omega)
        replace H3 := H3.belowN hbel (by omega)
        replace LW := LW.trans (hbel.mono (by omega))
        clear hown hown' hgrow hbel
        go_wp2_with fail
        refine ⟨⟨k + 1, by omega, by congr 1, by rw [← HM.out], hown2, H1, H2, H3, LW⟩, by simp [intOf]; omega⟩
    · obtain rfl : k = 32 := by omega
      rw [show ((cy D B 32 : Nat) : Int) = 1 by rw [sb_yes hA.out hB.out hAB.out hD.out]; rfl]
      obtain ⟨r0, r1, r2, r3, g0, g1, g2, g3⟩ := H3
      clear hown H1 H2
      go_wp2_with fail
      refine bodyPost_ret (v := .tuple #[wd 0 0 0 0, .int .i64 6]) (by simp [results, Tryd.results13, go_sem, r0, r1, r2, r3]) rfl ⟨rfl, ?_⟩
      refine Below.setCell (Below.setCell (Below.setCell (Below.setCell LW (by first | omega | (simp; omega) | simp) _) (by first | omega | (simp; omega) | simp) _) (by first | omega | (simp; omega) | simp) _) (by first | omega | (simp; omega) | simp) _
end Go.Proofs.YtcnngpmganhjoaaDoor
