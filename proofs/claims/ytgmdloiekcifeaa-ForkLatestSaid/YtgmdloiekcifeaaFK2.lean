/- slices.IsSorted of numbers; fork.Check. -/
import Derived.Test.YtgmdloiekcifeaaFK1
import Derived.OrdersHeld
import Derived.Deep.RegionHeld
namespace Go.Proofs.Ytgmdloiekcifeaa
open Go Go.RowKit Go.Lib

theorem nan_u (a : Int) (w : World) : Calls Try.prog 25 #[.int .u64 a] w fun e w' => e = .returned (.bool false) ∧ w' = w := by
  go_enter Try.func25, Try.ntmps25
  go_wp2_with fail
  go_ret
  exact ⟨by simp, rfl⟩
theorem less_u (a b : Int) (w : World) : Calls Try.prog 24 #[.int .u64 a, .int .u64 b] w fun e w' => e = .returned (.bool (decide (a < b))) ∧ w' = w := by
  have HN := Lib.hid (nan_u a)
  go_enter Try.func24, Try.ntmps24
  go_wp2_with fail
  refine (HN.out w).mono ?_
  rintro e X ⟨rfl, hX⟩
  obtain rfl : w = X := hX.symm
  go_wp2_with fail
  go_ret
  exact ⟨by simp, rfl⟩

set_option maxRecDepth 100000 in
set_option maxHeartbeats 4000000 in
theorem sorted_u (f : Nat → Int) (g o m cap : Nat) (w : World) (h1 : 1 ≤ m) (hm : m ≤ 6) (hg : g < w.heap.size) (hc : ∀ j, j < m → w.cell? ⟨g, o + j, none⟩ = some (.int .u64 (f j))) :
    Calls Try.prog 20 #[.slice (some ⟨g, o, none⟩) m cap] w fun e w' => e = .returned (.bool ((List.range (m - 1)).all fun i => decide (f i ≤ f (i + 1)))) ∧ Below w.heap.size w w' := by
  have mixed : Try.prog.follows .mixedOrders = true := by kernel_rfl
  obtain ⟨m', rfl⟩ : ∃ m', m = m' + 1 := ⟨m - 1, by omega⟩
  rw [Nat.add_sub_cancel]
  go_enter Try.func20, Try.ntmps20
  go_wp2_with fail
  go_loopw [3] (fun i wr => ∃ j : Nat, j ≤ m' ∧ i = .int .i64 (j : Nat) ∧ (∀ k, j ≤ k → k < m' → f k ≤ f (k + 1)) ∧ Below w.heap.size w wr) (fun i _ => (RowKit.intOf i).toNat)
  case atStart => exact ⟨m', Nat.le_refl _, by simp, fun k h1 h2 => by omega, Below.refl _ _⟩
  case round =>
    obtain ⟨j, hj, rfl, hs, hW⟩ := hrel
    by_cases h0 : j = 0
    · subst h0
      go_wp2_with fail
      go_ret
      refine ⟨?_, hW⟩
      rw [show ((List.range m').all fun i => decide (f i ≤ f (i + 1))) = true by
        rw [List.all_eq_true]
        intro k hk
        rw [List.mem_range] at hk
        simpa using hs k (by omega) hk]
      rfl
    · obtain ⟨i, rfl⟩ : ∃ i, j = i + 1 := ⟨j - 1, by omega⟩
      have c1 := (hW.cell (p := ⟨g, o + (i + 1), none⟩) hg).trans (hc (i + 1) (by omega))
      have c0 := (hW.cell (p := ⟨g, o + i, none⟩) hg).trans (hc i (by omega))
      have hgr : g < wr.heap.size := Nat.lt_of_lt_of_le hg hW.size
      have hi9 : i < 64000 := by omega
      have him : i < m' := by omega
      go_wp2_with fail
      refine wp_region_held (S := fun Y => Below wr.heap.size wr Y) mixed ?_
      have hS0 : (fun Y => Below wr.heap.size wr Y) { wr with drawn := wr.drawn + 1 } := Below.drew (Below.refl _ _)
      rw [show Array.replicate (Array.size _) false = #[false, false, false, false, false, false, false, false, false, false] from rfl, show Array.size (α := Oper) _ = 10 from rfl]
      refine wpAnyH_take (i := 0) (v := .slice (some ⟨g, o, none⟩) (m' + 1) cap) rfl (by kernel_rfl) (by kernel_rfl) (by kernel_rfl) (fun _ _ _ h => h) (Or.inl ⟨by rfl, ?_⟩) hS0 ?_
      · intro Y hY
        skip
        go_simp
      simp only [Act.put, List.getElem_toArray, List.getElem_cons_zero, List.setIfInBounds_toArray, List.set_cons_zero, List.set_cons_succ]
      refine wpAnyH_take (i := 1) (v := .int .i64 ((i : Int) + 1)) rfl (by kernel_rfl) (by kernel_rfl) (by kernel_rfl) (fun _ _ _ h => h) (Or.inl ⟨by rfl, ?_⟩) hS0 ?_
      · intro Y hY
        skip
        go_simp
      simp only [Act.put, List.getElem_toArray, List.getElem_cons_succ, List.getElem_cons_zero, List.setIfInBounds_toArray, List.set_cons_zero, List.set_cons_succ]
      refine wpAnyH_take (i := 2) (v := .pointer (some ⟨g, o + (i + 1), none⟩)) rfl (by kernel_rfl) (by kernel_rfl) (by kernel_rfl) (fun _ _ _ h => h) (Or.inl ⟨by rfl, ?_⟩) hS0 ?_
      · intro Y hY
        skip
        go_simp
        intro hh; exfalso; omega
      simp only [Act.put, List.getElem_toArray, List.getElem_cons_succ, List.getElem_cons_zero, List.setIfInBounds_toArray, List.set_cons_zero, List.set_cons_succ]
      refine wpAnyH_take (i := 3) (v := .int .u64 (f (i + 1))) rfl (by kernel_rfl) (by kernel_rfl) (by kernel_rfl) (fun _ _ _ h => h) (Or.inl ⟨by rfl, ?_⟩) hS0 ?_
      · intro Y hY
        have e1 := (hY.cell (p := ⟨g, o + (i + 1), none⟩) hgr).trans c1
        go_simp
      simp only [Act.put, List.getElem_toArray, List.getElem_cons_succ, List.getElem_cons_zero, List.setIfInBounds_toArray, List.set_cons_zero, List.set_cons_succ]
      refine wpAnyH_take (i := 4) (v := .slice (some ⟨g, o, none⟩) (m' + 1) cap) rfl (by kernel_rfl) (by kernel_rfl) (by kernel_rfl) (fun _ _ _ h => h) (Or.inl ⟨by rfl, ?_⟩) hS0 ?_
      · intro Y hY
        skip
        go_simp
      simp only [Act.put, List.getElem_toArray, List.getElem_cons_succ, List.getElem_cons_zero, List.setIfInBounds_toArray, List.set_cons_zero, List.set_cons_succ]
      refine wpAnyH_take (i := 5) (v := .int .i64 ((i : Int) + 1)) rfl (by kernel_rfl) (by kernel_rfl) (by kernel_rfl) (fun _ _ _ h => h) (Or.inl ⟨by rfl, ?_⟩) hS0 ?_
      · intro Y hY
        skip
        go_simp
      simp only [Act.put, List.getElem_toArray, List.getElem_cons_succ, List.getElem_cons_zero, List.setIfInBounds_toArray, List.set_cons_zero, List.set_cons_succ]
      refine wpAnyH_take (i := 6) (v := .int .i64 (i : Nat)) rfl (by kernel_rfl) (by kernel_rfl) (by kernel_rfl) (fun _ _ _ h => h) (Or.inl ⟨by rfl, ?_⟩) hS0 ?_
      · intro Y hY
        skip
        go_simp
        rw [IntKind.wrap_i64]; omega
      simp only [Act.put, List.getElem_toArray, List.getElem_cons_succ, List.getElem_cons_zero, List.setIfInBounds_toArray, List.set_cons_zero, List.set_cons_succ]
      refine wpAnyH_take (i := 7) (v := .pointer (some ⟨g, o + i, none⟩)) rfl (by kernel_rfl) (by kernel_rfl) (by kernel_rfl) (fun _ _ _ h => h) (Or.inl ⟨by rfl, ?_⟩) hS0 ?_
      · intro Y hY
        skip
        go_simp
        intro hh; exfalso; omega
      simp only [Act.put, List.getElem_toArray, List.getElem_cons_succ, List.getElem_cons_zero, List.setIfInBounds_toArray, List.set_cons_zero, List.set_cons_succ]
      refine wpAnyH_take (i := 8) (v := .int .u64 (f i)) rfl (by kernel_rfl) (by kernel_rfl) (by kernel_rfl) (fun _ _ _ h => h) (Or.inl ⟨by rfl, ?_⟩) hS0 ?_
      · intro Y hY
        have e0 := (hY.cell (p := ⟨g, o + i, none⟩) hgr).trans c0
        go_simp
      simp only [Act.put, List.getElem_toArray, List.getElem_cons_succ, List.getElem_cons_zero, List.setIfInBounds_toArray, List.set_cons_zero, List.set_cons_succ]
      refine wpAnyH_ready (rs := [9]) (by kernel_rfl) (by simp) ?_
      refine AllReadyH.cons rfl (fun K hK => ?_) AllReadyH.nil
      go_simp
      refine (less_u (f (i + 1)) (f i) _).mono ?_
      rintro e X ⟨rfl, hX⟩
      obtain ⟨w3, hw3⟩ : ∃ w3 : World, { wr with drawn := wr.drawn + 1 } = w3 := ⟨_, rfl⟩
      replace hX : X = w3 := hX.trans hw3
      obtain rfl : w3 = X := hX.symm
      have hS3 : Below wr.heap.size wr w3 := by rw [← hw3]; exact hS0
      have hbw3 : Below w.heap.size w w3 := hW.trans (hS3.mono hW.size)
      try go_wp2_with fail
      refine hK.out _ _ hS3 (fun _ => ?_)
      clear hK K
      simp only [List.setIfInBounds_toArray, List.set_cons_zero, List.set_cons_succ]
      refine wpAnyH_done (by kernel_rfl) ?_ _
      clear hw3 c0 c1
      by_cases hlt : f (i + 1) < f i
      · go_wp2_with fail
        go_ret
        refine ⟨?_, hbw3⟩
        rw [show ((List.range m').all fun i => decide (f i ≤ f (i + 1))) = false by
          rw [List.all_eq_false]
          exact ⟨i, List.mem_range.2 him, by simp; omega⟩]
        rfl
      · go_wp2_with fail
        exact ⟨⟨i, by omega, rfl, fun k h3 h4 => by
          by_cases e : k = i
          · subst e; omega
          · exact hs k (by omega) h4, hbw3⟩, by simp [RowKit.intOf]⟩

end Go.Proofs.Ytgmdloiekcifeaa
