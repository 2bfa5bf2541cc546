/- ForkTells. -/
import Derived.Test.YtgmdloiekcifeaaFKA
import Derived.Test.YtgmdloiekcifeaaFK9
namespace Go.Proofs.Ytgmdloiekcifeaa
open Go Go.RowKit Go.Lib

theorem M.evr_len (xs : List Int) : (M.evr xs).length ≤ 6 := by
  unfold M.evr
  by_cases h : M.chkE xs = 0
  · rw [if_pos h]
    have := M.evn_len xs xs.length
    have := (M.chkE_zero h).2.1
    omega
  · rw [if_neg h]
    simp

set_option maxRecDepth 100000 in
set_option maxHeartbeats 8000000 in
theorem tells_law (xs : List Int) (a : Option Addr) (cap : Nat) (t f : Int) (w : World) (hN : Ns w w.heap.size xs (.slice a xs.length cap)) :
    Calls Try.prog 3 #[sch (.slice a xs.length cap), .int .u64 t, .int .i64 f] w fun e w' => e = .returned (.bool true) ∧ Below w.heap.size w w' := by
  have mixed : Try.prog.follows .mixedOrders = true := by kernel_rfl
  have HW := Lib.hid works12
  have HLE := Lib.hid (M.evr_len xs)
  obtain ⟨w0, hw0⟩ : ∃ w0, w.alloc (.cells #[.slice a xs.length cap] 24) = w0 := ⟨_, rfl⟩
  have hsz : w0.heap.size = w.heap.size + 1 := by rw [← hw0]; simp
  have hb0 : Below w.heap.size w w0 := by rw [← hw0]; (repeat (first | exact Below.refl _ _ | refine Below.drew ?_ | refine Below.alloc ?_ (by first | omega | (simp; omega) | simp) _ | refine Below.setCell ?_ (by first | omega | (simp; omega) | simp) _))
  have hc0 : w0.cell? ⟨w.heap.size, 0, none⟩ = some (.slice a xs.length cap) := by rw [← hw0, World.cell?_alloc_at _ _ _ _ (by simp)]; rfl
  have HW0 := Lib.hid hw0
  have HB := Lib.hid hb0
  have HC0 := Lib.hid (fun W (h : Below w0.heap.size w0 W) => (h.cell (p := ⟨w.heap.size, 0, none⟩) (by rw [hsz]; show w.heap.size < _; omega)).trans hc0)
  have hN0 : ∀ W, Below w0.heap.size w0 W → Ns W W.heap.size xs (.slice a xs.length cap) := fun W h => (hN.from_ (hb0.trans (h.mono hb0.size))).mono (hb0.trans (h.mono hb0.size)).size
  have HK := Lib.hid (fun W (h : Below w0.heap.size w0 W) => rcheck_any xs a cap W (hN0 W h))
  have HA := Lib.hid (fun W (h : Below w0.heap.size w0 W) => ractive_any xs a cap t W (hN0 W h))
  have HF := Lib.hid (fun W (h : Below w0.heap.size w0 W) => rfrom_any xs a cap f W (hN0 W h))
  have HRE := Lib.hid (fun W (h : Below w0.heap.size w0 W) => rever_any xs a cap W (hN0 W h))
  have GK := Lib.hid (fun W (h : Below w0.heap.size w0 W) => fcheck_any xs a cap W (hN0 W h))
  have GA := Lib.hid (fun W (h : Below w0.heap.size w0 W) => active_any xs a cap t W (hN0 W h))
  have GF := Lib.hid (fun W (h : Below w0.heap.size w0 W) => from_any xs a cap f W (hN0 W h))
  have HE := Lib.hid (fun W (h : Below w0.heap.size w0 W) => ever_any xs a cap W (hN0 W h))
  clear hN hN0 hw0 hc0 hb0
  generalize M.chkE xs = k at *
  generalize M.actV xs t = av at *
  generalize M.actE xs t = ae at *
  generalize M.frmV xs f = fv at *
  generalize M.frmE xs f = fe at *
  go_enter Try.func3, Try.ntmps3
  go_wp2_with fail
  rw [HW0.out]
  refine (HW.out _).mono ?_
  rintro e w1 ⟨rfl, B1⟩
  have c1 := HC0.out _ B1
  by_cases h100 : 100 < xs.length
  · go_wp2_with fail
    go_ret
    exact ⟨rfl, HB.out.trans (B1.mono HB.out.size)⟩
  go_wp2_with fail
  refine (HK.out _ B1).mono ?_
  rintro e w2 ⟨rfl, hb2⟩
  have B2 := B1.trans (hb2.mono B1.size)
  have c2 := HC0.out _ B2
  clear c1 hb2
  go_wp2_with fail
  refine (GA.out _ B2).mono ?_
  rintro e w3 ⟨rfl, hb3⟩
  have B3 := B2.trans (hb3.mono B2.size)
  have c3 := HC0.out _ B3
  clear c2 hb3
  go_wp2_with fail
  refine (HA.out _ B3).mono ?_
  rintro e w4 ⟨rfl, hb4⟩
  have B4 := B3.trans (hb4.mono B3.size)
  have c4 := HC0.out _ B4
  clear c3 hb4
  go_wp2_with fail
  refine (GF.out _ B4).mono ?_
  rintro e w5 ⟨rfl, hb5⟩
  have B5 := B4.trans (hb5.mono B4.size)
  have c5 := HC0.out _ B5
  clear c4 hb5
  go_wp2_with fail
  refine (HF.out _ B5).mono ?_
  rintro e w6 ⟨rfl, hb6⟩
  have B6 := B5.trans (hb6.mono B5.size)
  clear c5 hb6
  go_wp2_with fail
  refine wp_region_held (S := fun Y => Below w0.heap.size w0 Y) mixed ?_
  have hS0 : Below w0.heap.size w0 w6.drew := Below.drew B6
  rw [show Array.replicate (Array.size _) false = #[false, false, false, false, false, false] from rfl, show Array.size (α := Oper) _ = 6 from rfl]
  refine wpAnyH_take (i := 0) (v := .agg #[.slice a xs.length cap]) rfl (by kernel_rfl) (by kernel_rfl) (by kernel_rfl) (fun _ _ _ h => h) (Or.inl ⟨by rfl, ?_⟩) hS0 ?_
  · intro Y hY
    have c0 := HC0.out _ hY
    go_simp
  simp only [Act.put, List.getElem_toArray, List.getElem_cons_zero, List.setIfInBounds_toArray, List.set_cons_zero, List.set_cons_succ]
  refine wpAnyH_take (i := 2) (v := .agg #[.slice a xs.length cap]) rfl (by kernel_rfl) (by kernel_rfl) (by kernel_rfl) (fun _ _ _ h => h) (Or.inl ⟨by rfl, ?_⟩) hS0 ?_
  · intro Y hY
    have c0 := HC0.out _ hY
    go_simp
  simp only [Act.put, List.getElem_toArray, List.getElem_cons_succ, List.getElem_cons_zero, List.setIfInBounds_toArray, List.set_cons_zero, List.set_cons_succ]
  refine wpAnyH_ready (rs := [1]) (by kernel_rfl) (by simp) ?_
  refine AllReadyH.cons rfl (fun K hK => ?_) AllReadyH.nil
  go_simp
  refine (HE.out _ hS0).mono ?_
  rintro e w7 ⟨v, rfl, hv, hb7⟩
  have hS7 : Below w0.heap.size w0 w7 := hS0.trans (Below.mono hb7 hS0.size)
  obtain ⟨va, vc, rfl⟩ := hv.slice
  try go_wp2_with fail
  refine hK.out _ _ hS7 (fun _ => ?_)
  clear hK K
  simp only [List.setIfInBounds_toArray, List.set_cons_zero, List.set_cons_succ]
  refine wpAnyH_ready (rs := [3]) (by kernel_rfl) (by simp) ?_
  refine AllReadyH.cons rfl (fun K hK => ?_) AllReadyH.nil
  go_simp
  refine (HRE.out _ hS7).mono ?_
  rintro e w8 ⟨u, rfl, hu, hb8⟩
  have hS8 : Below w0.heap.size w0 w8 := hS7.trans (Below.mono hb8 hS7.size)
  obtain ⟨ua, uc, rfl⟩ := hu.slice
  try go_wp2_with fail
  refine hK.out _ _ hS8 (fun _ => ?_)
  clear hK K
  simp only [List.setIfInBounds_toArray, List.set_cons_zero, List.set_cons_succ]
  have HIN := Lib.hid (ints_any (M.evr xs) va ua vc uc w8 HLE.out ((hv.from_ hb8).mono hb8.size) hu)
  refine wpAnyH_ready (rs := [4]) (by kernel_rfl) (by simp) ?_
  refine AllReadyH.cons rfl (fun K hK => ?_) AllReadyH.nil
  go_simp
  refine HIN.out.mono ?_
  rintro e w9 ⟨rfl, hb9⟩
  have hS9 : Below w0.heap.size w0 w9 := hS8.trans (hb9.mono hS8.size)
  try go_wp2_with fail
  refine hK.out _ _ hS9 (fun _ => ?_)
  clear hK K
  simp only [List.setIfInBounds_toArray, List.set_cons_zero, List.set_cons_succ]
  refine wpAnyH_take (i := 5) (v := .bool true) rfl (by kernel_rfl) (by kernel_rfl) (by kernel_rfl) (fun _ _ _ h => h) (Or.inl ⟨by rfl, ?_⟩) hS9 ?_
  · intro Y hY
    skip
    go_simp
  simp only [Act.put, List.getElem_toArray, List.getElem_cons_succ, List.getElem_cons_zero, List.setIfInBounds_toArray, List.set_cons_zero, List.set_cons_succ]
  refine wpAnyH_done (by kernel_rfl) ?_ _
  have c9 := HC0.out _ hS9
  clear hb7 hb8 hb9 hv hu
  go_wp2_with fail
  refine (GK.out _ hS9).mono ?_
  rintro e w10 ⟨rfl, hb10⟩
  go_wp2_with fail
  go_ret
  exact ⟨rfl, HB.out.trans ((hS9.trans (hb10.mono hS9.size)).mono HB.out.size)⟩
end Go.Proofs.Ytgmdloiekcifeaa
