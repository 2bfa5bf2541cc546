/- The reference's Ever. -/
import Derived.Test.YtgmdloiekcifeaaFK7
import Derived.Test.YtgmdloiekcifeaaFK8
namespace Go.Proofs.Ytgmdloiekcifeaa
open Go Go.RowKit Go.Lib

set_option maxRecDepth 100000 in
set_option maxHeartbeats 8000000 in
theorem rever_any (xs : List Int) (a : Option Addr) (cap : Nat) (w : World) (hN : Ns w w.heap.size xs (.slice a xs.length cap)) :
    Calls Try.prog 16 #[sch (.slice a xs.length cap)] w fun e w' => ∃ v, e = .returned v ∧ Zs w' w'.heap.size (M.evr xs) v ∧ Below w.heap.size w w' := by
  have mixed : Try.prog.follows .mixedOrders = true := by kernel_rfl
  have HK := Lib.hid (fun (W : World) (h : Below w.heap.size w W) => rcheck_any xs a cap W ((hN.from_ h).mono h.size))
  have HA := Lib.hid (fun (W : World) (t : Int) (h : Below w.heap.size w W) => ractive_any xs a cap t W ((hN.from_ h).mono h.size))
  obtain ⟨w0, hw0⟩ : ∃ w0, w.alloc (.cells #[.slice a xs.length cap] 24) = w0 := ⟨_, rfl⟩
  have hsz : w0.heap.size = w.heap.size + 1 := by rw [← hw0]; simp
  have hb0 : Below w.heap.size w w0 := by rw [← hw0]; (repeat (first | exact Below.refl _ _ | refine Below.drew ?_ | refine Below.alloc ?_ (by first | omega | (simp; omega) | simp) _ | refine Below.setCell ?_ (by first | omega | (simp; omega) | simp) _))
  have hc0 : w0.cell? ⟨w.heap.size, 0, none⟩ = some (.slice a xs.length cap) := by rw [← hw0, World.cell?_alloc_at _ _ _ _ (by simp)]; rfl
  have HW := Lib.hid hw0
  have HB := Lib.hid hb0
  have HC0 := Lib.hid (fun W (h : Below w0.heap.size w0 W) => (h.cell (p := ⟨w.heap.size, 0, none⟩) (by rw [hsz]; show w.heap.size < _; omega)).trans hc0)
  clear hw0 hc0
  by_cases hE : M.chkE xs = 0
  · obtain ⟨h1, h6, hs⟩ := M.chkE_zero hE
    obtain ⟨b, o, rfl, hb, hc⟩ := hN.cells h1
    unfold M.evr
    rw [if_pos hE]
    rw [hE] at HK
    have HC := Lib.hid (fun W (h : Below w0.heap.size w0 W) (i : Nat) (hi : i < xs.length) => ((h.cell (p := ⟨b, o + i, none⟩) (by rw [hsz]; show b < _; omega)).trans (hb0.cell (p := ⟨b, o + i, none⟩) hb)).trans (hc i hi))
    have HACT : Hid (∀ j, j < xs.length → M.actV xs (M.gi xs j) = ((M.beg xs (M.gi xs j) - 1 : Nat) : Int) ∧ j < M.beg xs (M.gi xs j)) := fun j hj => ⟨by unfold M.actV; rw [if_pos hE], M.beg_self hs hj⟩
    have HBS := Lib.hid (fun W (h : Below w0.heap.size w0 W) => hb0.trans (h.mono hb0.size))
    clear hE hs hc hN hb hsz hb0
    obtain ⟨i0, hi, hz0, hz1, hz2⟩ := info_parts Try.ofIntk
    go_enter Try.func16, Try.ntmps16
    go_wp2_with fail
    rw [HW.out]
    refine (HK.out _ HB.out).mono ?_
    rintro e w1 ⟨rfl, hb1⟩
    have c0 := HC0.out _ hb1
    go_wp2_with fail
    go_loopw [3, 4] (fun v i wr => ∃ j : Nat, j ≤ xs.length ∧ i = .int .i64 (j : Nat) ∧ OwZ w0.heap.size (M.evn xs j) v wr ∧ Below w0.heap.size w0 wr) (fun _ i _ => xs.length - (RowKit.intOf i).toNat)
    case atStart => exact ⟨0, Nat.zero_le _, rfl, World.ownsRow_nil _ _ _ _, hb1⟩
    case round =>
      clear c0 hb1
      obtain ⟨j, hj, rfl, hO, hW⟩ := hrel
      obtain ⟨la, lc, hlv⟩ := (OwZ.zs hO).slice
      subst hlv
      have c0 := HC0.out _ hW
      by_cases hlt : j < xs.length
      · obtain ⟨x, hgx⟩ : ∃ x, M.gi xs j = x := ⟨_, rfl⟩
        have hx := HACT.out j hlt
        rw [hgx] at hx
        have HS := Lib.hid (M.evn_succ xs j)
        rw [hgx] at HS
        have HAX := Lib.hid (fun X (h : Below w0.heap.size w0 X) => HA.out X x (HBS.out X h))
        rw [hx.1] at HAX
        generalize M.beg xs x = r at *
        obtain ⟨V, hV⟩ : ∃ V : Int, ((r - 1 : Nat) : Int) = V := ⟨_, rfl⟩
        rw [hV] at HAX
        generalize M.actE xs x = E at *
        have HX := Lib.hid hx.2
        have HV := Lib.hid hV
        have HO := Lib.hid hO
        have hz : (j : Int) < (xs.length : Int) := by omega
        clear hx hV hO
        go_wp2_with fail
        clear c0
        refine wp_region_held (S := fun Y => Below w0.heap.size w0 Y) mixed ?_
        have hS0 : Below w0.heap.size w0 wr.drew := Below.drew hW
        rw [show Array.replicate (Array.size _) false = #[false, false, false, false, false, false, false, false, false, false, false, false] from rfl, show Array.size (α := Oper) _ = 12 from rfl]
        refine wpAnyH_take (i := 0) (v := .agg #[.slice (some ⟨b, o, none⟩) xs.length cap]) rfl (by kernel_rfl) (by kernel_rfl) (by kernel_rfl) (fun _ _ _ h => h) (Or.inl ⟨by rfl, ?_⟩) hS0 ?_
        · intro Y hY
          have c0 := HC0.out _ hY
          go_simp
        simp only [Act.put, List.getElem_toArray, List.getElem_cons_zero, List.setIfInBounds_toArray, List.set_cons_zero, List.set_cons_succ]
        refine wpAnyH_take (i := 1) (v := .pointer (some ⟨w.heap.size, 0, none⟩)) rfl (by kernel_rfl) (by kernel_rfl) (by kernel_rfl) (fun _ _ _ h => h) (Or.inl ⟨by rfl, ?_⟩) hS0 ?_
        · intro Y hY
          skip
          go_simp
        simp only [Act.put, List.getElem_toArray, List.getElem_cons_succ, List.getElem_cons_zero, List.setIfInBounds_toArray, List.set_cons_zero, List.set_cons_succ]
        refine wpAnyH_take (i := 2) (v := .slice (some ⟨b, o, none⟩) xs.length cap) rfl (by kernel_rfl) (by kernel_rfl) (by kernel_rfl) (fun _ _ _ h => h) (Or.inl ⟨by rfl, ?_⟩) hS0 ?_
        · intro Y hY
          have c0 := HC0.out _ hY
          go_simp
        simp only [Act.put, List.getElem_toArray, List.getElem_cons_succ, List.getElem_cons_zero, List.setIfInBounds_toArray, List.set_cons_zero, List.set_cons_succ]
        refine wpAnyH_take (i := 3) (v := .int .i64 (j : Nat)) rfl (by kernel_rfl) (by kernel_rfl) (by kernel_rfl) (fun _ _ _ h => h) (Or.inl ⟨by rfl, ?_⟩) hS0 ?_
        · intro Y hY
          skip
          go_simp
        simp only [Act.put, List.getElem_toArray, List.getElem_cons_succ, List.getElem_cons_zero, List.setIfInBounds_toArray, List.set_cons_zero, List.set_cons_succ]
        refine wpAnyH_take (i := 4) (v := .pointer (some ⟨b, o + j, none⟩)) rfl (by kernel_rfl) (by kernel_rfl) (by kernel_rfl) (fun _ _ _ h => h) (Or.inl ⟨by rfl, ?_⟩) hS0 ?_
        · intro Y hY
          skip
          go_simp
          try (intro hh; exfalso; omega)
        simp only [Act.put, List.getElem_toArray, List.getElem_cons_succ, List.getElem_cons_zero, List.setIfInBounds_toArray, List.set_cons_zero, List.set_cons_succ]
        refine wpAnyH_take (i := 5) (v := .int .u64 x) rfl (by kernel_rfl) (by kernel_rfl) (by kernel_rfl) (fun _ _ _ h => h) (Or.inl ⟨by rfl, ?_⟩) hS0 ?_
        · intro Y hY
          have c1 := HC.out _ hY j hlt; rw [hgx] at c1
          go_simp
        simp only [Act.put, List.getElem_toArray, List.getElem_cons_succ, List.getElem_cons_zero, List.setIfInBounds_toArray, List.set_cons_zero, List.set_cons_succ]
        refine wpAnyH_ready (rs := [6]) (by kernel_rfl) (by simp) ?_
        refine AllReadyH.cons rfl (fun K hK => ?_) AllReadyH.nil
        go_simp
        refine (HAX.out _ hS0).mono ?_
        rintro e w3 ⟨rfl, hb3⟩
        have hS3 : Below w0.heap.size w0 w3 := hS0.trans (Below.mono hb3 hS0.size)
        try go_wp2_with fail
        refine hK.out _ _ hS3 (fun _ => ?_)
        clear hK K
        simp only [List.setIfInBounds_toArray, List.set_cons_zero, List.set_cons_succ]
        refine wpAnyH_take (i := 7) (v := .tuple #[.int .i64 V, .int .i64 E]) rfl (by kernel_rfl) (by kernel_rfl) (by kernel_rfl) (fun _ _ _ h => h) (Or.inl ⟨by rfl, ?_⟩) hS3 ?_
        · intro Y hY
          skip
          go_simp
        simp only [Act.put, List.getElem_toArray, List.getElem_cons_succ, List.getElem_cons_zero, List.setIfInBounds_toArray, List.set_cons_zero, List.set_cons_succ]
        refine wpAnyH_take (i := 8) (v := .int .i64 V) rfl (by kernel_rfl) (by kernel_rfl) (by kernel_rfl) (fun _ _ _ h => h) (Or.inl ⟨by rfl, ?_⟩) hS3 ?_
        · intro Y hY
          skip
          go_simp
        simp only [Act.put, List.getElem_toArray, List.getElem_cons_succ, List.getElem_cons_zero, List.setIfInBounds_toArray, List.set_cons_zero, List.set_cons_succ]
        refine wpAnyH_take (i := 9) (v := .int .i64 E) rfl (by kernel_rfl) (by kernel_rfl) (by kernel_rfl) (fun _ _ _ h => h) (Or.inl ⟨by rfl, ?_⟩) hS3 ?_
        · intro Y hY
          skip
          go_simp
        simp only [Act.put, List.getElem_toArray, List.getElem_cons_succ, List.getElem_cons_zero, List.setIfInBounds_toArray, List.set_cons_zero, List.set_cons_succ]
        refine wpAnyH_take (i := 10) (v := .int .i64 V) rfl (by kernel_rfl) (by kernel_rfl) (by kernel_rfl) (fun _ _ _ h => h) (Or.inl ⟨by rfl, ?_⟩) hS3 ?_
        · intro Y hY
          skip
          go_simp
        simp only [Act.put, List.getElem_toArray, List.getElem_cons_succ, List.getElem_cons_zero, List.setIfInBounds_toArray, List.set_cons_zero, List.set_cons_succ]
        refine wpAnyH_take (i := 11) (v := .int .i64 E) rfl (by kernel_rfl) (by kernel_rfl) (by kernel_rfl) (fun _ _ _ h => h) (Or.inl ⟨by rfl, ?_⟩) hS3 ?_
        · intro Y hY
          skip
          go_simp
        simp only [Act.put, List.getElem_toArray, List.getElem_cons_succ, List.getElem_cons_zero, List.setIfInBounds_toArray, List.set_cons_zero, List.set_cons_succ]
        refine wpAnyH_done (by kernel_rfl) ?_ _
        have hb03 : Below wr.heap.size wr w3 := Below.trans (Below.drew (Below.refl _ _)) hb3
        have hO3 : w3.ownsRow w0.heap.size 3 1 (.slice la (M.evn xs j).length lc) (M.evn xs j).length ((M.evn xs j).map (Value.int .i64)) := World.ownsRow.kept HO.out (grown_below hb03) (by cases (Value.slice la (M.evn xs j).length lc).ownBlock <;> simp)
        have c3 := HC0.out w3 hS3
        have hkl := M.evn_len xs j
        have hlt := hO3.lt
        have HO3 := Lib.hid hO3
        have HLT := Lib.hid hlt
        clear hO3 hlt hb03 hb3
        by_cases hr : r = j + 1
        · have hq : (V == (j : Int)) = true := by rw [beq_iff_eq, ← HV.out]; omega
          rw [if_pos hr] at HS
          clear hr
          go_wp2_with (at_builtin; refine wpList_append_own _ rfl _ _ 34 rfl w0.heap.size 3 i0 (.int .i64 0) 1 8 Try.underlying34 hi hz0 hz1 hz2 rfl (by decide) _ _ _ rfl (World.ownsRow.alloc HO3.out _) ⟨w3.heap.size, 0, none⟩ 1 1 [.int .i64 (j : Nat)] rfl rfl (cell_one_new _ _ _) (by simp [Value.oneCell']) (by unfold maxLen; omega) (by omega) (by have := hS3.size; simp; omega) ?_; intro v' w4 hown' hgrow _)
          exact ⟨⟨j + 1, by omega, by simp, by rw [HS.out]; unfold OwZ; rw [List.map_append, List.length_append]; exact hown', (hS3.alloc hS3.size _).grown hgrow (by have := hS3.size; simp; omega) (fun g e => (HLT.out g e).1)⟩, by simp [RowKit.intOf]; omega⟩
        · have hq : (V == (j : Int)) = false := by rw [beq_eq_false_iff_ne, ← HV.out]; have := HX.out; omega
          rw [if_neg hr, List.append_nil] at HS
          clear hr
          go_wp2_with fail
          exact ⟨⟨j + 1, by omega, by simp, by rw [HS.out]; exact HO3.out, hS3⟩, by simp [RowKit.intOf]; omega⟩

      · obtain rfl : j = xs.length := by omega
        go_wp2_with fail
        go_ret
        exact ⟨_, rfl, OwZ.zs hO, HBS.out _ hW⟩
  · unfold M.evr
    rw [if_neg hE]
    have hne : (M.chkE xs != 0) = true := bne_iff_ne.2 hE
    clear hE hN
    generalize M.chkE xs = c at *
    go_enter Try.func16, Try.ntmps16
    go_wp2_with fail
    rw [HW.out]
    refine (HK.out _ HB.out).mono ?_
    rintro e w1 ⟨rfl, hb1⟩
    have B1 := HB.out.trans (hb1.mono HB.out.size)
    go_wp2_with fail
    go_ret
    exact ⟨_, rfl, .nil_, B1⟩
end Go.Proofs.Ytgmdloiekcifeaa
