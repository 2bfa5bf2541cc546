/- The reference's Same. -/
import Derived.Test.YtebkmlbpngpmdaaDoorC1g
import Derived.Test.YtebkmlbpngpmdaaDoorB3g
namespace Go.Proofs.YtebkmlbpngpmdaaDoor
open Go Go.RowKit

theorem Lay.len {w : World} {n : Nat} {xs : List M.It} {v : Value} (h : Lay w n xs v) : ∃ a cap, v = .slice a xs.length cap := by obtain ⟨a, cap, h, _⟩ := h.slice; exact ⟨a, cap, h⟩

set_option maxRecDepth 100000 in
set_option maxHeartbeats 4000000 in
theorem rsame_n (n : Nat) : ∀ (l l2 : Bool) (d d2 : List UInt8) (xs ys : List M.It) (v v2 : Value) (w : World), SizeOf.sizeOf xs ≤ n → Lay w w.heap.size xs v → Lay w w.heap.size ys v2 → xs.length ≤ 1000 → ys.length ≤ 1000 → M.cntIs xs ≤ 1000 → M.cntIs ys ≤ 1000 →
    Calls Tryd.prog 7 #[iv l d v, iv l2 d2 v2] w fun e w' => e = .returned (.bool (M.sameI (.mk l d xs) (.mk l2 d2 ys))) ∧ Below w.heap.size w w' := by
  induction n with
  | zero => intro l l2 d d2 xs ys v v2 w h; cases xs <;> simp at h
  | succ n ih =>
    intro l l2 d d2 xs ys v v2 w hs hL hL2 hx1 hy1 hcx hcy
    obtain ⟨a, cap, hv⟩ := hL.len
    obtain ⟨a2, cap2, hv2⟩ := hL2.len
    subst hv hv2
    have hb0 : Below w.heap.size w ((w.alloc (.cells #[.bool l, .string ⟨d.toArray⟩, .slice a xs.length cap] 30)).alloc (.cells #[.bool l2, .string ⟨d2.toArray⟩, .slice a2 ys.length cap2] 30)) := by (repeat (first | exact Below.refl _ _ | refine Below.drew ?_ | refine Below.alloc ?_ (by first | omega | (simp; omega) | simp) _ | refine Below.setCell ?_ (by first | omega | (simp; omega) | simp) _))
    by_cases hl : l = l2
    · subst hl
      by_cases hd : d = d2
      · subst hd
        by_cases hlen : xs.length = ys.length
        · obtain ⟨w0, hw0⟩ : ∃ w0, (w.alloc (.cells #[.bool l, .string ⟨d.toArray⟩, .slice a xs.length cap] 30)).alloc (.cells #[.bool l, .string ⟨d.toArray⟩, .slice a2 ys.length cap2] 30) = w0 := ⟨_, rfl⟩
          have hz : w0.heap.size = w.heap.size + 2 := by rw [← hw0]; simp
          have k1 : w0.cell? ⟨w.heap.size, 2, none⟩ = some (.slice a xs.length cap) := by rw [← hw0]; simp [go_sem]
          have k2 : w0.cell? ⟨w.heap.size + 1, 2, none⟩ = some (.slice a2 ys.length cap2) := by rw [← hw0]; simp [go_sem]
          rw [hw0] at hb0
          have E : Hid (M.sameI (.mk l d xs) (.mk l d ys) = M.sameIs xs ys) := by show _ = _; rw [M.sameI]; simp [hlen]
          have hne : ((xs.length : Int) != (ys.length : Int)) = false := by rw [bne_eq_false_iff_eq]; omega
          have HL := Lib.hid hlen
          have HW := Lib.hid hw0
          clear hlen hw0
          go_enter Tryd.func7, Tryd.ntmps7
          go_wp2_with fail
          rw [HW.out]
          clear HW hne
          go_loopw [5] (fun i wr => ∃ k : Nat, k ≤ xs.length ∧ i = .int .i64 k ∧ M.sameIs (xs.take k) (ys.take k) = true ∧ Below w0.heap.size w0 wr) (fun i _ => xs.length - (intOf i).toNat)
          case atStart => exact ⟨0, by omega, rfl, rfl, Below.refl _ _⟩
          case round =>
            obtain ⟨k, hk, rfl, hf, hW⟩ := hrel
            have c1 := (hW.cell (p := ⟨w.heap.size, 2, none⟩) (by simp; omega)).trans k1
            have c2 := (hW.cell (p := ⟨w.heap.size + 1, 2, none⟩) (by simp; omega)).trans k2
            have hLr := (hL.from_ hb0).from_ (hW.mono (by omega))
            have hLr2 := (hL2.from_ hb0).from_ (hW.mono (by omega))
            have hsz := hW.size
            by_cases hlt : k < xs.length
            · obtain ⟨b, o, cp, l', d', us, u, hve, hbn, hxk, e0, e1, e2, hLu⟩ := hLr.at_ hlt
              obtain ⟨b', o', cp', l'', d'', us', u', hve', hbn', hxk', e0', e1', e2', hLu'⟩ := hLr2.at_ (show k < ys.length by have := HL.out; omega)
              obtain ⟨rfl, rfl⟩ : a = some ⟨b, o, none⟩ ∧ cap = cp := by cases hve; exact ⟨rfl, rfl⟩
              obtain ⟨rfl, rfl⟩ : a2 = some ⟨b', o', none⟩ ∧ cap2 = cp' := by cases hve'; exact ⟨rfl, rfl⟩
              clear hve hve'
              have hk2 : k < 1000 := by omega
              have hlt2 : k < ys.length := by have := HL.out; omega
              have hsx := size_get hxk
              rw [M.It.mk.sizeOf_spec] at hsx
              have g1 := M.cntI_part (List.mem_of_getElem? hxk)
              rw [M.cntI] at g1
              have g2 := M.cntI_part (List.mem_of_getElem? hxk')
              rw [M.cntI] at g2
              have g3 := M.length_cnt us
              have g4 := M.length_cnt us'
              have IH : Hid (∀ W, Below wr.heap.size wr W → Calls Tryd.prog 7 #[iv l' d' u, iv l'' d'' u'] W fun e w' => e = .returned (.bool (M.sameI (.mk l' d' us) (.mk l'' d'' us'))) ∧ Below W.heap.size W w') :=
                fun W hb => ih l' l'' d' d'' us us' u u' W (by omega) ((hLu.from_ (hb.mono (by omega))).mono (by have := hb.size; omega)) ((hLu'.from_ (hb.mono (by omega))).mono (by have := hb.size; omega)) (by omega) (by omega) (by omega) (by omega)
              have HN : Hid (M.sameIs (xs.take (k + 1)) (ys.take (k + 1)) = M.sameI (.mk l' d' us) (.mk l'' d'' us')) := by show _ = _; rw [M.sameIs_next hxk hxk', hf, Bool.true_and]
              have HF : Hid (M.sameI (.mk l' d' us) (.mk l'' d'' us') = false → M.sameIs xs ys = false) := M.sameIs_no hxk hxk'
              generalize M.sameI (.mk l' d' us) (.mk l'' d'' us') = q at *
              clear ih hf hL hL2 hLr hLr2
              go_wp2_with fail
              have mixed : Tryd.prog.follows .mixedOrders = true := by kernel_rfl
              refine region_quiet (C := fun W => Below wr.heap.size wr W) mixed (by kernel_rfl) (Below.drew (Below.refl _ _)) ?_
              refine quiet_val (.pointer (some ⟨w.heap.size, 2, none⟩)) (by rfl) (fun W hC => by go_simp) ?_
              simp only [Act.put, List.setIfInBounds_toArray, List.set_cons_zero, List.set_cons_succ]
              refine quiet_val (.slice (some ⟨b, o, none⟩) xs.length cap) (by rfl) (fun W hC => by have a1 := (hC.cell (p := ⟨w.heap.size, 2, none⟩) (by simp; omega)).trans c1; go_simp) ?_
              simp only [Act.put, List.setIfInBounds_toArray, List.set_cons_zero, List.set_cons_succ]
              refine quiet_val (.int .i64 k) (by rfl) (fun W hC => by go_simp) ?_
              simp only [Act.put, List.setIfInBounds_toArray, List.set_cons_zero, List.set_cons_succ]
              refine quiet_val (.pointer (some ⟨b, o + k * 3, none⟩)) (by rfl) (fun W hC => by go_simp) ?_
              simp only [Act.put, List.setIfInBounds_toArray, List.set_cons_zero, List.set_cons_succ]
              refine quiet_val (iv l' d' u) (by rfl) (fun W hC => by have b0 := (hC.cell (p := ⟨b, o + k * 3, none⟩) (by simp; omega)).trans e0; have b1 := (hC.cell (p := ⟨b, o + k * 3 + 1, none⟩) (by simp; omega)).trans e1; have b2 := (hC.cell (p := ⟨b, o + k * 3 + 2, none⟩) (by simp; omega)).trans e2; go_simp) ?_
              simp only [Act.put, List.setIfInBounds_toArray, List.set_cons_zero, List.set_cons_succ]
              refine quiet_val (.pointer (some ⟨w.heap.size + 1, 2, none⟩)) (by rfl) (fun W hC => by go_simp) ?_
              simp only [Act.put, List.setIfInBounds_toArray, List.set_cons_zero, List.set_cons_succ]
              refine quiet_val (.slice (some ⟨b', o', none⟩) ys.length cap2) (by rfl) (fun W hC => by have a1 := (hC.cell (p := ⟨w.heap.size + 1, 2, none⟩) (by simp; omega)).trans c2; go_simp) ?_
              simp only [Act.put, List.setIfInBounds_toArray, List.set_cons_zero, List.set_cons_succ]
              refine quiet_val (.int .i64 k) (by rfl) (fun W hC => by go_simp) ?_
              simp only [Act.put, List.setIfInBounds_toArray, List.set_cons_zero, List.set_cons_succ]
              refine quiet_val (.pointer (some ⟨b', o' + k * 3, none⟩)) (by rfl) (fun W hC => by go_simp) ?_
              simp only [Act.put, List.setIfInBounds_toArray, List.set_cons_zero, List.set_cons_succ]
              refine quiet_val (iv l'' d'' u') (by rfl) (fun W hC => by have b0 := (hC.cell (p := ⟨b', o' + k * 3, none⟩) (by simp; omega)).trans e0'; have b1 := (hC.cell (p := ⟨b', o' + k * 3 + 1, none⟩) (by simp; omega)).trans e1'; have b2 := (hC.cell (p := ⟨b', o' + k * 3 + 2, none⟩) (by simp; omega)).trans e2'; go_simp) ?_
              simp only [Act.put, List.setIfInBounds_toArray, List.set_cons_zero, List.set_cons_succ]
              refine quiet_call (.bool q) 7 #[iv l' d' u, iv l'' d'' u'] (by rfl) (fun W _ => by go_simp) (fun W hC => (IH.out W hC).mono fun _ _ h => ⟨h.1, hC.trans (h.2.mono hC.size)⟩) ?_
              simp only [Act.put, List.setIfInBounds_toArray, List.set_cons_zero, List.set_cons_succ]
              refine quiet_val (.bool (!q)) (by rfl) (fun W hC => by go_simp) ?_
              simp only [Act.put, List.setIfInBounds_toArray, List.set_cons_zero, List.set_cons_succ]
              refine wpQuiet_nil ?_
              intro w1 hb1
              have hw1 : Below w0.heap.size w0 w1 := hW.trans (hb1.mono hsz)
              cases q with
              | true =>
                go_wp2_with fail
                go_roundw
                case rel => exact ⟨k + 1, by omega, by simp, HN.out, hw1⟩
                case measure => simp [intOf]; omega
              | false =>
                go_wp2_with fail
                go_ret
                exact ⟨by rw [E.out, HF.out trivial]; rfl, hb0.trans (hw1.mono (by omega))⟩
            · obtain rfl : k = xs.length := by omega
              have HF : Hid (M.sameIs xs ys = true) := by show _ = _; rw [← M.sameIs_all HL.out]; exact hf
              clear hf
              have hk2 : xs.length ≤ 1000 := by omega
              go_wp2_with fail
              go_ret
              exact ⟨by rw [E.out, HF.out]; rfl, hb0.trans (hW.mono (by omega))⟩
        · have e : M.sameI (.mk l d xs) (.mk l d ys) = false := by rw [M.sameI]; simp [hlen]
          rw [e]
          go_enter Tryd.func7, Tryd.ntmps7
          go_wp2_with fail
          go_ret
          exact ⟨rfl, hb0⟩
      · have e : M.sameI (.mk l d xs) (.mk l d2 ys) = false := by rw [M.sameI]; simp [hd]
        rw [e]
        go_enter Tryd.func7, Tryd.ntmps7
        go_wp2_with fail
        go_ret
        exact ⟨rfl, hb0⟩
    · have e : M.sameI (.mk l d xs) (.mk l2 d2 ys) = false := by rw [M.sameI]; simp [hl]
      rw [e]
      go_enter Tryd.func7, Tryd.ntmps7
      go_wp2_with fail
      go_ret
      exact ⟨rfl, hb0⟩
end Go.Proofs.YtebkmlbpngpmdaaDoor
