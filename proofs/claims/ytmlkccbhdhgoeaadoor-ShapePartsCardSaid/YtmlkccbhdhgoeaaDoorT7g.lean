/- The reference's size, Size. -/
import Derived.Test.YtmlkccbhdhgoeaaDoorT6g
import Derived.Test.YtmlkccbhdhgoeaaDoorB3g
namespace Go.Proofs.YtmlkccbhdhgoeaaDoor
open Go Go.RowKit

theorem M.form_range {k n : Int} {ins : List M.Ty} {d : Nat} (h : M.chkT d (.mk k n ins) = 0) : 0 ≤ n ∧ n ≤ 512 ∧ (k = 3 → 0 < ins.length) := by
  obtain ⟨h1, h2, _, _⟩ := M.chkT_ok.1 h
  unfold M.formT at h2
  split at h2
  · simp at h2; omega
  · split at h2
    · simp at h2; omega
    · split at h2
      · simp at h2; exact ⟨by omega, by omega, fun _ => by omega⟩
      · split at h2
        · simp at h2; omega
        · split at h2
          · simp at h2; omega
          · simp at h2; omega

theorem wrap_small {x : Int} (h0 : 0 ≤ x) (h1 : x ≤ 1152921504606846976) : IntKind.i64.wrap x = x := by
  rw [IntKind.wrap_i64]
  omega

set_option maxRecDepth 100000 in
set_option maxHeartbeats 8000000 in
theorem tsize_n (n : Nat) : ∀ (k m : Int) (xs : List M.Ty) (a : Option Addr) (cap : Nat) (d : Nat) (w : World), SizeOf.sizeOf xs ≤ n → LayT w w.heap.size xs (.slice a xs.length cap) → M.chkT d (.mk k m xs) = 0 →
    Calls Tryd.prog 24 #[tv k m (.slice a xs.length cap)] w fun e w' => e = .returned (.int .i64 (M.szT (.mk k m xs) : Nat)) ∧ Below w.heap.size w w' := by
  induction n with
  | zero => intro k m xs a cap d w h; cases xs <;> simp at h
  | succ n ih =>
    intro k m xs a cap d w hs hL hck
    have hlong := hL.long
    have hB := BoxT.new w k m (.slice a xs.length cap) 24
    have hb0 : Below w.heap.size w (w.alloc (.cells #[.int .i64 k, .int .i64 m, .slice a xs.length cap] 24)) := by (repeat (first | exact Below.refl _ _ | refine Below.drew ?_ | refine Below.alloc ?_ (by first | omega | (simp; omega) | simp) _ | refine Below.setCell ?_ (by first | omega | (simp; omega) | simp) _))
    obtain ⟨hm0, hm5, hpos⟩ := M.form_range hck
    obtain ⟨mn, rfl⟩ : ∃ mn : Nat, m = mn := ⟨m.toNat, by omega⟩
    have hparts := (M.chkT_ok.1 hck).2.2.2
    have hmost : M.szT (.mk k mn xs) ≤ 64 * 512 ^ 6 := Nat.le_trans (M.szT_most _ d hck) (Nat.mul_le_mul_left _ (Nat.pow_le_pow_right (by omega) (by omega)))
    by_cases h1 : k = 1
    · have E : M.szT (.mk k mn xs) = mn := by rw [M.szT, if_pos h1]; simp
      rw [E]
      subst h1
      clear ih hparts hmost E hck
      go_enter Tryd.func24, Tryd.ntmps24
      go_wp2_with fail
      go_ret
      exact ⟨rfl, hb0⟩
    by_cases h2 : k = 2
    · have E : M.szT (.mk k mn xs) = 1 := by rw [M.szT, if_neg h1, if_pos h2]
      rw [E]
      subst h2
      clear ih hparts hmost E hck
      go_enter Tryd.func24, Tryd.ntmps24
      go_wp2_with fail
      go_ret
      exact ⟨rfl, hb0⟩
    by_cases h5 : k = 5
    · have E : M.szT (.mk k mn xs) = (mn + 7) / 8 := by rw [M.szT, if_neg h1, if_neg h2, if_pos h5]; simp
      rw [E]
      subst h5
      clear ih hparts hmost E hck
      go_enter Tryd.func24, Tryd.ntmps24
      go_wp2_with fail
      go_ret
      exact ⟨by first | rfl | (congr 2; omega), hb0⟩
    by_cases h3 : k = 3
    · subst h3
      have hl := hpos rfl
      obtain ⟨b, o, k', m', us, au, cu, rfl, hbn, hxk, e0, e1, e2, hLu⟩ := hL.at_ hl
      simp only [Nat.zero_mul, Nat.add_zero] at e0 e1 e2
      have hsx := size_ty hxk
      rw [M.Ty.mk.sizeOf_spec] at hsx
      have hxs : xs = [.mk k' m' us] := by
        obtain ⟨_, h2, _, _⟩ := M.chkT_ok.1 hck
        simp [M.formT] at h2
        match xs, h2.1.1, hxk with
        | [x], _, hxk => simp at hxk; rw [hxk]
      have E : Hid (M.szT (.mk 3 mn xs) = mn * M.szT (.mk k' m' us)) := by show _ = _; rw [M.szT, hxs]; simp [M.szTs]
      have IH : Hid (∀ W, Below (w.heap.size + 1) (w.alloc (.cells #[.int .i64 3, .int .i64 mn, .slice (some ⟨b, o, none⟩) xs.length cap] 24)) W → Calls Tryd.prog 24 #[tv k' m' (.slice au us.length cu)] W fun e w' => e = .returned (.int .i64 (M.szT (.mk k' m' us) : Nat)) ∧ Below W.heap.size W w') :=
        fun W hb => ih k' m' us au cu (d + 1) W (by omega) (((hLu.from_ hb0).from_ (hb.mono (by omega))).mono (by have := hb.size; simp at this; omega)) (M.chkTs_ok.1 hparts _ (List.mem_of_getElem? hxk))
      rw [E.out] at hmost
      generalize M.szT (.mk k' m' us) = q at *
      have hmul : ((mn * q : Nat) : Int) = (mn : Int) * (q : Int) := Int.natCast_mul mn q
      have hmo : (mn : Int) * (q : Int) ≤ 1152921504606846976 := by rw [← hmul]; omega
      have hmo0 : (0 : Int) ≤ (mn : Int) * (q : Int) := by rw [← hmul]; omega
      have HMUL := Lib.hid hmul
      have hwr := wrap_small hmo0 hmo
      clear ih hparts hmost hck hxs hmul
      go_enter Tryd.func24, Tryd.ntmps24
      go_wp2_with fail
      have mixed : Tryd.prog.follows .mixedOrders = true := by kernel_rfl
      obtain ⟨w0, hw0⟩ : ∃ w0, w.alloc (.cells #[.int .i64 3, .int .i64 mn, .slice (some ⟨b, o, none⟩) xs.length cap] 24) = w0 := ⟨_, rfl⟩
      rw [hw0] at hb0 hB IH ⊢
      have hz0 : w0.heap.size = w.heap.size + 1 := by rw [← hw0]; simp
      have f0 := (hb0.cell (p := ⟨b, o, none⟩) (by show b < _; omega)).trans e0
      have f1 := (hb0.cell (p := ⟨b, o + 1, none⟩) (by show b < _; omega)).trans e1
      have f2 := (hb0.cell (p := ⟨b, o + 2, none⟩) (by show b < _; omega)).trans e2
      clear hw0
      refine region_quiet (C := fun W => Below (w.heap.size + 1) w0 W) mixed (by kernel_rfl) (Below.drew (Below.refl _ _)) ?_
      refine quiet_val (.pointer (some ⟨w.heap.size, 1, none⟩)) (by rfl) (fun W hC => by go_simp) ?_
      simp only [Act.put, List.setIfInBounds_toArray, List.set_cons_zero, List.set_cons_succ]
      refine quiet_val (.int .i64 mn) (by rfl) (fun W hC => by have a1 := (hB.from_ hC (by omega)).c1; go_simp) ?_
      simp only [Act.put, List.setIfInBounds_toArray, List.set_cons_zero, List.set_cons_succ]
      refine quiet_val (.pointer (some ⟨w.heap.size, 2, none⟩)) (by rfl) (fun W hC => by go_simp) ?_
      simp only [Act.put, List.setIfInBounds_toArray, List.set_cons_zero, List.set_cons_succ]
      refine quiet_val (.slice (some ⟨b, o, none⟩) xs.length cap) (by rfl) (fun W hC => by have a1 := (hB.from_ hC (by omega)).c2; go_simp) ?_
      simp only [Act.put, List.setIfInBounds_toArray, List.set_cons_zero, List.set_cons_succ]
      refine quiet_val (.pointer (some ⟨b, o, none⟩)) (by rfl) (fun W hC => by go_simp) ?_
      simp only [Act.put, List.setIfInBounds_toArray, List.set_cons_zero, List.set_cons_succ]
      refine quiet_val (tv k' m' (.slice au us.length cu)) (by rfl) (fun W hC => by have b0 := (hC.cell (p := ⟨b, o, none⟩) (by show b < _; omega)).trans f0; have b1 := (hC.cell (p := ⟨b, o + 1, none⟩) (by show b < _; omega)).trans f1; have b2 := (hC.cell (p := ⟨b, o + 2, none⟩) (by show b < _; omega)).trans f2; go_simp) ?_
      simp only [Act.put, List.setIfInBounds_toArray, List.set_cons_zero, List.set_cons_succ]
      refine quiet_call (.int .i64 q) 24 #[tv k' m' (.slice au us.length cu)] (by rfl) (fun W _ => by go_simp) (fun W hC => (IH.out W hC).mono fun _ _ h => ⟨h.1, hC.trans (h.2.mono (by have := hC.size; omega))⟩) ?_
      simp only [Act.put, List.setIfInBounds_toArray, List.set_cons_zero, List.set_cons_succ]
      refine quiet_val (.int .i64 ((mn : Int) * (q : Int))) (by rfl) (fun W hC => by go_simp) ?_
      simp only [Act.put, List.setIfInBounds_toArray, List.set_cons_zero, List.set_cons_succ]
      refine quiet_val (.int .i64 ((mn : Int) * (q : Int))) (by rfl) (fun W hC => by go_simp) ?_
      simp only [Act.put, List.setIfInBounds_toArray, List.set_cons_zero, List.set_cons_succ]
      refine wpQuiet_nil ?_
      intro w1 hb1
      go_wp2_with fail
      go_ret
      rw [E.out]
      exact ⟨by rw [HMUL.out]; rfl, hb0.trans (hb1.mono (by omega))⟩
    have b1 : (k == 1) = false := by simpa using h1
    have b2 : (k == 2) = false := by simpa using h2
    have b5 : (k == 5) = false := by simpa using h5
    have b3 : (k == 3) = false := by simpa using h3
    have E : Hid (M.szT (.mk k mn xs) = M.szTs xs) := by show _ = _; rw [M.szT, if_neg h1, if_neg h2, if_neg h5, if_neg h3]
    rw [E.out] at hmost
    have HM := Lib.hid hmost
    clear hmost hck
    go_enter Tryd.func24, Tryd.ntmps24
    go_wp2_with fail
    generalize hw0 : w.alloc (.cells #[.int .i64 k, .int .i64 mn, .slice a xs.length cap] 24) = w0 at *
    have hz0 : w0.heap.size = w.heap.size + 1 := by rw [← hw0]; simp
    clear hw0
    go_loopw [3, 4] (fun s i wr => ∃ j : Nat, j ≤ xs.length ∧ i = .int .i64 j ∧ s = .int .i64 (M.szTs (xs.take j) : Nat) ∧ Below w0.heap.size w0 wr) (fun _ i _ => xs.length - (intOf i).toNat)
    case atStart => exact ⟨0, by omega, rfl, rfl, Below.refl _ _⟩
    case round =>
      obtain ⟨j, hj, rfl, rfl, hW⟩ := hrel
      have hbW : Below w.heap.size w wr := hb0.trans (hW.mono (by omega))
      have hc2 := (hB.from_ hW (by omega)).c2
      have hLr := hL.from_ hbW
      have hsz := hW.size
      by_cases hlt : j < xs.length
      · obtain ⟨b, o, k', m', us, au, cu, rfl, hbn, hxk, e0, e1, e2, hLu⟩ := hLr.at_ hlt
        have hsx := size_ty hxk
        rw [M.Ty.mk.sizeOf_spec] at hsx
        have IH := Lib.hid (ih k' m' us au cu (d + 1) wr (by omega) (hLu.mono hbW.size) (M.chkTs_ok.1 hparts _ (List.mem_of_getElem? hxk)))
        have hj9 : (j : Int) < 9223372036854775807 := by omega
        have HN := Lib.hid (M.szTs_next hxk)
        have hmo : M.szTs (xs.take j) + M.szT (.mk k' m' us) ≤ 64 * 512 ^ 6 := by rw [← M.szTs_next hxk]; exact Nat.le_trans (M.szTs_part xs (j + 1)) HM.out
        generalize M.szT (.mk k' m' us) = q at *
        generalize M.szTs (xs.take j) = s at *
        clear ih hL hLr hsx hxk hparts
        go_wp2_with fail
        refine IH.out.mono ?_
        rintro e w2 ⟨rfl, hb2⟩
        clear IH hLu e0 e1 e2
        have hmo2 : (s : Int) + (q : Int) ≤ 1152921504606846976 := by omega
        go_wp2_with fail
        go_roundw
        case rel => exact ⟨j + 1, by omega, by simp, by rw [HN.out]; simp, hW.trans (hb2.mono hsz)⟩
        case measure => simp [intOf]; omega
      · obtain rfl : j = xs.length := by omega
        rw [List.take_length] at *
        go_wp2_with fail
        go_ret
        rw [E.out]
        exact ⟨rfl, hbW⟩

set_option maxRecDepth 100000 in
theorem tsize_any (k m : Int) (xs : List M.Ty) (a : Option Addr) (cap : Nat) (w : World) (hL : LayT w w.heap.size xs (.slice a xs.length cap)) :
    Calls Tryd.prog 12 #[tv k m (.slice a xs.length cap)] w fun e w' => e = .returned (.int .i64 (M.sizeT (.mk k m xs) : Nat)) ∧ Below w.heap.size w w' := by
  have HR := Lib.hid (fun W (h : Below w.heap.size w W) => tfixed_any k m xs a cap W ((hL.from_ h).mono h.size))
  have hb0 : Below w.heap.size w (w.alloc (.cells #[.int .i64 k, .int .i64 m, .slice a xs.length cap] 24)) := by (repeat (first | exact Below.refl _ _ | refine Below.drew ?_ | refine Below.alloc ?_ (by first | omega | (simp; omega) | simp) _ | refine Below.setCell ?_ (by first | omega | (simp; omega) | simp) _))
  cases hz : M.fixedT (.mk k m xs) with
  | true =>
    have HX := Lib.hid (fun W (h : Below w.heap.size w W) => tsize_n _ k m xs a cap 0 W (Nat.le_refl _) ((hL.from_ h).mono h.size) (M.fixedT_ok.1 hz).1)
    rw [M.sizeT_fix hz]
    rw [hz] at HR
    generalize M.szT (.mk k m xs) = q at *
    clear hz hL
    go_enter Tryd.func12, Tryd.ntmps12
    go_wp2_with fail
    refine (HR.out _ hb0).mono ?_
    rintro e w1 ⟨rfl, hb1⟩
    obtain ⟨hce, hfr⟩ := bcell hb1
    go_wp2_with fail
    refine (HX.out _ (hb0.trans (hb1.mono (by simp)))).mono ?_
    rintro e w2 ⟨rfl, hb2⟩
    go_wp2_with fail
    go_ret
    exact ⟨rfl, hb0.trans ((hb1.trans (hb2.mono hb1.size)).mono (by simp))⟩
  | false =>
    rw [M.sizeT_non hz]
    rw [hz] at HR
    clear hz hL
    go_enter Tryd.func12, Tryd.ntmps12
    go_wp2_with fail
    refine (HR.out _ hb0).mono ?_
    rintro e w1 ⟨rfl, hb1⟩
    go_wp2_with fail
    go_ret
    exact ⟨rfl, hb0.trans (hb1.mono (by simp))⟩
end Go.Proofs.YtmlkccbhdhgoeaaDoor
