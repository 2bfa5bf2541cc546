/- The reference's fixed, Fixed. -/
import Derived.Test.YtmlkccbhdhgoeaaDoorT5g
namespace Go.Proofs.YtmlkccbhdhgoeaaDoor
open Go Go.RowKit

set_option maxRecDepth 100000 in
set_option maxHeartbeats 4000000 in
theorem tfixed_n (n : Nat) : ∀ (k m : Int) (xs : List M.Ty) (a : Option Addr) (cap : Nat) (w : World), SizeOf.sizeOf xs ≤ n → LayT w w.heap.size xs (.slice a xs.length cap) →
    Calls Tryd.prog 23 #[tv k m (.slice a xs.length cap)] w fun e w' => e = .returned (.bool (M.fixT (.mk k m xs))) ∧ Below w.heap.size w w' := by
  induction n with
  | zero => intro k m xs a cap w h; cases xs <;> simp at h
  | succ n ih =>
    intro k m xs a cap w hs hL
    have hlong := hL.long
    have hB := BoxT.new w k m (.slice a xs.length cap) 24
    have hb0 : Below w.heap.size w (w.alloc (.cells #[.int .i64 k, .int .i64 m, .slice a xs.length cap] 24)) := by (repeat (first | exact Below.refl _ _ | refine Below.drew ?_ | refine Below.alloc ?_ (by first | omega | (simp; omega) | simp) _ | refine Below.setCell ?_ (by first | omega | (simp; omega) | simp) _))
    by_cases h4 : k = 4
    · rw [show M.fixT (.mk k m xs) = false by rw [M.fixT, if_pos (.inl h4)]]
      subst h4
      go_enter Tryd.func23, Tryd.ntmps23
      go_wp2_with fail
      go_ret
      exact ⟨rfl, hb0⟩
    by_cases h6 : k = 6
    · rw [show M.fixT (.mk k m xs) = false by rw [M.fixT, if_pos (.inr (.inl h6))]]
      subst h6
      go_enter Tryd.func23, Tryd.ntmps23
      go_wp2_with fail
      go_ret
      exact ⟨rfl, hb0⟩
    by_cases h8 : k = 8
    · rw [show M.fixT (.mk k m xs) = false by rw [M.fixT, if_pos (.inr (.inr h8))]]
      subst h8
      go_enter Tryd.func23, Tryd.ntmps23
      go_wp2_with fail
      go_ret
      exact ⟨rfl, hb0⟩
    have b4 : (k == 4) = false := by simpa using h4
    have b6 : (k == 6) = false := by simpa using h6
    have b8 : (k == 8) = false := by simpa using h8
    have E : Hid (M.fixT (.mk k m xs) = M.fixTs xs) := by show _ = _; rw [M.fixT, if_neg (by omega)]
    go_enter Tryd.func23, Tryd.ntmps23
    go_wp2_with fail
    generalize hw0 : w.alloc (.cells #[.int .i64 k, .int .i64 m, .slice a xs.length cap] 24) = w0 at *
    have hz0 : w0.heap.size = w.heap.size + 1 := by rw [← hw0]; simp
    clear hw0
    go_loopw [3] (fun i wr => ∃ j : Nat, j ≤ xs.length ∧ i = .int .i64 j ∧ M.fixTs (xs.take j) = true ∧ Below w0.heap.size w0 wr) (fun i _ => xs.length - (intOf i).toNat)
    case atStart => exact ⟨0, by omega, rfl, rfl, Below.refl _ _⟩
    case round =>
      obtain ⟨j, hj, rfl, hq, hW⟩ := hrel
      have hbW : Below w.heap.size w wr := hb0.trans (hW.mono (by omega))
      have hc2 := (hB.from_ hW (by omega)).c2
      have hLr := hL.from_ hbW
      have hsz := hW.size
      by_cases hlt : j < xs.length
      · obtain ⟨b, o, k', m', us, au, cu, rfl, hbn, hxk, e0, e1, e2, hLu⟩ := hLr.at_ hlt
        have hsx := size_ty hxk
        rw [M.Ty.mk.sizeOf_spec] at hsx
        have IH := Lib.hid (ih k' m' us au cu wr (by omega) (hLu.mono hbW.size))
        have hj9 : (j : Int) < 9223372036854775807 := by omega
        by_cases hz : M.fixT (.mk k' m' us) = true
        · have HN := Lib.hid (M.fixTs_next hxk hq)
          rw [hz] at IH HN
          clear ih hq hL hLr hsx hxk
          go_wp2_with fail
          refine IH.out.mono ?_
          rintro e w2 ⟨rfl, hb2⟩
          clear IH hLu e0 e1 e2
          go_wp2_with fail
          go_roundw
          case rel => exact ⟨j + 1, by omega, by simp, HN.out, hW.trans (hb2.mono hsz)⟩
          case measure => simp [intOf]; omega
        · rw [Bool.not_eq_true] at hz
          rw [M.fixTs_first hxk hz] at E
          rw [hz] at IH
          clear ih hq hL hLr hsx hxk
          go_wp2_with fail
          refine IH.out.mono ?_
          rintro e w2 ⟨rfl, hb2⟩
          clear IH hLu e0 e1 e2
          go_wp2_with fail
          go_ret
          rw [E.out]
          exact ⟨rfl, hbW.trans (hb2.mono hbW.size)⟩
      · obtain rfl : j = xs.length := by omega
        rw [List.take_length] at hq
        rw [hq] at E
        go_wp2_with fail
        go_ret
        rw [E.out]
        exact ⟨rfl, hbW⟩

set_option maxRecDepth 100000 in
theorem tfixed_any (k m : Int) (xs : List M.Ty) (a : Option Addr) (cap : Nat) (w : World) (hL : LayT w w.heap.size xs (.slice a xs.length cap)) :
    Calls Tryd.prog 11 #[tv k m (.slice a xs.length cap)] w fun e w' => e = .returned (.bool (M.fixedT (.mk k m xs))) ∧ Below w.heap.size w w' := by
  have HR := Lib.hid (fun W (h : Below w.heap.size w W) => tcheck_any k m xs a cap W ((hL.from_ h).mono h.size))
  have HX := Lib.hid (fun W (h : Below w.heap.size w W) => tfixed_n _ k m xs a cap W (Nat.le_refl _) ((hL.from_ h).mono h.size))
  have hb0 : Below w.heap.size w (w.alloc (.cells #[.int .i64 k, .int .i64 m, .slice a xs.length cap] 24)) := by (repeat (first | exact Below.refl _ _ | refine Below.drew ?_ | refine Below.alloc ?_ (by first | omega | (simp; omega) | simp) _ | refine Below.setCell ?_ (by first | omega | (simp; omega) | simp) _))
  by_cases hz : M.chkT 0 (.mk k m xs) = 0
  · rw [show M.fixedT (.mk k m xs) = M.fixT (.mk k m xs) by rw [M.fixedT, if_pos hz]]
    rw [hz] at HR
    generalize M.fixT (.mk k m xs) = q at *
    clear hz hL
    go_enter Tryd.func11, Tryd.ntmps11
    go_wp2_with fail
    refine (HR.out _ hb0).mono ?_
    rintro e w1 ⟨rfl, hb1⟩
    obtain ⟨hce, hfr⟩ := bcell hb1
    go_wp2_with fail
    refine (HX.out _ (hb0.trans (hb1.mono (by simp)))).mono ?_
    rintro e w2 ⟨rfl, hb2⟩
    go_wp2_with fail
    go_ret
    exact ⟨by simp, hb0.trans ((hb1.trans (hb2.mono hb1.size)).mono (by simp))⟩
  · rw [M.fixedT_none hz]
    generalize M.chkT 0 (.mk k m xs) = q at *
    have hq : ¬ ((q : Nat) : Int) = 0 := by omega
    clear hz hL HX
    go_enter Tryd.func11, Tryd.ntmps11
    go_wp2_with fail
    refine (HR.out _ hb0).mono ?_
    rintro e w1 ⟨rfl, hb1⟩
    go_wp2_with fail
    go_ret
    exact ⟨rfl, hb0.trans (hb1.mono (by simp))⟩
end Go.Proofs.YtmlkccbhdhgoeaaDoor
