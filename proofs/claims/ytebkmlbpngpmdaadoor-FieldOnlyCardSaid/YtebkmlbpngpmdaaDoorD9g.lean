/- rlp.Check: the closure that looks at an item, and at what is in it. -/
import Derived.Test.YtebkmlbpngpmdaaDoorD8g
namespace Go.Proofs.YtebkmlbpngpmdaaDoor
open Go Go.RowKit

theorem orPan_0 : orPan 0 = .returned (.tuple #[]) := rfl
theorem orPan_ne {q : Nat} (h : q ≠ 0) : orPan q = pan q := by unfold orPan; rw [if_neg h]
theorem flt_le (l : Bool) (d : List UInt8) (n dd : Nat) : fltN l d n dd ≤ 7 := by
  unfold fltN
  repeat' split
  all_goals omega

set_option maxRecDepth 100000 in
set_option maxHeartbeats 4000000 in
theorem look_n (B : Nat) (n : Nat) : ∀ (l : Bool) (d : List UInt8) (xs : List M.It) (v : Value) (w : World) (dd : Nat), SizeOf.sizeOf xs ≤ n → Lay w w.heap.size xs v → M.cntIs xs ≤ 4000 → dd ≤ 12 → B < w.heap.size → w.cell? ⟨B, 0, none⟩ = some (.func (.func 50) #[] #[.pointer (some ⟨B, 0, none⟩)]) →
    Calls Tryd.prog 50 #[iv l d v, .int .i64 (dd : Nat), .pointer (some ⟨B, 0, none⟩)] w fun e w' => e = orPan (M.formI dd (.mk l d xs)) ∧ Below w.heap.size w w' := by
  induction n with
  | zero => intro l d xs v w dd h; cases xs <;> simp at h
  | succ n ih =>
    intro l d xs v w dd hs hL hc hdd hBl hBc
    have hlc := M.length_cnt xs
    obtain ⟨a, cap, hv, hcap, hmax⟩ := hL.slice
    subst hv
    have hb0 : Below w.heap.size w (w.alloc (.cells #[.bool l, .string ⟨d.toArray⟩, .slice a xs.length cap] 30)) := by (repeat (first | exact Below.refl _ _ | refine Below.drew ?_ | refine Below.alloc ?_ (by first | omega | (simp; omega) | simp) _ | refine Below.setCell ?_ (by first | omega | (simp; omega) | simp) _))
    have hB := Box.new w l d (.slice a xs.length cap) 30
    obtain ⟨w0, hw0⟩ : ∃ w0, w.alloc (.cells #[.bool l, .string ⟨d.toArray⟩, .slice a xs.length cap] 30) = w0 := ⟨_, rfl⟩
    have hz : w0.heap.size = w.heap.size + 1 := by rw [← hw0]; simp
    have HF : Hid (∀ W, Calls Tryd.prog 52 #[iv l d (.slice a xs.length cap), .int .i64 (dd : Nat)] W fun e w' => e = .returned (.int .i64 (fltN l d xs.length dd : Nat)) ∧ Below W.heap.size W w') := fun W => fault_any l d xs.length dd cap a W (by omega) (by omega)
    have hform := formI_flt l d xs dd
    have hfl := flt_le l d xs.length dd
    have hin : fltN l d xs.length dd = 0 → 0 < xs.length → dd < 12 := by
      intro h hp
      unfold fltN at h
      cases l with
      | false => simp [hp] at h
      | true =>
        by_cases h12 : 12 ≤ dd
        · by_cases hd : d = [] <;> simp [h12, hd] at h
        · omega
    generalize fltN l d xs.length dd = q at *
    by_cases hq : q = 0
    · subst hq
      rw [if_neg (by simp)] at hform
      have hG : Hid (∀ W, Calls Tryd.prog 51 #[.int .i64 0] W fun e w' => e = .returned (.tuple #[]) ∧ w' = W) := fun W => giveUp_any 0 W (by omega)
      have HFo := Lib.hid hform
      rw [hw0] at hb0 hB
      have hBc0 := (hb0.cell (p := ⟨B, 0, none⟩) hBl).trans hBc
      have HI := Lib.hid hin
      have HW := Lib.hid hw0
      clear hform hin hw0
      go_enter Tryd.func50, Tryd.ntmps50
      go_wp2_with fail
      rw [HW.out]
      refine (HF.out _).mono ?_
      rintro e w1 ⟨rfl, hb1⟩
      go_wp2_with fail
      refine (hG.out _).mono ?_
      rintro e w2 ⟨rfl, rfl⟩
      have hs1 := hb1.size
      have hB1 := hB.from_ hb1 (by omega)
      have hx2 := hB1.c2
      have hb01 : Below w.heap.size w w2 := hb0.trans (hb1.mono (by omega))
      have hBc1 := (hb01.cell (p := ⟨B, 0, none⟩) hBl).trans hBc
      go_wp2_with fail
      go_loopw [14] (fun i wr => ∃ k : Nat, k ≤ xs.length ∧ i = .int .i64 k ∧ M.formIs (dd + 1) (xs.take k) = 0 ∧ Below w2.heap.size w2 wr) (fun i _ => xs.length - (intOf i).toNat)
      case atStart => exact ⟨0, by omega, rfl, by simp [M.formIs], Below.refl _ _⟩
      case round =>
        obtain ⟨k, hk, rfl, hf, hW⟩ := hrel
        have hbW : Below w.heap.size w wr := hb01.trans (hW.mono (by omega))
        have hLr := hL.from_ hbW
        have hsz := hW.size
        have hBw : B < wr.heap.size := by omega
        have hBr := (hbW.cell (p := ⟨B, 0, none⟩) hBl).trans hBc
        by_cases hlt : k < xs.length
        · obtain ⟨b, o, cp, l', d', ys, u, hve, hbn, hxk, e0, e1, e2, hLu⟩ := hLr.at_ hlt
          obtain ⟨rfl, rfl⟩ : a = some ⟨b, o, none⟩ ∧ cap = cp := by cases hve; exact ⟨rfl, rfl⟩
          clear hve
          obtain ⟨a2, cap2, hu, _, _⟩ := hLu.slice
          subst hu
          have hk2 : k < 4000 := by omega
          have hd12 := HI.out trivial (by omega)
          have hnx := M.formIs_next hxk hf
          have hfi := M.formIs_first hxk hf
          have hcx := M.cntI_part (List.mem_of_getElem? hxk)
          rw [M.cntI] at hcx
          have hsx := size_get hxk
          rw [M.It.mk.sizeOf_spec] at hsx
          have ih1 : ∀ W, Below wr.heap.size wr W → Calls Tryd.prog 50 #[iv l' d' (.slice a2 ys.length cap2), .int .i64 ((dd : Int) + 1), .pointer (some ⟨B, 0, none⟩)] W fun e w' => e = orPan (M.formI (dd + 1) (.mk l' d' ys)) ∧ Below W.heap.size W w' :=
            fun W hb => ih l' d' ys _ W (dd + 1) (by omega) ((hLu.from_ (hb.mono (by omega))).mono (by have := hb.size; omega)) (by omega) (by omega) (by have := hb.size; omega) ((hb.cell (p := ⟨B, 0, none⟩) (by simp; omega)).trans hBr)
          generalize M.formI (dd + 1) (M.It.mk l' d' ys) = q at *
          have HFi := Lib.hid hfi
          have HN := Lib.hid hnx
          have IH := Lib.hid ih1
          clear hfi hnx ih1 ih hf hx2 hBc0 hBc1 hBc
          have hbn1 : Below wr.heap.size wr (wr.alloc (.cells #[.bool l', .string ⟨d'.toArray⟩, .slice a2 ys.length cap2] 30)) := by (repeat (first | exact Below.refl _ _ | refine Below.drew ?_ | refine Below.alloc ?_ (by first | omega | (simp; omega) | simp) _ | refine Below.setCell ?_ (by first | omega | (simp; omega) | simp) _))
          go_wp2_with fail
          refine (IH.out _ hbn1).mono ?_
          rintro e w3 ⟨rfl, hb3⟩
          have hw3 : Below wr.heap.size wr w3 := hbn1.trans (hb3.mono (by simp))
          by_cases hq : q = 0
          · subst hq
            rw [orPan_0]
            go_wp2_with fail
            go_roundw
            case rel => exact ⟨k + 1, by omega, by simp, HN.out, hW.trans (hw3.mono hsz)⟩
            case measure => simp [intOf]; omega
          · have e3 := HFi.out hq
            have E3 : Hid (orPan (M.formI dd (.mk l d xs)) = pan q) := by show _ = _; rw [HFo.out, e3, orPan_ne hq]
            rw [orPan_ne hq]
            clear e3
            go_wp2_with fail
            exact ⟨rfl, by rw [E3.out], hbW.trans (hw3.mono (by omega))⟩
        · obtain rfl : k = xs.length := by omega
          rw [List.take_length] at hf
          have hk2 : xs.length ≤ 4000 := by omega
          have E3 : Hid (orPan (M.formI dd (.mk l d xs)) = .returned (.tuple #[])) := by show _ = _; rw [HFo.out, hf]; rfl
          clear hf
          go_wp2_with fail
          go_end0
          exact ⟨E3.out.symm, hbW⟩
    · rw [if_pos hq] at hform
      have hG : Hid (∀ W, Calls Tryd.prog 51 #[.int .i64 (q : Nat)] W fun e w' => e = pan q ∧ w' = W) := fun W => by have := giveUp_any q W (by omega); rwa [orPan_ne hq] at this
      rw [hform, orPan_ne hq]
      clear hin hform
      rw [hw0] at hb0
      have HW := Lib.hid hw0
      clear hw0
      go_enter Tryd.func50, Tryd.ntmps50
      go_wp2_with fail
      rw [HW.out]
      refine (HF.out _).mono ?_
      rintro e w1 ⟨rfl, hb1⟩
      go_wp2_with fail
      refine (hG.out _).mono ?_
      rintro e w2 ⟨rfl, rfl⟩
      go_wp2_with fail
      exact ⟨rfl, rfl, hb0.trans (hb1.mono (by omega))⟩
end Go.Proofs.YtebkmlbpngpmdaaDoor
