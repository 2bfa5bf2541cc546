/- The reference's form. -/
import Derived.Test.YtkhhjgnpfindiaaDoorC2
namespace Go.Proofs.YtkhhjgnpfindiaaDoor
open Go Go.RowKit

set_option maxRecDepth 100000 in
set_option maxHeartbeats 4000000 in
theorem form_n (n : Nat) : ∀ (l : Bool) (d : List UInt8) (xs : List M.It) (v : Value) (w : World) (dd : Nat), SizeOf.sizeOf xs ≤ n → Lay w w.heap.size xs v → M.cntIs xs ≤ 1000 → dd ≤ 1000 →
    Calls Tryd.prog 21 #[iv l d v, .int .i64 (dd : Nat)] w fun e w' => e = .returned (.int .i64 (M.formI dd (.mk l d xs) : Nat)) ∧ Below w.heap.size w w' := by
  induction n with
  | zero => intro l d xs v w dd h; cases xs <;> simp at h
  | succ n ih =>
    intro l d xs v w dd hs hL hc hdd
    have hlc := M.length_cnt xs
    have hB := Box.new w l d v 24
    have hb0 : Below w.heap.size w (w.alloc (.cells #[.bool l, .string ⟨d.toArray⟩, v] 24)) := by (repeat (first | exact Below.refl _ _ | refine Below.drew ?_ | refine Below.alloc ?_ (by first | omega | (simp; omega) | simp) _ | refine Below.setCell ?_ (by first | omega | (simp; omega) | simp) _))
    obtain ⟨a, cap, hv, hcap, hmax⟩ := hL.slice
    subst hv
    by_cases hl : l = true
    · subst hl
      by_cases hde : d = []
      · subst hde
        by_cases h12 : 12 ≤ dd
        · have e : M.formI dd (.mk true [] xs) = 7 := by rw [M.formI]; simp [h12]
          rw [e]
          go_enter Tryd.func21, Tryd.ntmps21
          go_wp2_with fail
          go_ret
          exact ⟨rfl, hb0⟩
        · by_cases h512 : 512 < xs.length
          · have e : M.formI dd (.mk true [] xs) = 5 := by rw [M.formI]; simp [h12, h512]
            rw [e]
            go_enter Tryd.func21, Tryd.ntmps21
            go_wp2_with fail
            go_ret
            exact ⟨rfl, hb0⟩
          · have e : M.formI dd (.mk true [] xs) = M.formIs (dd + 1) xs := by rw [M.formI]; simp [h12, h512]
            have E := Lib.hid e
            clear e
            go_enter Tryd.func21, Tryd.ntmps21
            go_wp2_with fail
            generalize hw0 : w.alloc (.cells #[.bool true, .string ⟨[].toArray⟩, .slice a xs.length cap] 24) = w0 at *
            have hz : w0.heap.size = w.heap.size + 1 := by rw [← hw0]; simp
            clear hw0
            go_loopw [5, 6] (fun i g wr => ∃ k : Nat, k ≤ xs.length ∧ i = .int .i64 k ∧ M.formIs (dd + 1) (xs.take k) = 0 ∧ Below w0.heap.size w0 wr) (fun i _ _ => xs.length - (intOf i).toNat)
            case atStart => exact ⟨0, by omega, rfl, by simp [M.formIs], Below.refl _ _⟩
            case round =>
              obtain ⟨k, hk, rfl, hf, hW⟩ := hrel
              have hbx := hB.from_ hW (by omega)
              have hLr := (hL.from_ hb0).from_ (hW.mono (by omega))
              have hsz := hW.size
              by_cases hlt : k < xs.length
              · obtain ⟨b, o, cp, l', d', ys, u, hve, hbn, hxk, e0, e1, e2, hLu⟩ := hLr.at_ hlt
                have hc2 := hbx.c2
                rw [hve] at hc2
                obtain rfl : some (⟨b, o, none⟩ : Addr) = a := by cases hve; rfl
                clear hve
                have hk2 : k < 1000 := by omega
                have hnx := M.formIs_next hxk hf
                have hfi := M.formIs_first hxk hf
                have hcx := M.cntI_part (List.mem_of_getElem? hxk)
                rw [M.cntI] at hcx
                have hsx := size_get hxk
                rw [M.It.mk.sizeOf_spec] at hsx
                have ih1 := ih l' d' ys u wr (dd + 1) (by omega) (hLu.mono (by omega)) (by omega) (by omega)
                generalize M.formI (dd + 1) (M.It.mk l' d' ys) = q at *
                have HF := Lib.hid hfi
                have HN := Lib.hid hnx
                have IH := Lib.hid ih1
                clear hfi hnx ih1 ih hf
                go_wp2_with fail
                refine IH.out.mono ?_
                rintro e w1 ⟨rfl, hb1⟩
                have hw1 : Below w0.heap.size w0 w1 := hW.trans (hb1.mono hsz)
                by_cases hq : q = 0
                · subst hq
                  go_wp2_with fail
                  go_roundw
                  case rel => exact ⟨k + 1, by omega, by simp, HN.out, hw1⟩
                  case measure => simp [intOf]; omega
                · have e3 := HF.out hq
                  have E3 := Lib.hid e3
                  clear e3
                  go_wp2_with fail
                  go_ret
                  exact ⟨by rw [E.out, E3.out]; rfl, hb0.trans (hw1.mono (by omega))⟩
              · obtain rfl : k = xs.length := by omega
                rw [List.take_length] at hf
                have hc2 := hbx.c2
                have hk2 : xs.length ≤ 1000 := by omega
                have HF := Lib.hid hf
                clear hf
                go_wp2_with fail
                go_ret
                exact ⟨by rw [E.out, HF.out]; rfl, hb0.trans (hW.mono (by omega))⟩
      · have e : M.formI dd (.mk true d xs) = 2 := by rw [M.formI]; simp [hde]
        rw [e]
        go_enter Tryd.func21, Tryd.ntmps21
        go_wp2_with fail
        go_ret
        exact ⟨rfl, hb0⟩
    · have hl' : l = false := by simpa using hl
      subst hl'
      by_cases hx : xs = []
      · subst hx
        have e : M.formI dd (.mk false d []) = 0 := by rw [M.formI]; simp
        rw [e]
        go_enter Tryd.func21, Tryd.ntmps21
        go_wp2_with fail
        go_ret
        exact ⟨rfl, hb0⟩
      · have e : M.formI dd (.mk false d xs) = 2 := by rw [M.formI]; simp [hx]
        rw [e]
        have hpos : 0 < xs.length := List.length_pos_iff.2 hx
        go_enter Tryd.func21, Tryd.ntmps21
        go_wp2_with fail
        go_ret
        exact ⟨rfl, hb0⟩
end Go.Proofs.YtkhhjgnpfindiaaDoor
