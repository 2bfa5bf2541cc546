/- The reference's Deep. -/
import Derived.Test.YtkhhjgnpfindiaaDoorC1
namespace Go.Proofs.YtkhhjgnpfindiaaDoor
open Go Go.RowKit

/-- The box of an item. -/
structure Box (W : World) (S : Nat) (l : Bool) (d : List UInt8) (v : Value) : Prop where
  c0 : W.cell? ⟨S, 0, none⟩ = some (.bool l)
  c1 : W.cell? ⟨S, 1, none⟩ = some (.string ⟨d.toArray⟩)
  c2 : W.cell? ⟨S, 2, none⟩ = some v
theorem Box.new (w : World) (l : Bool) (d : List UInt8) (v : Value) (t : TypeId) : Box (w.alloc (.cells #[.bool l, .string ⟨d.toArray⟩, v] t)) w.heap.size l d v := ⟨by simp [go_sem], by simp [go_sem], by simp [go_sem]⟩
theorem Box.from_ {w W : World} {S n : Nat} {l : Bool} {d : List UInt8} {v : Value} (h : Box w S l d v) (hb : Below n w W) (hS : S < n) : Box W S l d v :=
  ⟨(hb.cell (p := ⟨S, 0, none⟩) hS).trans h.c0, (hb.cell (p := ⟨S, 1, none⟩) hS).trans h.c1, (hb.cell (p := ⟨S, 2, none⟩) hS).trans h.c2⟩

set_option maxRecDepth 100000 in
set_option maxHeartbeats 4000000 in
theorem rdeep_n (n : Nat) : ∀ (l : Bool) (d : List UInt8) (xs : List M.It) (v : Value) (w : World), SizeOf.sizeOf xs ≤ n → Lay w w.heap.size xs v → M.cntIs xs ≤ 1000 →
    Calls Tryd.prog 11 #[iv l d v] w fun e w' => e = .returned (.int .i64 (M.deepI (.mk l d xs) : Nat)) ∧ Below w.heap.size w w' := by
  induction n with
  | zero => intro l d xs v w h; cases xs <;> simp at h
  | succ n ih =>
    intro l d xs v w hs hL hc
    cases l with
    | false =>
      go_enter Tryd.func11, Tryd.ntmps11
      go_wp2_with fail
      go_ret
      refine ⟨by rw [M.deepI]; rfl, ?_⟩
      (repeat (first | exact Below.refl _ _ | refine Below.drew ?_ | refine Below.alloc ?_ (by first | omega | (simp; omega) | simp) _ | refine Below.setCell ?_ (by first | omega | (simp; omega) | simp) _))
    | true =>
      have hdm := M.deepIs_most xs
      have hlc := M.length_cnt xs
      have hB := Box.new w true d v 24
      have hb0 : Below w.heap.size w (w.alloc (.cells #[.bool true, .string ⟨d.toArray⟩, v] 24)) := by (repeat (first | exact Below.refl _ _ | refine Below.drew ?_ | refine Below.alloc ?_ (by first | omega | (simp; omega) | simp) _ | refine Below.setCell ?_ (by first | omega | (simp; omega) | simp) _))
      go_enter Tryd.func11, Tryd.ntmps11
      go_wp2_with fail
      generalize hw0 : w.alloc (.cells #[.bool true, .string ⟨d.toArray⟩, v] 24) = w0 at *
      have hz : w0.heap.size = w.heap.size + 1 := by rw [← hw0]; simp
      clear hw0
      go_loopw [3, 4] (fun m i wr => ∃ k : Nat, k ≤ xs.length ∧ i = .int .i64 k ∧ m = .int .i64 (M.deepIs (xs.take k) : Nat) ∧ Below w0.heap.size w0 wr) (fun _ i _ => xs.length - (intOf i).toNat)
      case atStart => exact ⟨0, by omega, rfl, rfl, Below.refl _ _⟩
      case round =>
        obtain ⟨k, hk, rfl, rfl, hW⟩ := hrel
        have hbx := hB.from_ hW (by omega)
        have hLr := (hL.from_ hb0).from_ (hW.mono (by omega))
        have hsz := hW.size
        by_cases hlt : k < xs.length
        · obtain ⟨b, o, cp, l', d', ys, u, hve, hbn, hxk, e0, e1, e2, hLu⟩ := hLr.at_ hlt
          subst hve
          have hc2 := hbx.c2
          have hk2 : k < 1000 := by omega
          have hnx := M.deepIs_next hxk
          generalize M.deepIs (xs.take k) = q at *
          go_wp2_with fail
          have hcx := M.cntI_part (List.mem_of_getElem? hxk)
          rw [M.cntI] at hcx
          have hsx := size_get hxk
          rw [M.It.mk.sizeOf_spec] at hsx
          refine (ih l' d' ys u _ (by omega) (hLu.mono (by omega)) (by omega)).mono ?_
          rintro e w1 ⟨rfl, hb1⟩
          have hdq : max q (M.deepI (M.It.mk l' d' ys)) ≤ 1000 := by have := M.deepIs_part xs (k + 1); omega
          generalize M.deepI (M.It.mk l' d' ys) = q2 at *
          have hw1 : Below w0.heap.size w0 w1 := hW.trans (hb1.mono hsz)
          by_cases hqq : q < q2
          · have e : max q q2 = q2 := by omega
            rw [e] at hnx hdq
            go_wp2_with fail
            go_roundw
            case rel => exact ⟨k + 1, by omega, by simp, by rw [hnx], hw1⟩
            case measure => simp [intOf]; omega
          · have e : max q q2 = q := by omega
            rw [e] at hnx hdq
            go_wp2_with fail
            go_roundw
            case rel => exact ⟨k + 1, by omega, by simp, by rw [hnx], hw1⟩
            case measure => simp [intOf]; omega
        · obtain rfl : k = xs.length := by omega
          rw [List.take_length] at *
          obtain ⟨a, cap, hv, hcap, hmax⟩ := hLr.slice
          subst hv
          have hc2 := hbx.c2
          have hk2 : xs.length ≤ 1000 := by omega
          go_wp2_with fail
          go_ret
          refine ⟨by rw [M.deepI]; rfl, hb0.trans (hW.mono (by omega))⟩
end Go.Proofs.YtkhhjgnpfindiaaDoor
