/- The reference's Check and Encode. -/
import Derived.Test.YtkhhjgnpfindiaaDoorC4
import Derived.Test.YtkhhjgnpfindiaaDoorC6
namespace Go.Proofs.YtkhhjgnpfindiaaDoor
open Go Go.RowKit

set_option maxRecDepth 100000 in
set_option maxHeartbeats 4000000 in
theorem rcheck (l : Bool) (d : List UInt8) (xs : List M.It) (v : Value) (w : World) (hL : Lay w w.heap.size xs v) (hc : M.cntIs xs ≤ 1000) (hz : (M.bytesI (.mk l d xs)).length ≤ 4611686018427380000) :
    Calls Tryd.prog 10 #[iv l d v] w fun e w' => e = .returned (.int .i64 (M.checkI (.mk l d xs) : Nat)) ∧ Below w.heap.size w w' := by
  have hb0 : Below w.heap.size w (w.alloc (.cells #[.bool l, .string ⟨d.toArray⟩, v] 24)) := by (repeat (first | exact Below.refl _ _ | refine Below.drew ?_ | refine Below.alloc ?_ (by first | omega | (simp; omega) | simp) _ | refine Below.setCell ?_ (by first | omega | (simp; omega) | simp) _))
  have hB := Box.new w l d v 24
  have hf : Hid (∀ W, Below w.heap.size w W → Calls Tryd.prog 21 #[iv l d v, .int .i64 0] W fun e w' => e = .returned (.int .i64 (M.formI 0 (.mk l d xs) : Nat)) ∧ Below W.heap.size W w') :=
    fun W hb => form_n _ l d xs v W 0 (Nat.le_refl _) ((hL.from_ hb).mono hb.size) hc (by omega)
  have hg : Hid (∀ W, Below w.heap.size w W → Calls Tryd.prog 12 #[iv l d v] W fun e w' => e = .returned (.string ⟨(M.bytesI (.mk l d xs)).toArray⟩) ∧ Below W.heap.size W w') :=
    fun W hb => rbytes_n _ l d xs v W (Nat.le_refl _) ((hL.from_ hb).mono hb.size) hc hz
  have hk : Hid (M.checkI (.mk l d xs) = if M.formI 0 (.mk l d xs) = 0 ∧ 65536 < (M.bytesI (.mk l d xs)).length then 5 else M.formI 0 (.mk l d xs)) := rfl
  generalize M.checkI (.mk l d xs) = q at *
  generalize M.formI 0 (.mk l d xs) = f at *
  generalize M.bytesI (.mk l d xs) = b at *
  clear hL
  by_cases hf0 : f = 0
  · subst hf0
    by_cases hlong : 65536 < b.length
    · have e : q = 5 := by rw [hk.out, if_pos ⟨rfl, hlong⟩]
      subst e
      go_enter Tryd.func10, Tryd.ntmps10
      go_wp2_with (first | (go_at_call 21; refine (hf.out _ hb0).mono ?_; rintro e w1 ⟨rfl, hb1⟩; have hB1 := hB.from_ hb1 (by simp); have hc0 := hB1.c0; have hc1 := hB1.c1; have hc2 := hB1.c2) | (go_at_call 12; refine (hg.out _ (hb0.trans (hb1.mono (by simp)))).mono ?_; rintro e w2 ⟨rfl, hb2⟩))
      go_ret
      exact ⟨rfl, hb0.trans ((hb1.mono (by simp)).trans (hb2.mono (by have := hb1.size; simp at this; omega)))⟩
    · have e : q = 0 := by rw [hk.out, if_neg (by omega)]
      subst e
      go_enter Tryd.func10, Tryd.ntmps10
      go_wp2_with (first | (go_at_call 21; refine (hf.out _ hb0).mono ?_; rintro e w1 ⟨rfl, hb1⟩; have hB1 := hB.from_ hb1 (by simp); have hc0 := hB1.c0; have hc1 := hB1.c1; have hc2 := hB1.c2) | (go_at_call 12; refine (hg.out _ (hb0.trans (hb1.mono (by simp)))).mono ?_; rintro e w2 ⟨rfl, hb2⟩))
      go_ret
      exact ⟨rfl, hb0.trans ((hb1.mono (by simp)).trans (hb2.mono (by have := hb1.size; simp at this; omega)))⟩
  · have e : q = f := by rw [hk.out, if_neg (by omega)]
    subst e
    have hne : ((q : Int) == 0) = false := by rw [beq_eq_false_iff_ne]; omega
    go_enter Tryd.func10, Tryd.ntmps10
    go_wp2_with (go_at_call 21; refine (hf.out _ hb0).mono ?_; rintro e w1 ⟨rfl, hb1⟩)
    go_ret
    exact ⟨rfl, hb0.trans (hb1.mono (by simp))⟩

set_option maxRecDepth 100000 in
set_option maxHeartbeats 4000000 in
theorem rencode (l : Bool) (d : List UInt8) (xs : List M.It) (v : Value) (w : World) (hL : Lay w w.heap.size xs v) (hc : M.cntIs xs ≤ 1000) (hz : (M.bytesI (.mk l d xs)).length ≤ 4611686018427380000) :
    Calls Tryd.prog 14 #[iv l d v] w fun e w' => e = .returned (.tuple #[.string ⟨(M.encodeI (.mk l d xs)).1.toArray⟩, .int .i64 ((M.encodeI (.mk l d xs)).2 : Nat)]) ∧ Below w.heap.size w w' := by
  have hb0 : Below w.heap.size w (w.alloc (.cells #[.bool l, .string ⟨d.toArray⟩, v] 24)) := by (repeat (first | exact Below.refl _ _ | refine Below.drew ?_ | refine Below.alloc ?_ (by first | omega | (simp; omega) | simp) _ | refine Below.setCell ?_ (by first | omega | (simp; omega) | simp) _))
  have hB := Box.new w l d v 24
  have hf : Hid (∀ W, Below w.heap.size w W → Calls Tryd.prog 10 #[iv l d v] W fun e w' => e = .returned (.int .i64 (M.checkI (.mk l d xs) : Nat)) ∧ Below W.heap.size W w') :=
    fun W hb => rcheck l d xs v W ((hL.from_ hb).mono hb.size) hc hz
  have hg : Hid (∀ W, Below w.heap.size w W → Calls Tryd.prog 12 #[iv l d v] W fun e w' => e = .returned (.string ⟨(M.bytesI (.mk l d xs)).toArray⟩) ∧ Below W.heap.size W w') :=
    fun W hb => rbytes_n _ l d xs v W (Nat.le_refl _) ((hL.from_ hb).mono hb.size) hc hz
  have hk : Hid (M.encodeI (.mk l d xs) = if M.checkI (.mk l d xs) = 0 then (M.bytesI (.mk l d xs), 0) else ([], M.checkI (.mk l d xs))) := rfl
  generalize M.encodeI (.mk l d xs) = q at *
  generalize M.checkI (.mk l d xs) = f at *
  generalize M.bytesI (.mk l d xs) = b at *
  clear hL
  by_cases hf0 : f = 0
  · subst hf0
    have e : q = (b, 0) := by rw [hk.out, if_pos rfl]
    subst e
    go_enter Tryd.func14, Tryd.ntmps14
    go_wp2_with (first | (go_at_call 10; refine (hf.out _ hb0).mono ?_; rintro e w1 ⟨rfl, hb1⟩; have hB1 := hB.from_ hb1 (by simp); have hc0 := hB1.c0; have hc1 := hB1.c1; have hc2 := hB1.c2) | (go_at_call 12; refine (hg.out _ (hb0.trans (hb1.mono (by simp)))).mono ?_; rintro e w2 ⟨rfl, hb2⟩))
    go_ret2
    exact ⟨rfl, hb0.trans ((hb1.mono (by simp)).trans (hb2.mono (by have := hb1.size; simp at this; omega)))⟩
  · have e : q = ([], f) := by rw [hk.out, if_neg hf0]
    subst e
    have hne : ((f : Int) != 0) = true := by rw [bne_iff_ne]; omega
    go_enter Tryd.func14, Tryd.ntmps14
    go_wp2_with (go_at_call 10; refine (hf.out _ hb0).mono ?_; rintro e w1 ⟨rfl, hb1⟩)
    go_ret2
    exact ⟨rfl, hb0.trans (hb1.mono (by simp))⟩
end Go.Proofs.YtkhhjgnpfindiaaDoor
