/- RlpEncodes. -/
import Derived.Test.YtkhhjgnpfindiaaDoorE2
import Derived.Test.YtkhhjgnpfindiaaDoorC7
import Derived.Test.YtkhhjgnpfindiaaDoorC8
namespace Go.Proofs.YtkhhjgnpfindiaaDoor
open Go Go.RowKit

set_option maxRecDepth 100000 in
set_option maxHeartbeats 8000000 in
theorem encodes_law (l l2 : Bool) (d d2 : List UInt8) (xs ys : List M.It) (v v2 : Value) (w : World) (hL : Lay w w.heap.size xs v) (hL2 : Lay w w.heap.size ys v2) (hs : M.smI (.mk l d xs)) (hs2 : M.smI (.mk l2 d2 ys)) :
    Calls Tryd.prog 3 #[iv l d v, iv l2 d2 v2] w fun e w' => e = .returned (.bool true) ∧ Below w.heap.size w w' := by
  obtain ⟨a, cap, hv, _, _⟩ := hL.slice
  obtain ⟨a2, cap2, hv2, _, _⟩ := hL2.slice
  subst hv hv2
  obtain ⟨w0, hw0⟩ : ∃ w0, (w.alloc (.cells #[.bool l, .string ⟨d.toArray⟩, .slice a xs.length cap] 24)).alloc (.cells #[.bool l2, .string ⟨d2.toArray⟩, .slice a2 ys.length cap2] 24) = w0 := ⟨_, rfl⟩
  have hb0 : Below w.heap.size w w0 := by rw [← hw0]; (repeat (first | exact Below.refl _ _ | refine Below.drew ?_ | refine Below.alloc ?_ (by first | omega | (simp; omega) | simp) _ | refine Below.setCell ?_ (by first | omega | (simp; omega) | simp) _))
  have hz : w0.heap.size = w.heap.size + 2 := by rw [← hw0]; simp
  have HBX : Hid (Box w0 w.heap.size l d (.slice a xs.length cap)) := by show Box _ _ _ _ _; rw [← hw0]; exact ⟨by simp [go_sem], by simp [go_sem], by simp [go_sem]⟩
  have HBY : Hid (Box w0 (w.heap.size + 1) l2 d2 (.slice a2 ys.length cap2)) := by show Box _ _ _ _ _; rw [← hw0]; exact ⟨by simp [go_sem], by simp [go_sem], by simp [go_sem]⟩
  have hS1 : w.heap.size < w0.heap.size := by omega
  have hS2 : w.heap.size + 1 < w0.heap.size := by omega
  have c0 := HBX.out.c0
  have c1 := HBX.out.c1
  have c2 := HBX.out.c2
  have c3 := HBY.out.c0
  have c4 := HBY.out.c1
  have c5 := HBY.out.c2
  have KW : Hid (∀ W, Below w0.heap.size w0 W → Calls Tryd.prog 8 #[] W fun e w' => e = .returned (.bool true) ∧ Below W.heap.size W w') := fun W _ => works_any W
  have KF : Hid (∀ W, Below w0.heap.size w0 W → Calls Tryd.prog 9 #[.agg #[.bool l, .string ⟨d.toArray⟩, .slice a xs.length cap]] W fun e w' => (∃ b : Bool, e = .returned (.bool b) ∧ (b = true → M.cntI (.mk l d xs) ≤ 120)) ∧ Below W.heap.size W w') := fun W hb => few_any l d xs _ W ((hL.from_ (hb0.trans (hb.mono hb0.size))).mono (by have := hb.size; omega))
  have KG : Hid (∀ W, Below w0.heap.size w0 W → Calls Tryd.prog 9 #[.agg #[.bool l2, .string ⟨d2.toArray⟩, .slice a2 ys.length cap2]] W fun e w' => (∃ b : Bool, e = .returned (.bool b) ∧ (b = true → M.cntI (.mk l2 d2 ys) ≤ 120)) ∧ Below W.heap.size W w') := fun W hb => few_any l2 d2 ys _ W ((hL2.from_ (hb0.trans (hb.mono hb0.size))).mono (by have := hb.size; omega))
  have HW := Lib.hid hw0
  have hb0w := Lib.hid hb0
  have HL := Lib.hid hL
  have HL2 := Lib.hid hL2
  clear hw0 hL hL2
  have hbz : Below w0.heap.size w0 w0 := Below.refl _ _
  go_enter Tryd.func3, Tryd.ntmps3
  go_wp2_with fail
  rw [HW.out]
  clear HW hb0
  refine (KW.out _ hbz).mono ?_
  rintro e w1 ⟨rfl, hq⟩
  have hb1 := hbz.trans (hq.mono hbz.size)
  have BX := HBX.out.from_ hb1 hS1
  have BY := HBY.out.from_ hb1 hS2
  replace c0 := BX.c0
  replace c1 := BX.c1
  replace c2 := BX.c2
  replace c3 := BY.c0
  replace c4 := BY.c1
  replace c5 := BY.c2
  clear BX BY hq
  go_wp2_with fail
  refine (KF.out _ hb1).mono ?_
  rintro e w2 ⟨⟨b, rfl, hfew⟩, hq⟩
  have hb2 := hb1.trans (hq.mono hb1.size)
  have BX := HBX.out.from_ hb2 hS1
  have BY := HBY.out.from_ hb2 hS2
  replace c0 := BX.c0
  replace c1 := BX.c1
  replace c2 := BX.c2
  replace c3 := BY.c0
  replace c4 := BY.c1
  replace c5 := BY.c2
  clear BX BY hq
  cases b with
  | false =>
    clear hfew
    go_wp2_with fail
    go_ret
    exact ⟨rfl, hb0w.out.trans (hb2.mono hb0w.out.size)⟩
  | true =>
   have hcnt := hfew rfl
   clear hfew
   go_wp2_with fail
   refine (KG.out _ hb2).mono ?_
   rintro e w3 ⟨⟨b, rfl, hfew⟩, hq⟩
   have hb3 := hb2.trans (hq.mono hb2.size)
   have BX := HBX.out.from_ hb3 hS1
   have BY := HBY.out.from_ hb3 hS2
   replace c0 := BX.c0
   replace c1 := BX.c1
   replace c2 := BX.c2
   replace c3 := BY.c0
   replace c4 := BY.c1
   replace c5 := BY.c2
   clear BX BY hq
   cases b with
   | false =>
    clear hfew
    go_wp2_with fail
    go_ret
    exact ⟨rfl, hb0w.out.trans (hb3.mono hb0w.out.size)⟩
   | true =>
    have hcnt2 := hfew rfl
    clear hfew KW KF KG
    have hb0 := hb0w.out
    have hL := HL.out
    have hL2 := HL2.out
    have hsz := M.few_size hcnt hs
    have hsz2 := M.few_size hcnt2 hs2
    have hcn : M.cntIs xs ≤ 119 := by rw [M.cntI] at hcnt; omega
    have hcn2 : M.cntIs ys ≤ 119 := by rw [M.cntI] at hcnt2; omega
    have hln := M.length_cnt xs
    have hln2 := M.length_cnt ys
    have k1 : Hid (∀ W, Below w0.heap.size w0 W → Calls Tryd.prog 10 #[.agg #[.bool l, .string ⟨d.toArray⟩, .slice a xs.length cap]] W fun e w' => e = .returned (.int .i64 (M.checkI (.mk l d xs) : Nat)) ∧ Below W.heap.size W w') := fun W hb => rcheck l d xs _ W ((hL.from_ (hb0.trans (hb.mono hb0.size))).mono (by have := hb.size; omega)) (by omega) (by omega)
    have k2 : Hid (∀ W, Below w0.heap.size w0 W → Calls Tryd.prog 11 #[.agg #[.bool l, .string ⟨d.toArray⟩, .slice a xs.length cap]] W fun e w' => e = .returned (.int .i64 (M.deepI (.mk l d xs) : Nat)) ∧ Below W.heap.size W w') := fun W hb => rdeep_n _ l d xs _ W (Nat.le_refl _) ((hL.from_ (hb0.trans (hb.mono hb0.size))).mono (by have := hb.size; omega)) (by omega)
    have k3 : Hid (∀ W, Below w0.heap.size w0 W → Calls Tryd.prog 12 #[.agg #[.bool l, .string ⟨d.toArray⟩, .slice a xs.length cap]] W fun e w' => e = .returned (.string ⟨(M.bytesI (.mk l d xs)).toArray⟩) ∧ Below W.heap.size W w') := fun W hb => rbytes_n _ l d xs _ W (Nat.le_refl _) ((hL.from_ (hb0.trans (hb.mono hb0.size))).mono (by have := hb.size; omega)) (by omega) (by omega)
    have k4 : Hid (∀ W, Below w0.heap.size w0 W → Calls Tryd.prog 13 #[.agg #[.bool l, .string ⟨d.toArray⟩, .slice a xs.length cap]] W fun e w' => e = .returned (.tuple #[.string ⟨(M.encodeI (.mk l d xs)).1.toArray⟩, .int .i64 ((M.encodeI (.mk l d xs)).2 : Nat)]) ∧ Below W.heap.size W w') := fun W hb => encode_any l d xs _ W ((hL.from_ (hb0.trans (hb.mono hb0.size))).mono (by have := hb.size; omega)) (by omega) (by omega)
    have k5 : Hid (∀ W, Below w0.heap.size w0 W → Calls Tryd.prog 14 #[.agg #[.bool l, .string ⟨d.toArray⟩, .slice a xs.length cap]] W fun e w' => e = .returned (.tuple #[.string ⟨(M.encodeI (.mk l d xs)).1.toArray⟩, .int .i64 ((M.encodeI (.mk l d xs)).2 : Nat)]) ∧ Below W.heap.size W w') := fun W hb => rencode l d xs _ W ((hL.from_ (hb0.trans (hb.mono hb0.size))).mono (by have := hb.size; omega)) (by omega) (by omega)
    have k6 : Hid (∀ W, Below w0.heap.size w0 W → Calls Tryd.prog 15 #[.agg #[.bool l, .string ⟨d.toArray⟩, .slice a xs.length cap], .agg #[.bool l2, .string ⟨d2.toArray⟩, .slice a2 ys.length cap2]] W fun e w' => e = .returned (.bool (M.sameI (.mk l d xs) (.mk l2 d2 ys))) ∧ Below W.heap.size W w') := fun W hb => rsame_n _ l l2 d d2 xs ys _ _ W (Nat.le_refl _) ((hL.from_ (hb0.trans (hb.mono hb0.size))).mono (by have := hb.size; omega)) ((hL2.from_ (hb0.trans (hb.mono hb0.size))).mono (by have := hb.size; omega)) (by omega) (by omega) (by omega) (by omega)
    have k7 : Hid (∀ W, Below w0.heap.size w0 W → Calls Tryd.prog 16 #[.agg #[.bool l, .string ⟨d.toArray⟩, .slice a xs.length cap]] W fun e w' => e = .returned (.int .i64 (M.checkI (.mk l d xs) : Nat)) ∧ Below W.heap.size W w') := fun W hb => check_any l d xs _ W ((hL.from_ (hb0.trans (hb.mono hb0.size))).mono (by have := hb.size; omega)) (by omega) (by omega)
    have k8 : Hid (∀ W, Below w0.heap.size w0 W → Calls Tryd.prog 17 #[.agg #[.bool l, .string ⟨d.toArray⟩, .slice a xs.length cap]] W fun e w' => e = .returned (.int .i64 (M.deepI (.mk l d xs) : Nat)) ∧ Below W.heap.size W w') := fun W hb => deep_any l d xs _ W ((hL.from_ (hb0.trans (hb.mono hb0.size))).mono (by have := hb.size; omega)) (by omega)
    have k9 : Hid (∀ W, Below w0.heap.size w0 W → Calls Tryd.prog 18 #[.agg #[.bool l, .string ⟨d.toArray⟩, .slice a xs.length cap]] W fun e w' => e = .returned (.int .i64 ((M.bytesI (.mk l d xs)).length : Nat)) ∧ Below W.heap.size W w') := fun W hb => size_any l d xs _ W ((hL.from_ (hb0.trans (hb.mono hb0.size))).mono (by have := hb.size; omega)) (by omega) (by omega)
    have k10 : Hid (∀ W, Below w0.heap.size w0 W → Calls Tryd.prog 19 #[.agg #[.bool l, .string ⟨d.toArray⟩, .slice a xs.length cap], .agg #[.bool l2, .string ⟨d2.toArray⟩, .slice a2 ys.length cap2]] W fun e w' => e = .returned (.bool (M.sameI (.mk l d xs) (.mk l2 d2 ys))) ∧ Below W.heap.size W w') := fun W hb => same_any l l2 d d2 xs ys _ _ W ((hL.from_ (hb0.trans (hb.mono hb0.size))).mono (by have := hb.size; omega)) ((hL2.from_ (hb0.trans (hb.mono hb0.size))).mono (by have := hb.size; omega)) (by omega) (by omega)
    generalize M.checkI (.mk l d xs) = ck at *
    generalize M.deepI (.mk l d xs) = dp at *
    generalize M.bytesI (.mk l d xs) = by_ at *
    generalize M.encodeI (.mk l d xs) = en at *
    generalize M.sameI (.mk l d xs) (.mk l2 d2 ys) = sm at *
    generalize en.1 = es at *
    generalize en.2 = ee at *
    clear hL hL2 HL HL2 hs hs2 hcnt hcnt2 hb0
    go_wp2_with fail
    refine (k1.out _ hb3).mono ?_
    rintro e w4 ⟨rfl, hq⟩
    have hb4 := hb3.trans (hq.mono hb3.size)
    have BX := HBX.out.from_ hb4 hS1
    have BY := HBY.out.from_ hb4 hS2
    replace c0 := BX.c0
    replace c1 := BX.c1
    replace c2 := BX.c2
    replace c3 := BY.c0
    replace c4 := BY.c1
    replace c5 := BY.c2
    clear BX BY hq
    go_wp2_with fail
    refine (k2.out _ hb4).mono ?_
    rintro e w5 ⟨rfl, hq⟩
    have hb5 := hb4.trans (hq.mono hb4.size)
    have BX := HBX.out.from_ hb5 hS1
    have BY := HBY.out.from_ hb5 hS2
    replace c0 := BX.c0
    replace c1 := BX.c1
    replace c2 := BX.c2
    replace c3 := BY.c0
    replace c4 := BY.c1
    replace c5 := BY.c2
    clear BX BY hq
    go_wp2_with fail
    refine (k3.out _ hb5).mono ?_
    rintro e w6 ⟨rfl, hq⟩
    have hb6 := hb5.trans (hq.mono hb5.size)
    have BX := HBX.out.from_ hb6 hS1
    have BY := HBY.out.from_ hb6 hS2
    replace c0 := BX.c0
    replace c1 := BX.c1
    replace c2 := BX.c2
    replace c3 := BY.c0
    replace c4 := BY.c1
    replace c5 := BY.c2
    clear BX BY hq
    go_wp2_with fail
    refine (k4.out _ hb6).mono ?_
    rintro e w7 ⟨rfl, hq⟩
    have hb7 := hb6.trans (hq.mono hb6.size)
    have BX := HBX.out.from_ hb7 hS1
    have BY := HBY.out.from_ hb7 hS2
    replace c0 := BX.c0
    replace c1 := BX.c1
    replace c2 := BX.c2
    replace c3 := BY.c0
    replace c4 := BY.c1
    replace c5 := BY.c2
    clear BX BY hq
    go_wp2_with fail
    refine (k5.out _ hb7).mono ?_
    rintro e w8 ⟨rfl, hq⟩
    have hb8 := hb7.trans (hq.mono hb7.size)
    have BX := HBX.out.from_ hb8 hS1
    have BY := HBY.out.from_ hb8 hS2
    replace c0 := BX.c0
    replace c1 := BX.c1
    replace c2 := BX.c2
    replace c3 := BY.c0
    replace c4 := BY.c1
    replace c5 := BY.c2
    clear BX BY hq
    go_wp2_with fail
    refine (k6.out _ hb8).mono ?_
    rintro e w9 ⟨rfl, hq⟩
    have hb9 := hb8.trans (hq.mono hb8.size)
    have BX := HBX.out.from_ hb9 hS1
    have BY := HBY.out.from_ hb9 hS2
    replace c0 := BX.c0
    replace c1 := BX.c1
    replace c2 := BX.c2
    replace c3 := BY.c0
    replace c4 := BY.c1
    replace c5 := BY.c2
    clear BX BY hq
    go_wp2_with fail
    refine (k7.out _ hb9).mono ?_
    rintro e w10 ⟨rfl, hq⟩
    have hb10 := hb9.trans (hq.mono hb9.size)
    have BX := HBX.out.from_ hb10 hS1
    have BY := HBY.out.from_ hb10 hS2
    replace c0 := BX.c0
    replace c1 := BX.c1
    replace c2 := BX.c2
    replace c3 := BY.c0
    replace c4 := BY.c1
    replace c5 := BY.c2
    clear BX BY hq
    go_wp2_with fail
    refine (k8.out _ hb10).mono ?_
    rintro e w11 ⟨rfl, hq⟩
    have hb11 := hb10.trans (hq.mono hb10.size)
    have BX := HBX.out.from_ hb11 hS1
    have BY := HBY.out.from_ hb11 hS2
    replace c0 := BX.c0
    replace c1 := BX.c1
    replace c2 := BX.c2
    replace c3 := BY.c0
    replace c4 := BY.c1
    replace c5 := BY.c2
    clear BX BY hq
    go_wp2_with fail
    refine (k9.out _ hb11).mono ?_
    rintro e w12 ⟨rfl, hq⟩
    have hb12 := hb11.trans (hq.mono hb11.size)
    have BX := HBX.out.from_ hb12 hS1
    have BY := HBY.out.from_ hb12 hS2
    replace c0 := BX.c0
    replace c1 := BX.c1
    replace c2 := BX.c2
    replace c3 := BY.c0
    replace c4 := BY.c1
    replace c5 := BY.c2
    clear BX BY hq
    go_wp2_with fail
    refine (k10.out _ hb12).mono ?_
    rintro e w13 ⟨rfl, hq⟩
    have hb13 := hb12.trans (hq.mono hb12.size)
    have BX := HBX.out.from_ hb13 hS1
    have BY := HBY.out.from_ hb13 hS2
    replace c0 := BX.c0
    replace c1 := BX.c1
    replace c2 := BX.c2
    replace c3 := BY.c0
    replace c4 := BY.c1
    replace c5 := BY.c2
    clear BX BY hq
    go_wp2_with fail
    go_ret
    exact ⟨rfl, hb0w.out.trans (hb13.mono hb0w.out.size)⟩
end Go.Proofs.YtkhhjgnpfindiaaDoor
