/- RlpApart. -/
import Derived.Test.YtkhhjgnpfindiaaDoorE2
import Derived.Test.YtkhhjgnpfindiaaDoorC7
namespace Go.Proofs.YtkhhjgnpfindiaaDoor
open Go Go.RowKit

theorem cut0 (t : List UInt8) (k : Nat) : ((⟨t.toArray⟩ : ByteArray).extract 0 k).toList = t.take k := by
  rw [ByteArray.toList_eq]
  simp [ByteArray.data_extract]

set_option maxRecDepth 100000 in
set_option maxHeartbeats 8000000 in
theorem apart_law (l l2 : Bool) (d d2 : List UInt8) (xs ys : List M.It) (v v2 : Value) (w : World) (hL : Lay w w.heap.size xs v) (hL2 : Lay w w.heap.size ys v2) (hs : M.smI (.mk l d xs)) (hs2 : M.smI (.mk l2 d2 ys)) :
    Calls Tryd.prog 4 #[iv l d v, iv l2 d2 v2] w fun e w' => e = .returned (.bool true) ∧ Below w.heap.size w w' := by
  obtain ⟨a, cap, hv, _, _⟩ := hL.slice
  obtain ⟨a2, cap2, hv2, _, _⟩ := hL2.slice
  subst hv hv2
  obtain ⟨w0, hw0⟩ : ∃ w0, (w.alloc (.cells #[.bool l, .string ⟨d.toArray⟩, .slice a xs.length cap] 24)).alloc (.cells #[.bool l2, .string ⟨d2.toArray⟩, .slice a2 ys.length cap2] 24) = w0 := ⟨_, rfl⟩
  have hb0 : Below w.heap.size w w0 := by rw [← hw0]; (repeat (first | exact Below.refl _ _ | refine Below.drew ?_ | refine Below.alloc ?_ (by first | omega | (simp; omega) | simp) _ | refine Below.setCell ?_ (by first | omega | (simp; omega) | simp) _))
  have hz : w0.heap.size = w.heap.size + 2 := by rw [← hw0]; simp
  have HBX : Hid (Box w0 w.heap.size l d (.slice a xs.length cap)) := by show Box _ _ _ _ _; rw [← hw0]; exact ⟨by simp [go_sem], by simp [go_sem], by simp [go_sem]⟩
  have HBY : Hid (Box w0 (w.heap.size + 1) l2 d2 (.slice a2 ys.length cap2)) := by show Box _ _ _ _ _; rw [← hw0]; exact ⟨by simp [go_sem], by simp [go_sem], by simp [go_sem]⟩
  have hS1 : w.heap.size < w0.heap.size := by omega
  have hS2 : w.heap.size + 1 < w0.heap.size := by omega
  have c0 := HBX.out.c0
  have c1 := HBX.out.c1
  have c2 := HBX.out.c2
  have c3 := HBY.out.c0
  have c4 := HBY.out.c1
  have c5 := HBY.out.c2
  have KW : Hid (∀ W, Below w0.heap.size w0 W → Calls Tryd.prog 8 #[] W fun e w' => e = .returned (.bool true) ∧ Below W.heap.size W w') := fun W _ => works_any W
  have KF : Hid (∀ W, Below w0.heap.size w0 W → Calls Tryd.prog 9 #[.agg #[.bool l, .string ⟨d.toArray⟩, .slice a xs.length cap]] W fun e w' => (∃ b : Bool, e = .returned (.bool b) ∧ (b = true → M.cntI (.mk l d xs) ≤ 120)) ∧ Below W.heap.size W w') := fun W hb => few_any l d xs _ W ((hL.from_ (hb0.trans (hb.mono hb0.size))).mono (by have := hb.size; omega))
  have KG : Hid (∀ W, Below w0.heap.size w0 W → Calls Tryd.prog 9 #[.agg #[.bool l2, .string ⟨d2.toArray⟩, .slice a2 ys.length cap2]] W fun e w' => (∃ b : Bool, e = .returned (.bool b) ∧ (b = true → M.cntI (.mk l2 d2 ys) ≤ 120)) ∧ Below W.heap.size W w') := fun W hb => few_any l2 d2 ys _ W ((hL2.from_ (hb0.trans (hb.mono hb0.size))).mono (by have := hb.size; omega))
  have HW := Lib.hid hw0
  have hb0w := Lib.hid hb0
  have HL := Lib.hid hL
  have HL2 := Lib.hid hL2
  clear hw0 hL hL2
  have hbz : Below w0.heap.size w0 w0 := Below.refl _ _
  go_enter Tryd.func4, Tryd.ntmps4
  go_wp2_with fail
  rw [HW.out]
  clear HW hb0
  refine (KW.out _ hbz).mono ?_
  rintro e w1 ⟨rfl, hq⟩
  have hb1 := hbz.trans (hq.mono hbz.size)
  have BX := HBX.out.from_ hb1 hS1
  have BY := HBY.out.from_ hb1 hS2
  replace c0 := BX.c0
  replace c1 := BX.c1
  replace c2 := BX.c2
  replace c3 := BY.c0
  replace c4 := BY.c1
  replace c5 := BY.c2
  clear BX BY hq
  go_wp2_with fail
  refine (KF.out _ hb1).mono ?_
  rintro e w2 ⟨⟨b, rfl, hfew⟩, hq⟩
  have hb2 := hb1.trans (hq.mono hb1.size)
  have BX := HBX.out.from_ hb2 hS1
  have BY := HBY.out.from_ hb2 hS2
  replace c0 := BX.c0
  replace c1 := BX.c1
  replace c2 := BX.c2
  replace c3 := BY.c0
  replace c4 := BY.c1
  replace c5 := BY.c2
  clear BX BY hq
  cases b with
  | false =>
    clear hfew
    go_wp2_with fail
    go_ret
    exact ⟨rfl, hb0w.out.trans (hb2.mono hb0w.out.size)⟩
  | true =>
   have hcnt := hfew rfl
   clear hfew
   go_wp2_with fail
   refine (KG.out _ hb2).mono ?_
   rintro e w3 ⟨⟨b, rfl, hfew⟩, hq⟩
   have hb3 := hb2.trans (hq.mono hb2.size)
   have BX := HBX.out.from_ hb3 hS1
   have BY := HBY.out.from_ hb3 hS2
   replace c0 := BX.c0
   replace c1 := BX.c1
   replace c2 := BX.c2
   replace c3 := BY.c0
   replace c4 := BY.c1
   replace c5 := BY.c2
   clear BX BY hq
   cases b with
   | false =>
    clear hfew
    go_wp2_with fail
    go_ret
    exact ⟨rfl, hb0w.out.trans (hb3.mono hb0w.out.size)⟩
   | true =>
    have hcnt2 := hfew rfl
    clear hfew KW KF KG
    have hb0 := hb0w.out
    have hL := HL.out
    have hL2 := HL2.out
    have hsz := M.few_size hcnt hs
    have hsz2 := M.few_size hcnt2 hs2
    have hcn : M.cntIs xs ≤ 119 := by rw [M.cntI] at hcnt; omega
    have hcn2 : M.cntIs ys ≤ 119 := by rw [M.cntI] at hcnt2; omega
    have hln := M.length_cnt xs
    have hln2 := M.length_cnt ys
    have k1 : Hid (∀ W, Below w0.heap.size w0 W → Calls Tryd.prog 13 #[.agg #[.bool l, .string ⟨d.toArray⟩, .slice a xs.length cap]] W fun e w' => e = .returned (.tuple #[.string ⟨(M.encodeI (.mk l d xs)).1.toArray⟩, .int .i64 ((M.encodeI (.mk l d xs)).2 : Nat)]) ∧ Below W.heap.size W w') := fun W hb => encode_any l d xs _ W ((hL.from_ (hb0.trans (hb.mono hb0.size))).mono (by have := hb.size; omega)) (by omega) (by omega)
    have k2 : Hid (∀ W, Below w0.heap.size w0 W → Calls Tryd.prog 13 #[.agg #[.bool l2, .string ⟨d2.toArray⟩, .slice a2 ys.length cap2]] W fun e w' => e = .returned (.tuple #[.string ⟨(M.encodeI (.mk l2 d2 ys)).1.toArray⟩, .int .i64 ((M.encodeI (.mk l2 d2 ys)).2 : Nat)]) ∧ Below W.heap.size W w') := fun W hb => encode_any l2 d2 ys _ W ((hL2.from_ (hb0.trans (hb.mono hb0.size))).mono (by have := hb.size; omega)) (by omega) (by omega)
    have k3 : Hid (∀ W, Below w0.heap.size w0 W → Calls Tryd.prog 15 #[.agg #[.bool l, .string ⟨d.toArray⟩, .slice a xs.length cap], .agg #[.bool l2, .string ⟨d2.toArray⟩, .slice a2 ys.length cap2]] W fun e w' => e = .returned (.bool (M.sameI (.mk l d xs) (.mk l2 d2 ys))) ∧ Below W.heap.size W w') := fun W hb => rsame_n _ l l2 d d2 xs ys _ _ W (Nat.le_refl _) ((hL.from_ (hb0.trans (hb.mono hb0.size))).mono (by have := hb.size; omega)) ((hL2.from_ (hb0.trans (hb.mono hb0.size))).mono (by have := hb.size; omega)) (by omega) (by omega) (by omega) (by omega)
    have hA : M.checkI (.mk l d xs) = 0 → M.checkI (.mk l2 d2 ys) = 0 → (M.bytesI (.mk l d xs) = M.bytesI (.mk l2 d2 ys) ↔ M.sameI (.mk l d xs) (.mk l2 d2 ys) = true) ∧ ((M.bytesI (.mk l2 d2 ys)).take (M.bytesI (.mk l d xs)).length = M.bytesI (.mk l d xs) ↔ M.sameI (.mk l d xs) (.mk l2 d2 ys) = true) := M.apart_same
    have x1 : M.checkI (.mk l d xs) = 0 → M.encodeI (.mk l d xs) = (M.bytesI (.mk l d xs), 0) := M.encode_ok
    have x2 : M.checkI (.mk l d xs) ≠ 0 → M.encodeI (.mk l d xs) = ([], M.checkI (.mk l d xs)) := M.encode_no
    have y1 : M.checkI (.mk l2 d2 ys) = 0 → M.encodeI (.mk l2 d2 ys) = (M.bytesI (.mk l2 d2 ys), 0) := M.encode_ok
    have y2 : M.checkI (.mk l2 d2 ys) ≠ 0 → M.encodeI (.mk l2 d2 ys) = ([], M.checkI (.mk l2 d2 ys)) := M.encode_no
    have n1 : 1 ≤ (M.bytesI (.mk l d xs)).length := Nat.pos_of_ne_zero (fun h => M.bytesI_ne _ h)
    have n2 : 1 ≤ (M.bytesI (.mk l2 d2 ys)).length := Nat.pos_of_ne_zero (fun h => M.bytesI_ne _ h)
    generalize M.checkI (.mk l d xs) = ck at *
    generalize M.checkI (.mk l2 d2 ys) = ck2 at *
    generalize M.bytesI (.mk l d xs) = bx at *
    generalize M.bytesI (.mk l2 d2 ys) = by_ at *
    generalize M.encodeI (.mk l d xs) = en at *
    generalize M.encodeI (.mk l2 d2 ys) = en2 at *
    generalize M.sameI (.mk l d xs) (.mk l2 d2 ys) = sm at *
    clear hL hL2 HL HL2 hs hs2 hcnt hcnt2 hb0
    by_cases h1 : ck = 0
    · by_cases h2 : ck2 = 0
      · have e1 := x1 h1
        have e2 := y1 h2
        obtain ⟨A1, A2⟩ := hA h1 h2
        subst e1 e2
        clear x1 x2 y1 y2 hA h1 h2
        have HA1 := Lib.hid A1
        have HA2 := Lib.hid A2
        clear A1 A2
        go_wp2_with fail
        refine (k1.out _ hb3).mono ?_
        rintro e w4 ⟨rfl, hq⟩
        have hb4 := hb3.trans (hq.mono hb3.size)
        have BX := HBX.out.from_ hb4 hS1
        have BY := HBY.out.from_ hb4 hS2
        replace c0 := BX.c0
        replace c1 := BX.c1
        replace c2 := BX.c2
        replace c3 := BY.c0
        replace c4 := BY.c1
        replace c5 := BY.c2
        clear BX BY hq
        go_wp2_with fail
        refine (k2.out _ hb4).mono ?_
        rintro e w5 ⟨rfl, hq⟩
        have hb5 := hb4.trans (hq.mono hb4.size)
        have BX := HBX.out.from_ hb5 hS1
        have BY := HBY.out.from_ hb5 hS2
        replace c0 := BX.c0
        replace c1 := BX.c1
        replace c2 := BX.c2
        replace c3 := BY.c0
        replace c4 := BY.c1
        replace c5 := BY.c2
        clear BX BY hq
        go_wp2_with fail
        refine (k3.out _ hb5).mono ?_
        rintro e w6 ⟨rfl, hq⟩
        have hb6 := hb5.trans (hq.mono hb5.size)
        have BX := HBX.out.from_ hb6 hS1
        have BY := HBY.out.from_ hb6 hS2
        replace c0 := BX.c0
        replace c1 := BX.c1
        replace c2 := BX.c2
        replace c3 := BY.c0
        replace c4 := BY.c1
        replace c5 := BY.c2
        clear BX BY hq
        cases sm with
        | true =>
          have e : bx = by_ := HA1.out.2 rfl
          subst e
          have hq : (((⟨bx.toArray⟩ : ByteArray).extract 0 bx.length).toList == bx) = true := by rw [cut0, List.take_length]; simp
          clear HA1 HA2
          go_wp2_with fail
          go_ret
          exact ⟨rfl, hb0w.out.trans (hb6.mono hb0w.out.size)⟩
        | false =>
          have ne1 : bx ≠ by_ := fun h => by have := HA1.out.1 h; simp at this
          have ne2 : by_.take bx.length ≠ bx := fun h => by have := HA2.out.1 h; simp at this
          have hq : (((⟨by_.toArray⟩ : ByteArray).extract 0 bx.length).toList == bx) = false := by rw [cut0]; exact beq_eq_false_iff_ne.2 ne2
          have hq2 : (bx == by_) = false := beq_eq_false_iff_ne.2 ne1
          clear HA1 HA2 ne1 ne2
          by_cases hll : bx.length ≤ by_.length
          · go_wp2_with fail
            go_ret
            exact ⟨rfl, hb0w.out.trans (hb6.mono hb0w.out.size)⟩
          · go_wp2_with fail
            go_ret
            exact ⟨rfl, hb0w.out.trans (hb6.mono hb0w.out.size)⟩
      · have e1 := x1 h1
        have e2 := y2 h2
        subst e1 e2
        have hne : ((ck2 : Int) != 0) = true := by rw [bne_iff_ne]; omega
        have hne2 : ((ck2 : Int) == 0) = false := by rw [beq_eq_false_iff_ne]; omega
        clear x1 x2 y1 y2 hA h1 h2
        go_wp2_with fail
        refine (k1.out _ hb3).mono ?_
        rintro e w4 ⟨rfl, hq⟩
        have hb4 := hb3.trans (hq.mono hb3.size)
        have BX := HBX.out.from_ hb4 hS1
        have BY := HBY.out.from_ hb4 hS2
        replace c0 := BX.c0
        replace c1 := BX.c1
        replace c2 := BX.c2
        replace c3 := BY.c0
        replace c4 := BY.c1
        replace c5 := BY.c2
        clear BX BY hq
        go_wp2_with fail
        refine (k2.out _ hb4).mono ?_
        rintro e w5 ⟨rfl, hq⟩
        have hb5 := hb4.trans (hq.mono hb4.size)
        have BX := HBX.out.from_ hb5 hS1
        have BY := HBY.out.from_ hb5 hS2
        replace c0 := BX.c0
        replace c1 := BX.c1
        replace c2 := BX.c2
        replace c3 := BY.c0
        replace c4 := BY.c1
        replace c5 := BY.c2
        clear BX BY hq
        go_wp2_with fail
        go_ret
        exact ⟨rfl, hb0w.out.trans (hb5.mono hb0w.out.size)⟩
    · have e1 := x2 h1
      have hne : ((ck : Int) != 0) = true := by rw [bne_iff_ne]; omega
      have hne2 : ((ck : Int) == 0) = false := by rw [beq_eq_false_iff_ne]; omega
      by_cases h2 : ck2 = 0
      · have e2 := y1 h2
        subst e1 e2
        clear x1 x2 y1 y2 hA h1 h2
        go_wp2_with fail
        refine (k1.out _ hb3).mono ?_
        rintro e w4 ⟨rfl, hq⟩
        have hb4 := hb3.trans (hq.mono hb3.size)
        have BX := HBX.out.from_ hb4 hS1
        have BY := HBY.out.from_ hb4 hS2
        replace c0 := BX.c0
        replace c1 := BX.c1
        replace c2 := BX.c2
        replace c3 := BY.c0
        replace c4 := BY.c1
        replace c5 := BY.c2
        clear BX BY hq
        go_wp2_with fail
        refine (k2.out _ hb4).mono ?_
        rintro e w5 ⟨rfl, hq⟩
        have hb5 := hb4.trans (hq.mono hb4.size)
        have BX := HBX.out.from_ hb5 hS1
        have BY := HBY.out.from_ hb5 hS2
        replace c0 := BX.c0
        replace c1 := BX.c1
        replace c2 := BX.c2
        replace c3 := BY.c0
        replace c4 := BY.c1
        replace c5 := BY.c2
        clear BX BY hq
        go_wp2_with fail
        go_ret
        exact ⟨rfl, hb0w.out.trans (hb5.mono hb0w.out.size)⟩
      · have e2 := y2 h2
        have hne3 : ((ck2 : Int) != 0) = true := by rw [bne_iff_ne]; omega
        have hne4 : ((ck2 : Int) == 0) = false := by rw [beq_eq_false_iff_ne]; omega
        subst e1 e2
        clear x1 x2 y1 y2 hA h1 h2
        go_wp2_with fail
        refine (k1.out _ hb3).mono ?_
        rintro e w4 ⟨rfl, hq⟩
        have hb4 := hb3.trans (hq.mono hb3.size)
        have BX := HBX.out.from_ hb4 hS1
        have BY := HBY.out.from_ hb4 hS2
        replace c0 := BX.c0
        replace c1 := BX.c1
        replace c2 := BX.c2
        replace c3 := BY.c0
        replace c4 := BY.c1
        replace c5 := BY.c2
        clear BX BY hq
        go_wp2_with fail
        refine (k2.out _ hb4).mono ?_
        rintro e w5 ⟨rfl, hq⟩
        have hb5 := hb4.trans (hq.mono hb4.size)
        have BX := HBX.out.from_ hb5 hS1
        have BY := HBY.out.from_ hb5 hS2
        replace c0 := BX.c0
        replace c1 := BX.c1
        replace c2 := BX.c2
        replace c3 := BY.c0
        replace c4 := BY.c1
        replace c5 := BY.c2
        clear BX BY hq
        go_wp2_with fail
        go_ret
        exact ⟨rfl, hb0w.out.trans (hb5.mono hb0w.out.size)⟩
end Go.Proofs.YtkhhjgnpfindiaaDoor
