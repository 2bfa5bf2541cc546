/- UnrlpBack, under what the calls of package unrlp must do. -/
import Derived.Test.YtcjhgnepehnjjaaDoorH1
import Derived.Test.YtcjhgnepehnjjaaDoorEF
import Derived.Test.YtcjhgnepehnjjaaDoorD11
import Derived.Test.YtcjhgnepehnjjaaDoorD12
namespace Go.Proofs.YtcjhgnepehnjjaaDoor
open Go Go.RowKit

theorem head_front (x : M.It) (h : (M.bytesI x).length ≤ 65536) : (headZ (M.bytesI x) 0).off + (headZ (M.bytesI x) 0).n = (M.bytesI x).length ∧ (headZ (M.bytesI x) 0).e = 0 := by
  have e := M.headL_item [] x [] h
  rw [List.append_nil, List.nil_append] at e
  have e2 : headZ (M.bytesI x) 0 = M.headL (M.bytesI x) 0 := rfl
  rw [e2]
  have e3 : ([] : List UInt8).length = 0 := rfl
  rw [e3] at e
  rw [e, M.bytes_len]
  exact ⟨by simp, rfl⟩

set_option maxRecDepth 100000 in
set_option maxHeartbeats 4000000 in
theorem back_law (HD : Hid DecOk) (HH : Hid HeadOk) (HN : Hid NextOk) (l : Bool) (d : List UInt8) (xs : List M.It) (v : Value) (w : World) (hL : Lay w w.heap.size xs v) (hs : M.smI (.mk l d xs)) :
    Calls Tryd.prog 3 #[iv l d v] w fun e w' => e = .returned (.bool true) ∧ Below w.heap.size w w' := by
  obtain ⟨a, cap, hv, _, _⟩ := hL.slice
  subst hv
  have hb0 : Below w.heap.size w (w.alloc (.cells #[.bool l, .string ⟨d.toArray⟩, .slice a xs.length cap] 24)) := by (repeat (first | exact Below.refl _ _ | refine Below.drew ?_ | refine Below.alloc ?_ (by first | omega | (simp; omega) | simp) _ | refine Below.setCell ?_ (by first | omega | (simp; omega) | simp) _))
  have hB := Box.new w l d (.slice a xs.length cap) 24
  obtain ⟨w0, hw0⟩ : ∃ w0, w.alloc (.cells #[.bool l, .string ⟨d.toArray⟩, .slice a xs.length cap] 24) = w0 := ⟨_, rfl⟩
  have hz : w0.heap.size = w.heap.size + 1 := by rw [← hw0]; simp
  rw [hw0] at hb0 hB
  have HW := Lib.hid hw0
  clear hw0
  go_enter Tryd.func3, Tryd.ntmps3
  go_wp2_with fail
  rw [HW.out]
  refine (uworks HD HH HN _).mono ?_
  rintro e w1 ⟨rfl, hb1⟩
  have hB1 := hB.from_ hb1 (by omega)
  have c0 := hB1.c0
  have c1 := hB1.c1
  have c2 := hB1.c2
  have hb01 : Below w.heap.size w w1 := hb0.trans (hb1.mono (by omega))
  go_wp2_with fail
  refine (few_any l d xs _ w1 ((hL.from_ hb01).mono hb01.size)).mono ?_
  rintro e w2 ⟨⟨b, rfl, hfew⟩, hb2⟩
  have hb02 : Below w.heap.size w w2 := hb01.trans (hb2.mono hb01.size)
  cases b with
  | false =>
    clear hfew
    go_wp2_with fail
    go_ret
    exact ⟨rfl, hb02⟩
  | true =>
    have hcnt := hfew rfl
    clear hfew
    have hsz := M.few_size hcnt hs
    have hcn : M.cntIs xs ≤ 119 := by rw [M.cntI] at hcnt; omega
    have hB2 := hB1.from_ hb2 (by have := hb1.size; omega)
    replace c0 := hB2.c0
    replace c1 := hB2.c1
    replace c2 := hB2.c2
    have hlt2 : w.heap.size < w2.heap.size := by have := hb1.size; have := hb2.size; omega
    have k1 := Lib.hid (encode_any l d xs _ w2 ((hL.from_ hb02).mono hb02.size) (by omega) (by omega))
    clear hB1 hb1 hb2 hb01
    by_cases hck : M.checkI (.mk l d xs) = 0
    · rw [M.encode_ok hck] at k1
      obtain ⟨hck1, hck2⟩ := M.checkI_ok.1 hck
      have k2 : Hid (∀ W, Calls Tryd.prog 9 #[.string ⟨(M.bytesI (.mk l d xs)).toArray⟩] W fun e w' => (∃ a cap, e = .returned (.tuple #[iv l d (.slice a xs.length cap), .int .i64 0]) ∧ Lay w' w'.heap.size xs (.slice a xs.length cap)) ∧ Below W.heap.size W w') := fun W => by
        refine (HD.out (M.bytesI (.mk l d xs)) W (by omega)).mono ?_
        rintro e w' ⟨⟨l', d', ys, a', c', h, hx, hy⟩, hb⟩
        rw [M.dec_back hck] at h hx
        obtain ⟨rfl, rfl, rfl⟩ := M.It.mk.inj hx
        exact ⟨⟨a', c', h, hy⟩, hb⟩
      have k3 : Hid (∀ W, Calls Tryd.prog 10 #[.string ⟨(M.bytesI (.mk l d xs)).toArray⟩, .int .i64 0] W fun e w' => e = .returned (.tuple #[.int .i64 ((M.bytesI (.mk l d xs)).length : Nat), .int .i64 0]) ∧ Below W.heap.size W w') := fun W => by
        have := HN.out (M.bytesI (.mk l d xs)) 0 W (by omega)
        obtain ⟨e1, e2⟩ := head_front (.mk l d xs) hck2
        rwa [e1, e2] at this
      generalize M.bytesI (.mk l d xs) = sl at *
      clear hck hck1 hsz hs
      go_wp2_with fail
      refine k1.out.mono ?_
      rintro e w3 ⟨rfl, hb3⟩
      have hb03 := hb02.trans (hb3.mono hb02.size)
      have hB3 := hB2.from_ hb3 hlt2
      replace c0 := hB3.c0
      replace c1 := hB3.c1
      replace c2 := hB3.c2
      have hlt3 : w.heap.size < w3.heap.size := by have := hb3.size; omega
      clear k1 hB2
      go_wp2_with fail
      refine (k2.out _).mono ?_
      rintro e w4 ⟨⟨a4, p4, rfl, hL4⟩, hb4⟩
      have hb04 := hb03.trans (hb4.mono hb03.size)
      have hB4 := hB3.from_ hb4 hlt3
      have hA4 := Box.new w4 l d (.slice a4 xs.length p4) 24
      have hs4 := hb4.size
      have hq4 : Below w4.heap.size w4 (w4.alloc (.cells #[.bool l, .string ⟨d.toArray⟩, .slice a4 xs.length p4] 24)) := by (repeat (first | exact Below.refl _ _ | refine Below.drew ?_ | refine Below.alloc ?_ (by first | omega | (simp; omega) | simp) _ | refine Below.setCell ?_ (by first | omega | (simp; omega) | simp) _))
      have hb04a := hb04.trans (hq4.mono hb04.size)
      have KS : Hid (∀ W, Below (w4.heap.size + 1) (w4.alloc (.cells #[.bool l, .string ⟨d.toArray⟩, .slice a4 xs.length p4] 24)) W → Calls Tryd.prog 11 #[.agg #[.bool l, .string ⟨d.toArray⟩, .slice a4 xs.length p4], .agg #[.bool l, .string ⟨d.toArray⟩, .slice a xs.length cap]] W fun e w' => e = .returned (.bool true) ∧ Below W.heap.size W w') := fun W hb => by
        have hw := hb.size
        have hz4 : (w4.alloc (.cells #[.bool l, .string ⟨d.toArray⟩, .slice a4 xs.length p4] 24)).heap.size = w4.heap.size + 1 := by simp
        have := same_any l l d d xs xs (.slice a4 xs.length p4) (.slice a xs.length cap) W ((hL4.from_ (hq4.trans (hb.mono (by omega)))).mono (by omega)) ((hL.from_ (hb04a.trans (hb.mono (by omega)))).mono (by omega)) (by omega) (by omega)
        rwa [(M.sameI_iff _ _).2 rfl] at this
      go_wp2_with fail
      refine (k3.out _).mono ?_
      rintro e w5 ⟨rfl, hb5⟩
      have hz4 : (w4.alloc (.cells #[.bool l, .string ⟨d.toArray⟩, .slice a4 xs.length p4] 24)).heap.size = w4.heap.size + 1 := by simp
      rw [hz4] at hb5
      have hb05 := hb04a.trans (hb5.mono (by omega))
      have hA5 := hA4.from_ hb5 (by omega)
      have hB5 := hB4.from_ (hq4.trans (hb5.mono (by omega))) (by omega)
      replace c0 := hB5.c0
      replace c1 := hB5.c1
      replace c2 := hB5.c2
      have i0 := hA5.c0
      have i1 := hA5.c1
      have i2 := hA5.c2
      have j5 := Lib.hid (KS.out _ hb5)
      have H5 := Lib.hid hb05
      clear hB3 hB4 hA4 hq4 hb04a hA5 hB5 hb5 hb04 hb03 hb02 KS
      go_wp2_with fail
      refine j5.out.mono ?_
      rintro e w6 ⟨rfl, hb6⟩
      go_wp2_with fail
      go_ret
      exact ⟨rfl, H5.out.trans (hb6.mono H5.out.size)⟩
    · rw [M.encode_no hck] at k1
      have hle := M.checkI_le (.mk l d xs)
      generalize M.checkI (.mk l d xs) = ck at *
      go_wp2_with fail
      refine k1.out.mono ?_
      rintro e w3 ⟨rfl, hb3⟩
      have hB3 := hB2.from_ hb3 hlt2
      replace c0 := hB3.c0
      go_wp2_with fail
      go_ret
      exact ⟨rfl, hb02.trans (hb3.mono hb02.size)⟩
end Go.Proofs.YtcjhgnepehnjjaaDoor
