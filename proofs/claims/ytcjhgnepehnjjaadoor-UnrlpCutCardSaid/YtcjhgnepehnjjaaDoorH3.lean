/- UnrlpCut, under what the calls of package unrlp must do. -/
import Derived.Test.YtcjhgnepehnjjaaDoorH1
import Derived.Test.YtcjhgnepehnjjaaDoorEF
import Derived.Test.YtcjhgnepehnjjaaDoorD11
namespace Go.Proofs.YtcjhgnepehnjjaaDoor
open Go Go.RowKit

set_option maxRecDepth 100000 in
set_option maxHeartbeats 4000000 in
theorem cut_law (HD : Hid DecOk) (HH : Hid HeadOk) (HN : Hid NextOk) (l : Bool) (d : List UInt8) (xs : List M.It) (v : Value) (c : Int) (m : List UInt8) (w : World) (hL : Lay w w.heap.size xs v) (hs : M.smI (.mk l d xs)) :
    Calls Tryd.prog 5 #[iv l d v, .int .i64 c, .string ⟨m.toArray⟩] w fun e w' => e = .returned (.bool true) ∧ Below w.heap.size w w' := by
  obtain ⟨a, cap, hv, _, _⟩ := hL.slice
  subst hv
  have hb0 : Below w.heap.size w (w.alloc (.cells #[.bool l, .string ⟨d.toArray⟩, .slice a xs.length cap] 24)) := by (repeat (first | exact Below.refl _ _ | refine Below.drew ?_ | refine Below.alloc ?_ (by first | omega | (simp; omega) | simp) _ | refine Below.setCell ?_ (by first | omega | (simp; omega) | simp) _))
  have hB := Box.new w l d (.slice a xs.length cap) 24
  obtain ⟨w0, hw0⟩ : ∃ w0, w.alloc (.cells #[.bool l, .string ⟨d.toArray⟩, .slice a xs.length cap] 24) = w0 := ⟨_, rfl⟩
  have hz : w0.heap.size = w.heap.size + 1 := by rw [← hw0]; simp
  rw [hw0] at hb0 hB
  have HW := Lib.hid hw0
  clear hw0
  go_enter Tryd.func5, Tryd.ntmps5
  go_wp2_with fail
  rw [HW.out]
  refine (uworks HD HH HN _).mono ?_
  rintro e w1 ⟨rfl, hb1⟩
  have hB1 := hB.from_ hb1 (by omega)
  have c0 := hB1.c0
  have c1 := hB1.c1
  have c2 := hB1.c2
  have hb01 : Below w.heap.size w w1 := hb0.trans (hb1.mono (by omega))
  go_wp2_with fail
  refine (few_any l d xs _ w1 ((hL.from_ hb01).mono hb01.size)).mono ?_
  rintro e w2 ⟨⟨b, rfl, hfew⟩, hb2⟩
  have hb02 : Below w.heap.size w w2 := hb01.trans (hb2.mono hb01.size)
  cases b with
  | false =>
    clear hfew
    go_wp2_with fail
    go_ret
    exact ⟨rfl, hb02⟩
  | true =>
    by_cases hm : 1500 < m.length
    · clear hfew
      go_wp2_with fail
      go_ret
      exact ⟨rfl, hb02⟩
    have hcnt := hfew rfl
    clear hfew
    have hsz := M.few_size hcnt hs
    have hcn : M.cntIs xs ≤ 119 := by rw [M.cntI] at hcnt; omega
    have hB2 := hB1.from_ hb2 (by have := hb1.size; omega)
    replace c0 := hB2.c0
    replace c1 := hB2.c1
    replace c2 := hB2.c2
    have hlt2 : w.heap.size < w2.heap.size := by have := hb1.size; have := hb2.size; omega
    have k1 := Lib.hid (encode_any l d xs _ w2 ((hL.from_ hb02).mono hb02.size) (by omega) (by omega))
    clear hB1 hb1 hb2 hb01
    by_cases hck : M.checkI (.mk l d xs) = 0
    · rw [M.encode_ok hck] at k1
      obtain ⟨hck1, hck2⟩ := M.checkI_ok.1 hck
      clear hsz hs
      have HCUT : Hid (∀ j, j < (M.bytesI (.mk l d xs)).length → M.decodeL ((M.bytesI (.mk l d xs)).take j) = (M.zeroI, 3)) := Lib.hid fun j h => M.dec_cut hck h
      have HMORE : Hid (∀ r, r ≠ [] → M.decodeL (M.bytesI (.mk l d xs) ++ r) = (M.zeroI, if 65536 < (M.bytesI (.mk l d xs)).length + r.length then 5 else 4)) := Lib.hid fun r h => M.dec_more hck h
      generalize M.bytesI (.mk l d xs) = sl at *
      clear hck hck1
      by_cases h1 : c < 0
      · go_wp2_with fail
        refine k1.out.mono ?_
        rintro e w3 ⟨rfl, hb3⟩
        go_wp2_with fail
        go_ret
        exact ⟨rfl, hb02.trans (hb3.mono hb02.size)⟩
      obtain ⟨j, rfl⟩ := Int.eq_ofNat_of_zero_le (show 0 ≤ c by omega)
      by_cases h2 : sl.length ≤ j
      · go_wp2_with fail
        refine k1.out.mono ?_
        rintro e w3 ⟨rfl, hb3⟩
        go_wp2_with fail
        go_ret
        exact ⟨rfl, hb02.trans (hb3.mono hb02.size)⟩
      by_cases h3 : m = []
      · subst h3
        go_wp2_with fail
        refine k1.out.mono ?_
        rintro e w3 ⟨rfl, hb3⟩
        go_wp2_with fail
        go_ret
        exact ⟨rfl, hb02.trans (hb3.mono hb02.size)⟩
      have hne : m.isEmpty = false := by simpa using h3
      have hj0 : ¬ ((j : Nat) : Int) < 0 := by omega
      go_wp2_with fail
      refine k1.out.mono ?_
      rintro e w3 ⟨rfl, hb3⟩
      have hb03 := hb02.trans (hb3.mono hb02.size)
      have k2 : Hid (∀ W, Calls Tryd.prog 9 #[.string ((⟨sl.toArray⟩ : ByteArray).extract 0 j)] W fun e w' => (∃ a cap, e = .returned (.tuple #[iv false [] (.slice a 0 cap), .int .i64 3])) ∧ Below W.heap.size W w') := fun W => by
        rw [cutS, List.drop_zero]
        refine (HD.out (sl.take j) W (by rw [List.length_take]; omega)).mono ?_
        rintro e w' ⟨⟨l', d', ys, a', c', h, hx, hy⟩, hb⟩
        rw [HCUT.out j (by omega)] at h hx
        obtain ⟨rfl, rfl, rfl⟩ := M.It.mk.inj hx
        exact ⟨⟨a', c', h⟩, hb⟩
      have k3 : Hid (∀ W, Calls Tryd.prog 9 #[.string ((⟨sl.toArray⟩ : ByteArray) ++ (⟨m.toArray⟩ : ByteArray))] W fun e w' => (∃ a cap, e = .returned (.tuple #[iv false [] (.slice a 0 cap), .int .i64 ((if 65536 < sl.length + m.length then 5 else 4 : Nat) : Int)])) ∧ Below W.heap.size W w') := fun W => by
        rw [cat_eq]
        refine (HD.out (sl ++ m) W (by rw [List.length_append]; omega)).mono ?_
        rintro e w' ⟨⟨l', d', ys, a', c', h, hx, hy⟩, hb⟩
        rw [HMORE.out m h3] at h hx
        obtain ⟨rfl, rfl, rfl⟩ := M.It.mk.inj hx
        exact ⟨⟨a', c', h⟩, hb⟩
      go_wp2_with fail
      refine (k2.out _).mono ?_
      rintro e w4 ⟨⟨a4, p4, rfl⟩, hb4⟩
      have hb04 := hb03.trans (hb4.mono hb03.size)
      go_wp2_with fail
      refine (k3.out _).mono ?_
      rintro e w5 ⟨⟨a5, p5, rfl⟩, hb5⟩
      have B4 := hb04.alloc hb04.size (.cells #[.bool false, .string ⟨#[]⟩, .slice a4 0 p4] 24)
      have B5 := B4.trans (hb5.mono B4.size)
      have B6 := Lib.hid (B5.alloc B5.size (.cells #[.bool false, .string ⟨#[]⟩, .slice a5 0 p5] 24))
      clear B4 B5 hb5 hb04 hb4 hb03 hb3 hb02 c0 c1 c2 hB2 k1 k2 k3 hL hB hb0
      by_cases hlong : 65536 < sl.length + m.length
      · rw [if_pos hlong]
        go_wp2_with fail
        go_ret
        exact ⟨rfl, B6.out⟩
      · rw [if_neg hlong]
        go_wp2_with fail
        go_ret
        exact ⟨rfl, B6.out⟩
    · rw [M.encode_no hck] at k1
      have hle := M.checkI_le (.mk l d xs)
      generalize M.checkI (.mk l d xs) = ck at *
      go_wp2_with fail
      refine k1.out.mono ?_
      rintro e w3 ⟨rfl, hb3⟩
      go_wp2_with fail
      go_ret
      exact ⟨rfl, hb02.trans (hb3.mono hb02.size)⟩
end Go.Proofs.YtcjhgnepehnjjaaDoor
