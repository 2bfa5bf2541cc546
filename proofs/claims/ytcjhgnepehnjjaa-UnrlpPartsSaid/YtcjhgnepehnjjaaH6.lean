/- UnrlpParts, under what the calls of package unrlp must do. -/
import Derived.Test.YtcjhgnepehnjjaaH5
import Derived.Test.YtcjhgnepehnjjaaD12
import Derived.Test.YtcjhgnepehnjjaaB3
import Derived.Test.YtcjhgnepehnjjaaM16
namespace Go.Proofs.Ytcjhgnepehnjjaa
open Go Go.RowKit

/-- The items of a list that is read, where they stand. -/
theorem parts_at {s : List UInt8} {d : List UInt8} {xs : List M.It} (hx : M.decodeL s = (.mk true d xs, 0)) : ∃ o, headZ s 0 = ⟨o, (M.bytesIs xs).length, true, 0⟩ ∧ o + (M.bytesIs xs).length = s.length ∧
    (∀ (k : Nat) (x : M.It), xs[k]? = some x → headZ s ((o + (M.bytesIs (xs.take k)).length : Nat) : Int) = ⟨o + (M.bytesIs (xs.take k)).length + M.offI x, (M.ownI x).length, M.isL x, 0⟩ ∧ ((s.take (o + (M.bytesIs (xs.take (k + 1))).length)).drop (o + (M.bytesIs (xs.take k)).length)) = M.bytesI x ∧ M.decodeL (M.bytesI x) = (x, 0)) := by
  obtain ⟨e1, e2⟩ := M.dec_only (s := s) (by rw [hx])
  rw [hx] at e1 e2
  simp only at e1 e2
  have h2 := (M.checkI_ok.1 e2).2
  have e := M.headL_item [] (.mk true d xs) [] h2
  have e3 : ([] : List UInt8).length = 0 := rfl
  rw [List.append_nil, List.nil_append, e3, e1] at e
  have e4 : headZ s 0 = M.headL s 0 := rfl
  obtain ⟨h, hh, hl⟩ := M.bytes_split (.mk true d xs)
  rw [e1, M.ownI] at hh
  refine ⟨M.offI (.mk true d xs), ?_, ?_, ?_⟩
  · rw [e4, e, M.ownI, M.isL]
    simp
  · rw [hh, List.length_append, hl]
  · intro k x hk
    have hp := M.part_check e2 (List.mem_of_getElem? hk)
    have hlen : k < xs.length := by
      rcases Nat.lt_or_ge k xs.length with h | h
      · exact h
      · rw [List.getElem?_eq_none h] at hk; cases hk
    have hb : M.bytesIs xs = M.bytesIs (xs.take k) ++ (M.bytesI x ++ M.bytesIs (xs.drop (k + 1))) := by
      have : xs = xs.take k ++ x :: xs.drop (k + 1) := by
        rw [← List.getElem?_eq_some_iff.1 hk |>.2, List.getElem_cons_drop, List.take_append_drop]
      conv => lhs; rw [this]
      rw [M.bytesIs_append, M.bytesIs]
    have hs : s = (h ++ M.bytesIs (xs.take k)) ++ (M.bytesI x ++ M.bytesIs (xs.drop (k + 1))) := by rw [hh, hb, List.append_assoc]
    have ha : (h ++ M.bytesIs (xs.take k)).length = M.offI (.mk true d xs) + (M.bytesIs (xs.take k)).length := by rw [List.length_append, hl]
    refine ⟨?_, ?_, M.dec_back hp⟩
    · have := M.headL_item (h ++ M.bytesIs (xs.take k)) x (M.bytesIs (xs.drop (k + 1))) (M.checkI_ok.1 hp).2
      rw [← hs, ha] at this
      rw [← this]
      unfold headZ
      rw [if_neg (by omega), Int.toNat_natCast]
    · rw [M.bytesIs_next hk, List.length_append, ← Nat.add_assoc, ← ha, hs, ← List.append_assoc, ← List.length_append, List.take_left, List.drop_left]

set_option maxRecDepth 100000 in
set_option maxHeartbeats 4000000 in
theorem uparts_law (HD : Hid DecOk) (HH : Hid HeadOk) (HN : Hid NextOk) (s : List UInt8) (w : World) :
    Calls Try.prog 4 #[.string ⟨s.toArray⟩] w fun e w' => e = .returned (.bool true) ∧ Below w.heap.size w w' := by
  go_enter Try.func4, Try.ntmps4
  go_wp2_with fail
  refine (uworks HD HH HN _).mono ?_
  rintro e w1 ⟨rfl, hb1⟩
  by_cases hs : 1500 < s.length
  · go_wp2_with fail
    go_ret
    exact ⟨rfl, hb1⟩
  have k1 := Lib.hid (HD.out s w1 (by omega))
  by_cases he : (M.decodeL s).2 = 0
  · rw [he] at k1
    go_wp2_with fail
    refine k1.out.mono ?_
    rintro e w2 ⟨⟨l, d, xs, a, cap, rfl, hx, hL⟩, hb2⟩
    have hb02 := hb1.trans (hb2.mono hb1.size)
    have hA := Box.new w2 l d (.slice a xs.length cap) 30
    have hq : Below w2.heap.size w2 (w2.alloc (.cells #[.bool l, .string ⟨d.toArray⟩, .slice a xs.length cap] 30)) := by (repeat (first | exact Below.refl _ _ | refine Below.drew ?_ | refine Below.alloc ?_ (by first | omega | (simp; omega) | simp) _ | refine Below.setCell ?_ (by first | omega | (simp; omega) | simp) _))
    have hz : (w2.alloc (.cells #[.bool l, .string ⟨d.toArray⟩, .slice a xs.length cap] 30)).heap.size = w2.heap.size + 1 := by simp
    cases l with
    | false =>
      clear hx k1 he hL
      have hb02a := Lib.hid (hb02.trans (hq.mono hb02.size))
      clear hq hb02 hb2 hA
      go_wp2_with fail
      go_ret
      exact ⟨rfl, hb02a.out⟩
    | true =>
      have hxd : M.decodeL s = (.mk true d xs, 0) := Prod.ext hx he
      obtain ⟨e1, e2⟩ := M.dec_only he
      rw [hx] at e1 e2
      have hc := M.cnt_le _ _ (M.checkI_ok.1 e2).1
      rw [e1, M.cntI] at hc
      obtain ⟨o, p1, p2, p3⟩ := parts_at hxd
      have P3 := Lib.hid p3
      have hln := M.length_cnt xs
      have k2 : Hid (∀ W, Calls Try.prog 6 #[.string ⟨s.toArray⟩, .int .i64 0] W fun e w' => e = .returned (.tuple #[.int .i64 (o : Nat), .int .i64 ((M.bytesIs xs).length : Nat), .bool true, .int .i64 0]) ∧ Below W.heap.size W w') := fun W => by
        have := HH.out s 0 W (by omega)
        rw [p1] at this
        exact this
      clear e1 e2 p1 p3 hxd hx k1 he
      obtain ⟨n, hn⟩ : ∃ n, (M.bytesIs xs).length = n := ⟨_, rfl⟩
      rw [hn] at k2 p2
      obtain ⟨w0, hw0⟩ : ∃ w0, w2.alloc (.cells #[.bool true, .string ⟨d.toArray⟩, .slice a xs.length cap] 30) = w0 := ⟨_, rfl⟩
      rw [hw0] at hA hq hz
      have hL0 := (hL.from_ hq).mono hq.size
      have hb0 := hb02.trans (hq.mono hb02.size)
      have HW := Lib.hid hw0
      clear hw0 hL hb02 hb2
      go_wp2_with fail
      rw [HW.out]
      refine (k2.out _).mono ?_
      rintro e w3 ⟨rfl, hb3⟩
      have hA3 := hA.from_ hb3 (by omega)
      have hL3 := (hL0.from_ hb3).mono hb3.size
      have hb03 := hb0.trans (hb3.mono hb0.size)
      have hlt3 : w2.heap.size < w3.heap.size := by have := hb3.size; omega
      have c0 := hA3.c0
      have c1 := hA3.c1
      have c2 := hA3.c2
      clear k2 hA hL0 hb3 hq
      have hcond : (((o : Nat) : Int) + ((n : Nat) : Int) != ((s.length : Nat) : Int)) = false := by rw [bne_eq_false_iff_eq]; omega
      go_wp2_with fail
      go_loopw [6, 10, 11, 12, 13, 14] (fun t i _ _ _ _ wr => ∃ k : Nat, k ≤ xs.length ∧ i = .int .i64 k ∧ t = .int .i64 ((o + (M.bytesIs (xs.take k)).length : Nat) : Int) ∧ Below w3.heap.size w3 wr) (fun _ i _ _ _ _ _ => xs.length - (intOf i).toNat)
      case atStart => exact ⟨0, by omega, rfl, by simp [M.bytesIs], Below.refl _ _⟩
      case round =>
        obtain ⟨k, hk, rfl, rfl, hW⟩ := hrel
        have hszr := hW.size
        have hBr := hA3.from_ hW hlt3
        replace c0 := hBr.c0
        replace c1 := hBr.c1
        replace c2 := hBr.c2
        have hLr := (hL3.from_ hW).mono hszr
        have hbr : Below w.heap.size w wr := hb03.trans (hW.mono hb03.size)
        by_cases hlt : k < xs.length
        · obtain ⟨b, q, cp, l', d', ys, u, hve, hbn, hxk, e0, e1, e2, hLu⟩ := hLr.at_ hlt
          obtain ⟨rfl, rfl⟩ : a = some ⟨b, q, none⟩ ∧ cap = cp := by cases hve; exact ⟨rfl, rfl⟩
          clear hve
          obtain ⟨g1, g2, g3⟩ := P3.out k _ hxk
          have hcx := M.cntI_part (List.mem_of_getElem? hxk)
          rw [M.cntI] at hcx
          have hnx := M.bytesIs_next hxk
          have hptk := M.bytesIs_part xs (k + 1)
          rw [hnx, List.length_append] at hptk
          rw [hnx, List.length_append] at g2
          have hbl := M.bytes_len (M.It.mk l' d' ys)
          have hpos : 1 ≤ (M.bytesI (M.It.mk l' d' ys)).length := Nat.pos_of_ne_zero fun h => M.bytesI_ne _ h
          have j1 := HN.out s ((o + (M.bytesIs (xs.take k)).length : Nat) : Int) wr (by omega)
          rw [g1] at j1
          simp only at j1
          rw [Nat.add_assoc, ← hbl] at j1
          have j2 : Hid (∀ W, Calls Try.prog 8 #[.string ((⟨s.toArray⟩ : ByteArray).extract (o + (M.bytesIs (xs.take k)).length) (o + (M.bytesIs (xs.take k)).length + (M.bytesI (.mk l' d' ys)).length))] W fun e w' => (∃ a cap, e = .returned (.tuple #[iv l' d' (.slice a ys.length cap), .int .i64 0]) ∧ Lay w' w'.heap.size ys (.slice a ys.length cap)) ∧ Below W.heap.size W w') := fun W => by
            rw [cutS, Nat.add_assoc, g2]
            refine (HD.out _ W (by omega)).mono ?_
            rintro e w' ⟨⟨l'', d'', zs, a', c', h, hx, hy⟩, hb⟩
            rw [g3] at h hx
            obtain ⟨rfl, rfl, rfl⟩ := M.It.mk.inj hx
            exact ⟨⟨a', c', h, hy⟩, hb⟩
          have J1 := Lib.hid j1
          have HNX := Lib.hid hnx
          clear g1 g2 g3 j1 hnx hbl
          obtain ⟨A, hA⟩ : ∃ A, o + (M.bytesIs (xs.take k)).length = A := ⟨_, rfl⟩
          rw [hA] at J1 j2
          obtain ⟨B, hB⟩ : ∃ B, A + (M.bytesI (M.It.mk l' d' ys)).length = B := ⟨_, rfl⟩
          rw [hB] at J1 j2
          rw [hA]
          have hAB1 : A < B := by omega
          have hAB2 : B ≤ s.length := by omega
          have HB : Hid (o + (M.bytesIs (xs.take (k + 1))).length = B) := Lib.hid (by rw [HNX.out, List.length_append]; omega)
          clear hA hB hpos hptk HNX
          go_wp2_with fail
          refine J1.out.mono ?_
          rintro e w4 ⟨rfl, hb4⟩
          have hsz4 := hb4.size
          have hB4 := hBr.from_ hb4 (by omega)
          replace c2 := hB4.c2
          have hL4 := (hLr.from_ hb4).mono hsz4
          have hLu4 := (hLu.from_ hb4).mono (show _ ≤ w4.heap.size by omega)
          replace e0 := (hb4.cell (p := ⟨b, q + k * 3, none⟩) (by simp; omega)).trans e0
          replace e1 := (hb4.cell (p := ⟨b, q + k * 3 + 1, none⟩) (by simp; omega)).trans e1
          replace e2 := (hb4.cell (p := ⟨b, q + k * 3 + 2, none⟩) (by simp; omega)).trans e2
          have hw4 := hW.trans (hb4.mono hszr)
          clear hBr hLr hLu J1
          have hsl := slice_str s A B (by omega) hAB2 w4
          go_wp2_with fail
          refine (j2.out _).mono ?_
          rintro e w5 ⟨⟨a5, p5, rfl, hL5⟩, hb5⟩
          have hsz5 := hb5.size
          have hX5 := Box.new w5 l' d' (.slice a5 ys.length p5) 30
          have hq5 : Below w5.heap.size w5 (w5.alloc (.cells #[.bool l', .string ⟨d'.toArray⟩, .slice a5 ys.length p5] 30)) := by (repeat (first | exact Below.refl _ _ | refine Below.drew ?_ | refine Below.alloc ?_ (by first | omega | (simp; omega) | simp) _ | refine Below.setCell ?_ (by first | omega | (simp; omega) | simp) _))
          have hz5 : (w5.alloc (.cells #[.bool l', .string ⟨d'.toArray⟩, .slice a5 ys.length p5] 30)).heap.size = w5.heap.size + 1 := by simp
          obtain ⟨w6, hw6⟩ : ∃ w6, w5.alloc (.cells #[.bool l', .string ⟨d'.toArray⟩, .slice a5 ys.length p5] 30) = w6 := ⟨_, rfl⟩
          rw [hw6] at hX5 hq5 hz5
          have HW6 := Lib.hid hw6
          have hb46 := hb5.trans (hq5.mono hsz5)
          have hB6 := hB4.from_ hb46 (by omega)
          replace c0 := hB6.c0
          replace c1 := hB6.c1
          replace c2 := hB6.c2
          have hL6 := (hL5.from_ hq5).mono hq5.size
          have hLu6 := (hLu4.from_ hb46).mono hb46.size
          replace e0 := (hb46.cell (p := ⟨b, q + k * 3, none⟩) (by simp; omega)).trans e0
          replace e1 := (hb46.cell (p := ⟨b, q + k * 3 + 1, none⟩) (by simp; omega)).trans e1
          replace e2 := (hb46.cell (p := ⟨b, q + k * 3 + 2, none⟩) (by simp; omega)).trans e2
          have x0 := hX5.c0
          have x1 := hX5.c1
          have x2 := hX5.c2
          have hw6b := hw4.trans (hb46.mono hw4.size)
          have j6 : ∀ W, Below w6.heap.size w6 W → Calls Try.prog 9 #[iv l' d' (.slice a5 ys.length p5), iv l' d' u] W fun e w' => e = .returned (.bool true) ∧ Below W.heap.size W w' := fun W hb => by
            have := same_any l' l' d' d' ys ys _ u W ((hL6.from_ hb).mono hb.size) ((hLu6.from_ hb).mono hb.size) (by omega) (by omega)
            rwa [(M.sameI_iff _ _).2 rfl] at this
          have J6 := Lib.hid j6
          clear j6 hw6 hX5 hq5 hb46 hB6 hB4 hL6 hLu6 hL5 hLu4 hL4 hb5 hb4 hw4 hW hsl j2
          go_wp2_with fail
          rw [HW6.out]
          have mixed : Try.prog.follows .mixedOrders = true := by kernel_rfl
          have hb6 : b < w6.heap.size := by omega
          have h26 : w2.heap.size < w6.heap.size := by omega
          have h56 : w5.heap.size < w6.heap.size := by omega
          refine region_quiet (C := fun W => Below w6.heap.size w6 W) mixed (by kernel_rfl) (Below.drew (Below.refl _ _)) ?_
          refine quiet_val (.int .i64 0) (by rfl) (fun W hC => by go_simp) ?_
          simp only [Act.put, List.setIfInBounds_toArray, List.set_cons_zero, List.set_cons_succ]
          refine quiet_val (.bool false) (by rfl) (fun W hC => by go_simp) ?_
          simp only [Act.put, List.setIfInBounds_toArray, List.set_cons_zero, List.set_cons_succ]
          refine quiet_val (.bool false) (by rfl) (fun W hC => by go_simp) ?_
          simp only [Act.put, List.setIfInBounds_toArray, List.set_cons_zero, List.set_cons_succ]
          refine quiet_val (iv l' d' (.slice a5 ys.length p5)) (by rfl) (fun W hC => by have b0 := (hC.cell (p := ⟨w5.heap.size, 0, none⟩) (by simp; omega)).trans x0; have b1 := (hC.cell (p := ⟨w5.heap.size, 1, none⟩) (by simp; omega)).trans x1; have b2 := (hC.cell (p := ⟨w5.heap.size, 2, none⟩) (by simp; omega)).trans x2; go_simp) ?_
          simp only [Act.put, List.setIfInBounds_toArray, List.set_cons_zero, List.set_cons_succ]
          refine quiet_val (.pointer (some ⟨w2.heap.size, 2, none⟩)) (by rfl) (fun W hC => by go_simp) ?_
          simp only [Act.put, List.setIfInBounds_toArray, List.set_cons_zero, List.set_cons_succ]
          refine quiet_val (.slice (some ⟨b, q, none⟩) xs.length cap) (by rfl) (fun W hC => by have b0 := (hC.cell (p := ⟨w2.heap.size, 2, none⟩) (by simp; omega)).trans c2; go_simp) ?_
          simp only [Act.put, List.setIfInBounds_toArray, List.set_cons_zero, List.set_cons_succ]
          refine quiet_val (.int .i64 k) (by rfl) (fun W hC => by go_simp) ?_
          simp only [Act.put, List.setIfInBounds_toArray, List.set_cons_zero, List.set_cons_succ]
          refine quiet_val (.pointer (some ⟨b, q + k * 3, none⟩)) (by rfl) (fun W hC => by go_simp) ?_
          simp only [Act.put, List.setIfInBounds_toArray, List.set_cons_zero, List.set_cons_succ]
          refine quiet_val (iv l' d' u) (by rfl) (fun W hC => by have b0 := (hC.cell (p := ⟨b, q + k * 3, none⟩) (by simp; omega)).trans e0; have b1 := (hC.cell (p := ⟨b, q + k * 3 + 1, none⟩) (by simp; omega)).trans e1; have b2 := (hC.cell (p := ⟨b, q + k * 3 + 2, none⟩) (by simp; omega)).trans e2; go_simp) ?_
          simp only [Act.put, List.setIfInBounds_toArray, List.set_cons_zero, List.set_cons_succ]
          refine quiet_call (.bool true) 9 #[iv l' d' (.slice a5 ys.length p5), iv l' d' u] (by rfl) (fun W _ => by go_simp) (fun W hC => (J6.out W hC).mono fun _ _ h => ⟨h.1, hC.trans (h.2.mono hC.size)⟩) ?_
          simp only [Act.put, List.setIfInBounds_toArray, List.set_cons_zero, List.set_cons_succ]
          refine quiet_val (.bool false) (by rfl) (fun W hC => by go_simp) ?_
          simp only [Act.put, List.setIfInBounds_toArray, List.set_cons_zero, List.set_cons_succ]
          refine quiet_val (.bool false) (by rfl) (fun W hC => by go_simp) ?_
          simp only [Act.put, List.setIfInBounds_toArray, List.set_cons_zero, List.set_cons_succ]
          refine wpQuiet_nil ?_
          intro w7 hb7
          have hw7 : Below w3.heap.size w3 w7 := hw6b.trans (hb7.mono hw6b.size)
          go_wp2_with fail
          go_roundw
          case rel => exact ⟨k + 1, by omega, by simp, by rw [HB.out], hw7⟩
          case measure => simp [intOf]; omega
        · obtain rfl : k = xs.length := by omega
          rw [List.take_length] at *
          go_wp2_with fail
          go_ret
          exact ⟨rfl, hbr⟩
  · generalize (M.decodeL s).2 = ec at *
    have hec : ((ec : Int) != 0) = true := by rw [bne_iff_ne]; omega
    go_wp2_with fail
    refine k1.out.mono ?_
    rintro e w2 ⟨⟨l, d, xs, a, cap, rfl, hx, hL⟩, hb2⟩
    have hb02 := hb1.trans (hb2.mono hb1.size)
    have B := Lib.hid (hb02.alloc hb02.size (.cells #[.bool l, .string ⟨d.toArray⟩, .slice a xs.length cap] 30))
    clear hx hL hb02 hb2 hb1 k1
    go_wp2_with fail
    go_ret
    exact ⟨rfl, B.out⟩
end Go.Proofs.Ytcjhgnepehnjjaa
