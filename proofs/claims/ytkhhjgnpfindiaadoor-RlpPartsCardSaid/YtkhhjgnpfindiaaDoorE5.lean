/- RlpParts. -/
import Derived.Test.YtkhhjgnpfindiaaDoorE2
import Derived.Test.YtkhhjgnpfindiaaDoorE4
import Derived.Test.YtkhhjgnpfindiaaDoorC6
namespace Go.Proofs.YtkhhjgnpfindiaaDoor
open Go Go.RowKit

theorem cutb (t : List UInt8) (k : Nat) : ((⟨t.toArray⟩ : ByteArray).extract k t.length).toList = t.drop k := by
  rw [ByteArray.toList_eq]
  simp only [ByteArray.data_extract, List.extract_toArray]
  simp
  rw [List.take_of_length_le (by simp)]
theorem M.head_first (n : Nat) (h : n < 18446744073709551616) : ∃ c r, M.hdL n 192 = c :: r ∧ 192 ≤ c.toNat := by
  obtain ⟨k, r, e, hk, _⟩ := M.hd_first (p := 192) h
  exact ⟨_, r, e, by rw [UInt8.toNat_ofNat_of_lt' (by show 192 + k < 256; omega)]; omega⟩

set_option maxRecDepth 100000 in
set_option maxHeartbeats 8000000 in
theorem parts_law (l : Bool) (d : List UInt8) (xs : List M.It) (v : Value) (w : World) (hL : Lay w w.heap.size xs v) (hs : M.smI (.mk l d xs)) :
    Calls Tryd.prog 5 #[iv l d v] w fun e w' => e = .returned (.bool true) ∧ Below w.heap.size w w' := by
  obtain ⟨a, cap, hv, _, _⟩ := hL.slice
  subst hv
  have hb0 : Below w.heap.size w (w.alloc (.cells #[.bool l, .string ⟨d.toArray⟩, .slice a xs.length cap] 24)) := by (repeat (first | exact Below.refl _ _ | refine Below.drew ?_ | refine Below.alloc ?_ (by first | omega | (simp; omega) | simp) _ | refine Below.setCell ?_ (by first | omega | (simp; omega) | simp) _))
  have hB := Box.new w l d (.slice a xs.length cap) 24
  obtain ⟨w0, hw0⟩ : ∃ w0, w.alloc (.cells #[.bool l, .string ⟨d.toArray⟩, .slice a xs.length cap] 24) = w0 := ⟨_, rfl⟩
  have hz : w0.heap.size = w.heap.size + 1 := by rw [← hw0]; simp
  rw [hw0] at hb0 hB
  have HW := Lib.hid hw0
  clear hw0
  go_enter Tryd.func5, Tryd.ntmps5
  go_wp2_with fail
  rw [HW.out]
  refine (works_any _).mono ?_
  rintro e w1 ⟨rfl, hb1⟩
  have hB1 := hB.from_ hb1 (by omega)
  have c0 := hB1.c0
  have c1 := hB1.c1
  have c2 := hB1.c2
  have hb01 : Below w.heap.size w w1 := hb0.trans (hb1.mono (by omega))
  go_wp2_with fail
  refine (few_any l d xs _ w1 ((hL.from_ hb01).mono hb01.size)).mono ?_
  rintro e w2 ⟨⟨b, rfl, hfew⟩, hb2⟩
  have hb02 : Below w.heap.size w w2 := hb01.trans (hb2.mono hb01.size)
  cases b with
  | false =>
    clear hfew
    go_wp2_with fail
    go_ret
    exact ⟨rfl, hb02⟩
  | true =>
    have hcnt := hfew rfl
    clear hfew
    have hsz := M.few_size hcnt hs
    have hcn : M.cntIs xs ≤ 119 := by rw [M.cntI] at hcnt; omega
    have hln := M.length_cnt xs
    have hlt2 : w.heap.size < w2.heap.size := by have := hb1.size; have := hb2.size; omega
    have hB2 := hB1.from_ hb2 (by have := hb1.size; omega)
    replace c0 := hB2.c0
    replace c1 := hB2.c1
    replace c2 := hB2.c2
    have k1 := Lib.hid (encode_any l d xs _ w2 ((hL.from_ hb02).mono hb02.size) (by omega) (by omega))
    clear hB1 hb1 hb2 hb01
    by_cases hck : M.checkI (.mk l d xs) = 0
    · rw [M.encode_ok hck] at k1
      cases l with
      | false =>
        clear hL hck
        go_wp2_with fail
        refine k1.out.mono ?_
        rintro e w3 ⟨rfl, hb3⟩
        have hB3 := hB2.from_ hb3 hlt2
        replace c0 := hB3.c0
        go_wp2_with fail
        go_ret
        exact ⟨rfl, hb02.trans (hb3.mono hb02.size)⟩
      | true =>
        obtain ⟨hck1, hck2⟩ := M.checkI_ok.1 hck
        have hbl : M.bytesI (.mk true d xs) = M.hdL (M.bytesIs xs).length 192 ++ M.bytesIs xs := by rw [M.bytesI]
        have hpt : ∀ x ∈ xs, M.checkI x = 0 := fun x hx => M.part_check hck hx
        rw [hbl, List.length_append] at hck2
        have hhl := M.hdL_length (n := (M.bytesIs xs).length) (p := 192) (by omega)
        obtain ⟨hc, hr, hhe, h192⟩ := M.head_first (M.bytesIs xs).length (by omega)
        have K9 : Hid (∀ W, Below w2.heap.size w2 W → Calls Tryd.prog 18 #[.agg #[.bool true, .string ⟨d.toArray⟩, .slice a xs.length cap]] W fun e w' => e = .returned (.int .i64 ((M.bytesI (.mk true d xs)).length : Nat)) ∧ Below W.heap.size W w') := fun W hb => size_any true d xs _ W ((hL.from_ (hb02.trans (hb.mono hb02.size))).mono (by have := hb.size; omega)) (by omega) (by omega)
        generalize hsl : M.bytesI (.mk true d xs) = sl at *
        go_wp2_with fail
        refine k1.out.mono ?_
        rintro e w3 ⟨rfl, hb3⟩
        have hB3 := hB2.from_ hb3 hlt2
        replace c0 := hB3.c0
        replace c1 := hB3.c1
        replace c2 := hB3.c2
        have hlt3 : w.heap.size < w3.heap.size := by have := hb3.size; omega
        have HSL := Lib.hid hsl
        have HBL := Lib.hid hbl
        have HHE := Lib.hid hhe
        have HHL := Lib.hid hhl
        have HP := Lib.hid hpt
        have HK2 := Lib.hid hck2
        clear hsl hbl hhe hhl hpt hck2 hck hck1 k1 hsz
        go_wp2_with fail
        go_loopw [7, 8, 9, 10] (fun s i t f wr => ∃ k : Nat, k ≤ xs.length ∧ i = .int .i64 k ∧ s = .string ⟨(M.bytesIs (xs.take k)).toArray⟩ ∧ Below w3.heap.size w3 wr) (fun _ i _ _ _ => xs.length - (intOf i).toNat)
        case atStart => exact ⟨0, by omega, rfl, rfl, Below.refl _ _⟩
        case round =>
          obtain ⟨k, hk, rfl, rfl, hW⟩ := hrel
          have hBr := hB3.from_ hW hlt3
          replace c0 := hBr.c0
          replace c1 := hBr.c1
          replace c2 := hBr.c2
          have hb3r : Below w2.heap.size w2 wr := hb3.trans (hW.mono hb3.size)
          have hbr : Below w.heap.size w wr := hb02.trans (hb3r.mono hb02.size)
          have hLr := hL.from_ hbr
          have hszr := hbr.size
          have hltr : w.heap.size < wr.heap.size := by have := hW.size; omega
          by_cases hlt : k < xs.length
          · obtain ⟨b, o, cp, l', d', ys, u, hve, hbn, hxk, e0, e1, e2, hLu⟩ := hLr.at_ hlt
            obtain ⟨rfl, rfl⟩ : a = some ⟨b, o, none⟩ ∧ cap = cp := by cases hve; exact ⟨rfl, rfl⟩
            clear hve
            have hk2 : k < 1000 := by omega
            have hcx := M.cntI_part (List.mem_of_getElem? hxk)
            rw [M.cntI] at hcx
            have hnx := M.bytesIs_next hxk
            have hptk := M.bytesIs_part xs (k + 1)
            rw [hnx, List.length_append] at hptk
            have hlz := HK2.out
            have j1 := encode_any l' d' ys u wr (hLu.mono hszr) (by omega) (by omega)
            rw [M.encode_ok (HP.out _ (List.mem_of_getElem? hxk))] at j1
            have J1 := Lib.hid j1
            have J2 : Hid (∀ W, Below wr.heap.size wr W → Calls Tryd.prog 18 #[.agg #[.bool l', .string ⟨d'.toArray⟩, u]] W fun e w' => e = .returned (.int .i64 ((M.bytesI (.mk l' d' ys)).length : Nat)) ∧ Below W.heap.size W w') := fun W hb => size_any l' d' ys _ W ((hLu.from_ (hb.mono hszr)).mono (by have := hb.size; omega)) (by omega) (by omega)
            generalize M.bytesIs (xs.take k) = q at *
            generalize M.bytesI (M.It.mk l' d' ys) = q2 at *
            have hsz1 : (q.length : Int) + (q2.length : Int) ≤ 4611686018427380000 := by omega
            have HN := Lib.hid hnx
            clear hnx j1 hptk hlz
            go_wp2_with fail
            refine J1.out.mono ?_
            rintro e w4 ⟨rfl, hb4⟩
            have hB4 := hBr.from_ hb4 hltr
            replace c2 := hB4.c2
            replace e0 := (hb4.cell (p := ⟨b, o + k * 3, none⟩) (by simp; omega)).trans e0
            replace e1 := (hb4.cell (p := ⟨b, o + k * 3 + 1, none⟩) (by simp; omega)).trans e1
            replace e2 := (hb4.cell (p := ⟨b, o + k * 3 + 2, none⟩) (by simp; omega)).trans e2
            go_wp2_with fail
            refine (J2.out _ hb4).mono ?_
            rintro e w5 ⟨rfl, hb5⟩
            have hw5 : Below w3.heap.size w3 w5 := hW.trans ((hb4.trans (hb5.mono hb4.size)).mono hW.size)
            go_wp2_with fail
            go_roundw
            case rel => exact ⟨k + 1, by omega, by simp, by rw [HN.out]; exact rcat, hw5⟩
            case measure => simp [intOf]; omega
          · obtain rfl : k = xs.length := by omega
            rw [List.take_length] at *
            have hk2 : xs.length ≤ 1000 := by omega
            have hslen : sl.length = (M.hdL (M.bytesIs xs).length 192).length + (M.bytesIs xs).length := by rw [HBL.out, List.length_append]
            obtain ⟨hh1, hh4, hh56⟩ := HHL.out
            have hq : (((⟨sl.toArray⟩ : ByteArray).extract (M.hdL (M.bytesIs xs).length 192).length sl.length).toList == M.bytesIs xs) = true := by rw [cutb, HBL.out, List.drop_left]; simp
            have hx : ∀ h : 0 < (⟨sl.toArray⟩ : ByteArray).size, (⟨sl.toArray⟩ : ByteArray)[0]'h = hc := fun h => by
              show sl.toArray[0] = hc
              simp [HBL.out, HHE.out]
            have hlz := HK2.out
            generalize (M.hdL (M.bytesIs xs).length 192).length = hl at *
            generalize M.bytesIs xs = bl at *
            have hsub : (sl.length : Int) - (bl.length : Int) = (hl : Nat) := by omega
            have hsl1 : 0 < sl.length := by omega
            have hsl2 : hl ≤ sl.length := by omega
            have hx1 := hx (by simpa [ByteArray.size] using hsl1)
            by_cases h56 : bl.length < 56
            · have h1 := hh56.2 h56
              subst h1
              have hd56 : decide ((bl.length : Int) < 56) = true := decide_eq_true (by omega)
              clear hh56 hslen hx
              go_wp2_with fail
              refine (K9.out _ hb3r).mono ?_
              rintro e w6 ⟨rfl, hb6⟩
              go_wp2_with fail
              go_ret
              exact ⟨rfl, hbr.trans (hb6.mono hszr)⟩
            · have hne : ¬ hl = 1 := fun h => h56 (hh56.1 h)
              have hd56 : decide ((bl.length : Int) < 56) = false := decide_eq_false (by omega)
              have hne1 : ((hl : Int) == 1) = false := beq_eq_false_iff_ne.2 (by omega)
              clear hh56 hslen hx
              go_wp2_with fail
              refine (K9.out _ hb3r).mono ?_
              rintro e w6 ⟨rfl, hb6⟩
              go_wp2_with fail
              go_ret
              exact ⟨rfl, hbr.trans (hb6.mono hszr)⟩
    · rw [M.encode_no hck] at k1
      have hne : ((M.checkI (.mk l d xs) : Int) != 0) = true := by rw [bne_iff_ne]; omega
      have h7 := M.checkI_le (.mk l d xs)
      generalize M.checkI (.mk l d xs) = ck at *
      clear hL
      go_wp2_with fail
      refine k1.out.mono ?_
      rintro e w3 ⟨rfl, hb3⟩
      go_wp2_with fail
      go_ret
      exact ⟨rfl, hb02.trans (hb3.mono hb02.size)⟩
end Go.Proofs.YtkhhjgnpfindiaaDoor
