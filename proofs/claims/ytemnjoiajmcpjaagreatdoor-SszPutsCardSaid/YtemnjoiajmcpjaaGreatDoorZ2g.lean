/- The reference's Pack. -/
import Derived.Test.YtemnjoiajmcpjaaGreatDoorZ1g
import Derived.Test.YtemnjoiajmcpjaaGreatDoorK13
import Derived.Test.YtemnjoiajmcpjaaGreatDoorK06
import Derived.Laws.OwnMore
namespace Go.Proofs.YtemnjoiajmcpjaaGreatDoor
open Go Go.RowKit

theorem M.pk_next {bs : List Bool} {j : Nat} {x : Bool} (hx : bs[j]? = some x) : M.pk (bs.take (j + 1)) = if x = true then (M.pk0 (bs.take j)).set (j / 8) ((M.pk0 (bs.take j)).getD (j / 8) 0 + 2 ^ (j % 8)) else M.pk0 (bs.take j) := by
  have hj := (List.getElem?_eq_some_iff.1 hx).1
  have hl : (bs.take j).length = j := List.length_take_of_le (by omega)
  rw [List.take_add_one, hx]
  show M.pk (bs.take j ++ [x]) = _
  rw [M.pk_snoc, hl]
  have hg := M.pk0_get (bs.take j) (j := j / 8) (by rw [hl]; omega)
  rw [List.getD_eq_getElem?_getD, hg, Option.getD_some]
  simp
theorem M.pk_room {bs : List Bool} {j : Nat} (hj : j < bs.length) : 0 ≤ (M.pk0 (bs.take j)).getD (j / 8) 0 ∧ (M.pk0 (bs.take j)).getD (j / 8) 0 + 2 ^ (j % 8) < 256 := by
  have hl : (bs.take j).length = j := List.length_take_of_le (by omega)
  have hg := M.pk0_get (bs.take j) (j := j / 8) (by rw [hl]; omega)
  have := M.bn_room (l := bs.take j)
  rw [hl] at this
  rw [List.getD_eq_getElem?_getD, hg, Option.getD_some]
  have e : ((2 : Int) ^ (j % 8)) = ((2 ^ (j % 8) : Nat) : Int) := by simp
  rw [e]
  omega
set_option maxRecDepth 100000 in
set_option maxHeartbeats 4000000 in
theorem zpack_any (bs : List Bool) (ab : Option Addr) (cb : Nat) (w : World) (hB : LayB w w.heap.size bs (.slice ab bs.length cb)) (h1 : 1 ≤ bs.length) (hlen : bs.length ≤ 1000000) :
    Calls Tryz.prog 47 #[.slice ab bs.length cb] w fun e w' => e = .returned (.string ⟨(M.packB bs).toArray⟩) ∧ Below w.heap.size w w' := by
  obtain ⟨i0, hi, hz0, hz1, hz2⟩ := info_parts Tryz.infoU8
  go_enter Tryz.func47, Tryz.ntmps47
  go_wp2_with fail
  go_loopw [3, 4] (fun v i wr => ∃ j : Nat, j ≤ bs.length ∧ i = .int .i64 j ∧ wr.ownsRow w.heap.size 5 1 v ((j + 7) / 8) ((M.pk (bs.take j)).map (Value.int .u8)) ∧ Below w.heap.size w wr)
    (fun _ i _ => bs.length - (intOf i).toNat)
  case atStart => exact ⟨0, by omega, rfl, by rw [List.take_zero]; exact World.ownsRow_nil _ _ _ _, Below.refl _ _⟩
  case round =>
    obtain ⟨j, hj, rfl, hown, LW⟩ := hrel
    by_cases hlt : j < bs.length
    · have hsz := LW.size
      by_cases hm : j % 8 = 0
      · have hm' : (j : Int) % 8 = 0 := by omega
        have hx8 : (j + 7) / 8 + 1 = (j + 8) / 8 := by omega
        go_wp2_with (at_builtin; refine wpList_append_own _ rfl _ _ 46 rfl w.heap.size 5 i0 (.int .u8 0) 1 1 Tryz.underlying46 hi hz0 hz1 hz2 rfl (by decide) _ _ _ rfl (hown.alloc _) ⟨wr.heap.size, 0, none⟩ 1 1 [.int .u8 0] rfl rfl (cell_one_new _ _ _) (by simp [Value.oneCell']) (by unfold maxLen; omega) (by omega) (by simp; omega) ?_; intro v' w2 hown' hgrow _)
        have hown2 : w2.ownsRow w.heap.size 5 1 v' ((j + 8) / 8) ((M.pk0 (bs.take j)).map (Value.int .u8)) := by
          unfold M.pk0
          rw [List.length_take_of_le hj, if_pos hm, List.map_append, ← hx8]
          exact hown'
        have hbel : Below w.heap.size wr w2 := ((Below.refl _ wr).alloc (by omega) _).grown hgrow (by simp; omega) (fun q e => (hown.lt q e).1)
        clear hown hown' hgrow hx8
        have LW2 := LW.trans hbel
        obtain ⟨b, o, x, rfl, hbn, hx, hc⟩ := hB.at_ hlt
        have hc2 := (LW2.cell (p := ⟨b, o + j, none⟩) hbn).trans hc
        obtain ⟨q, hqq⟩ : ∃ q, j / 8 = q := ⟨_, rfl⟩
        have e8 : (j + 8) / 8 = q + 1 := by omega
        have ei : (j : Int) / 8 = (q : Int) := by omega
        rw [e8] at hown2
        obtain ⟨g, cap, rfl, hcells⟩ := row_cells hown2 (by omega)
        have hj9 : (j : Int) < 9223372036854775807 := by omega
        have HX := Lib.hid hx
        have HR := Lib.hid (M.pk_room hlt)
        have HM := Lib.hid hm
        clear hB hx hc hm e8
        have tst : Sem.run Tryz.prog (Instr.indexAt 28 (.slice (some ⟨b, o, none⟩) bs.length cb) (.int .i64 (j : Int))) w2 = .ok (.pointer (some ⟨b, o + j, none⟩)) w2 := by
          go_simp
        cases x with
        | false =>
          go_wp2_with fail
          rw [tst]
          clear tst hj9
          go_wp2_with fail
          refine ⟨⟨j + 1, by omega, by simp, ?_, LW2⟩, by simp [intOf]; omega⟩
          rw [M.pk_next HX.out, if_neg (by decide), show (j + 1 + 7) / 8 = q + 1 by omega]
          exact hown2
        | true =>
          have hq := hcells q (by rw [M.pk0_length, List.length_take_of_le hj]; omega)
          have hfz := hown2.frozenAt q
          generalize hz : (M.pk0 (bs.take j)).getD q 0 = z at hq
          have HZ := Lib.hid hz
          clear hz
          go_wp2_with fail
          rw [tst]
          clear tst hj9
          go_wp2_with fail
          have hz1 : (z + 1) % 256 = z + 1 := by
            obtain ⟨r1, r2⟩ := HR.out
            rw [hqq, HZ.out, HM.out] at r2
            rw [hqq, HZ.out] at r1
            simp at r2
            omega
          rw [hz1]
          refine ⟨⟨j + 1, by omega, by simp, ?_, LW2.setCell (hown2.lt g rfl).1 _⟩, by simp [intOf]; omega⟩
          have key := (hown2.stored q (.int .u8 (z + 1))).1
          rw [M.pk_next HX.out, if_pos rfl, show (j + 1 + 7) / 8 = q + 1 by omega, hqq, HZ.out, HM.out, List.map_set]
          exact key
      · have hx8 : (j + 7) / 8 = (j + 8) / 8 := by omega
        obtain ⟨v', hv'⟩ : ∃ v', u3 = v' := ⟨_, rfl⟩
        obtain ⟨w2, hw2⟩ : ∃ w2, wr = w2 := ⟨_, rfl⟩
        have hown2 : wr.ownsRow w.heap.size 5 1 u3 ((j + 8) / 8) ((M.pk0 (bs.take j)).map (Value.int .u8)) := by
          unfold M.pk0
          rw [List.length_take_of_le hj, if_neg hm, ← hx8]
          exact hown
        subst hw2 hv'
        have LW2 := LW
        clear hown hx8
        have hm' : ((j : Int) % 8 == 0) = false := by simp; omega
        obtain ⟨b, o, x, rfl, hbn, hx, hc⟩ := hB.at_ hlt
        have hc2 := (LW2.cell (p := ⟨b, o + j, none⟩) hbn).trans hc
        obtain ⟨q, hqq⟩ : ∃ q, j / 8 = q := ⟨_, rfl⟩
        have e8 : (j + 8) / 8 = q + 1 := by omega
        have ei : (j : Int) / 8 = (q : Int) := by omega
        rw [e8] at hown2
        obtain ⟨g, cap, rfl, hcells⟩ := row_cells hown2 (by omega)
        have hj9 : (j : Int) < 9223372036854775807 := by omega
        have HX := Lib.hid hx
        have HR := Lib.hid (M.pk_room hlt)
        have HM := Lib.hid hm
        clear hB hx hc hm e8
        have tst : Sem.run Tryz.prog (Instr.indexAt 28 (.slice (some ⟨b, o, none⟩) bs.length cb) (.int .i64 (j : Int))) wr = .ok (.pointer (some ⟨b, o + j, none⟩)) wr := by
          go_simp
        cases x with
        | false =>
          go_wp2_with fail
          refine ⟨⟨j + 1, by omega, by simp, ?_, LW2⟩, by simp [intOf]; omega⟩
          rw [M.pk_next HX.out, if_neg (by decide), show (j + 1 + 7) / 8 = q + 1 by omega]
          exact hown2
        | true =>
          have hq := hcells q (by rw [M.pk0_length, List.length_take_of_le hj]; omega)
          have hfz := hown2.frozenAt q
          generalize hz : (M.pk0 (bs.take j)).getD q 0 = z at hq
          have HZ := Lib.hid hz
          clear hz
          obtain ⟨r, hr⟩ : ∃ r, j % 8 = r := ⟨_, rfl⟩
          have er : (j : Int) % 8 = (r : Int) := by omega
          have hr8 : r < 8 := by omega
          have hr0 : ((r : Int) == 0) = false := by have := HM.out; simp; omega
          have HE := Lib.hid hr
          clear hr hm'
          clear hj9
          go_wp2_with fail
          have hz1 : (z + 2 ^ r) % 256 = z + 2 ^ r := by
            obtain ⟨r1, r2⟩ := HR.out
            rw [hqq, HZ.out, HE.out] at r2
            rw [hqq, HZ.out] at r1
            have : (0 : Int) < 2 ^ r := Int.pow_pos (by decide)
            omega
          rw [hz1]
          refine ⟨⟨j + 1, by omega, by simp, ?_, LW2.setCell (hown2.lt g rfl).1 _⟩, by simp [intOf]; omega⟩
          have key := (hown2.stored q (.int .u8 (z + 2 ^ r))).1
          rw [M.pk_next HX.out, if_pos rfl, show (j + 1 + 7) / 8 = q + 1 by have := HE.out; have := HM.out; omega, hqq, HZ.out, HE.out, List.map_set]
          exact key
    · obtain rfl : j = bs.length := by omega
      rw [List.take_length] at hown
      clear hB
      obtain ⟨g, cap, rfl, hcells⟩ := row_cells hown (by omega)
      have hpl := M.pk_length bs
      have hr := run_convert_bytes_arg wr 46 5 Tryz.underlying46 Tryz.underlying5 g 0 ((bs.length + 7) / 8) cap (M.pk bs) hpl (fun i hi => by rw [Nat.zero_add]; exact hcells i (by rw [hpl]; exact hi)) 9 Tryz.underlying9
      clear hown hcells
      have e : strOfNums (M.pk bs) = ⟨(M.packB bs).toArray⟩ := by unfold strOfNums; rw [M.pk_bytes]
      rw [e] at hr
      clear e hpl
      go_wp2_with fail
      go_ret
      exact ⟨rfl, LW⟩
end Go.Proofs.YtemnjoiajmcpjaaGreatDoor
