/- works of layer 3: the document's example and two known sums. -/
import Derived.Test.YtdfcfpbofomdcaaDoorQ20
namespace Go.Proofs.YtdfcfpbofomdcaaDoor
open Go Go.RowKit

/-- The sums that are known. -/
def noneS : ByteArray := ⟨#[197, 210, 70, 1, 134, 247, 35, 60, 146, 126, 125, 178, 220, 199, 3, 192, 229, 0, 182, 83, 202, 130, 39, 59, 123, 250, 216, 4, 93, 133, 164, 112]⟩
def abcS : ByteArray := ⟨#[78, 3, 101, 122, 234, 69, 169, 79, 199, 212, 123, 168, 38, 200, 214, 103, 192, 209, 230, 227, 58, 100, 160, 54, 236, 68, 245, 143, 161, 45, 108, 69]⟩
theorem ksum_none (w : World) (hT : Tab w) : Calls Tryd.prog 14 #[.string ⟨#[]⟩] w fun e w' => e = .returned (.string noneS) ∧ Below w.heap.size w w' := by
  have := callsIn_wide.1 (sum_in ⟨#[]⟩ w (by decide) hT)
  rw [show (⟨#[]⟩ : ByteArray).data.toList = [] from rfl, M.sum_none] at this
  exact this
theorem ksum_abc (w : World) (hT : Tab w) : Calls Tryd.prog 14 #[.string ⟨#[97, 98, 99]⟩] w fun e w' => e = .returned (.string abcS) ∧ Below w.heap.size w w' := by
  have := callsIn_wide.1 (sum_in ⟨#[97, 98, 99]⟩ w (by decide) hT)
  rw [show (⟨#[97, 98, 99]⟩ : ByteArray).data.toList = [97, 98, 99] from rfl, M.sum_abc] at this
  exact this

set_option maxRecDepth 100000 in
set_option maxHeartbeats 4000000 in
theorem works_true (w : World) (hT : Tab w) : Calls Tryd.prog 8 #[] w fun e w' => e = .returned (.bool true) ∧ Below w.heap.size w w' := by
  have HT := Lib.hid hT
  clear hT
  have L25 := Lib.hid (M.perm_lanes z25_lanes).1
  have hx : M.gl (M.permL z25) 0 = 0xF1258F7940E1DDE7 := M.perm_zero
  have HX := Lib.hid hx
  clear hx
  have hp1 : ∀ W, Calls Tryd.prog 12 #[.int .i64 135] W fun e w' => e = .returned (.tuple #[.string ⟨#[129]⟩, .int .i64 0]) ∧ Below W.heap.size W w' := fun W => kpad 135 W (by omega)
  have hp2 : ∀ W, Calls Tryd.prog 12 #[.int .i64 (-1)] W fun e w' => e = .returned (.tuple #[.string ⟨#[]⟩, .int .i64 1]) ∧ Below W.heap.size W w' := fun W => kpad_no (-1) W (by omega)
  go_enter Tryd.func8, Tryd.ntmps8
  go_wp2_with fail
  rw [lv_zero]
  refine (kperm z25 _ z25_lanes HT.out).mono ?_
  rintro e w1 ⟨rfl, hb1⟩
  go_wp2_with (refine wpList_store_st rfl _ _ _ rfl _ _ rfl rfl _ _ 25 (Rw.new _ 23 z25) Tryd.size25 L25.out z25_length ?_; rw [World.setRow_alloc_new])
  have hR := Rw.new w1 23 (M.permL z25)
  have hW := hb1.alloc hb1.size (Obj.cells (lv (M.permL z25)) 23)
  generalize w1.alloc (Obj.cells (lv (M.permL z25)) 23) = w2 at *
  generalize w1.heap.size = B at *
  clear hb1
  refine (ksum_none _ (HT.out.from hW)).mono ?_
  rintro e w3 ⟨rfl, hb3⟩
  replace hR := hR.keep hb3
  replace hW := hW.trans (hb3.mono hW.size)
  clear hb3
  go_wp2_with fail
  refine (ksum_abc _ (HT.out.from hW)).mono ?_
  rintro e w4 ⟨rfl, hb4⟩
  replace hR := hR.keep hb4
  replace hW := hW.trans (hb4.mono hW.size)
  clear hb4
  go_wp2_with fail
  refine (hp1 _).mono ?_
  rintro e w5 ⟨rfl, hb5⟩
  replace hR := hR.keep hb5
  replace hW := hW.trans (hb5.mono hW.size)
  clear hb5
  go_wp2_with fail
  refine (hp2 _).mono ?_
  rintro e w6 ⟨rfl, hb6⟩
  replace hR := hR.keep hb6
  replace hW := hW.trans (hb6.mono hW.size)
  clear hb6 hp1 hp2
  have ca := hR.cell (i := 0) (by rw [L25.out]; omega)
  rw [HX.out] at ca
  clear hR
  have e1 : (noneS.toList == [197, 210, 70, 1, 134, 247, 35, 60, 146, 126, 125, 178, 220, 199, 3, 192, 229, 0, 182, 83, 202, 130, 39, 59, 123, 250, 216, 4, 93, 133, 164, 112]) = true := by decide +kernel
  have e2 : (abcS.toList == [78, 3, 101, 122, 234, 69, 169, 79, 199, 212, 123, 168, 38, 200, 214, 103, 192, 209, 230, 227, 58, 100, 160, 54, 236, 68, 245, 143, 161, 45, 108, 69]) = true := by decide +kernel
  go_wp2_with fail
  go_ret
  exact ⟨rfl, hW⟩
end Go.Proofs.YtdfcfpbofomdcaaDoor
