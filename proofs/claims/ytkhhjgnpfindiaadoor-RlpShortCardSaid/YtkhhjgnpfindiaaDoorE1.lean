/- The example's calls. -/
import Derived.Test.YtkhhjgnpfindiaaDoorD11
import Derived.Test.YtkhhjgnpfindiaaDoorD12
import Derived.Deep.OwnRows
namespace Go.Proofs.YtkhhjgnpfindiaaDoor
open Go Go.RowKit

/-- The document's example. -/
abbrev exI : M.It := .mk true [] [.mk false [1] [], .mk true [] []]
theorem ex_enc : M.encodeI exI = ([194, 1, 192], 0) := by decide +kernel
theorem ex_enc2 : M.encodeI (.mk false [128] []) = ([129, 128], 0) := by decide +kernel
theorem ex_enc4 : M.encodeI (.mk true [120] []) = ([], 2) := by decide +kernel
theorem ex_len : (M.bytesI exI).length = 3 := by decide +kernel
theorem ex_deep : M.deepI exI = 2 := by decide +kernel
theorem ex_check : M.checkI exI = 0 := by decide +kernel
theorem ex_same : M.sameI exI exI = true := by decide +kernel
theorem ex_same2 : M.sameI exI (.mk false [] []) = false := by decide +kernel

theorem Tryd.infoByte : (Tryd.prog.info? 5).map (fun i => (i.zero, i.size, i.bytes)) = some (some (.int .u8 0), 1, 1) := by kernel_rfl
/-- Bytes as cells. -/
def bv (l : List UInt8) : Array Value := (l.map fun (c : UInt8) => Value.int .u8 (c.toNat : Int)).toArray
theorem bv_get {l : List UInt8} {i : Nat} (h : i < l.length) : (bv l)[i]? = some (.int .u8 (((l.getD i 0).toNat : Nat) : Int)) := by
  simp [bv, h]
/-- Zeros, m of them. -/
def zb (m : Nat) : List UInt8 := List.replicate m 0
theorem zb_length (m : Nat) : (zb m).length = m := by simp [zb]
theorem made_zb (m : Nat) : madeCells #[.int .u8 0] m = bv (zb m) := by
  apply Array.ext_getElem?
  intro i
  rcases Nat.lt_or_ge i m with h | h
  · rw [bv_get (by rw [zb_length]; exact h)]
    simp [madeCells, h, Nat.mod_one, zb]
  · simp [madeCells, bv, zb, h]
theorem make_zb (m : Nat) (hm : m ≤ 1000) (w : World) : (Instr.makeSlice 35 (.int .i64 (m : Int)) (.int .i64 (m : Int))).run Tryd.prog w = .ok (.slice (some ⟨w.heap.size, 0, none⟩) m m) (w.alloc (.cells (bv (zb m)) 5)) := by
  rw [← made_zb]
  exact run_make_row' (P := Tryd.prog) 35 5 (.int .u8 0) 1 Tryd.underlying35 Tryd.infoByte rfl .i64 .i64 m (by omega) (by omega) w
theorem conv_zb (m : Nat) (W : World) : (convert 35 9 (.slice (some ⟨W.heap.size, 0, none⟩) m m)).run Tryd.prog (W.alloc (.cells (bv (zb m)) 5)) = .ok (.string ⟨(zb m).toArray⟩) (W.alloc (.cells (bv (zb m)) 5)) := by
  have := conv_at (zb m) (W.alloc (.cells (bv (zb m)) 5)) W.heap.size (fun j hj => by
    rw [cell_of_row _ _ j _ 5 (0, 0) (heap_alloc_new W _)]
    exact bv_get hj)
  rwa [zb_length] at this

/-- The bytes of 56 zeros. -/
def lg : List UInt8 := 184 :: 56 :: zb 56
theorem ex_enc3 : M.encodeI (.mk false (zb 56) []) = (lg, 0) := by decide +kernel
theorem lg_len : lg.length = 58 := by decide +kernel
theorem lg_cut : ((⟨lg.toArray⟩ : ByteArray).extract 0 2).toList = [184, 56] := by decide +kernel

theorem ex_lay (w : World) (t : TypeId) (n : Nat) (hn : w.heap.size < n) : Lay (w.alloc (.cells #[.bool false, .string ⟨#[1]⟩, .slice none 0 0, .bool true, .string ⟨#[]⟩, .slice none 0 0] t)) n [.mk false [1] [], .mk true [] []] (.slice (some ⟨w.heap.size, 0, none⟩) 2 2) := by
  refine Lay.row (xs := [.mk false [1] [], .mk true [] []]) (fun _ => .slice none 0 0) hn (by decide) (by decide) ?_ ?_ ?_ ?_
  all_goals
    intro i l d ys h
    match i, h with
    | 0, h => simp at h; obtain ⟨rfl, rfl, rfl⟩ := h; first | exact .nil_ (by decide) | simp [go_sem]
    | 1, h => simp at h; obtain ⟨rfl, rfl, rfl⟩ := h; first | exact .nil_ (by decide) | simp [go_sem]
    | i + 2, h => simp at h

set_option maxRecDepth 100000 in
set_option maxHeartbeats 4000000 in
theorem works_any (w : World) : Calls Tryd.prog 8 #[] w fun e w' => e = .returned (.bool true) ∧ Below w.heap.size w w' := by
  obtain ⟨wa, hwa⟩ : ∃ wa, (w.alloc (.cells #[.bool false, .string ⟨#[1]⟩, .slice none 0 0, .bool true, .string ⟨#[]⟩, .slice none 0 0] 24)).alloc (.cells #[.bool true, .string ⟨#[]⟩, .slice (some ⟨w.heap.size, 0, none⟩) 2 2] 24) = wa := ⟨_, rfl⟩
  have hba : Below w.heap.size w wa := by rw [← hwa]; (repeat (first | exact Below.refl _ _ | refine Below.drew ?_ | refine Below.alloc ?_ (by first | omega | (simp; omega) | simp) _ | refine Below.setCell ?_ (by first | omega | (simp; omega) | simp) _))
  have hsa : wa.heap.size = w.heap.size + 2 := by rw [← hwa]; simp
  have hLa : Lay wa wa.heap.size [.mk false [1] [], .mk true [] []] (.slice (some ⟨w.heap.size, 0, none⟩) 2 2) := by
    rw [hsa, ← hwa]
    exact ((ex_lay w 24 (w.heap.size + 1) (by omega)).from_ ((Below.refl _ _).alloc (by simp) _)).mono (by omega)
  have hBa : Box wa (w.heap.size + 1) true [] (.slice (some ⟨w.heap.size, 0, none⟩) 2 2) := by rw [← hwa]; exact ⟨by simp [go_sem], by simp [go_sem], by simp [go_sem]⟩
  have hlay : ∀ W, Below wa.heap.size wa W → Lay W W.heap.size [.mk false [1] [], .mk true [] []] (.slice (some ⟨w.heap.size, 0, none⟩) 2 2) := fun W hb => (hLa.from_ hb).mono hb.size
  have k1 : Hid (∀ W, Below wa.heap.size wa W → Calls Tryd.prog 13 #[.agg #[.bool true, .string ⟨#[]⟩, .slice (some ⟨w.heap.size, 0, none⟩) 2 2]] W fun e w' => e = .returned (.tuple #[.string ⟨#[194, 1, 192]⟩, .int .i64 0]) ∧ Below W.heap.size W w') := fun W hb => by
    have := encode_any true [] _ _ W (hlay W hb) (by decide) (by rw [ex_len]; omega)
    rwa [ex_enc] at this
  have k2 : Hid (∀ W, Calls Tryd.prog 13 #[.agg #[.bool false, .string ⟨#[128]⟩, .slice none 0 0]] W fun e w' => e = .returned (.tuple #[.string ⟨#[129, 128]⟩, .int .i64 0]) ∧ Below W.heap.size W w') := fun W => by
    have := encode_any false [128] [] (.slice none 0 0) W (.nil_ (by decide)) (by decide) (by decide +kernel)
    rwa [ex_enc2] at this
  have k3 : Hid (∀ W, Calls Tryd.prog 13 #[.agg #[.bool false, .string ⟨(zb 56).toArray⟩, .slice none 0 0]] W fun e w' => e = .returned (.tuple #[.string ⟨lg.toArray⟩, .int .i64 0]) ∧ Below W.heap.size W w') := fun W => by
    have := encode_any false (zb 56) [] (.slice none 0 0) W (.nil_ (by decide)) (by decide) (by decide +kernel)
    rwa [ex_enc3] at this
  have k4 : Hid (∀ W, Calls Tryd.prog 13 #[.agg #[.bool true, .string ⟨#[120]⟩, .slice none 0 0]] W fun e w' => e = .returned (.tuple #[.string ⟨#[]⟩, .int .i64 2]) ∧ Below W.heap.size W w') := fun W => by
    have := encode_any true [120] [] (.slice none 0 0) W (.nil_ (by decide)) (by decide) (by decide +kernel)
    rwa [ex_enc4] at this
  have HW := Lib.hid hwa
  clear hwa hLa
  go_enter Tryd.func8, Tryd.ntmps8
  go_wp2_with fail
  rw [HW.out]
  refine (k1.out _ (Below.refl _ _)).mono ?_
  rintro e w1 ⟨rfl, hb1⟩
  go_wp2_with fail
  refine (k2.out _).mono ?_
  rintro e w2 ⟨rfl, hb2⟩
  have hmk : (Instr.makeSlice 35 (.int .i64 56) (.int .i64 56)).run Tryd.prog w2 = .ok (.slice (some ⟨w2.heap.size, 0, none⟩) 56 56) (w2.alloc (.cells (bv (zb 56)) 5)) := make_zb 56 (by omega) w2
  have hcv := conv_zb 56 w2
  have hb2a : Below w2.heap.size w2 (w2.alloc (.cells (bv (zb 56)) 5)) := by (repeat (first | exact Below.refl _ _ | refine Below.drew ?_ | refine Below.alloc ?_ (by first | omega | (simp; omega) | simp) _ | refine Below.setCell ?_ (by first | omega | (simp; omega) | simp) _))
  generalize zb 56 = z at *
  go_wp2_with fail
  refine (k3.out _).mono ?_
  rintro e w3 ⟨rfl, hb3⟩
  go_wp2_with fail
  refine (k4.out _).mono ?_
  rintro e w4 ⟨rfl, hb4⟩
  have hl1 := lg_len
  have hl2 := lg_cut
  generalize lg = g at *
  have hb04 : Below wa.heap.size wa w4 := hb1.trans ((hb2.trans ((hb2a.trans (hb3.mono (by simp))).trans (hb4.mono (by have := hb3.size; simp at this; omega)) |>.mono hb2.size)).mono hb1.size)
  have hB4 := hBa.from_ hb04 (by omega)
  have c0 := hB4.c0
  have c1 := hB4.c1
  have c2 := hB4.c2
  have m1 : Hid (Calls Tryd.prog 17 #[.agg #[.bool true, .string ⟨#[]⟩, .slice (some ⟨w.heap.size, 0, none⟩) 2 2]] w4 fun e w' => e = .returned (.int .i64 2) ∧ Below w4.heap.size w4 w') := by
    have := deep_any true [] _ _ w4 (hlay w4 hb04) (by decide)
    rwa [ex_deep] at this
  have m2 : Hid (∀ W, Below wa.heap.size wa W → Calls Tryd.prog 18 #[.agg #[.bool true, .string ⟨#[]⟩, .slice (some ⟨w.heap.size, 0, none⟩) 2 2]] W fun e w' => e = .returned (.int .i64 3) ∧ Below W.heap.size W w') := fun W hb => by
    have := size_any true [] _ _ W (hlay W hb) (by decide) (by rw [ex_len]; omega)
    rwa [ex_len] at this
  have m3 : Hid (∀ W, Below wa.heap.size wa W → Calls Tryd.prog 16 #[.agg #[.bool true, .string ⟨#[]⟩, .slice (some ⟨w.heap.size, 0, none⟩) 2 2]] W fun e w' => e = .returned (.int .i64 0) ∧ Below W.heap.size W w') := fun W hb => by
    have := check_any true [] _ _ W (hlay W hb) (by decide) (by rw [ex_len]; omega)
    rwa [ex_check] at this
  have m4 : Hid (∀ W, Below wa.heap.size wa W → Calls Tryd.prog 19 #[.agg #[.bool true, .string ⟨#[]⟩, .slice (some ⟨w.heap.size, 0, none⟩) 2 2], .agg #[.bool true, .string ⟨#[]⟩, .slice (some ⟨w.heap.size, 0, none⟩) 2 2]] W fun e w' => e = .returned (.bool true) ∧ Below W.heap.size W w') := fun W hb => by
    have := same_any true true [] [] _ _ _ _ W (hlay W hb) (hlay W hb) (by decide) (by decide)
    rwa [ex_same] at this
  have m5 : Hid (∀ W, Below wa.heap.size wa W → Calls Tryd.prog 19 #[.agg #[.bool true, .string ⟨#[]⟩, .slice (some ⟨w.heap.size, 0, none⟩) 2 2], .agg #[.bool false, .string ⟨#[]⟩, .slice none 0 0]] W fun e w' => e = .returned (.bool false) ∧ Below W.heap.size W w') := fun W hb => by
    have := same_any true false [] [] _ _ _ (.slice none 0 0) W (hlay W hb) (.nil_ (by decide)) (by decide) (by decide)
    rwa [ex_same2] at this
  have HB := Lib.hid hBa
  have hS1 : w.heap.size + 1 < wa.heap.size := by omega
  clear k1 k2 k3 k4 hmk hcv hlay hB4 hBa hb1 hb2 hb2a hb3 hb4
  go_wp2_with fail
  refine m1.out.mono ?_
  rintro e w5 ⟨rfl, hb5⟩
  have hb05 := hb04.trans (hb5.mono hb04.size)
  have hB5 := HB.out.from_ hb05 hS1
  replace c0 := hB5.c0
  replace c1 := hB5.c1
  replace c2 := hB5.c2
  clear hB5 hb5 m1
  go_wp2_with fail
  refine (m2.out _ hb05).mono ?_
  rintro e w6 ⟨rfl, hb6⟩
  have hb06 := hb05.trans (hb6.mono hb05.size)
  have hB6 := HB.out.from_ hb06 hS1
  replace c0 := hB6.c0
  replace c1 := hB6.c1
  replace c2 := hB6.c2
  clear hB6 hb6 m2
  go_wp2_with fail
  refine (m3.out _ hb06).mono ?_
  rintro e w7 ⟨rfl, hb7⟩
  have hb07 := hb06.trans (hb7.mono hb06.size)
  have hB7 := HB.out.from_ hb07 hS1
  replace c0 := hB7.c0
  replace c1 := hB7.c1
  replace c2 := hB7.c2
  clear hB7 hb7 m3
  go_wp2_with fail
  refine (m4.out _ hb07).mono ?_
  rintro e w8 ⟨rfl, hb8⟩
  have hb08 := hb07.trans (hb8.mono hb07.size)
  have hB8 := HB.out.from_ hb08 hS1
  replace c0 := hB8.c0
  replace c1 := hB8.c1
  replace c2 := hB8.c2
  clear hB8 hb8 m4
  go_wp2_with fail
  refine (m5.out _ hb08).mono ?_
  rintro e w9 ⟨rfl, hb9⟩
  go_wp2_with fail
  go_ret
  exact ⟨rfl, hba.trans ((hb08.trans (hb9.mono hb08.size)).mono (by omega))⟩
end Go.Proofs.YtkhhjgnpfindiaaDoor
