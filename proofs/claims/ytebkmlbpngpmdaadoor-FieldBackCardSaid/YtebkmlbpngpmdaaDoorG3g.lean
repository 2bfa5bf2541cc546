/- The example of layer 6, under what the calls of package field must do. -/
import Derived.Test.YtebkmlbpngpmdaaDoorG2g
import Derived.Test.YtebkmlbpngpmdaaDoorW7g
namespace Go.Proofs.YtebkmlbpngpmdaaDoor
open Go Go.RowKit

theorem exf_258 : M.ben 258 = [1, 2] := by decide +kernel
theorem exf_1 : M.ben 1 = [1] := by decide +kernel
theorem exf_n : M.getNumber (.mk false [1, 2] []) = (258, 0) := by decide +kernel
theorem exf_z : M.getNumber (.mk false [] []) = (0, 0) := by decide +kernel
theorem exf_s : (M.getNumber (.mk false [0] [])).2 = 8 := by decide +kernel
theorem exf_b : M.getBool (.mk false [1] []) = (true, 0) := by decide +kernel
theorem exf_w : M.tr (M.f32 18446744073709551616) = [1, 0, 0, 0, 0, 0, 0, 0, 0] := by decide +kernel
theorem exf_gw : M.getWord (.mk false [1, 0, 0, 0, 0, 0, 0, 0, 0] []) = (18446744073709551616, 0) := by decide +kernel
theorem exf_wn : wn 18446744073709551616 = wd 0 1 0 0 := by
  show wd _ _ _ _ = _
  rw [show M.pt 0 18446744073709551616 = 0 by decide +kernel, show M.pt 1 18446744073709551616 = 1 by decide +kernel, show M.pt 2 18446744073709551616 = 0 by decide +kernel, show M.pt 3 18446744073709551616 = 0 by decide +kernel]
theorem exf_a : M.getAddr (.mk false [] []) = ([], 0) := by decide +kernel
theorem exf_x : (M.getAddr (.mk false [120] [])).2 = 2 := by decide +kernel
theorem exf_t : M.getTexts 2 1 2 (.mk true [] ([[97], [98, 99]].map M.textI)) = ([[97], [98, 99]], 0) := by decide +kernel
theorem exf_u : (M.getTexts 2 2 2 (.mk true [] ([[97], [98, 99]].map M.textI))).2 = 3 := by decide +kernel

set_option maxRecDepth 100000 in
set_option maxHeartbeats 8000000 in
theorem fworks (HF : Hid Fields) (w : World) : Calls Tryd.prog 6 #[] w fun e w' => e = .returned (.bool true) ∧ Below w.heap.size w w' := by
  have k1 : Hid (∀ W, Calls Tryd.prog 8 #[.int .u64 258] W fun e w' => e = .returned (iv false [1, 2] (.slice none 0 0)) ∧ Below W.heap.size W w') := fun W => by
    have := HF.out.number 258 W (by decide)
    rwa [exf_258] at this
  have k2 : Hid (∀ W, Calls Tryd.prog 20 #[iv false [1, 2] (.slice none 0 0)] W fun e w' => e = .returned (.tuple #[.int .u64 258, .int .i64 0]) ∧ Below W.heap.size W w') := fun W => by
    have := HF.out.gNumber false [1, 2] [] none 0 W (Rd.text W _ (by decide))
    rwa [exf_n] at this
  have k3 : Hid (∀ W, Calls Tryd.prog 20 #[iv false [] (.slice none 0 0)] W fun e w' => e = .returned (.tuple #[.int .u64 0, .int .i64 0]) ∧ Below W.heap.size W w') := fun W => by
    have := HF.out.gNumber false [] [] none 0 W (Rd.text W _ (by decide))
    rwa [exf_z] at this
  have k4 : Hid (∀ W, Calls Tryd.prog 12 #[.string ⟨#[0]⟩] W fun e w' => e = .returned (iv false [0] (.slice none 0 0)) ∧ Below W.heap.size W w') := fun W => HF.out.text [0] W (by decide)
  have k5 : Hid (∀ W, Calls Tryd.prog 20 #[iv false [0] (.slice none 0 0)] W fun e w' => (∃ n, e = .returned (.tuple #[.int .u64 n, .int .i64 8])) ∧ Below W.heap.size W w') := fun W => by
    have := HF.out.gNumber false [0] [] none 0 W (Rd.text W _ (by decide))
    rw [exf_s] at this
    exact this.mono fun e w' ⟨h, hb⟩ => ⟨⟨_, h⟩, hb⟩
  have k6 : Hid (∀ W, Calls Tryd.prog 14 #[.bool true] W fun e w' => e = .returned (iv false [1] (.slice none 0 0)) ∧ Below W.heap.size W w') := fun W => HF.out.bool_ true W
  have k7 : Hid (∀ W, Calls Tryd.prog 23 #[iv false [1] (.slice none 0 0)] W fun e w' => e = .returned (.tuple #[.bool true, .int .i64 0]) ∧ Below W.heap.size W w') := fun W => by
    have := HF.out.gBool false [1] [] none 0 W (Rd.text W _ (by decide))
    rwa [exf_b] at this
  have k8 : Hid (∀ W, Calls Tryd.prog 8 #[.int .u64 1] W fun e w' => e = .returned (iv false [1] (.slice none 0 0)) ∧ Below W.heap.size W w') := fun W => by
    have := HF.out.number 1 W (by decide)
    rwa [exf_1] at this
  have k9 : Hid (∀ W, Calls Tryd.prog 14 #[.bool false] W fun e w' => e = .returned (iv false [] (.slice none 0 0)) ∧ Below W.heap.size W w') := fun W => HF.out.bool_ false W
  have eqw : ∀ w : World, (Op.equalIn 10000 24 (wd 0 1 0 0) (wd 0 1 0 0)).run Tryd.prog w = .ok true w := fun w => by rw [eqW]; simp
  go_enter Tryd.func6, Tryd.ntmps6
  go_wp2_with fail
  refine (k1.out _).mono ?_
  rintro e w1 ⟨rfl, hb1⟩
  go_wp2_with fail
  refine (k2.out _).mono ?_
  rintro e w2 ⟨rfl, hb2⟩
  go_wp2_with fail
  refine (k3.out _).mono ?_
  rintro e w3 ⟨rfl, hb3⟩
  go_wp2_with fail
  refine (k4.out _).mono ?_
  rintro e w4 ⟨rfl, hb4⟩
  go_wp2_with fail
  refine (k5.out _).mono ?_
  rintro e w5 ⟨⟨n5, rfl⟩, hb5⟩
  go_wp2_with fail
  refine (k6.out _).mono ?_
  rintro e w6 ⟨rfl, hb6⟩
  go_wp2_with fail
  refine (k7.out _).mono ?_
  rintro e w7 ⟨rfl, hb7⟩
  go_wp2_with fail
  refine (k8.out _).mono ?_
  rintro e w8 ⟨rfl, hb8⟩
  go_wp2_with fail
  refine (k9.out _).mono ?_
  rintro e w9 ⟨rfl, hb9⟩
  have B9 : Below w.heap.size w w9 := hb1.trans ((hb2.trans ((hb3.trans ((hb4.trans ((hb5.trans ((hb6.trans ((hb7.trans ((hb8.trans (hb9.mono hb8.size)).mono hb7.size)).mono hb6.size)).mono hb5.size)).mono hb4.size)).mono hb3.size)).mono hb2.size)).mono hb1.size)
  clear hb1 hb2 hb3 hb4 hb5 hb6 hb7 hb8 hb9
  have hq9 : Below w9.heap.size w9 (w9.alloc (.cells #[.bool false, .string ⟨#[1]⟩, .slice none 0 0, .bool false, .string ⟨#[]⟩, .slice none 0 0] 30)) := by (repeat (first | exact Below.refl _ _ | refine Below.drew ?_ | refine Below.alloc ?_ (by first | omega | (simp; omega) | simp) _ | refine Below.setCell ?_ (by first | omega | (simp; omega) | simp) _))
  have k10 := Lib.hid (HF.out.list [[1], []] (some ⟨w9.heap.size, 0, none⟩) 2 _ (two_lay w9 [1] [] 30 _ (by simp)) (by decide) (by decide))
  have k11 : Hid (∀ a cap W, Lay W W.heap.size ([[1], []].map M.textI) (.slice a 2 cap) → Calls Tryd.prog 30 #[iv true [] (.slice a 2 cap), .int .i64 2, .int .i64 2] W fun e w' => (∃ a' cap', e = .returned (.tuple #[.slice a' 2 cap', .int .i64 0])) ∧ Below W.heap.size W w') := fun a cap W h => HF.out.gList [[1], []] a cap W h (by decide) (by decide)
  go_wp2_with fail
  refine (k10.out).mono ?_
  rintro e w10 ⟨⟨a10, c10, rfl, hL10⟩, hb10⟩
  have B10 := B9.trans (hq9.trans (hb10.mono hq9.size) |>.mono B9.size)
  clear k10 hb10 hq9
  go_wp2_with fail
  refine (k11.out _ _ _ hL10).mono ?_
  rintro e w11 ⟨⟨a11, c11, rfl⟩, hb11⟩
  have B11 := B10.trans (hb11.mono B10.size)
  clear k11 hb11 hL10 B9
  have hq11 : Below w11.heap.size w11 (w11.alloc (.cells #[.string ⟨#[97]⟩, .string ⟨#[98, 99]⟩] 9)) := by (repeat (first | exact Below.refl _ _ | refine Below.drew ?_ | refine Below.alloc ?_ (by first | omega | (simp; omega) | simp) _ | refine Below.setCell ?_ (by first | omega | (simp; omega) | simp) _))
  have k12 := Lib.hid (HF.out.texts [[97], [98, 99]] (some ⟨w11.heap.size, 0, none⟩) 2 _ (two_ts w11 [97] [98, 99] 9 _ (by simp)) (by decide) (by decide))
  have k13 : Hid (∀ a cap W, Lay W W.heap.size ([[97], [98, 99]].map M.textI) (.slice a 2 cap) → Calls Tryd.prog 24 #[iv true [] (.slice a 2 cap), .int .i64 2, .int .i64 1, .int .i64 2] W fun e w' => (∃ a' cap', e = .returned (.tuple #[.slice a' 2 cap', .int .i64 0]) ∧ Ts w' w'.heap.size [[97], [98, 99]] (.slice a' 2 cap')) ∧ Below W.heap.size W w') := fun a cap W h => by
    have := HF.out.gTexts true [] ([[97], [98, 99]].map M.textI) a cap 2 1 2 W ⟨h, by simp [M.textI, M.smI, M.smIs], by decide⟩
    rwa [exf_t] at this
  have k15 : Hid (∀ a cap W, Lay W W.heap.size ([[97], [98, 99]].map M.textI) (.slice a 2 cap) → Calls Tryd.prog 24 #[iv true [] (.slice a 2 cap), .int .i64 2, .int .i64 2, .int .i64 2] W fun e w' => (∃ a' n cap', e = .returned (.tuple #[.slice a' n cap', .int .i64 3])) ∧ Below W.heap.size W w') := fun a cap W h => by
    have := HF.out.gTexts true [] ([[97], [98, 99]].map M.textI) a cap 2 2 2 W ⟨h, by simp [M.textI, M.smI, M.smIs], by decide⟩
    rw [exf_u] at this
    exact this.mono fun e w' ⟨⟨a', cap', h, _⟩, hb⟩ => ⟨⟨a', _, cap', h⟩, hb⟩
  have k16 : Hid (∀ W, Calls Tryd.prog 29 #[iv false [] (.slice none 0 0)] W fun e w' => e = .returned (.tuple #[.string ⟨#[]⟩, .int .i64 0]) ∧ Below W.heap.size W w') := fun W => by
    have := HF.out.gAddr false [] [] none 0 W (Rd.text W _ (by decide))
    rwa [exf_a] at this
  have k17 : Hid (∀ W, Calls Tryd.prog 12 #[.string ⟨#[120]⟩] W fun e w' => e = .returned (iv false [120] (.slice none 0 0)) ∧ Below W.heap.size W w') := fun W => HF.out.text [120] W (by decide)
  have k18 : Hid (∀ W, Calls Tryd.prog 29 #[iv false [120] (.slice none 0 0)] W fun e w' => (∃ s, e = .returned (.tuple #[.string s, .int .i64 2])) ∧ Below W.heap.size W w') := fun W => by
    have := HF.out.gAddr false [120] [] none 0 W (Rd.text W _ (by decide))
    rw [exf_x] at this
    exact this.mono fun e w' ⟨h, hb⟩ => ⟨⟨_, h⟩, hb⟩
  have k19 : Hid (∀ W, Calls Tryd.prog 10 #[wd 0 1 0 0] W fun e w' => e = .returned (iv false [1, 0, 0, 0, 0, 0, 0, 0, 0] (.slice none 0 0)) ∧ Below W.heap.size W w') := fun W => by
    have := HF.out.word 18446744073709551616 W (by unfold M.In; decide)
    rwa [exf_w, exf_wn] at this
  have k20 : Hid (∀ W, Calls Tryd.prog 21 #[iv false [1, 0, 0, 0, 0, 0, 0, 0, 0] (.slice none 0 0)] W fun e w' => e = .returned (.tuple #[wd 0 1 0 0, .int .i64 0]) ∧ Below W.heap.size W w') := fun W => by
    have := HF.out.gWord false [1, 0, 0, 0, 0, 0, 0, 0, 0] [] none 0 W (Rd.text W _ (by decide))
    rwa [exf_gw, exf_wn] at this
  go_wp2_with fail
  refine (k12.out).mono ?_
  rintro e w12 ⟨⟨a12, c12, rfl, hL12⟩, hb12⟩
  have B12 := B11.trans (hq11.trans (hb12.mono hq11.size) |>.mono B11.size)
  clear k12 hb12 hq11
  go_wp2_with fail
  refine (k13.out _ _ _ hL12).mono ?_
  rintro e w13 ⟨⟨a13, c13, rfl, hT13⟩, hb13⟩
  have B13 := B12.trans (hb13.mono B12.size)
  clear k13 hb13 hL12 B11
  have hq13 : Below w13.heap.size w13 (w13.alloc (.cells #[.string ⟨#[97]⟩, .string ⟨#[98, 99]⟩] 9)) := by (repeat (first | exact Below.refl _ _ | refine Below.drew ?_ | refine Below.alloc ?_ (by first | omega | (simp; omega) | simp) _ | refine Below.setCell ?_ (by first | omega | (simp; omega) | simp) _))
  have k14 := Lib.hid (HF.out.texts [[97], [98, 99]] (some ⟨w13.heap.size, 0, none⟩) 2 _ (two_ts w13 [97] [98, 99] 9 _ (by simp)) (by decide) (by decide))
  go_wp2_with fail
  refine (k14.out).mono ?_
  rintro e w14 ⟨⟨a14, c14, rfl, hL14⟩, hb14⟩
  have T14 := (hT13.from_ hq13).from_ (hb14.mono hq13.size)
  have B14 := B13.trans (hq13.trans (hb14.mono hq13.size) |>.mono B13.size)
  have z14 := (hq13.trans (hb14.mono hq13.size)).size
  clear k14 hb14 hq13 B12 hT13
  go_wp2_with fail
  refine (k15.out _ _ _ hL14).mono ?_
  rintro e w15 ⟨⟨a15, n15, c15, rfl⟩, hb15⟩
  have T15 := T14.from_ (hb15.mono z14)
  have B15 := B14.trans (hb15.mono B14.size)
  have z15 := Nat.le_trans z14 hb15.size
  clear k15 hb15 hL14 B13 z14 B14 T14
  go_wp2_with fail
  refine (k16.out _).mono ?_
  rintro e w16 ⟨rfl, hb16⟩
  have T16 := T15.from_ (hb16.mono z15)
  have B16 := B15.trans (hb16.mono B15.size)
  have z16 := Nat.le_trans z15 hb16.size
  clear k16 hb16 z15 B15 T15
  go_wp2_with fail
  refine (k17.out _).mono ?_
  rintro e w17 ⟨rfl, hb17⟩
  have T17 := T16.from_ (hb17.mono z16)
  have B17 := B16.trans (hb17.mono B16.size)
  have z17 := Nat.le_trans z16 hb17.size
  clear k17 hb17 z16 B16 T16
  go_wp2_with fail
  refine (k18.out _).mono ?_
  rintro e w18 ⟨⟨s18, rfl⟩, hb18⟩
  have T18 := T17.from_ (hb18.mono z17)
  have B18 := B17.trans (hb18.mono B17.size)
  have z18 := Nat.le_trans z17 hb18.size
  clear k18 hb18 z17 B17 T17
  go_wp2_with fail
  refine (k19.out _).mono ?_
  rintro e w19 ⟨rfl, hb19⟩
  have T19 := T18.from_ (hb19.mono z18)
  have B19 := B18.trans (hb19.mono B18.size)
  have z19 := Nat.le_trans z18 hb19.size
  clear k19 hb19 z18 B18 T18
  go_wp2_with fail
  refine (k20.out _).mono ?_
  rintro e w20 ⟨rfl, hb20⟩
  have T20 := T19.from_ (hb20.mono z19)
  have B20 := B19.trans (hb20.mono B19.size)
  have z20 := Nat.le_trans z19 hb20.size
  clear k20 hb20 z19 B19 T19
  obtain ⟨wa, hwa⟩ : ∃ wa, w20.alloc (.cells #[.int .u64 0, .int .u64 1, .int .u64 0, .int .u64 0] 24) = wa := ⟨_, rfl⟩
  have hqa : Below w20.heap.size w20 wa := by rw [← hwa]; (repeat (first | exact Below.refl _ _ | refine Below.drew ?_ | refine Below.alloc ?_ (by first | omega | (simp; omega) | simp) _ | refine Below.setCell ?_ (by first | omega | (simp; omega) | simp) _))
  have hza : wa.heap.size = w20.heap.size + 1 := by rw [← hwa]; simp
  have a0 : wa.cell? ⟨w20.heap.size, 0, none⟩ = some (.int .u64 0) := by rw [← hwa]; simp [go_sem]
  have a1 : wa.cell? ⟨w20.heap.size, 1, none⟩ = some (.int .u64 1) := by rw [← hwa]; simp [go_sem]
  have a2 : wa.cell? ⟨w20.heap.size, 2, none⟩ = some (.int .u64 0) := by rw [← hwa]; simp [go_sem]
  have a3 : wa.cell? ⟨w20.heap.size, 3, none⟩ = some (.int .u64 0) := by rw [← hwa]; simp [go_sem]
  have hqb : Below wa.heap.size wa (wa.alloc (.cells #[.string ⟨#[97]⟩, .string ⟨#[98, 99]⟩] 9)) := by (repeat (first | exact Below.refl _ _ | refine Below.drew ?_ | refine Below.alloc ?_ (by first | omega | (simp; omega) | simp) _ | refine Below.setCell ?_ (by first | omega | (simp; omega) | simp) _))
  have hzb : (wa.alloc (.cells #[.string ⟨#[97]⟩, .string ⟨#[98, 99]⟩] 9)).heap.size = wa.heap.size + 1 := by simp
  have k21 := Lib.hid (rtexts_any [[97], [98, 99]] [[97], [98, 99]] a13 (some ⟨wa.heap.size, 0, none⟩) c13 2 (wa.alloc (.cells #[.string ⟨#[97]⟩, .string ⟨#[98, 99]⟩] 9))
    (((T20.from_ (hqa.mono z20)).from_ (hqb.mono (by omega))).mono (by omega)) (two_ts wa [97] [98, 99] 9 _ (by omega)) (by decide) (by decide))
  rw [decide_eq_true rfl] at k21
  have HW := Lib.hid hwa
  clear hwa
  go_wp2_with fail
  rw [HW.out]
  rw [hza] at k21 hqb hzb
  refine (k21.out).mono ?_
  rintro e w21 ⟨rfl, hb21⟩
  have cl : ∀ o v, wa.cell? ⟨w20.heap.size, o, none⟩ = some v → w21.cell? ⟨w20.heap.size, o, none⟩ = some v := fun o v h => ((hb21.cell (p := ⟨w20.heap.size, o, none⟩) (by simp; omega)).trans (hqb.cell (p := ⟨w20.heap.size, o, none⟩) (by simp))).trans h
  have b0 := cl _ _ a0
  have b1 := cl _ _ a1
  have b2 := cl _ _ a2
  have b3 := cl _ _ a3
  have BE := Lib.hid (B20.trans ((hqa.mono B20.size).trans ((hqb.mono (by have := B20.size; omega)).trans (hb21.mono (by have := B20.size; omega)))))
  clear a0 a1 a2 a3 cl k21 hb21 hqb hqa T20 B20
  go_wp2_with fail
  go_ret
  exact ⟨rfl, BE.out⟩
end Go.Proofs.YtebkmlbpngpmdaaDoor
