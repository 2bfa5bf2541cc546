/- The statements' own example holds: works of layer 2 answers true. -/
import Derived.Test.YtmcchfgblecgoaaDoorNR
namespace Go.Proofs.YtmcchfgblecgoaaDoor
open Go Go.RowKit

set_option maxRecDepth 100000 in
set_option maxHeartbeats 4000000 in
theorem works_any (w : World) : Calls Tryd.prog 7 #[] w fun e w' => e = .returned (.bool true) ∧ Below w.heap.size w w' := by
  have v1 : ∀ W : World, (convert 36 9 (.slice (some ⟨W.heap.size, 0, none⟩) 1 1)).run Tryd.prog (W.alloc (.cells #[.int .u8 128] 5)) = .ok (.string ⟨#[128]⟩) (W.alloc (.cells #[.int .u8 128] 5)) := conv_l [128] 1 rfl
  have v2 : ∀ W : World, (convert 36 9 (.slice (some ⟨W.heap.size, 0, none⟩) 2 2)).run Tryd.prog (W.alloc (.cells #[.int .u8 128, .int .u8 0] 5)) = .ok (.string ⟨#[128, 0]⟩) (W.alloc (.cells #[.int .u8 128, .int .u8 0] 5)) := conv_l [128, 0] 2 rfl
  go_enter Tryd.func7, Tryd.ntmps7
  have LW : Below w.heap.size w w := Below.refl _ _
  go_wp2_with fail
  refine (ex_var _).mono ?_
  rintro e w1 ⟨rfl, hb⟩
  replace LW : Below w.heap.size w w1 := LW.trans (hb.mono LW.size)
  clear hb
  go_wp2_with fail
  rw [show ((⟨#[120]⟩ : ByteArray) ++ (⟨#[172, 2]⟩ : ByteArray)) = ⟨#[120, 172, 2]⟩ from cat_eq [120] [172, 2]]
  refine (ex_unvar _).mono ?_
  rintro e w2 ⟨rfl, hb⟩
  replace LW : Below w.heap.size w w2 := LW.trans (hb.mono LW.size)
  clear hb
  go_wp2_with fail
  refine (ex_le _).mono ?_
  rintro e w3 ⟨rfl, hb⟩
  replace LW : Below w.heap.size w w3 := LW.trans (hb.mono LW.size)
  clear hb
  go_wp2_with fail
  refine (ex_unle _).mono ?_
  rintro e w4 ⟨rfl, rfl⟩
  go_wp2_with fail
  refine (ex_be _).mono ?_
  rintro e w5 ⟨rfl, hb⟩
  replace LW : Below w.heap.size w w5 := LW.trans (hb.mono LW.size)
  clear hb
  go_wp2_with fail
  refine (ex_unbe _).mono ?_
  rintro e w6 ⟨rfl, hb⟩
  replace LW : Below w.heap.size w w6 := LW.trans (hb.mono LW.size)
  clear hb
  go_wp2_with fail
  refine (ex_short _).mono ?_
  rintro e w7 ⟨rfl, hb⟩
  replace LW : Below w.heap.size w w7 := (LW.alloc LW.size _).trans (hb.mono (by have := LW.size; simp; omega))
  clear hb
  go_wp2_with fail
  refine (ex_zero _).mono ?_
  rintro e w8 ⟨rfl, hb⟩
  replace LW : Below w.heap.size w w8 := (LW.alloc LW.size _).trans (hb.mono (by have := LW.size; simp; omega))
  clear hb
  go_wp2_with fail
  refine (ex_arg _).mono ?_
  rintro e w9 ⟨rfl, hb⟩
  replace LW : Below w.heap.size w w9 := LW.trans (hb.mono LW.size)
  clear hb
  go_wp2_with fail
  clear v1 v2
  refine Code.wp_mono ?_ (nk_wp w _ _ _ _ _ _ _ _ _ _ _ _ _ _ _ _ _ _ _ _ _ _ _ _ _ _ _ _ _ _ _ _ _ _ _ _ _ _ _ _ _ _ _ _ _ _ _ _ _ _ _ _ _ _ _ _ _ _ _ _ _ _ _ _ _ _ _ _ _ _ _ _ _ _ _ _ _ _ _ _ _ _ _ _ _ _ _ _ _ _ _ _ _ _ _ _ _ _ _ _ _ _ _ _ _ _ _ _ _ _ _ (by kernel_rfl) ⟨LW⟩)
  rintro _ b U ⟨rfl, h0, hd, hU⟩
  go_wp2_with fail
  refine bodyPost_ret (v := .bool true) (by simp [results, Tryd.results7, go_sem, h0]) hd ⟨rfl, hU.low⟩
end Go.Proofs.YtmcchfgblecgoaaDoor
