/- The reference's Ints; works: the chapter's example. -/
import Derived.Test.YtgmdloiekcifeaaFK6
namespace Go.Proofs.Ytgmdloiekcifeaa
open Go Go.RowKit

set_option maxRecDepth 100000 in
set_option maxHeartbeats 4000000 in
theorem ints_any (xs : List Int) (a a2 : Option Addr) (cap cap2 : Nat) (w : World) (h6 : xs.length ≤ 6) (hA : Zs w w.heap.size xs (.slice a xs.length cap)) (hB : Zs w w.heap.size xs (.slice a2 xs.length cap2)) :
    Calls Try.prog 14 #[.slice a xs.length cap, .slice a2 xs.length cap2] w fun e w' => e = .returned (.bool true) ∧ Below w.heap.size w w' := by
  have mixed : Try.prog.follows .mixedOrders = true := by kernel_rfl
  have HA := Lib.hid hA
  have HB := Lib.hid hB
  clear hA hB
  go_enter Try.func14, Try.ntmps14
  go_wp2_with fail
  go_loopw [5] (fun i wr => ∃ j : Nat, j ≤ xs.length ∧ i = .int .i64 (j : Nat) ∧ Below w.heap.size w wr) (fun i _ => xs.length - (RowKit.intOf i).toNat)
  case atStart => exact ⟨0, Nat.zero_le _, rfl, Below.refl _ _⟩
  case round =>
    obtain ⟨j, hj, rfl, hW⟩ := hrel
    by_cases h : j < xs.length
    · obtain ⟨b, o, rfl, hb, hc⟩ := HA.out.cells (by omega)
      obtain ⟨b2, o2, rfl, hb2, hc2⟩ := HB.out.cells (by omega)
      have c1 := (hW.cell (p := ⟨b, o + j, none⟩) hb).trans (hc j h)
      have c2 := (hW.cell (p := ⟨b2, o2 + j, none⟩) hb2).trans (hc2 j h)
      have hz : (j : Int) < (xs.length : Int) := by omega
      have HJ := Lib.hid h
      clear hc hc2 h hj
      go_wp2_with fail
      go_quiet (fail)
      go_wp2_with fail
      exact ⟨⟨j + 1, HJ.out, by simp, hW.trans ⟨rfl, rfl, rfl, Nat.le_refl _, fun _ _ => rfl⟩⟩, by have := HJ.out; simp [RowKit.intOf]; omega⟩
    · obtain rfl : j = xs.length := by omega
      go_wp2_with fail
      go_ret
      exact ⟨rfl, hW⟩
/-- A row that has just been made. -/
theorem Ns.made (w : World) (xs : List Int) (h : xs.length ≤ maxLen) : Ns (w.alloc (.cells ((xs.map (Value.int .u64)).toArray) 25)) (w.heap.size + 1) xs (.slice (some ⟨w.heap.size, 0, none⟩) xs.length xs.length) := by
  refine .row (by omega) (Nat.le_refl _) h fun i x hx => ?_
  rw [World.cell?_alloc_at _ _ _ _ (by simp)]
  simp [hx]
theorem Zs.made (w : World) (xs : List Int) : Zs (w.alloc (.cells ((xs.map (Value.int .i64)).toArray) 3)) (w.heap.size + 1) xs (.slice (some ⟨w.heap.size, 0, none⟩) xs.length xs.length) := by
  refine .row (by omega) fun i x hx => ?_
  rw [World.cell?_alloc_at _ _ _ _ (by simp)]
  simp [hx]
set_option maxRecDepth 100000 in
set_option maxHeartbeats 8000000 in
theorem works12 (w : World) : Calls Try.prog 8 #[] w fun e w' => e = .returned (.bool true) ∧ Below w.heap.size w w' := by
  obtain ⟨W0, hW0⟩ : ∃ W0, (w.alloc (Obj.cells #[Value.int IntKind.u64 5, Value.int IntKind.u64 9, Value.int IntKind.u64 9] 25)).alloc (Obj.cells #[Value.slice (some { block := w.heap.size, off := 0 }) 3 3] 24) = W0 := ⟨_, rfl⟩
  have hsz : W0.heap.size = w.heap.size + 2 := by rw [← hW0]; simp
  have hb0 : Below w.heap.size w W0 := by rw [← hW0]; (repeat (first | exact Below.refl _ _ | refine Below.drew ?_ | refine Below.alloc ?_ (by first | omega | (simp; omega) | simp) _ | refine Below.setCell ?_ (by first | omega | (simp; omega) | simp) _))
  have hN0 : Ns W0 (w.heap.size + 1) [5, 9, 9] (.slice (some ⟨w.heap.size, 0, none⟩) 3 3) := by
    rw [← hW0]
    exact (Ns.made w [5, 9, 9] (by decide)).from_ ((Below.refl _ _).alloc (by simp) _)
  have hB0 : Boxed W0 (w.heap.size + 1) 24 (.slice (some ⟨w.heap.size, 0, none⟩) 3 3) := by
    rw [← hW0]
    have := Boxed.new (w.alloc (Obj.cells #[Value.int IntKind.u64 5, Value.int IntKind.u64 9, Value.int IntKind.u64 9] 25)) 24 (.slice (some ⟨w.heap.size, 0, none⟩) 3 3)
    rwa [World.size_alloc] at this
  have HN : ∀ W, Below W0.heap.size W0 W → Ns W W.heap.size [5, 9, 9] (.slice (some ⟨w.heap.size, 0, none⟩) 3 3) := fun W h => (hN0.from_ (h.mono (by omega))).mono (by have := h.size; omega)
  have HB := Lib.hid (fun W (h : Below W0.heap.size W0 W) => (hB0.kept (grown_below h) (by simp)).cell)
  have HA := Lib.hid (fun W (t : Int) (h : Below W0.heap.size W0 W) => active_any [5, 9, 9] _ _ t W (HN W h))
  have HF := Lib.hid (fun W (f : Int) (h : Below W0.heap.size W0 W) => from_any [5, 9, 9] _ _ f W (HN W h))
  have HE := Lib.hid (fun W (h : Below W0.heap.size W0 W) => ever_any [5, 9, 9] _ _ W (HN W h))
  have HC := Lib.hid (fun W (h : Below W0.heap.size W0 W) => fcheck_any [5, 9, 9] _ _ W (HN W h))
  have HC2 := Lib.hid (fun W => fcheck_any [] none 0 W (.nil_ (by decide)))
  have HC3 := Lib.hid (fun (W : World) => fcheck_any [2, 1] (some ⟨W.heap.size, 0, none⟩) 2 (W.alloc (.cells #[.int .u64 2, .int .u64 1] 25)) ((Ns.made W [2, 1] (by decide)).mono (by simp)))
  have e8 : M.actV [5, 9, 9] 8 = 0 ∧ M.actE [5, 9, 9] 8 = 0 := by decide
  have e9 : M.actV [5, 9, 9] 9 = 2 ∧ M.actE [5, 9, 9] 9 = 0 := by decide
  have e4 : M.actV [5, 9, 9] 4 = 0 ∧ M.actE [5, 9, 9] 4 = 10 := by decide
  have f1 : M.frmV [5, 9, 9] 1 = 9 ∧ M.frmE [5, 9, 9] 1 = 0 := by decide
  have f3 : M.frmV [5, 9, 9] 3 = 0 ∧ M.frmE [5, 9, 9] 3 = 10 := by decide
  have eE : M.evr [5, 9, 9] = [0, 2] := by decide
  have c1 : M.chkE [5, 9, 9] = 0 := by decide
  have c2 : M.chkE [] = 2 := by decide
  have c3 : M.chkE [2, 1] = 11 := by decide
  have H8 := Lib.hid (fun W (h : Below W0.heap.size W0 W) => HA.out W 8 h)
  have H9 := Lib.hid (fun W (h : Below W0.heap.size W0 W) => HA.out W 9 h)
  have H4 := Lib.hid (fun W (h : Below W0.heap.size W0 W) => HA.out W 4 h)
  have G1 := Lib.hid (fun W (h : Below W0.heap.size W0 W) => HF.out W 1 h)
  have G3 := Lib.hid (fun W (h : Below W0.heap.size W0 W) => HF.out W 3 h)
  rw [e8.1, e8.2] at H8
  rw [e9.1, e9.2] at H9
  rw [e4.1, e4.2] at H4
  rw [f1.1, f1.2] at G1
  rw [f3.1, f3.2] at G3
  rw [eE] at HE
  rw [c1] at HC
  rw [c2] at HC2
  rw [c3] at HC3
  have HW := Lib.hid hW0
  have H0 := Lib.hid hb0
  clear e8 e9 e4 f1 f3 eE c1 c2 c3 HA HF HN hB0 hN0 hW0 hsz hb0
  go_enter Try.func8, Try.ntmps8
  go_wp2_with fail
  rw [HW.out]
  refine (H8.out _ (Below.refl _ _)).mono ?_
  rintro e w1 ⟨rfl, B1⟩
  have b1 := HB.out _ B1
  go_wp2_with fail
  refine (H9.out _ B1).mono ?_
  rintro e w2 ⟨rfl, hb2⟩
  have B2 := B1.trans (hb2.mono B1.size)
  have b2 := HB.out _ B2
  clear b1 hb2
  go_wp2_with fail
  refine (H4.out _ B2).mono ?_
  rintro e w3 ⟨rfl, hb3⟩
  have B3 := B2.trans (hb3.mono B2.size)
  have b3 := HB.out _ B3
  clear b2 hb3
  go_wp2_with fail
  refine (G1.out _ B3).mono ?_
  rintro e w4 ⟨rfl, hb4⟩
  have B4 := B3.trans (hb4.mono B3.size)
  have b4 := HB.out _ B4
  clear b3 hb4
  go_wp2_with fail
  refine (G3.out _ B4).mono ?_
  rintro e w5 ⟨rfl, hb5⟩
  have B5 := B4.trans (hb5.mono B4.size)
  have b5 := HB.out _ B5
  clear b4 hb5
  go_wp2_with fail
  refine (HE.out _ B5).mono ?_
  rintro e w6 ⟨v, rfl, hv, hb6⟩
  have B6 := B5.trans (hb6.mono B5.size)
  have b6 := HB.out _ B6
  clear b5 hb6
  obtain ⟨va, vc, rfl⟩ := hv.slice
  obtain ⟨w7, hw7⟩ : ∃ w7, w6.alloc (.cells #[.int .i64 0, .int .i64 2] 3) = w7 := ⟨_, rfl⟩
  have HI := Lib.hid (ints_any [0, 2] va (some ⟨w6.heap.size, 0, none⟩) vc 2 w7 (by decide) (by rw [← hw7]; exact (hv.from_ ((Below.refl _ _).alloc (Nat.le_refl _) _)).mono (by simp)) (by rw [← hw7]; exact (Zs.made w6 [0, 2]).mono (by simp)))
  have B7 : Below W0.heap.size W0 w7 := by rw [← hw7]; exact B6.alloc B6.size _
  have H7 := Lib.hid hw7
  clear hw7 hv
  go_wp2_with fail
  rw [H7.out]
  refine HI.out.mono ?_
  rintro e w8 ⟨rfl, hb8⟩
  have B8 := B7.trans (hb8.mono B7.size)
  have b8 := HB.out _ B8
  clear b6 hb8 H7 HI
  go_wp2_with fail
  refine (HC.out _ B8).mono ?_
  rintro e w9 ⟨rfl, hb9⟩
  have B9 := B8.trans (hb9.mono B8.size)
  have b9 := HB.out _ B9
  clear b8 hb9
  go_wp2_with fail
  refine (HC2.out _).mono ?_
  rintro e w10 ⟨rfl, hb10⟩
  have B10 := B9.trans (hb10.mono B9.size)
  clear b9 hb10
  go_wp2_with fail
  refine (HC3.out _).mono ?_
  rintro e w11 ⟨rfl, hb11⟩
  have B11 := (B10.alloc B10.size (.cells #[.int .u64 2, .int .u64 1] 25)).trans (hb11.mono (by have := B10.size; simp; omega))
  go_wp2_with fail
  go_ret
  exact ⟨rfl, H0.out.trans (B11.mono H0.out.size)⟩
end Go.Proofs.Ytgmdloiekcifeaa
