/- ShapeFits. -/
import Derived.Test.YtmlkccbhdhgoeaaDoorT14g
import Derived.Test.YtmlkccbhdhgoeaaDoorT21g
namespace Go.Proofs.YtmlkccbhdhgoeaaDoor
open Go Go.RowKit

set_option maxRecDepth 100000 in
set_option maxHeartbeats 8000000 in
theorem sfits_law (HS : Hid Shapes) (k n : Int) (ts : List M.Ty) (at_ : Option Addr) (ct : Nat) (N : Nat) (bs : List Bool) (us : List M.Va) (p : Int) (ab : Option Addr) (cb : Nat) (a : Option Addr) (cap : Nat) (w : World) (hT : LayT w w.heap.size ts (.slice at_ ts.length ct)) (hV : Vl w w.heap.size N bs us ab cb a cap) :
    Calls Tryd.prog 4 #[tv k n (.slice at_ ts.length ct), vv N (.slice ab bs.length cb) (.slice a us.length cap) p] w fun e w' => e = .returned (.bool true) ∧ Below w.heap.size w w' := by
  have HW := Lib.hid (fun W => sworks HS W)
  have HFew := Lib.hid (fun W (h : Below w.heap.size w W) => sfew_any k n ts at_ ct N bs us p ab cb a cap W ((hT.from_ h).mono h.size) ((hV.from_ h).mono h.size))
  have HR := Lib.hid (fun W (h : Below w.heap.size w W) => tfits_any k n ts at_ ct N bs us p ab cb a cap W ((hT.from_ h).mono h.size) ((hV.from_ h).mono h.size))
  have HF := Lib.hid (fun W (h : Below w.heap.size w W) (h1 : M.cntT (.mk k n ts) ≤ 60) (h2 : M.cntV (.mk N bs us p) ≤ 150) => HS.out.fits k n ts at_ ct N bs us p ab cb a cap W ((hT.from_ h).mono h.size) ((hV.from_ h).mono h.size) (by omega) (by omega))
  have hb0 := two_boxes w
  clear hT hV
  go_enter Tryd.func4, Tryd.ntmps4
  go_wp2_with fail
  refine (HW.out _).mono ?_
  rintro e w1 ⟨rfl, hb1⟩
  have B1 := (hb0 _ _).trans (hb1.mono (by simp; omega))
  have e1 := (bcell hb1).1
  go_wp2_with fail
  refine (HFew.out _ B1).mono ?_
  rintro e w2 ⟨hq, hb2⟩
  obtain ⟨q, rfl, hfew⟩ := hq.out
  have B2 := B1.trans (hb2.mono B1.size)
  have e2 := (bcell (hb1.trans (hb2.mono hb1.size))).1
  have HQ := Lib.hid hfew
  clear hq hfew e1
  cases q with
  | false =>
    go_wp2_with fail
    go_ret
    exact ⟨rfl, B2⟩
  | true =>
    obtain ⟨h1, h2⟩ := HQ.out rfl
    have HF2 := Lib.hid (fun W h => HF.out W h h1 h2)
    clear HQ h1 h2 HF
    generalize M.fitsV (.mk k n ts) (.mk N bs us p) = r at *
    go_wp2_with fail
    refine (HR.out _ B2).mono ?_
    rintro e w3 ⟨rfl, hb3⟩
    have B3 := B2.trans (hb3.mono B2.size)
    have e3 := (bcell (hb1.trans ((hb2.trans (hb3.mono hb2.size)).mono hb1.size))).1
    clear e2
    go_wp2_with fail
    refine (HF2.out _ B3).mono ?_
    rintro e w4 ⟨rfl, hb4⟩
    have B4 := B3.trans (hb4.mono B3.size)
    go_wp2_with fail
    go_ret
    exact ⟨by simp, B4⟩
end Go.Proofs.YtmlkccbhdhgoeaaDoor
