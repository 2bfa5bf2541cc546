/- The reference's Fits; the law's Few. -/
import Derived.Test.YtmlkccbhdhgoeaaDoorT12g
import Derived.Test.YtmlkccbhdhgoeaaDoorT2g
import Derived.Test.YtmlkccbhdhgoeaaDoorT3g
namespace Go.Proofs.YtmlkccbhdhgoeaaDoor
open Go Go.RowKit

/-- What Few tells. -/
structure FewP (e : Ending) (t : M.Ty) (v : M.Va) : Prop where
  out : ∃ q : Bool, e = .returned (.bool q) ∧ (q = true → M.cntT t ≤ 60 ∧ M.cntV v ≤ 150)
theorem two_boxes (w : World) (o o' : Obj) : Below w.heap.size w ((w.alloc o).alloc o') := ((Below.refl _ w).alloc (Nat.le_refl _) o).alloc (by simp) o'

set_option maxRecDepth 100000 in
set_option maxHeartbeats 4000000 in
theorem tfits_any (k n : Int) (ts : List M.Ty) (at_ : Option Addr) (ct : Nat) (N : Nat) (bs : List Bool) (us : List M.Va) (p : Int) (ab : Option Addr) (cb : Nat) (a : Option Addr) (cap : Nat) (w : World) (hT : LayT w w.heap.size ts (.slice at_ ts.length ct)) (hV : Vl w w.heap.size N bs us ab cb a cap) :
    Calls Tryd.prog 18 #[tv k n (.slice at_ ts.length ct), vv N (.slice ab bs.length cb) (.slice a us.length cap) p] w fun e w' => e = .returned (.int .i64 (M.fitsV (.mk k n ts) (.mk N bs us p) : Nat)) ∧ Below w.heap.size w w' := by
  have HC := Lib.hid (fun W (h : Below w.heap.size w W) => tcheck_any k n ts at_ ct W ((hT.from_ h).mono h.size))
  have hb0 := two_boxes w
  by_cases hz : M.chkT 0 (.mk k n ts) = 0
  · have HF := Lib.hid (fun W (h : Below w.heap.size w W) => tfits_n _ k n ts at_ ct 0 N bs us p ab cb a cap W (Nat.le_refl _) ((hT.from_ h).mono h.size) ((hV.from_ h).mono h.size) hz)
    rw [M.fitsV_in hz]
    rw [hz] at HC
    generalize M.fitV (.mk k n ts) (.mk N bs us p) = q at *
    clear hz hT hV
    go_enter Tryd.func18, Tryd.ntmps18
    go_wp2_with fail
    refine (HC.out _ (hb0 _ _)).mono ?_
    rintro e w1 ⟨rfl, hb1⟩
    obtain ⟨hce, hfr⟩ := bcell hb1
    go_wp2_with fail
    refine (HF.out _ ((hb0 _ _).trans (hb1.mono (by simp; omega)))).mono ?_
    rintro e w2 ⟨rfl, hb2⟩
    go_wp2_with fail
    go_ret
    exact ⟨rfl, (hb0 _ _).trans ((hb1.trans (hb2.mono hb1.size)).mono (by simp; omega))⟩
  · rw [show M.fitsV (.mk k n ts) (.mk N bs us p) = M.chkT 0 (.mk k n ts) by rw [M.fitsV, if_neg hz]]
    generalize M.chkT 0 (.mk k n ts) = q at *
    have hq : ¬ ((q : Nat) : Int) = 0 := by omega
    clear hz hT hV
    go_enter Tryd.func18, Tryd.ntmps18
    go_wp2_with fail
    refine (HC.out _ (hb0 _ _)).mono ?_
    rintro e w1 ⟨rfl, hb1⟩
    go_wp2_with fail
    go_ret
    exact ⟨rfl, (hb0 _ _).trans (hb1.mono (by simp; omega))⟩

set_option maxRecDepth 100000 in
set_option maxHeartbeats 4000000 in
theorem sfew_any (k n : Int) (ts : List M.Ty) (at_ : Option Addr) (ct : Nat) (N : Nat) (bs : List Bool) (us : List M.Va) (p : Int) (ab : Option Addr) (cb : Nat) (a : Option Addr) (cap : Nat) (w : World) (hT : LayT w w.heap.size ts (.slice at_ ts.length ct)) (hV : Vl w w.heap.size N bs us ab cb a cap) :
    Calls Tryd.prog 9 #[tv k n (.slice at_ ts.length ct), vv N (.slice ab bs.length cb) (.slice a us.length cap) p] w fun e w' => FewP e (.mk k n ts) (.mk N bs us p) ∧ Below w.heap.size w w' := by
  have HC := Lib.hid (fun W (h : Below w.heap.size w W) => types_n _ k n ts at_ ct W 60 9 (Nat.le_refl _) ((hT.from_ h).mono h.size) (by omega) (by omega) (by omega))
  have HF := Lib.hid (fun W (h : Below w.heap.size w W) => vals_n _ N bs us p ab cb a cap W 150 9 (Nat.le_refl _) ((hV.from_ h).mono h.size) (by omega) (by omega) (by omega))
  have hb0 := two_boxes w
  clear hT hV
  go_enter Tryd.func9, Tryd.ntmps9
  go_wp2_with fail
  refine (HC.out _ (hb0 _ _)).mono ?_
  rintro e w1 ⟨⟨r, rfl, hr1, hr2, hr3⟩, hb1⟩
  obtain ⟨hce, hfr⟩ := bcell hb1
  have HR := Lib.hid hr3
  by_cases hr : r ≤ 60
  · have hr' : (r : Int) ≤ 60 := by omega
    clear hr3
    go_wp2_with fail
    refine (HF.out _ ((hb0 _ _).trans (hb1.mono (by simp; omega)))).mono ?_
    rintro e w2 ⟨⟨s, rfl, hs1, hs2, hs3⟩, hb2⟩
    have HS := Lib.hid hs3
    clear hs3
    go_wp2_with fail
    go_ret
    refine ⟨⟨_, rfl, fun h => ?_⟩, (hb0 _ _).trans ((hb1.trans (hb2.mono hb1.size)).mono (by simp; omega))⟩
    have h1 : s ≤ 150 := by simp at h; omega
    exact ⟨Nat.le_trans (HR.out hr) hr, Nat.le_trans (HS.out h1) h1⟩
  · have hr' : ¬ (r : Int) ≤ 60 := by omega
    clear hr3
    go_wp2_with fail
    go_ret
    exact ⟨⟨false, rfl, fun h => by simp at h⟩, (hb0 _ _).trans (hb1.mono (by simp; omega))⟩
end Go.Proofs.YtmlkccbhdhgoeaaDoor
