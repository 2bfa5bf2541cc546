/- ShapeTells. -/
import Derived.Test.YtmlkccbhdhgoeaaDoorT14g
import Derived.Test.YtmlkccbhdhgoeaaDoorT13g
import Derived.Test.YtmlkccbhdhgoeaaDoorT21g
namespace Go.Proofs.YtmlkccbhdhgoeaaDoor
open Go Go.RowKit

theorem three_boxes (w : World) (o1 o2 o3 : Obj) : Below w.heap.size w (((w.alloc o1).alloc o2).alloc o3) := (two_boxes w o1 o2).alloc (by simp; omega) o3

set_option maxRecDepth 100000 in
set_option maxHeartbeats 16000000 in
theorem stells_law (HS : Hid Shapes) (k n : Int) (ts : List M.Ty) (at_ : Option Addr) (ct : Nat) (N : Nat) (bs : List Bool) (us : List M.Va) (p : Int) (ab : Option Addr) (cb : Nat) (a : Option Addr) (cap : Nat) (N2 : Nat) (bs2 : List Bool) (us2 : List M.Va) (p2 : Int) (ab2 : Option Addr) (cb2 : Nat) (a2 : Option Addr) (cap2 : Nat) (w : World) (hT : LayT w w.heap.size ts (.slice at_ ts.length ct)) (hV : Vl w w.heap.size N bs us ab cb a cap) (hV2 : Vl w w.heap.size N2 bs2 us2 ab2 cb2 a2 cap2) :
    Calls Tryd.prog 3 #[tv k n (.slice at_ ts.length ct), vv N (.slice ab bs.length cb) (.slice a us.length cap) p, vv N2 (.slice ab2 bs2.length cb2) (.slice a2 us2.length cap2) p2] w fun e w' => e = .returned (.bool true) ∧ Below w.heap.size w w' := by
  have HW := Lib.hid (fun W => sworks HS W)
  have G : Hid (∀ W, Below w.heap.size w W → LayT W W.heap.size ts (.slice at_ ts.length ct) ∧ Vl W W.heap.size N bs us ab cb a cap ∧ Vl W W.heap.size N2 bs2 us2 ab2 cb2 a2 cap2) := Lib.hid fun W h => ⟨(hT.from_ h).mono h.size, (hV.from_ h).mono h.size, (hV2.from_ h).mono h.size⟩
  have HFew := Lib.hid (fun W (h : Below w.heap.size w W) => sfew_any k n ts at_ ct N bs us p ab cb a cap W (G.out W h).1 (G.out W h).2.1)
  have HFew2 := Lib.hid (fun W (h : Below w.heap.size w W) => sfew_any k n ts at_ ct N2 bs2 us2 p2 ab2 cb2 a2 cap2 W (G.out W h).1 (G.out W h).2.2)
  have R1 := Lib.hid (fun W (h : Below w.heap.size w W) => tcheck_any k n ts at_ ct W (G.out W h).1)
  have R2 := Lib.hid (fun W (h : Below w.heap.size w W) => tfixed_any k n ts at_ ct W (G.out W h).1)
  have R3 := Lib.hid (fun W (h : Below w.heap.size w W) => tsize_any k n ts at_ ct W (G.out W h).1)
  have R4 := Lib.hid (fun W (h : Below w.heap.size w W) => tsame_n _ N bs us p ab cb a cap N2 bs2 us2 p2 ab2 cb2 a2 cap2 W (Nat.le_refl _) (G.out W h).2.1 (G.out W h).2.2)
  have S1 := Lib.hid (fun W (h : Below w.heap.size w W) (h1 : M.cntT (.mk k n ts) ≤ 60) => HS.out.check k n ts at_ ct W (G.out W h).1 (by omega))
  have S2 := Lib.hid (fun W (h : Below w.heap.size w W) (h1 : M.cntT (.mk k n ts) ≤ 60) => HS.out.fixed_ k n ts at_ ct W (G.out W h).1 (by omega))
  have S3 := Lib.hid (fun W (h : Below w.heap.size w W) (h1 : M.cntT (.mk k n ts) ≤ 60) => HS.out.size k n ts at_ ct W (G.out W h).1 (by omega))
  have S4 := Lib.hid (fun W (h : Below w.heap.size w W) (h1 : M.cntV (.mk N bs us p) ≤ 150) (h2 : M.cntV (.mk N2 bs2 us2 p2) ≤ 150) => HS.out.same N bs us p ab cb a cap N2 bs2 us2 p2 ab2 cb2 a2 cap2 W (G.out W h).2.1 (G.out W h).2.2 (by omega) (by omega))
  have hb0 := three_boxes w
  clear hT hV hV2 G
  go_enter Tryd.func3, Tryd.ntmps3
  go_wp2_with fail
  refine (HW.out _).mono ?_
  rintro e w1 ⟨rfl, hb1⟩
  have B1 := (hb0 _ _ _).trans (hb1.mono (by simp; omega))
  have e1 := (bcell hb1).1
  have C1 := hb1
  clear hb1
  go_wp2_with fail
  refine (HFew.out _ B1).mono ?_
  rintro e w2 ⟨hq, hb2⟩
  obtain ⟨q, rfl, hfew⟩ := hq.out
  have B2 := B1.trans (hb2.mono B1.size)
  have C2 := C1.trans (hb2.mono C1.size)
  have e2 := (bcell C2).1
  have HQ := Lib.hid hfew
  clear hq hfew e1 hb2
  cases q with
  | false =>
    go_wp2_with fail
    go_ret
    exact ⟨rfl, B2⟩
  | true =>
  obtain ⟨h1, h2⟩ := HQ.out rfl
  clear HQ
  go_wp2_with fail
  refine (HFew2.out _ B2).mono ?_
  rintro e w3 ⟨hq, hb3⟩
  obtain ⟨q, rfl, hfew⟩ := hq.out
  have B3 := B2.trans (hb3.mono B2.size)
  have C3 := C2.trans (hb3.mono C2.size)
  have e3 := (bcell C3).1
  have HQ := Lib.hid hfew
  clear hq hfew e2 hb3
  cases q with
  | false =>
    go_wp2_with fail
    go_ret
    exact ⟨rfl, B3⟩
  | true =>
  have h3 := (HQ.out rfl).2
  have T1 := Lib.hid (fun W h => S1.out W h h1)
  have T2 := Lib.hid (fun W h => S2.out W h h1)
  have T3 := Lib.hid (fun W h => S3.out W h h1)
  have T4 := Lib.hid (fun W h => S4.out W h h2 h3)
  clear HQ h1 h2 h3 S1 S2 S3 S4
  generalize M.chkT 0 (.mk k n ts) = r1 at *
  generalize M.fixedT (.mk k n ts) = r2 at *
  generalize M.sizeT (.mk k n ts) = r3 at *
  generalize M.sameV (.mk N bs us p) (.mk N2 bs2 us2 p2) = r4 at *
  go_wp2_with fail
  refine (R1.out _ B3).mono ?_
  rintro e w4 ⟨rfl, hb4⟩
  have B4 := B3.trans (hb4.mono B3.size)
  have C4 := C3.trans (hb4.mono C3.size)
  have e4 := (bcell C4).1
  clear e3 hb4
  go_wp2_with fail
  refine (R2.out _ B4).mono ?_
  rintro e w5 ⟨rfl, hb5⟩
  have B5 := B4.trans (hb5.mono B4.size)
  have C5 := C4.trans (hb5.mono C4.size)
  have e5 := (bcell C5).1
  clear e4 hb5
  go_wp2_with fail
  refine (R3.out _ B5).mono ?_
  rintro e w6 ⟨rfl, hb6⟩
  have B6 := B5.trans (hb6.mono B5.size)
  have C6 := C5.trans (hb6.mono C5.size)
  have e6 := (bcell C6).1
  clear e5 hb6
  go_wp2_with fail
  refine (R4.out _ B6).mono ?_
  rintro e w7 ⟨rfl, hb7⟩
  have B7 := B6.trans (hb7.mono B6.size)
  have C7 := C6.trans (hb7.mono C6.size)
  have e7 := (bcell C7).1
  clear e6 hb7
  go_wp2_with fail
  refine (T1.out _ B7).mono ?_
  rintro e w8 ⟨rfl, hb8⟩
  have B8 := B7.trans (hb8.mono B7.size)
  have C8 := C7.trans (hb8.mono C7.size)
  have e8 := (bcell C8).1
  clear e7 hb8
  go_wp2_with fail
  refine (T2.out _ B8).mono ?_
  rintro e w9 ⟨rfl, hb9⟩
  have B9 := B8.trans (hb9.mono B8.size)
  have C9 := C8.trans (hb9.mono C8.size)
  have e9 := (bcell C9).1
  clear e8 hb9
  go_wp2_with fail
  refine (T3.out _ B9).mono ?_
  rintro e w10 ⟨rfl, hb10⟩
  have B10 := B9.trans (hb10.mono B9.size)
  have C10 := C9.trans (hb10.mono C9.size)
  have e10 := (bcell C10).1
  clear e9 hb10
  go_wp2_with fail
  refine (T4.out _ B10).mono ?_
  rintro e w11 ⟨rfl, hb11⟩
  have B11 := B10.trans (hb11.mono B10.size)
  have C11 := C10.trans (hb11.mono C10.size)
  have e11 := (bcell C11).1
  clear e10 hb11
  go_wp2_with fail
  go_ret
  exact ⟨by simp, B11⟩
end Go.Proofs.YtmlkccbhdhgoeaaDoor
