/- The landed package shape: what is wrong with a value's own parts. -/
import Derived.Test.YtmlkccbhdhgoeaaDoorY1g
import Derived.Test.YtmlkccbhdhgoeaaDoorY2g
import Derived.Test.YtmlkccbhdhgoeaaDoorW1g
import Derived.Test.YtmlkccbhdhgoeaaDoorW4g
import Derived.Test.YtmlkccbhdhgoeaaDoorWEg
namespace Go.Proofs.YtmlkccbhdhgoeaaDoor
open Go Go.RowKit

def M.fu (b : Bool) : Nat := if b then 0 else 2
/-- What is wrong with the parts that the kind names. -/
def M.ownF (k n : Int) (m : Nat) : M.Va → Nat
  | .mk num bits items pick =>
    if k = 1 then M.fu (decide (((M.tr (M.f32 num)).length : Int) ≤ n))
    else if k = 2 then M.fu (decide (num < 2))
    else if k = 3 then M.fu (decide ((items.length : Int) = n))
    else if k = 4 then (if n < items.length then 5 else 0)
    else if k = 5 then M.fu (decide ((bits.length : Int) = n))
    else if k = 6 then (if n < bits.length then 5 else 0)
    else if k = 7 then M.fu (decide ((items.length : Int) = m))
    else if pick < 0 ∨ (m : Int) ≤ pick then 2 else M.fu (decide ((items.length : Int) = 1))

theorem unless_any (b : Bool) (w : World) : Calls Tryd.prog 38 #[.bool b] w fun e w' => e = .returned (.int .i64 (M.fu b : Nat)) ∧ w' = w := by
  cases b with
  | true =>
    go_enter Tryd.func38, Tryd.ntmps38
    go_wp2_with fail
    go_ret
    exact ⟨rfl, rfl⟩
  | false =>
    go_enter Tryd.func38, Tryd.ntmps38
    go_wp2_with fail
    go_ret
    exact ⟨rfl, rfl⟩
theorem exactly_items (n : Int) (l : Nat) (a : Option Addr) (cap : Nat) (w : World) : Calls Tryd.prog 49 #[.int .i64 n, .slice a l cap] w fun e w' => e = .returned (.int .i64 (M.fu (decide ((l : Int) = n)) : Nat)) ∧ w' = w := by
  have HU := Lib.hid (fun W => unless_any (decide ((l : Int) = n)) W)
  by_cases h : (l : Int) = n
  · rw [decide_eq_true h] at HU ⊢
    have h' : ((l : Int) == n) = true := by simpa using h
    clear h
    go_enter Tryd.func49, Tryd.ntmps49
    go_wp2_with fail
    refine (HU.out _).mono ?_
    rintro e w1 ⟨rfl, rfl⟩
    go_wp2_with fail
    go_ret
    exact ⟨rfl, rfl⟩
  · rw [decide_eq_false h] at HU ⊢
    have h' : ((l : Int) == n) = false := by simpa using h
    clear h
    go_enter Tryd.func49, Tryd.ntmps49
    go_wp2_with fail
    refine (HU.out _).mono ?_
    rintro e w1 ⟨rfl, rfl⟩
    go_wp2_with fail
    go_ret
    exact ⟨rfl, rfl⟩
theorem most_items (n : Int) (l : Nat) (a : Option Addr) (cap : Nat) (w : World) : Calls Tryd.prog 53 #[.int .i64 n, .slice a l cap] w fun e w' => e = .returned (.int .i64 ((if n < (l : Int) then 5 else 0 : Nat) : Int)) ∧ w' = w := by
  by_cases h : n < (l : Int)
  · rw [if_pos h]
    go_enter Tryd.func53, Tryd.ntmps53
    go_wp2_with fail
    go_ret
    exact ⟨rfl, rfl⟩
  · rw [if_neg h]
    go_enter Tryd.func53, Tryd.ntmps53
    go_wp2_with fail
    go_ret
    exact ⟨rfl, rfl⟩
theorem exactly_bits (n : Int) (l : Nat) (a : Option Addr) (cap : Nat) (w : World) : Calls Tryd.prog 56 #[.int .i64 n, .slice a l cap] w fun e w' => e = .returned (.int .i64 (M.fu (decide ((l : Int) = n)) : Nat)) ∧ w' = w := by
  have HU := Lib.hid (fun W => unless_any (decide ((l : Int) = n)) W)
  by_cases h : (l : Int) = n
  · rw [decide_eq_true h] at HU ⊢
    have h' : ((l : Int) == n) = true := by simpa using h
    clear h
    go_enter Tryd.func56, Tryd.ntmps56
    go_wp2_with fail
    refine (HU.out _).mono ?_
    rintro e w1 ⟨rfl, rfl⟩
    go_wp2_with fail
    go_ret
    exact ⟨rfl, rfl⟩
  · rw [decide_eq_false h] at HU ⊢
    have h' : ((l : Int) == n) = false := by simpa using h
    clear h
    go_enter Tryd.func56, Tryd.ntmps56
    go_wp2_with fail
    refine (HU.out _).mono ?_
    rintro e w1 ⟨rfl, rfl⟩
    go_wp2_with fail
    go_ret
    exact ⟨rfl, rfl⟩
theorem most_bits (n : Int) (l : Nat) (a : Option Addr) (cap : Nat) (w : World) : Calls Tryd.prog 59 #[.int .i64 n, .slice a l cap] w fun e w' => e = .returned (.int .i64 ((if n < (l : Int) then 5 else 0 : Nat) : Int)) ∧ w' = w := by
  by_cases h : n < (l : Int)
  · rw [if_pos h]
    go_enter Tryd.func59, Tryd.ntmps59
    go_wp2_with fail
    go_ret
    exact ⟨rfl, rfl⟩
  · rw [if_neg h]
    go_enter Tryd.func59, Tryd.ntmps59
    go_wp2_with fail
    go_ret
    exact ⟨rfl, rfl⟩
/-- What a function that tells what is wrong must do. -/
def FaultC (k : Int) (g : FuncId) : Prop := ∀ (n : Int) (ts : List M.Ty) (a : Option Addr) (cap : Nat) (N : Nat) (bs : List Bool) (us : List M.Va) (p : Int) (ab : Option Addr) (cb : Nat) (au : Option Addr) (cu : Nat) (w : World), ts.length ≤ 1000 → Vl w w.heap.size N bs us ab cb au cu →
  Calls Tryd.prog g #[tv k n (.slice a ts.length cap), vv N (.slice ab bs.length cb) (.slice au us.length cu) p] w fun e w' => e = .returned (.int .i64 (M.ownF k n ts.length (.mk N bs us p) : Nat)) ∧ Below w.heap.size w w'
theorem two_boxes (w : World) (o o' : Obj) : Below w.heap.size w ((w.alloc o).alloc o') := ((Below.refl _ w).alloc (Nat.le_refl _) o).alloc (by simp) o'
theorem fault_3 : FaultC 3 48 := by
  intro n ts a cap N bs us p ab cb au cu w hts hV
  have HU := Lib.hid (fun W => exactly_items n us.length au cu W)
  have hb0 := two_boxes w (.cells #[.int .i64 3, .int .i64 n, .slice a ts.length cap] 24) (.cells #[.int .u64 (M.pt 0 N), .int .u64 (M.pt 1 N), .int .u64 (M.pt 2 N), .int .u64 (M.pt 3 N), .slice ab bs.length cb, .slice au us.length cu, .int .i64 p] 31)
  obtain ⟨q, hq⟩ : ∃ q, q = M.ownF 3 n ts.length (.mk N bs us p) := ⟨_, rfl⟩
  rw [← hq]
  simp only [M.ownF, Int.reduceEq, ↓reduceIte] at hq
  rw [← hq] at HU
  clear hV hq
  go_enter Tryd.func48, Tryd.ntmps48
  go_wp2_with fail
  refine (HU.out _).mono ?_
  rintro e w1 ⟨rfl, rfl⟩
  go_wp2_with fail
  go_ret
  exact ⟨rfl, hb0⟩
theorem fault_4 : FaultC 4 52 := by
  intro n ts a cap N bs us p ab cb au cu w hts hV
  have HU := Lib.hid (fun W => most_items n us.length au cu W)
  have hb0 := two_boxes w (.cells #[.int .i64 4, .int .i64 n, .slice a ts.length cap] 24) (.cells #[.int .u64 (M.pt 0 N), .int .u64 (M.pt 1 N), .int .u64 (M.pt 2 N), .int .u64 (M.pt 3 N), .slice ab bs.length cb, .slice au us.length cu, .int .i64 p] 31)
  obtain ⟨q, hq⟩ : ∃ q, q = M.ownF 4 n ts.length (.mk N bs us p) := ⟨_, rfl⟩
  rw [← hq]
  simp only [M.ownF, Int.reduceEq, ↓reduceIte] at hq
  rw [← hq] at HU
  clear hV hq
  go_enter Tryd.func52, Tryd.ntmps52
  go_wp2_with fail
  refine (HU.out _).mono ?_
  rintro e w1 ⟨rfl, rfl⟩
  go_wp2_with fail
  go_ret
  exact ⟨rfl, hb0⟩
theorem fault_5 : FaultC 5 55 := by
  intro n ts a cap N bs us p ab cb au cu w hts hV
  have HU := Lib.hid (fun W => exactly_bits n bs.length ab cb W)
  have hb0 := two_boxes w (.cells #[.int .i64 5, .int .i64 n, .slice a ts.length cap] 24) (.cells #[.int .u64 (M.pt 0 N), .int .u64 (M.pt 1 N), .int .u64 (M.pt 2 N), .int .u64 (M.pt 3 N), .slice ab bs.length cb, .slice au us.length cu, .int .i64 p] 31)
  obtain ⟨q, hq⟩ : ∃ q, q = M.ownF 5 n ts.length (.mk N bs us p) := ⟨_, rfl⟩
  rw [← hq]
  simp only [M.ownF, Int.reduceEq, ↓reduceIte] at hq
  rw [← hq] at HU
  clear hV hq
  go_enter Tryd.func55, Tryd.ntmps55
  go_wp2_with fail
  refine (HU.out _).mono ?_
  rintro e w1 ⟨rfl, rfl⟩
  go_wp2_with fail
  go_ret
  exact ⟨rfl, hb0⟩
theorem fault_6 : FaultC 6 58 := by
  intro n ts a cap N bs us p ab cb au cu w hts hV
  have HU := Lib.hid (fun W => most_bits n bs.length ab cb W)
  have hb0 := two_boxes w (.cells #[.int .i64 6, .int .i64 n, .slice a ts.length cap] 24) (.cells #[.int .u64 (M.pt 0 N), .int .u64 (M.pt 1 N), .int .u64 (M.pt 2 N), .int .u64 (M.pt 3 N), .slice ab bs.length cb, .slice au us.length cu, .int .i64 p] 31)
  obtain ⟨q, hq⟩ : ∃ q, q = M.ownF 6 n ts.length (.mk N bs us p) := ⟨_, rfl⟩
  rw [← hq]
  simp only [M.ownF, Int.reduceEq, ↓reduceIte] at hq
  rw [← hq] at HU
  clear hV hq
  go_enter Tryd.func58, Tryd.ntmps58
  go_wp2_with fail
  refine (HU.out _).mono ?_
  rintro e w1 ⟨rfl, rfl⟩
  go_wp2_with fail
  go_ret
  exact ⟨rfl, hb0⟩
theorem fault_7 : FaultC 7 61 := by
  intro n ts a cap N bs us p ab cb au cu w hts hV
  have HU := Lib.hid (fun W => exactly_items (ts.length : Nat) us.length au cu W)
  have hb0 := two_boxes w (.cells #[.int .i64 7, .int .i64 n, .slice a ts.length cap] 24) (.cells #[.int .u64 (M.pt 0 N), .int .u64 (M.pt 1 N), .int .u64 (M.pt 2 N), .int .u64 (M.pt 3 N), .slice ab bs.length cb, .slice au us.length cu, .int .i64 p] 31)
  obtain ⟨q, hq⟩ : ∃ q, q = M.ownF 7 n ts.length (.mk N bs us p) := ⟨_, rfl⟩
  rw [← hq]
  simp only [M.ownF, Int.reduceEq, ↓reduceIte] at hq
  rw [← hq] at HU
  clear hV hq
  go_enter Tryd.func61, Tryd.ntmps61
  go_wp2_with fail
  refine (HU.out _).mono ?_
  rintro e w1 ⟨rfl, rfl⟩
  go_wp2_with fail
  go_ret
  exact ⟨rfl, hb0⟩
set_option maxRecDepth 100000 in
set_option maxHeartbeats 4000000 in
theorem fault_8 : FaultC 8 63 := by
  intro n ts a cap N bs us p ab cb au cu w hts hV
  have HU := Lib.hid (fun W => exactly_items 1 us.length au cu W)
  have hb0 := two_boxes w (.cells #[.int .i64 8, .int .i64 n, .slice a ts.length cap] 24) (.cells #[.int .u64 (M.pt 0 N), .int .u64 (M.pt 1 N), .int .u64 (M.pt 2 N), .int .u64 (M.pt 3 N), .slice ab bs.length cb, .slice au us.length cu, .int .i64 p] 31)
  clear hV
  by_cases h1 : p < 0
  · have HE : Hid (M.ownF 8 n ts.length (.mk N bs us p) = 2) := by show _ = _; simp [M.ownF, h1]
    go_enter Tryd.func63, Tryd.ntmps63
    go_wp2_with fail
    go_ret
    exact ⟨by rw [HE.out]; rfl, hb0⟩
  · by_cases h2 : (ts.length : Int) ≤ p
    · have HE : Hid (M.ownF 8 n ts.length (.mk N bs us p) = 2) := by show _ = _; simp [M.ownF, h2]
      go_enter Tryd.func63, Tryd.ntmps63
      go_wp2_with fail
      go_ret
      exact ⟨by rw [HE.out]; rfl, hb0⟩
    · have HE : Hid (M.ownF 8 n ts.length (.mk N bs us p) = M.fu (decide ((us.length : Int) = 1))) := by show _ = _; simp [M.ownF, h1, h2]
      go_enter Tryd.func63, Tryd.ntmps63
      go_wp2_with fail
      refine (HU.out _).mono ?_
      rintro e w1 ⟨rfl, rfl⟩
      go_wp2_with fail
      go_ret
      exact ⟨by rw [HE.out]; rfl, hb0⟩
set_option maxRecDepth 100000 in
set_option maxHeartbeats 4000000 in
theorem fault_1 : FaultC 1 37 := by
  intro n ts a cap N bs us p ab cb au cu w hts hV
  have hN := hV.hN
  have hlen : (M.tr (M.f32 N)).length ≤ 32 := by have := M.tr_length_le (M.f32 N); rwa [M.f32_length] at this
  obtain ⟨s, hs⟩ : ∃ s, s = M.tr (M.f32 N) := ⟨_, rfl⟩
  have HB : Hid (∀ W, Calls Tryd.prog 39 #[wn N] W fun e w' => e = .returned (.string ⟨s.toArray⟩) ∧ Below W.heap.size W w') := fun W => hs ▸ bytes_any N W hN
  have HE : Hid (M.ownF 1 n ts.length (.mk N bs us p) = M.fu (decide ((s.length : Int) ≤ n))) := by show _ = _; rw [hs]; simp [M.ownF]
  rw [← hs] at hlen
  clear hs hV
  obtain ⟨w0, hw0⟩ : ∃ w0, (w.alloc (.cells #[.int .i64 1, .int .i64 n, .slice a ts.length cap] 24)).alloc (.cells #[.int .u64 (M.pt 0 N), .int .u64 (M.pt 1 N), .int .u64 (M.pt 2 N), .int .u64 (M.pt 3 N), .slice ab bs.length cb, .slice au us.length cu, .int .i64 p] 31) = w0 := ⟨_, rfl⟩
  have hb0 : Below w.heap.size w w0 := by rw [← hw0]; exact two_boxes _ _ _
  have hz : w0.heap.size = w.heap.size + 2 := by rw [← hw0]; simp
  have kn : w0.cell? ⟨w.heap.size, 1, none⟩ = some (.int .i64 n) := by rw [← hw0]; simp [go_sem]
  have k0 : w0.cell? ⟨w.heap.size + 1, 0, none⟩ = some (.int .u64 (M.pt 0 N)) := by rw [← hw0]; simp [go_sem]
  have k1 : w0.cell? ⟨w.heap.size + 1, 1, none⟩ = some (.int .u64 (M.pt 1 N)) := by rw [← hw0]; simp [go_sem]
  have k2 : w0.cell? ⟨w.heap.size + 1, 2, none⟩ = some (.int .u64 (M.pt 2 N)) := by rw [← hw0]; simp [go_sem]
  have k3 : w0.cell? ⟨w.heap.size + 1, 3, none⟩ = some (.int .u64 (M.pt 3 N)) := by rw [← hw0]; simp [go_sem]
  have HW := Lib.hid hw0
  clear hw0
  go_enter Tryd.func37, Tryd.ntmps37
  go_wp2_with fail
  rw [HW.out]
  have mixed : Tryd.prog.follows .mixedOrders = true := by kernel_rfl
  refine region_quiet (C := fun W => Below w0.heap.size w0 W) mixed (by kernel_rfl) (Below.drew (Below.refl _ _)) ?_
  refine quiet_val (.pointer (some ⟨w.heap.size + 1, 0, none⟩)) (by rfl) (fun W hC => by go_simp) ?_
  simp only [Act.put, List.setIfInBounds_toArray, List.set_cons_zero, List.set_cons_succ]
  refine quiet_val (wn N) (by rfl) (fun W hC => by have a0 := (hC.cell (p := ⟨w.heap.size + 1, 0, none⟩) (by simp; omega)).trans k0; have a1 := (hC.cell (p := ⟨w.heap.size + 1, 1, none⟩) (by simp; omega)).trans k1; have a2 := (hC.cell (p := ⟨w.heap.size + 1, 2, none⟩) (by simp; omega)).trans k2; have a3 := (hC.cell (p := ⟨w.heap.size + 1, 3, none⟩) (by simp; omega)).trans k3; go_simp) ?_
  simp only [Act.put, List.setIfInBounds_toArray, List.set_cons_zero, List.set_cons_succ]
  refine quiet_call (.string ⟨s.toArray⟩) 39 #[wn N] (by rfl) (fun W _ => by go_simp) (fun W hC => (HB.out W).mono fun _ _ h => ⟨h.1, hC.trans (h.2.mono hC.size)⟩) ?_
  simp only [Act.put, List.setIfInBounds_toArray, List.set_cons_zero, List.set_cons_succ]
  refine quiet_val (.int .i64 s.length) (by rfl) (fun W hC => by go_simp) ?_
  simp only [Act.put, List.setIfInBounds_toArray, List.set_cons_zero, List.set_cons_succ]
  refine quiet_val (.pointer (some ⟨w.heap.size, 1, none⟩)) (by rfl) (fun W hC => by go_simp) ?_
  simp only [Act.put, List.setIfInBounds_toArray, List.set_cons_zero, List.set_cons_succ]
  refine quiet_val (.int .i64 n) (by rfl) (fun W hC => by have a1 := (hC.cell (p := ⟨w.heap.size, 1, none⟩) (by simp; omega)).trans kn; go_simp) ?_
  simp only [Act.put, List.setIfInBounds_toArray, List.set_cons_zero, List.set_cons_succ]
  refine quiet_val (.bool (decide ((s.length : Int) ≤ n))) (by rfl) (fun W hC => by go_simp) ?_
  simp only [Act.put, List.setIfInBounds_toArray, List.set_cons_zero, List.set_cons_succ]
  refine quiet_call (.int .i64 (M.fu (decide ((s.length : Int) ≤ n)) : Nat)) 38 #[.bool (decide ((s.length : Int) ≤ n))] (by rfl) (fun W _ => by go_simp) (fun W hC => (unless_any _ W).mono fun _ _ h => ⟨h.1, by rw [h.2]; exact hC⟩) ?_
  simp only [Act.put, List.setIfInBounds_toArray, List.set_cons_zero, List.set_cons_succ]
  refine quiet_val (.int .i64 (M.fu (decide ((s.length : Int) ≤ n)) : Nat)) (by rfl) (fun W hC => by go_simp) ?_
  simp only [Act.put, List.setIfInBounds_toArray, List.set_cons_zero, List.set_cons_succ]
  refine wpQuiet_nil ?_
  intro w1 hb1
  go_wp2_with fail
  go_ret
  exact ⟨by rw [HE.out]; rfl, hb0.trans (hb1.mono hb0.size)⟩
theorem wn_two : (wn 2 : Value) = wd 2 0 0 0 := by
  unfold wn
  rw [show M.pt 0 2 = 2 by decide +kernel, show M.pt 1 2 = 0 by decide +kernel, show M.pt 2 2 = 0 by decide +kernel, show M.pt 3 2 = 0 by decide +kernel]
set_option maxRecDepth 100000 in
set_option maxHeartbeats 4000000 in
theorem fault_2 : FaultC 2 43 := by
  intro n ts a cap N bs us p ab cb au cu w hts hV
  have hN := hV.hN
  have HO : Hid (∀ W, Calls Tryd.prog 45 #[.int .u64 2] W fun e w' => e = .returned (wn 2) ∧ Below W.heap.size W w') := fun W => wn_two ▸ of_any 2 W
  have HB : Hid (∀ W, Calls Tryd.prog 44 #[wn N, wn 2] W fun e w' => e = .returned (.bool (decide (N < 2))) ∧ Below W.heap.size W w') := fun W => less_any N 2 W hN (by unfold M.In; omega)
  have HE : Hid (M.ownF 2 n ts.length (.mk N bs us p) = M.fu (decide (N < 2))) := by show _ = _; simp [M.ownF]
  clear hV
  obtain ⟨w0, hw0⟩ : ∃ w0, (w.alloc (.cells #[.int .i64 2, .int .i64 n, .slice a ts.length cap] 24)).alloc (.cells #[.int .u64 (M.pt 0 N), .int .u64 (M.pt 1 N), .int .u64 (M.pt 2 N), .int .u64 (M.pt 3 N), .slice ab bs.length cb, .slice au us.length cu, .int .i64 p] 31) = w0 := ⟨_, rfl⟩
  have hb0 : Below w.heap.size w w0 := by rw [← hw0]; exact two_boxes _ _ _
  have hz : w0.heap.size = w.heap.size + 2 := by rw [← hw0]; simp
  have kn : w0.cell? ⟨w.heap.size, 1, none⟩ = some (.int .i64 n) := by rw [← hw0]; simp [go_sem]
  have k0 : w0.cell? ⟨w.heap.size + 1, 0, none⟩ = some (.int .u64 (M.pt 0 N)) := by rw [← hw0]; simp [go_sem]
  have k1 : w0.cell? ⟨w.heap.size + 1, 1, none⟩ = some (.int .u64 (M.pt 1 N)) := by rw [← hw0]; simp [go_sem]
  have k2 : w0.cell? ⟨w.heap.size + 1, 2, none⟩ = some (.int .u64 (M.pt 2 N)) := by rw [← hw0]; simp [go_sem]
  have k3 : w0.cell? ⟨w.heap.size + 1, 3, none⟩ = some (.int .u64 (M.pt 3 N)) := by rw [← hw0]; simp [go_sem]
  have HW := Lib.hid hw0
  clear hw0
  go_enter Tryd.func43, Tryd.ntmps43
  go_wp2_with fail
  rw [HW.out]
  have mixed : Tryd.prog.follows .mixedOrders = true := by kernel_rfl
  refine region_quiet (C := fun W => Below w0.heap.size w0 W) mixed (by kernel_rfl) (Below.drew (Below.refl _ _)) ?_
  refine quiet_val (.pointer (some ⟨w.heap.size + 1, 0, none⟩)) (by rfl) (fun W hC => by go_simp) ?_
  simp only [Act.put, List.setIfInBounds_toArray, List.set_cons_zero, List.set_cons_succ]
  refine quiet_val (wn N) (by rfl) (fun W hC => by have a0 := (hC.cell (p := ⟨w.heap.size + 1, 0, none⟩) (by simp; omega)).trans k0; have a1 := (hC.cell (p := ⟨w.heap.size + 1, 1, none⟩) (by simp; omega)).trans k1; have a2 := (hC.cell (p := ⟨w.heap.size + 1, 2, none⟩) (by simp; omega)).trans k2; have a3 := (hC.cell (p := ⟨w.heap.size + 1, 3, none⟩) (by simp; omega)).trans k3; go_simp) ?_
  simp only [Act.put, List.setIfInBounds_toArray, List.set_cons_zero, List.set_cons_succ]
  refine quiet_call (wn 2) 45 #[.int .u64 2] (by rfl) (fun W _ => by go_simp) (fun W hC => (HO.out W).mono fun _ _ h => ⟨h.1, hC.trans (h.2.mono hC.size)⟩) ?_
  simp only [Act.put, List.setIfInBounds_toArray, List.set_cons_zero, List.set_cons_succ]
  refine quiet_call (.bool (decide (N < 2))) 44 #[wn N, wn 2] (by rfl) (fun W _ => by go_simp) (fun W hC => (HB.out W).mono fun _ _ h => ⟨h.1, hC.trans (h.2.mono hC.size)⟩) ?_
  simp only [Act.put, List.setIfInBounds_toArray, List.set_cons_zero, List.set_cons_succ]
  refine quiet_call (.int .i64 (M.fu (decide (N < 2)) : Nat)) 38 #[.bool (decide (N < 2))] (by rfl) (fun W _ => by go_simp) (fun W hC => (unless_any _ W).mono fun _ _ h => ⟨h.1, by rw [h.2]; exact hC⟩) ?_
  simp only [Act.put, List.setIfInBounds_toArray, List.set_cons_zero, List.set_cons_succ]
  refine quiet_val (.int .i64 (M.fu (decide (N < 2)) : Nat)) (by rfl) (fun W hC => by go_simp) ?_
  simp only [Act.put, List.setIfInBounds_toArray, List.set_cons_zero, List.set_cons_succ]
  refine wpQuiet_nil ?_
  intro w1 hb1
  go_wp2_with fail
  go_ret
  exact ⟨by rw [HE.out]; rfl, hb0.trans (hb1.mono hb0.size)⟩
end Go.Proofs.YtmlkccbhdhgoeaaDoor
