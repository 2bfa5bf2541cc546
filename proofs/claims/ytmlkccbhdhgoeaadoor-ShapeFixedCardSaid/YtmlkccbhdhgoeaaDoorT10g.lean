/- The reference's of: numbers; of all kinds. -/
import Derived.Test.YtmlkccbhdhgoeaaDoorT9g
namespace Go.Proofs.YtmlkccbhdhgoeaaDoor
open Go Go.RowKit

set_option maxRecDepth 100000 in
set_option maxHeartbeats 8000000 in
theorem tof_1 (n : Int) (m : Nat) (at_ : Option Addr) (ct : Nat) (N : Nat) (hN : M.In N) (bs : List Bool) (us : List M.Va) (p : Int) (ab : Option Addr) (cb : Nat) (a : Option Addr) (cap : Nat) (w : World) :
    Calls Tryd.prog 67 #[tv 1 n (.slice at_ m ct), vv N (.slice ab bs.length cb) (.slice a us.length cap) p] w fun e w' => e = .returned (.bool (M.ofV 1 n m (.mk N bs us p))) ∧ Below w.heap.size w w' := by
  obtain ⟨w0, hw0⟩ : ∃ w0, (w.alloc (.cells #[.int .i64 1, .int .i64 n, .slice at_ m ct] 24)).alloc (.cells #[.int .u64 (M.pt 0 N), .int .u64 (M.pt 1 N), .int .u64 (M.pt 2 N), .int .u64 (M.pt 3 N), .slice ab bs.length cb, .slice a us.length cap, .int .i64 p] 31) = w0 := ⟨_, rfl⟩
  have hb0 : Below w.heap.size w w0 := by rw [← hw0]; (repeat (first | exact Below.refl _ _ | refine Below.drew ?_ | refine Below.alloc ?_ (by first | omega | (simp; omega) | simp) _ | refine Below.setCell ?_ (by first | omega | (simp; omega) | simp) _))
  have hz0 : w0.heap.size = w.heap.size + 2 := by rw [← hw0]; simp
  have hT : BoxT w0 w.heap.size 1 n (.slice at_ m ct) := by
    rw [← hw0]
    exact (BoxT.new w 1 n (.slice at_ m ct) 24).from_ ((Below.refl _ _).alloc (Nat.le_refl _) _) (by simp)
  have hV : Cells7 w0 (w.heap.size + 1) 0 N (.slice ab bs.length cb) (.slice a us.length cap) p := by
    rw [← hw0]
    have := Cells7.new (w.alloc (.cells #[.int .i64 1, .int .i64 n, .slice at_ m ct] 24)) N (.slice ab bs.length cb) (.slice a us.length cap) p 31
    rwa [show (w.alloc (.cells #[.int .i64 1, .int .i64 n, .slice at_ m ct] 24)).heap.size = w.heap.size + 1 by simp] at this
  have t0 := hT.c0
  have HO := Lib.hid (fun W => ronly_num N hN bs.length us.length p ab cb a cap W)
  have HB := Lib.hid (fun W => rbytes_core N W)
  generalize hq : (bs.length == 0 && us.length == 0 && p == 0) = q at HO
  cases q with
  | false =>
    have E : Hid (M.ofV 1 n m (.mk N bs us p) = false) := by show _ = _; simp_all [M.ofV]
    have HQ := Lib.hid hq
    clear hq
    go_enter Tryd.func67, Tryd.ntmps67
    go_wp2_with fail
    have mixed : Tryd.prog.follows .mixedOrders = true := by kernel_rfl
    refine region_quiet (C := fun W => Below (w.heap.size + 2) w0 W) mixed (by kernel_rfl) (Below.drew (Below.refl _ _)) ?_
    refine quiet_val (vv N (.slice ab bs.length cb) (.slice a us.length cap) p) (by rfl) (fun W hC => by have hv := (hV.from_ hC (by omega)); have c0 := hv.c0; have c1 := hv.c1; have c2 := hv.c2; have c3 := hv.c3; have c4 := hv.c4; have c5 := hv.c5; have c6 := hv.c6; simp only [Nat.zero_add] at c1 c2 c3 c4 c5 c6; go_simp) ?_
    simp only [Act.put, List.setIfInBounds_toArray, List.set_cons_zero, List.set_cons_succ]
    refine quiet_call (.bool false) 78 #[vv N (.slice ab bs.length cb) (.slice a us.length cap) p, .bool true, .bool false, .bool false, .bool false] (by rfl) (fun W hC => by go_simp) (fun W hC => (HO.out W).mono fun _ _ h => ⟨h.1, hC.trans (h.2.mono (by have := hC.size; omega))⟩) ?_
    simp only [Act.put, List.setIfInBounds_toArray, List.set_cons_zero, List.set_cons_succ]
    refine quiet_val (.bool false) (by rfl) (fun W hC => by go_simp) ?_
    simp only [Act.put, List.setIfInBounds_toArray, List.set_cons_zero, List.set_cons_succ]
    refine quiet_skip (by rfl) ?_
    simp only [Act.put, List.setIfInBounds_toArray, List.set_cons_zero, List.set_cons_succ]
    refine quiet_skip (by rfl) ?_
    simp only [Act.put, List.setIfInBounds_toArray, List.set_cons_zero, List.set_cons_succ]
    refine quiet_skip (by rfl) ?_
    simp only [Act.put, List.setIfInBounds_toArray, List.set_cons_zero, List.set_cons_succ]
    refine quiet_skip (by rfl) ?_
    simp only [Act.put, List.setIfInBounds_toArray, List.set_cons_zero, List.set_cons_succ]
    refine quiet_skip (by rfl) ?_
    simp only [Act.put, List.setIfInBounds_toArray, List.set_cons_zero, List.set_cons_succ]
    refine quiet_skip (by rfl) ?_
    simp only [Act.put, List.setIfInBounds_toArray, List.set_cons_zero, List.set_cons_succ]
    refine quiet_skip (by rfl) ?_
    simp only [Act.put, List.setIfInBounds_toArray, List.set_cons_zero, List.set_cons_succ]
    refine quiet_val (.bool false) (by rfl) (fun W hC => by go_simp) ?_
    simp only [Act.put, List.setIfInBounds_toArray, List.set_cons_zero, List.set_cons_succ]
    refine quiet_val (.bool false) (by rfl) (fun W hC => by go_simp) ?_
    simp only [Act.put, List.setIfInBounds_toArray, List.set_cons_zero, List.set_cons_succ]
    refine wpQuiet_nil ?_
    intro w1 hb1
    go_wp2_with fail
    go_ret
    rw [E.out]
    exact ⟨rfl, hb0.trans (hb1.mono (by omega))⟩
  | true =>
    have E : Hid (M.ofV 1 n m (.mk N bs us p) = decide (((M.tr (M.f32 N)).length : Int) ≤ n)) := by show _ = _; simp_all [M.ofV]
    have HQ := Lib.hid hq
    clear hq
    go_enter Tryd.func67, Tryd.ntmps67
    go_wp2_with fail
    have mixed : Tryd.prog.follows .mixedOrders = true := by kernel_rfl
    refine region_quiet (C := fun W => Below (w.heap.size + 2) w0 W) mixed (by kernel_rfl) (Below.drew (Below.refl _ _)) ?_
    refine quiet_val (vv N (.slice ab bs.length cb) (.slice a us.length cap) p) (by rfl) (fun W hC => by have hv := (hV.from_ hC (by omega)); have c0 := hv.c0; have c1 := hv.c1; have c2 := hv.c2; have c3 := hv.c3; have c4 := hv.c4; have c5 := hv.c5; have c6 := hv.c6; simp only [Nat.zero_add] at c1 c2 c3 c4 c5 c6; go_simp) ?_
    simp only [Act.put, List.setIfInBounds_toArray, List.set_cons_zero, List.set_cons_succ]
    refine quiet_call (.bool true) 78 #[vv N (.slice ab bs.length cb) (.slice a us.length cap) p, .bool true, .bool false, .bool false, .bool false] (by rfl) (fun W hC => by go_simp) (fun W hC => (HO.out W).mono fun _ _ h => ⟨h.1, hC.trans (h.2.mono (by have := hC.size; omega))⟩) ?_
    simp only [Act.put, List.setIfInBounds_toArray, List.set_cons_zero, List.set_cons_succ]
    refine quiet_val (.bool true) (by rfl) (fun W hC => by go_simp) ?_
    simp only [Act.put, List.setIfInBounds_toArray, List.set_cons_zero, List.set_cons_succ]
    refine quiet_val (.pointer (some ⟨w.heap.size + 1, 0, none⟩)) (by rfl) (fun W hC => by go_simp) ?_
    simp only [Act.put, List.setIfInBounds_toArray, List.set_cons_zero, List.set_cons_succ]
    refine quiet_val (wn N) (by rfl) (fun W hC => by have hv := (hV.from_ hC (by omega)); have c0 := hv.c0; have c1 := hv.c1; have c2 := hv.c2; have c3 := hv.c3; simp only [Nat.zero_add] at c1 c2 c3; go_simp) ?_
    simp only [Act.put, List.setIfInBounds_toArray, List.set_cons_zero, List.set_cons_succ]
    refine quiet_call (.string ⟨(M.tr (M.f32 N)).toArray⟩) 79 #[wn N] (by rfl) (fun W hC => by go_simp) (fun W hC => (HB.out W).mono fun _ _ h => ⟨h.1, hC.trans (h.2.mono (by have := hC.size; omega))⟩) ?_
    simp only [Act.put, List.setIfInBounds_toArray, List.set_cons_zero, List.set_cons_succ]
    refine quiet_val (.int .i64 ((M.tr (M.f32 N)).length : Nat)) (by rfl) (fun W hC => by go_simp) ?_
    simp only [Act.put, List.setIfInBounds_toArray, List.set_cons_zero, List.set_cons_succ]
    refine quiet_val (.pointer (some ⟨w.heap.size, 1, none⟩)) (by rfl) (fun W hC => by go_simp) ?_
    simp only [Act.put, List.setIfInBounds_toArray, List.set_cons_zero, List.set_cons_succ]
    refine quiet_val (.int .i64 n) (by rfl) (fun W hC => by have t1 := (hT.from_ hC (by omega)).c1; go_simp) ?_
    simp only [Act.put, List.setIfInBounds_toArray, List.set_cons_zero, List.set_cons_succ]
    refine quiet_val (.bool (decide (((M.tr (M.f32 N)).length : Int) ≤ n))) (by rfl) (fun W hC => by go_simp) ?_
    simp only [Act.put, List.setIfInBounds_toArray, List.set_cons_zero, List.set_cons_succ]
    refine quiet_val (.bool (decide (((M.tr (M.f32 N)).length : Int) ≤ n))) (by rfl) (fun W hC => by go_simp) ?_
    simp only [Act.put, List.setIfInBounds_toArray, List.set_cons_zero, List.set_cons_succ]
    refine quiet_val (.bool (decide (((M.tr (M.f32 N)).length : Int) ≤ n))) (by rfl) (fun W hC => by go_simp) ?_
    simp only [Act.put, List.setIfInBounds_toArray, List.set_cons_zero, List.set_cons_succ]
    refine wpQuiet_nil ?_
    intro w1 hb1
    go_wp2_with fail
    go_ret
    rw [E.out]
    exact ⟨rfl, hb0.trans (hb1.mono (by omega))⟩

theorem tof_any (k n : Int) (m : Nat) (at_ : Option Addr) (ct : Nat) (N : Nat) (hN : M.In N) (bs : List Bool) (us : List M.Va) (p : Int) (ab : Option Addr) (cb : Nat) (a : Option Addr) (cap : Nat) (w : World) :
    Calls Tryd.prog 67 #[tv k n (.slice at_ m ct), vv N (.slice ab bs.length cb) (.slice a us.length cap) p] w fun e w' => e = .returned (.bool (M.ofV k n m (.mk N bs us p))) ∧ Below w.heap.size w w' := by
  by_cases h1 : k = 1
  · subst h1; exact tof_1 n m at_ ct N hN bs us p ab cb a cap w
  by_cases h2 : k = 2
  · subst h2; exact tof_2 n m at_ ct N hN bs us p ab cb a cap w
  by_cases h3 : k = 3
  · subst h3; exact tof_3 n m at_ ct N hN bs us p ab cb a cap w
  by_cases h4 : k = 4
  · subst h4; exact tof_4 n m at_ ct N hN bs us p ab cb a cap w
  by_cases h5 : k = 5
  · subst h5; exact tof_5 n m at_ ct N hN bs us p ab cb a cap w
  by_cases h6 : k = 6
  · subst h6; exact tof_6 n m at_ ct N hN bs us p ab cb a cap w
  by_cases h7 : k = 7
  · subst h7; exact tof_7 n m at_ ct N hN bs us p ab cb a cap w
  exact tof_8 k n m at_ ct N hN bs us p ab cb a cap w h1 h2 h3 h4 h5 h6 h7
end Go.Proofs.YtmlkccbhdhgoeaaDoor
