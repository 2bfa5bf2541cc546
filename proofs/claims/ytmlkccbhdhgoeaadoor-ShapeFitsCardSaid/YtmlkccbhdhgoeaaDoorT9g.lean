/- The reference's of. -/
import Derived.Test.YtmlkccbhdhgoeaaDoorT8g
import Derived.Test.YtmlkccbhdhgoeaaDoorR2g
import Derived.Test.YtmlkccbhdhgoeaaDoorB3g
namespace Go.Proofs.YtmlkccbhdhgoeaaDoor
open Go Go.RowKit

set_option maxRecDepth 100000 in
set_option maxHeartbeats 4000000 in
theorem tof_2 (n : Int) (m : Nat) (at_ : Option Addr) (ct : Nat) (N : Nat) (hN : M.In N) (bs : List Bool) (us : List M.Va) (p : Int) (ab : Option Addr) (cb : Nat) (a : Option Addr) (cap : Nat) (w : World) :
    Calls Tryd.prog 67 #[tv 2 n (.slice at_ m ct), vv N (.slice ab bs.length cb) (.slice a us.length cap) p] w fun e w' => e = .returned (.bool (M.ofV 2 n m (.mk N bs us p))) ∧ Below w.heap.size w w' := by
  have hb0 : ∀ o o', Below w.heap.size w ((w.alloc o).alloc o') := fun o o' => ((Below.refl _ w).alloc (Nat.le_refl _) o).alloc (by simp) o'
  have HO := Lib.hid (fun W => ronly_num N hN bs.length us.length p ab cb a cap W)
  have he0 := fun W => eq_nought hN W
  have he1 := fun W => eq_one hN W
  generalize hq : (bs.length == 0 && us.length == 0 && p == 0) = q at HO
  cases q with
  | false =>
    have E : Hid (M.ofV 2 n m (.mk N bs us p) = false) := by show _ = _; simp_all [M.ofV]
    clear hq
    go_enter Tryd.func67, Tryd.ntmps67
    go_wp2_with fail
    refine (HO.out _).mono ?_
    rintro e w1 ⟨rfl, hb1⟩
    obtain ⟨hce, hfr⟩ := bcell hb1
    go_wp2_with fail
    go_ret
    rw [E.out]
    exact ⟨rfl, (hb0 _ _).trans (hb1.mono (by first | omega | (simp; omega) | simp))⟩
  | true =>
    have HQ := Lib.hid hq
    clear hq
    go_enter Tryd.func67, Tryd.ntmps67
    go_wp2_with fail
    refine (HO.out _).mono ?_
    rintro e w1 ⟨rfl, hb1⟩
    obtain ⟨hce, hfr⟩ := bcell hb1
    go_wp2_with fail
    all_goals go_ret
    all_goals refine ⟨?_, (hb0 _ _).trans (hb1.mono (by first | omega | (simp; omega) | simp))⟩
    all_goals have hq := HQ.out
    all_goals simp_all [M.ofV]
    all_goals first | omega | (rw [Bool.eq_iff_iff]; simp; done) | (rw [Bool.eq_iff_iff]; simp; omega)

set_option maxRecDepth 100000 in
set_option maxHeartbeats 4000000 in
theorem tof_3 (n : Int) (m : Nat) (at_ : Option Addr) (ct : Nat) (N : Nat) (hN : M.In N) (bs : List Bool) (us : List M.Va) (p : Int) (ab : Option Addr) (cb : Nat) (a : Option Addr) (cap : Nat) (w : World) :
    Calls Tryd.prog 67 #[tv 3 n (.slice at_ m ct), vv N (.slice ab bs.length cb) (.slice a us.length cap) p] w fun e w' => e = .returned (.bool (M.ofV 3 n m (.mk N bs us p))) ∧ Below w.heap.size w w' := by
  have hb0 : ∀ o o', Below w.heap.size w ((w.alloc o).alloc o') := fun o o' => ((Below.refl _ w).alloc (Nat.le_refl _) o).alloc (by simp) o'
  have HO := Lib.hid (fun W => ronly_items N hN bs.length us.length p ab cb a cap W)
  generalize hq : (N == 0 && bs.length == 0 && p == 0) = q at HO
  cases q with
  | false =>
    have E : Hid (M.ofV 3 n m (.mk N bs us p) = false) := by show _ = _; simp_all [M.ofV]
    clear hq
    go_enter Tryd.func67, Tryd.ntmps67
    go_wp2_with fail
    refine (HO.out _).mono ?_
    rintro e w1 ⟨rfl, hb1⟩
    obtain ⟨hce, hfr⟩ := bcell hb1
    go_wp2_with fail
    go_ret
    rw [E.out]
    exact ⟨rfl, (hb0 _ _).trans (hb1.mono (by first | omega | (simp; omega) | simp))⟩
  | true =>
    have HQ := Lib.hid hq
    clear hq
    go_enter Tryd.func67, Tryd.ntmps67
    go_wp2_with fail
    refine (HO.out _).mono ?_
    rintro e w1 ⟨rfl, hb1⟩
    obtain ⟨hce, hfr⟩ := bcell hb1
    go_wp2_with fail
    all_goals go_ret
    all_goals refine ⟨?_, (hb0 _ _).trans (hb1.mono (by first | omega | (simp; omega) | simp))⟩
    all_goals have hq := HQ.out
    all_goals simp_all [M.ofV]
    all_goals first | omega | (rw [Bool.eq_iff_iff]; simp; done) | (rw [Bool.eq_iff_iff]; simp; omega)

set_option maxRecDepth 100000 in
set_option maxHeartbeats 4000000 in
theorem tof_4 (n : Int) (m : Nat) (at_ : Option Addr) (ct : Nat) (N : Nat) (hN : M.In N) (bs : List Bool) (us : List M.Va) (p : Int) (ab : Option Addr) (cb : Nat) (a : Option Addr) (cap : Nat) (w : World) :
    Calls Tryd.prog 67 #[tv 4 n (.slice at_ m ct), vv N (.slice ab bs.length cb) (.slice a us.length cap) p] w fun e w' => e = .returned (.bool (M.ofV 4 n m (.mk N bs us p))) ∧ Below w.heap.size w w' := by
  have hb0 : ∀ o o', Below w.heap.size w ((w.alloc o).alloc o') := fun o o' => ((Below.refl _ w).alloc (Nat.le_refl _) o).alloc (by simp) o'
  have HO := Lib.hid (fun W => ronly_items N hN bs.length us.length p ab cb a cap W)
  generalize hq : (N == 0 && bs.length == 0 && p == 0) = q at HO
  cases q with
  | false =>
    have E : Hid (M.ofV 4 n m (.mk N bs us p) = false) := by show _ = _; simp_all [M.ofV]
    clear hq
    go_enter Tryd.func67, Tryd.ntmps67
    go_wp2_with fail
    refine (HO.out _).mono ?_
    rintro e w1 ⟨rfl, hb1⟩
    obtain ⟨hce, hfr⟩ := bcell hb1
    go_wp2_with fail
    go_ret
    rw [E.out]
    exact ⟨rfl, (hb0 _ _).trans (hb1.mono (by first | omega | (simp; omega) | simp))⟩
  | true =>
    have HQ := Lib.hid hq
    clear hq
    go_enter Tryd.func67, Tryd.ntmps67
    go_wp2_with fail
    refine (HO.out _).mono ?_
    rintro e w1 ⟨rfl, hb1⟩
    obtain ⟨hce, hfr⟩ := bcell hb1
    go_wp2_with fail
    all_goals go_ret
    all_goals refine ⟨?_, (hb0 _ _).trans (hb1.mono (by first | omega | (simp; omega) | simp))⟩
    all_goals have hq := HQ.out
    all_goals simp_all [M.ofV]
    all_goals first | omega | (rw [Bool.eq_iff_iff]; simp; done) | (rw [Bool.eq_iff_iff]; simp; omega)

set_option maxRecDepth 100000 in
set_option maxHeartbeats 4000000 in
theorem tof_5 (n : Int) (m : Nat) (at_ : Option Addr) (ct : Nat) (N : Nat) (hN : M.In N) (bs : List Bool) (us : List M.Va) (p : Int) (ab : Option Addr) (cb : Nat) (a : Option Addr) (cap : Nat) (w : World) :
    Calls Tryd.prog 67 #[tv 5 n (.slice at_ m ct), vv N (.slice ab bs.length cb) (.slice a us.length cap) p] w fun e w' => e = .returned (.bool (M.ofV 5 n m (.mk N bs us p))) ∧ Below w.heap.size w w' := by
  have hb0 : ∀ o o', Below w.heap.size w ((w.alloc o).alloc o') := fun o o' => ((Below.refl _ w).alloc (Nat.le_refl _) o).alloc (by simp) o'
  have HO := Lib.hid (fun W => ronly_bits N hN bs.length us.length p ab cb a cap W)
  generalize hq : (N == 0 && us.length == 0 && p == 0) = q at HO
  cases q with
  | false =>
    have E : Hid (M.ofV 5 n m (.mk N bs us p) = false) := by show _ = _; simp_all [M.ofV]
    clear hq
    go_enter Tryd.func67, Tryd.ntmps67
    go_wp2_with fail
    refine (HO.out _).mono ?_
    rintro e w1 ⟨rfl, hb1⟩
    obtain ⟨hce, hfr⟩ := bcell hb1
    go_wp2_with fail
    go_ret
    rw [E.out]
    exact ⟨rfl, (hb0 _ _).trans (hb1.mono (by first | omega | (simp; omega) | simp))⟩
  | true =>
    have HQ := Lib.hid hq
    clear hq
    go_enter Tryd.func67, Tryd.ntmps67
    go_wp2_with fail
    refine (HO.out _).mono ?_
    rintro e w1 ⟨rfl, hb1⟩
    obtain ⟨hce, hfr⟩ := bcell hb1
    go_wp2_with fail
    all_goals go_ret
    all_goals refine ⟨?_, (hb0 _ _).trans (hb1.mono (by first | omega | (simp; omega) | simp))⟩
    all_goals have hq := HQ.out
    all_goals simp_all [M.ofV]
    all_goals first | omega | (rw [Bool.eq_iff_iff]; simp; done) | (rw [Bool.eq_iff_iff]; simp; omega)

set_option maxRecDepth 100000 in
set_option maxHeartbeats 4000000 in
theorem tof_6 (n : Int) (m : Nat) (at_ : Option Addr) (ct : Nat) (N : Nat) (hN : M.In N) (bs : List Bool) (us : List M.Va) (p : Int) (ab : Option Addr) (cb : Nat) (a : Option Addr) (cap : Nat) (w : World) :
    Calls Tryd.prog 67 #[tv 6 n (.slice at_ m ct), vv N (.slice ab bs.length cb) (.slice a us.length cap) p] w fun e w' => e = .returned (.bool (M.ofV 6 n m (.mk N bs us p))) ∧ Below w.heap.size w w' := by
  have hb0 : ∀ o o', Below w.heap.size w ((w.alloc o).alloc o') := fun o o' => ((Below.refl _ w).alloc (Nat.le_refl _) o).alloc (by simp) o'
  have HO := Lib.hid (fun W => ronly_bits N hN bs.length us.length p ab cb a cap W)
  generalize hq : (N == 0 && us.length == 0 && p == 0) = q at HO
  cases q with
  | false =>
    have E : Hid (M.ofV 6 n m (.mk N bs us p) = false) := by show _ = _; simp_all [M.ofV]
    clear hq
    go_enter Tryd.func67, Tryd.ntmps67
    go_wp2_with fail
    refine (HO.out _).mono ?_
    rintro e w1 ⟨rfl, hb1⟩
    obtain ⟨hce, hfr⟩ := bcell hb1
    go_wp2_with fail
    go_ret
    rw [E.out]
    exact ⟨rfl, (hb0 _ _).trans (hb1.mono (by first | omega | (simp; omega) | simp))⟩
  | true =>
    have HQ := Lib.hid hq
    clear hq
    go_enter Tryd.func67, Tryd.ntmps67
    go_wp2_with fail
    refine (HO.out _).mono ?_
    rintro e w1 ⟨rfl, hb1⟩
    obtain ⟨hce, hfr⟩ := bcell hb1
    go_wp2_with fail
    all_goals go_ret
    all_goals refine ⟨?_, (hb0 _ _).trans (hb1.mono (by first | omega | (simp; omega) | simp))⟩
    all_goals have hq := HQ.out
    all_goals simp_all [M.ofV]
    all_goals first | omega | (rw [Bool.eq_iff_iff]; simp; done) | (rw [Bool.eq_iff_iff]; simp; omega)

set_option maxRecDepth 100000 in
set_option maxHeartbeats 4000000 in
theorem tof_7 (n : Int) (m : Nat) (at_ : Option Addr) (ct : Nat) (N : Nat) (hN : M.In N) (bs : List Bool) (us : List M.Va) (p : Int) (ab : Option Addr) (cb : Nat) (a : Option Addr) (cap : Nat) (w : World) :
    Calls Tryd.prog 67 #[tv 7 n (.slice at_ m ct), vv N (.slice ab bs.length cb) (.slice a us.length cap) p] w fun e w' => e = .returned (.bool (M.ofV 7 n m (.mk N bs us p))) ∧ Below w.heap.size w w' := by
  have hb0 : ∀ o o', Below w.heap.size w ((w.alloc o).alloc o') := fun o o' => ((Below.refl _ w).alloc (Nat.le_refl _) o).alloc (by simp) o'
  have HO := Lib.hid (fun W => ronly_items N hN bs.length us.length p ab cb a cap W)
  generalize hq : (N == 0 && bs.length == 0 && p == 0) = q at HO
  cases q with
  | false =>
    have E : Hid (M.ofV 7 n m (.mk N bs us p) = false) := by show _ = _; simp_all [M.ofV]
    clear hq
    go_enter Tryd.func67, Tryd.ntmps67
    go_wp2_with fail
    refine (HO.out _).mono ?_
    rintro e w1 ⟨rfl, hb1⟩
    obtain ⟨hce, hfr⟩ := bcell hb1
    go_wp2_with fail
    go_ret
    rw [E.out]
    exact ⟨rfl, (hb0 _ _).trans (hb1.mono (by first | omega | (simp; omega) | simp))⟩
  | true =>
    have HQ := Lib.hid hq
    clear hq
    go_enter Tryd.func67, Tryd.ntmps67
    go_wp2_with fail
    refine (HO.out _).mono ?_
    rintro e w1 ⟨rfl, hb1⟩
    obtain ⟨hce, hfr⟩ := bcell hb1
    go_wp2_with fail
    all_goals go_ret
    all_goals refine ⟨?_, (hb0 _ _).trans (hb1.mono (by first | omega | (simp; omega) | simp))⟩
    all_goals have hq := HQ.out
    all_goals simp_all [M.ofV]
    all_goals first | omega | (rw [Bool.eq_iff_iff]; simp; done) | (rw [Bool.eq_iff_iff]; simp; omega)

set_option maxRecDepth 100000 in
set_option maxHeartbeats 4000000 in
theorem tof_8 (k n : Int) (m : Nat) (at_ : Option Addr) (ct : Nat) (N : Nat) (hN : M.In N) (bs : List Bool) (us : List M.Va) (p : Int) (ab : Option Addr) (cb : Nat) (a : Option Addr) (cap : Nat) (w : World) (h1 : ¬ k = 1) (h2 : ¬ k = 2) (h3 : ¬ k = 3) (h4 : ¬ k = 4) (h5 : ¬ k = 5) (h6 : ¬ k = 6) (h7 : ¬ k = 7) :
    Calls Tryd.prog 67 #[tv k n (.slice at_ m ct), vv N (.slice ab bs.length cb) (.slice a us.length cap) p] w fun e w' => e = .returned (.bool (M.ofV k n m (.mk N bs us p))) ∧ Below w.heap.size w w' := by
  have hb0 : ∀ o o', Below w.heap.size w ((w.alloc o).alloc o') := fun o o' => ((Below.refl _ w).alloc (Nat.le_refl _) o).alloc (by simp) o'
  have HO := Lib.hid (fun W => ronly_pick N hN bs.length us.length p ab cb a cap W)
  have b1 : (k == 1) = false := by simpa using h1
  have b2 : (k == 2) = false := by simpa using h2
  have b3 : (k == 3) = false := by simpa using h3
  have b4 : (k == 4) = false := by simpa using h4
  have b5 : (k == 5) = false := by simpa using h5
  have b6 : (k == 6) = false := by simpa using h6
  have b7 : (k == 7) = false := by simpa using h7
  generalize hq : (N == 0 && bs.length == 0) = q at HO
  cases q with
  | false =>
    have E : Hid (M.ofV k n m (.mk N bs us p) = false) := by show _ = _; simp_all [M.ofV]
    clear hq
    go_enter Tryd.func67, Tryd.ntmps67
    go_wp2_with fail
    refine (HO.out _).mono ?_
    rintro e w1 ⟨rfl, hb1⟩
    obtain ⟨hce, hfr⟩ := bcell hb1
    go_wp2_with fail
    go_ret
    rw [E.out]
    exact ⟨rfl, (hb0 _ _).trans (hb1.mono (by first | omega | (simp; omega) | simp))⟩
  | true =>
    have HQ := Lib.hid hq
    clear hq
    go_enter Tryd.func67, Tryd.ntmps67
    go_wp2_with fail
    refine (HO.out _).mono ?_
    rintro e w1 ⟨rfl, hb1⟩
    obtain ⟨hce, hfr⟩ := bcell hb1
    go_wp2_with fail
    all_goals go_ret
    all_goals refine ⟨?_, (hb0 _ _).trans (hb1.mono (by first | omega | (simp; omega) | simp))⟩
    all_goals have hq := HQ.out
    all_goals simp_all [M.ofV]
    all_goals first | omega | (rw [Bool.eq_iff_iff]; simp; done) | (rw [Bool.eq_iff_iff]; simp; omega)

end Go.Proofs.YtmlkccbhdhgoeaaDoor
