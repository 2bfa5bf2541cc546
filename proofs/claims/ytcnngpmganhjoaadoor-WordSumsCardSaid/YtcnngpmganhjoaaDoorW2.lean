/- Contracts of word.Add and word.Sub over this seat's translation, from the model's entries for the library's carries. -/
import Derived.Test.YtcnngpmganhjoaaDoorW1
import Derived.RegionTactic
import Derived.BigRegion
import Derived.LoopTactic
import Derived.LoopN
namespace Go.Proofs.YtcnngpmganhjoaaDoor
open Go Go.RowKit

theorem bcell {W w1 : World} (hb : Below W.heap.size W w1) : (∀ b o, b < W.heap.size → w1.cell? ⟨b, o, none⟩ = W.cell? ⟨b, o, none⟩) ∧ (∀ b o, b < W.heap.size → w1.frozen? ⟨b, o, none⟩ = W.frozen? ⟨b, o, none⟩) :=
  ⟨fun b o h => hb.cell (p := ⟨b, o, none⟩) h, fun b o h => hb.frozen (p := ⟨b, o, none⟩) h⟩

set_option maxRecDepth 100000 in
set_option maxHeartbeats 1000000 in
theorem add_no_core (a0 a1 a2 a3 b0 b1 b2 b3 s0 s1 s2 s3 c1 c2 c3 c4 : Int) (w : World)
    (h0 : ∀ w, (callFunc 27 #[.int .u64 a0, .int .u64 b0, .int .u64 0]).run Tryd.prog w = .ok (.value (.tuple #[.int .u64 s0, .int .u64 c1])) w)
    (h1 : ∀ w, (callFunc 27 #[.int .u64 a1, .int .u64 b1, .int .u64 c1]).run Tryd.prog w = .ok (.value (.tuple #[.int .u64 s1, .int .u64 c2])) w)
    (h2 : ∀ w, (callFunc 27 #[.int .u64 a2, .int .u64 b2, .int .u64 c2]).run Tryd.prog w = .ok (.value (.tuple #[.int .u64 s2, .int .u64 c3])) w)
    (h3 : ∀ w, (callFunc 27 #[.int .u64 a3, .int .u64 b3, .int .u64 c3]).run Tryd.prog w = .ok (.value (.tuple #[.int .u64 s3, .int .u64 c4])) w)
    (hc : Hid ((c4 != 0) = false)) :
    Calls Tryd.prog 10 #[wd a0 a1 a2 a3, wd b0 b1 b2 b3] w fun e w' =>
      e = .returned (.tuple #[wd s0 s1 s2 s3, .int .i64 0]) ∧ Below w.heap.size w w' := by
  go_enter Tryd.func10, Tryd.ntmps10
  go_wp2_with fail
  refine wp_loop_rounds 5 ?_
  rw [rounds_succ]
  go_wp2_with fail
  go_region
  go_wp2_with fail
  rw [rounds_succ]
  go_wp2_with fail
  go_region
  go_wp2_with fail
  rw [rounds_succ]
  go_wp2_with fail
  go_region
  go_wp2_with fail
  rw [rounds_succ]
  go_wp2_with fail
  go_region
  go_wp2_with fail
  rw [rounds_succ]
  go_wp2_with fail
  refine (over_no s0 s1 s2 s3 c4 _ hc.out).mono ?_
  rintro e w1 ⟨rfl, hb⟩
  obtain ⟨hce, hfr⟩ := bcell hb
  go_wp2_with fail
  refine bodyPost_ret (v := .tuple #[wd s0 s1 s2 s3, .int .i64 0]) (by simp [results, Tryd.results10, go_sem, hce]) rfl ⟨rfl, ?_⟩
  refine Below.setCell (Below.setCell (Below.setCell (Below.setCell (Below.trans ?_ (hb.mono (by first | omega | (simp; omega) | simp))) (by first | omega | (simp; omega) | simp) _) (by first | omega | (simp; omega) | simp) _) (by first | omega | (simp; omega) | simp) _) (by first | omega | (simp; omega) | simp) _
  (repeat (first | exact Below.refl _ _ | refine Below.drew ?_ | refine Below.alloc ?_ (by first | omega | (simp; omega) | simp) _ | refine Below.setCell ?_ (by first | omega | (simp; omega) | simp) _))

set_option maxRecDepth 100000 in
set_option maxHeartbeats 1000000 in
theorem add_yes_core (a0 a1 a2 a3 b0 b1 b2 b3 s0 s1 s2 s3 c1 c2 c3 c4 : Int) (w : World)
    (h0 : ∀ w, (callFunc 27 #[.int .u64 a0, .int .u64 b0, .int .u64 0]).run Tryd.prog w = .ok (.value (.tuple #[.int .u64 s0, .int .u64 c1])) w)
    (h1 : ∀ w, (callFunc 27 #[.int .u64 a1, .int .u64 b1, .int .u64 c1]).run Tryd.prog w = .ok (.value (.tuple #[.int .u64 s1, .int .u64 c2])) w)
    (h2 : ∀ w, (callFunc 27 #[.int .u64 a2, .int .u64 b2, .int .u64 c2]).run Tryd.prog w = .ok (.value (.tuple #[.int .u64 s2, .int .u64 c3])) w)
    (h3 : ∀ w, (callFunc 27 #[.int .u64 a3, .int .u64 b3, .int .u64 c3]).run Tryd.prog w = .ok (.value (.tuple #[.int .u64 s3, .int .u64 c4])) w)
    (hc : Hid ((c4 != 0) = true)) :
    Calls Tryd.prog 10 #[wd a0 a1 a2 a3, wd b0 b1 b2 b3] w fun e w' =>
      e = .returned (.tuple #[wd 0 0 0 0, .int .i64 6]) ∧ Below w.heap.size w w' := by
  go_enter Tryd.func10, Tryd.ntmps10
  go_wp2_with fail
  refine wp_loop_rounds 5 ?_
  rw [rounds_succ]
  go_wp2_with fail
  go_region
  go_wp2_with fail
  rw [rounds_succ]
  go_wp2_with fail
  go_region
  go_wp2_with fail
  rw [rounds_succ]
  go_wp2_with fail
  go_region
  go_wp2_with fail
  rw [rounds_succ]
  go_wp2_with fail
  go_region
  go_wp2_with fail
  rw [rounds_succ]
  go_wp2_with fail
  refine (over_yes s0 s1 s2 s3 c4 _ hc.out).mono ?_
  rintro e w1 ⟨rfl, hb⟩
  obtain ⟨hce, hfr⟩ := bcell hb
  go_wp2_with fail
  refine bodyPost_ret (v := .tuple #[wd 0 0 0 0, .int .i64 6]) (by simp [results, Tryd.results10, go_sem, hce]) rfl ⟨rfl, ?_⟩
  refine Below.setCell (Below.setCell (Below.setCell (Below.setCell (Below.trans ?_ (hb.mono (by first | omega | (simp; omega) | simp))) (by first | omega | (simp; omega) | simp) _) (by first | omega | (simp; omega) | simp) _) (by first | omega | (simp; omega) | simp) _) (by first | omega | (simp; omega) | simp) _
  (repeat (first | exact Below.refl _ _ | refine Below.drew ?_ | refine Below.alloc ?_ (by first | omega | (simp; omega) | simp) _ | refine Below.setCell ?_ (by first | omega | (simp; omega) | simp) _))

set_option maxRecDepth 100000 in
set_option maxHeartbeats 1000000 in
theorem sub_no_core (a0 a1 a2 a3 b0 b1 b2 b3 s0 s1 s2 s3 c1 c2 c3 c4 : Int) (w : World)
    (h0 : ∀ w, (callFunc 31 #[.int .u64 a0, .int .u64 b0, .int .u64 0]).run Tryd.prog w = .ok (.value (.tuple #[.int .u64 s0, .int .u64 c1])) w)
    (h1 : ∀ w, (callFunc 31 #[.int .u64 a1, .int .u64 b1, .int .u64 c1]).run Tryd.prog w = .ok (.value (.tuple #[.int .u64 s1, .int .u64 c2])) w)
    (h2 : ∀ w, (callFunc 31 #[.int .u64 a2, .int .u64 b2, .int .u64 c2]).run Tryd.prog w = .ok (.value (.tuple #[.int .u64 s2, .int .u64 c3])) w)
    (h3 : ∀ w, (callFunc 31 #[.int .u64 a3, .int .u64 b3, .int .u64 c3]).run Tryd.prog w = .ok (.value (.tuple #[.int .u64 s3, .int .u64 c4])) w)
    (hc : Hid ((c4 != 0) = false)) :
    Calls Tryd.prog 12 #[wd a0 a1 a2 a3, wd b0 b1 b2 b3] w fun e w' =>
      e = .returned (.tuple #[wd s0 s1 s2 s3, .int .i64 0]) ∧ Below w.heap.size w w' := by
  go_enter Tryd.func12, Tryd.ntmps12
  go_wp2_with fail
  refine wp_loop_rounds 5 ?_
  rw [rounds_succ]
  go_wp2_with fail
  go_region
  go_wp2_with fail
  rw [rounds_succ]
  go_wp2_with fail
  go_region
  go_wp2_with fail
  rw [rounds_succ]
  go_wp2_with fail
  go_region
  go_wp2_with fail
  rw [rounds_succ]
  go_wp2_with fail
  go_region
  go_wp2_with fail
  rw [rounds_succ]
  go_wp2_with fail
  refine (over_no s0 s1 s2 s3 c4 _ hc.out).mono ?_
  rintro e w1 ⟨rfl, hb⟩
  obtain ⟨hce, hfr⟩ := bcell hb
  go_wp2_with fail
  refine bodyPost_ret (v := .tuple #[wd s0 s1 s2 s3, .int .i64 0]) (by simp [results, Tryd.results12, go_sem, hce]) rfl ⟨rfl, ?_⟩
  refine Below.setCell (Below.setCell (Below.setCell (Below.setCell (Below.trans ?_ (hb.mono (by first | omega | (simp; omega) | simp))) (by first | omega | (simp; omega) | simp) _) (by first | omega | (simp; omega) | simp) _) (by first | omega | (simp; omega) | simp) _) (by first | omega | (simp; omega) | simp) _
  (repeat (first | exact Below.refl _ _ | refine Below.drew ?_ | refine Below.alloc ?_ (by first | omega | (simp; omega) | simp) _ | refine Below.setCell ?_ (by first | omega | (simp; omega) | simp) _))

set_option maxRecDepth 100000 in
set_option maxHeartbeats 1000000 in
theorem sub_yes_core (a0 a1 a2 a3 b0 b1 b2 b3 s0 s1 s2 s3 c1 c2 c3 c4 : Int) (w : World)
    (h0 : ∀ w, (callFunc 31 #[.int .u64 a0, .int .u64 b0, .int .u64 0]).run Tryd.prog w = .ok (.value (.tuple #[.int .u64 s0, .int .u64 c1])) w)
    (h1 : ∀ w, (callFunc 31 #[.int .u64 a1, .int .u64 b1, .int .u64 c1]).run Tryd.prog w = .ok (.value (.tuple #[.int .u64 s1, .int .u64 c2])) w)
    (h2 : ∀ w, (callFunc 31 #[.int .u64 a2, .int .u64 b2, .int .u64 c2]).run Tryd.prog w = .ok (.value (.tuple #[.int .u64 s2, .int .u64 c3])) w)
    (h3 : ∀ w, (callFunc 31 #[.int .u64 a3, .int .u64 b3, .int .u64 c3]).run Tryd.prog w = .ok (.value (.tuple #[.int .u64 s3, .int .u64 c4])) w)
    (hc : Hid ((c4 != 0) = true)) :
    Calls Tryd.prog 12 #[wd a0 a1 a2 a3, wd b0 b1 b2 b3] w fun e w' =>
      e = .returned (.tuple #[wd 0 0 0 0, .int .i64 6]) ∧ Below w.heap.size w w' := by
  go_enter Tryd.func12, Tryd.ntmps12
  go_wp2_with fail
  refine wp_loop_rounds 5 ?_
  rw [rounds_succ]
  go_wp2_with fail
  go_region
  go_wp2_with fail
  rw [rounds_succ]
  go_wp2_with fail
  go_region
  go_wp2_with fail
  rw [rounds_succ]
  go_wp2_with fail
  go_region
  go_wp2_with fail
  rw [rounds_succ]
  go_wp2_with fail
  go_region
  go_wp2_with fail
  rw [rounds_succ]
  go_wp2_with fail
  refine (over_yes s0 s1 s2 s3 c4 _ hc.out).mono ?_
  rintro e w1 ⟨rfl, hb⟩
  obtain ⟨hce, hfr⟩ := bcell hb
  go_wp2_with fail
  refine bodyPost_ret (v := .tuple #[wd 0 0 0 0, .int .i64 6]) (by simp [results, Tryd.results12, go_sem, hce]) rfl ⟨rfl, ?_⟩
  refine Below.setCell (Below.setCell (Below.setCell (Below.setCell (Below.trans ?_ (hb.mono (by first | omega | (simp; omega) | simp))) (by first | omega | (simp; omega) | simp) _) (by first | omega | (simp; omega) | simp) _) (by first | omega | (simp; omega) | simp) _) (by first | omega | (simp; omega) | simp) _
  (repeat (first | exact Below.refl _ _ | refine Below.drew ?_ | refine Below.alloc ?_ (by first | omega | (simp; omega) | simp) _ | refine Below.setCell ?_ (by first | omega | (simp; omega) | simp) _))

theorem add_no (A B : Nat) (w : World) (hA : M.In A) (hB : M.In B) (h : M.In (A + B)) :
    Calls Tryd.prog 10 #[wn A, wn B] w fun e w' => e = .returned (.tuple #[wn (A + B), .int .i64 0]) ∧ Below w.heap.size w w' := by
  obtain ⟨hk, e0, e1, e2, e3⟩ := M.add_no hA hB h
  have := add_no_core _ _ _ _ _ _ _ _ _ _ _ _ (M.k1 A B) (M.k2 A B) (M.k3 A B) (M.k4 A B) w
    (add64_run (M.pt 0 A) (M.pt 0 B) 0 (M.pt_nonneg _ _) (M.pt_nonneg _ _) (by omega) (by omega))
    (add64_run (M.pt 1 A) (M.pt 1 B) (M.k1 A B) (M.pt_nonneg _ _) (M.pt_nonneg _ _) (M.k1_01 A B).1 (M.k1_01 A B).2)
    (add64_run (M.pt 2 A) (M.pt 2 B) (M.k2 A B) (M.pt_nonneg _ _) (M.pt_nonneg _ _) (M.k2_01 A B).1 (M.k2_01 A B).2)
    (add64_run (M.pt 3 A) (M.pt 3 B) (M.k3 A B) (M.pt_nonneg _ _) (M.pt_nonneg _ _) (M.k3_01 A B).1 (M.k3_01 A B).2) hk
  rw [e0, e1, e2, e3] at this
  exact this

theorem add_yes (A B : Nat) (w : World) (hA : M.In A) (hB : M.In B) (h : ¬ M.In (A + B)) :
    Calls Tryd.prog 10 #[wn A, wn B] w fun e w' => e = .returned (.tuple #[wd 0 0 0 0, .int .i64 6]) ∧ Below w.heap.size w w' :=
  add_yes_core _ _ _ _ _ _ _ _ _ _ _ _ (M.k1 A B) (M.k2 A B) (M.k3 A B) (M.k4 A B) w
    (add64_run (M.pt 0 A) (M.pt 0 B) 0 (M.pt_nonneg _ _) (M.pt_nonneg _ _) (by omega) (by omega))
    (add64_run (M.pt 1 A) (M.pt 1 B) (M.k1 A B) (M.pt_nonneg _ _) (M.pt_nonneg _ _) (M.k1_01 A B).1 (M.k1_01 A B).2)
    (add64_run (M.pt 2 A) (M.pt 2 B) (M.k2 A B) (M.pt_nonneg _ _) (M.pt_nonneg _ _) (M.k2_01 A B).1 (M.k2_01 A B).2)
    (add64_run (M.pt 3 A) (M.pt 3 B) (M.k3 A B) (M.pt_nonneg _ _) (M.pt_nonneg _ _) (M.k3_01 A B).1 (M.k3_01 A B).2) (M.add_yes hA hB h)

theorem sub_no (A B : Nat) (w : World) (hA : M.In A) (hB : M.In B) (h : B ≤ A) :
    Calls Tryd.prog 12 #[wn A, wn B] w fun e w' => e = .returned (.tuple #[wn (A - B), .int .i64 0]) ∧ Below w.heap.size w w' := by
  obtain ⟨hk, e0, e1, e2, e3⟩ := M.sub_no hA hB h
  have := sub_no_core _ _ _ _ _ _ _ _ _ _ _ _ (M.j1 A B) (M.j2 A B) (M.j3 A B) (M.j4 A B) w
    (sub64_run (M.pt 0 A) (M.pt 0 B) 0 (M.pt_nonneg _ _) (M.pt_nonneg _ _) (M.pt_lt _ _) (by omega) (by omega))
    (sub64_run (M.pt 1 A) (M.pt 1 B) (M.j1 A B) (M.pt_nonneg _ _) (M.pt_nonneg _ _) (M.pt_lt _ _) (M.j1_01 A B).1 (M.j1_01 A B).2)
    (sub64_run (M.pt 2 A) (M.pt 2 B) (M.j2 A B) (M.pt_nonneg _ _) (M.pt_nonneg _ _) (M.pt_lt _ _) (M.j2_01 A B).1 (M.j2_01 A B).2)
    (sub64_run (M.pt 3 A) (M.pt 3 B) (M.j3 A B) (M.pt_nonneg _ _) (M.pt_nonneg _ _) (M.pt_lt _ _) (M.j3_01 A B).1 (M.j3_01 A B).2) hk
  rw [e0, e1, e2, e3] at this
  exact this

theorem sub_yes (A B : Nat) (w : World) (hA : M.In A) (hB : M.In B) (h : A < B) :
    Calls Tryd.prog 12 #[wn A, wn B] w fun e w' => e = .returned (.tuple #[wd 0 0 0 0, .int .i64 6]) ∧ Below w.heap.size w w' :=
  sub_yes_core _ _ _ _ _ _ _ _ _ _ _ _ (M.j1 A B) (M.j2 A B) (M.j3 A B) (M.j4 A B) w
    (sub64_run (M.pt 0 A) (M.pt 0 B) 0 (M.pt_nonneg _ _) (M.pt_nonneg _ _) (M.pt_lt _ _) (by omega) (by omega))
    (sub64_run (M.pt 1 A) (M.pt 1 B) (M.j1 A B) (M.pt_nonneg _ _) (M.pt_nonneg _ _) (M.pt_lt _ _) (M.j1_01 A B).1 (M.j1_01 A B).2)
    (sub64_run (M.pt 2 A) (M.pt 2 B) (M.j2 A B) (M.pt_nonneg _ _) (M.pt_nonneg _ _) (M.pt_lt _ _) (M.j2_01 A B).1 (M.j2_01 A B).2)
    (sub64_run (M.pt 3 A) (M.pt 3 B) (M.j3 A B) (M.pt_nonneg _ _) (M.pt_nonneg _ _) (M.pt_lt _ _) (M.j3_01 A B).1 (M.j3_01 A B).2) (M.sub_yes hA hB h)
end Go.Proofs.YtcnngpmganhjoaaDoor
