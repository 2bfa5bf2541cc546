/- rlp.Check. -/
import Derived.Test.YtebkmlbpngpmdaaDoorD4g
import Derived.Test.YtebkmlbpngpmdaaDoorD9g
import Derived.Defers
import Derived.Recover
namespace Go.Proofs.YtebkmlbpngpmdaaDoor
open Go Go.RowKit

set_option maxRecDepth 100000 in
set_option maxHeartbeats 4000000 in
theorem catch_pan (p : Addr) (x : Value) (q : Nat) (w : World) (hc : w.cell? p = some x) (hz : w.frozen? p = false) :
    CallsD Tryd.prog 49 #[.pointer (some p)] (.panicking [{ v := .iface 39 (.int .i64 (q : Nat)), recovered := false }]) w fun e u' w' =>
      e = .returned (.tuple #[]) ∧ u' = .panicking [{ v := .iface 39 (.int .i64 (q : Nat)), recovered := true }] ∧ w' = w.setCell p (.int .i64 (q : Nat)) := by
  have hta : ∀ (v : Value) (w : World), (Instr.typeAssert (.iface 39 v) 20 39 false).run Tryd.prog w = .ok v w := fun v w => by
    simp [Instr.typeAssert, run_underlying Tryd.underlying39, go_sem, Result.andThen]
  refine callsD_of_wpS Tryd.func49 rfl fun c₀ cs hu => ?_
  apply wpS_seq
  apply wpS_region
  simp [wpOpsS, go_sem, recoverD, hu, Tryd.ntmps49, Exit.thenS]
  refine wpS_of_wp ?_
  simp only [Array.replicate_succ, Array.replicate_zero, List.push_toArray, List.append_toArray, List.nil_append, List.cons_append, List.setIfInBounds_toArray, List.set_cons_zero, List.set_cons_succ]
  go_wp2_with fail
  simp [bodyPostS, results, Tryd.results49]

theorem catch_idle (p : Addr) (w : World) :
    CallsD Tryd.prog 49 #[.pointer (some p)] .returning w fun e u' w' => e = .returned (.tuple #[]) ∧ u' = .returning ∧ w' = w := by
  refine callsD_of_wpS Tryd.func49 rfl fun c₀ cs hu => ?_
  apply wpS_seq
  apply wpS_region
  simp [wpOpsS, go_sem, recoverD, hu, Tryd.ntmps49, Exit.thenS]
  refine wpS_of_wp ?_
  simp only [Array.replicate_succ, Array.replicate_zero, List.push_toArray, List.append_toArray, List.nil_append, List.cons_append, List.setIfInBounds_toArray, List.set_cons_zero, List.set_cons_succ]
  go_wp2_with fail
  cases c₀
  simp_all [bodyPostS, results, Tryd.results49]

set_option maxRecDepth 100000 in
set_option maxHeartbeats 4000000 in
theorem check_any (l : Bool) (d : List UInt8) (xs : List M.It) (v : Value) (w : World) (hL : Lay w w.heap.size xs v) (hc : M.cntIs xs ≤ 4000) (hz : (M.bytesI (.mk l d xs)).length ≤ 4611686018427380000) :
    Calls Tryd.prog 27 #[iv l d v] w fun e w' => e = .returned (.int .i64 (M.checkI (.mk l d xs) : Nat)) ∧ Below w.heap.size w w' := by
  obtain ⟨a, cap, hv, _, _⟩ := hL.slice
  subst hv
  have hmf : ∀ (fn : Fn) (first cap : Array Value) (w : World), (Instr.makeFunc fn first cap).run Tryd.prog w = .ok (.func fn first cap) w := fun _ _ _ _ => rfl
  have hst : ∀ (W : World) (p : Addr) (F : Fn) (xa xb : Array Value), (W.cell? p).isSome = true → W.frozen? p = false → (store p (.func F xa xb)).run Tryd.prog W = .ok () (W.setCell p (.func F xa xb)) := by
    intro W p F xa xb h1 h2
    rw [run_store _ _ _ _ _ rfl]
    obtain ⟨x, hx⟩ := Option.isSome_iff_exists.1 h1
    rw [hx]
    simp [h2]
  obtain ⟨w0, hw0⟩ : ∃ w0, ((w.alloc (.cells #[.bool l, .string ⟨d.toArray⟩, .slice a xs.length cap] 30)).alloc (.cells #[.int .i64 0] 39)).alloc (.cells #[.func (.func 50) #[] #[.pointer (some ⟨w.heap.size + 1 + 1, 0, none⟩)]] 73) = w0 := ⟨_, rfl⟩
  have hb0 : Below w.heap.size w w0 := by rw [← hw0]; (repeat (first | exact Below.refl _ _ | refine Below.drew ?_ | refine Below.alloc ?_ (by first | omega | (simp; omega) | simp) _ | refine Below.setCell ?_ (by first | omega | (simp; omega) | simp) _))
  have hs0 : w0.heap.size = w.heap.size + 3 := by rw [← hw0]; simp
  have hB : Box w0 w.heap.size l d (.slice a xs.length cap) := by rw [← hw0]; exact ⟨by simp [go_sem], by simp [go_sem], by simp [go_sem]⟩
  have hr0 : w0.cell? ⟨w.heap.size + 1, 0, none⟩ = some (.int .i64 0) := by rw [← hw0]; simp [go_sem]
  have hf0 : w0.frozen? ⟨w.heap.size + 1, 0, none⟩ = false := by rw [← hw0]; simp [go_sem]
  have hl0 : w0.cell? ⟨w.heap.size + 1 + 1, 0, none⟩ = some (.func (.func 50) #[] #[.pointer (some ⟨w.heap.size + 1 + 1, 0, none⟩)]) := by rw [← hw0]; simp [go_sem]
  have HL := Lib.hid (look_n (w.heap.size + 1 + 1) _ l d xs _ w0 0 (Nat.le_refl _) ((hL.from_ hb0).mono (by omega)) hc (by omega) (by omega) hl0)
  have HS : Hid (∀ W, Below w0.heap.size w0 W → Calls Tryd.prog 53 #[iv l d (.slice a xs.length cap)] W fun e w' => e = .returned (.int .i64 ((M.bytesI (.mk l d xs)).length : Nat)) ∧ Below W.heap.size W w') :=
    fun W hb => size_any l d xs _ W ((hL.from_ (hb0.trans (hb.mono (by omega)))).mono (by have := hb.size; omega)) hc hz
  have hk : Hid (M.checkI (.mk l d xs) = if M.formI 0 (.mk l d xs) = 0 ∧ 65536 < (M.bytesI (.mk l d xs)).length then 5 else M.formI 0 (.mk l d xs)) := rfl
  generalize M.checkI (.mk l d xs) = c at *
  generalize M.formI 0 (.mk l d xs) = f at *
  generalize (M.bytesI (.mk l d xs)).length = s at *
  have HW := Lib.hid hw0
  clear hw0 hL hl0
  by_cases hf : f = 0
  · subst hf
    by_cases hlong : 65536 < s
    · have e : c = 5 := by rw [hk.out, if_pos ⟨rfl, hlong⟩]
      subst e
      go_enter_defers Tryd.func27, Tryd.ntmps27
      go_wp2_with fail
      rw [HW.out]
      refine HL.out.mono ?_
      rintro e w1 ⟨rfl, hb1⟩
      rw [orPan_0]
      have hB1 := hB.from_ hb1 (by omega)
      have x0 := hB1.c0
      have x1 := hB1.c1
      have x2 := hB1.c2
      go_wp2_with fail
      refine (HS.out _ hb1).mono ?_
      rintro e w2 ⟨rfl, hb2⟩
      go_wp2_with fail
      refine (giveUp_any 5 _ (by omega)).mono ?_
      rintro e w3 ⟨rfl, rfl⟩
      rw [orPan_ne (by omega)]
      go_wp2_with fail
      have hb3 : Below w0.heap.size w0 w3 := hb1.trans (hb2.mono hb1.size)
      obtain ⟨bc1, bc2⟩ := bcell hb3
      have y1 := (bc1 _ _ (show w.heap.size + 1 < w0.heap.size by omega)).trans hr0
      have y2 := (bc2 _ _ (show w.heap.size + 1 < w0.heap.size by omega)).trans hf0
      have hbq : Below w.heap.size w (w3.setCell ⟨w.heap.size + 1, 0, none⟩ (.int .i64 ((5 : Nat) : Int))) := (hb0.trans (hb3.mono (by omega))).setCell (by simp) _
      refine leaves_cons (f := 49) (args := #[.pointer (some ⟨w.heap.size + 1, 0, none⟩)]) (by simp) (by simp [go_sem]) ?_
      refine (catch_pan ⟨w.heap.size + 1, 0, none⟩ _ 5 _ y1 y2).mono ?_
      rintro e u' w4 ⟨rfl, rfl, rfl⟩
      have hrd : (w3.setCell ⟨w.heap.size + 1, 0, none⟩ (.int .i64 ((5 : Nat) : Int))).cell? ⟨w.heap.size + 1, 0, none⟩ = some (.int .i64 ((5 : Nat) : Int)) := World.cell?_setCell_same' _ _ _ (by rw [y1]; rfl)
      generalize w3.setCell ⟨w.heap.size + 1, 0, none⟩ (.int .i64 ((5 : Nat) : Int)) = w5 at *
      clear hb3 bc1 bc2 y1 y2
      simp [Leaves, settle, results, Tryd.results27, go_sem, hrd]
      exact hbq
    · have e : c = 0 := by rw [hk.out, if_neg (by omega)]
      subst e
      go_enter_defers Tryd.func27, Tryd.ntmps27
      go_wp2_with fail
      rw [HW.out]
      refine HL.out.mono ?_
      rintro e w1 ⟨rfl, hb1⟩
      rw [orPan_0]
      have hB1 := hB.from_ hb1 (by omega)
      have x0 := hB1.c0
      have x1 := hB1.c1
      have x2 := hB1.c2
      go_wp2_with fail
      refine (HS.out _ hb1).mono ?_
      rintro e w3 ⟨rfl, hb2⟩
      have hb3 : Below w0.heap.size w0 w3 := hb1.trans (hb2.mono hb1.size)
      obtain ⟨bc1, bc2⟩ := bcell hb3
      have y1 := (bc1 _ _ (show w.heap.size + 1 < w0.heap.size by omega)).trans hr0
      have y2 := (bc2 _ _ (show w.heap.size + 1 < w0.heap.size by omega)).trans hf0
      have hbq : Below w.heap.size w (w3.setCell ⟨w.heap.size + 1, 0, none⟩ (.int .i64 0)) := (hb0.trans (hb3.mono (by omega))).setCell (by simp) _
      clear bc1 bc2
      have hrd : (w3.setCell ⟨w.heap.size + 1, 0, none⟩ (.int .i64 0)).cell? ⟨w.heap.size + 1, 0, none⟩ = some (.int .i64 0) := World.cell?_setCell_same' _ _ _ (by rw [y1]; rfl)
      go_wp2_with fail
      generalize w3.setCell ⟨w.heap.size + 1, 0, none⟩ (.int .i64 0) = w5 at *
      refine leaves_cons (f := 49) (args := #[.pointer (some ⟨w.heap.size + 1, 0, none⟩)]) (by simp) (by simp [go_sem]) ?_
      refine (catch_idle ⟨w.heap.size + 1, 0, none⟩ _).mono ?_
      rintro e u' w4 ⟨rfl, rfl, rfl⟩
      clear hb3 y1 y2
      simp [Leaves, settle, results, Tryd.results27, go_sem, hrd]
      exact hbq
  · have e : c = f := by rw [hk.out, if_neg (by omega)]
    subst e
    go_enter_defers Tryd.func27, Tryd.ntmps27
    go_wp2_with fail
    rw [HW.out]
    refine HL.out.mono ?_
    rintro e w3 ⟨rfl, hb3⟩
    rw [orPan_ne hf]
    go_wp2_with fail
    obtain ⟨bc1, bc2⟩ := bcell hb3
    have y1 := (bc1 _ _ (show w.heap.size + 1 < w0.heap.size by omega)).trans hr0
    have y2 := (bc2 _ _ (show w.heap.size + 1 < w0.heap.size by omega)).trans hf0
    have hbq : Below w.heap.size w (w3.setCell ⟨w.heap.size + 1, 0, none⟩ (.int .i64 ((c : Nat) : Int))) := (hb0.trans (hb3.mono (by omega))).setCell (by simp) _
    refine leaves_cons (f := 49) (args := #[.pointer (some ⟨w.heap.size + 1, 0, none⟩)]) (by simp) (by simp [go_sem]) ?_
    refine (catch_pan ⟨w.heap.size + 1, 0, none⟩ _ c _ y1 y2).mono ?_
    rintro e u' w4 ⟨rfl, rfl, rfl⟩
    have hrd : (w3.setCell ⟨w.heap.size + 1, 0, none⟩ (.int .i64 ((c : Nat) : Int))).cell? ⟨w.heap.size + 1, 0, none⟩ = some (.int .i64 ((c : Nat) : Int)) := World.cell?_setCell_same' _ _ _ (by rw [y1]; rfl)
    generalize w3.setCell ⟨w.heap.size + 1, 0, none⟩ (.int .i64 ((c : Nat) : Int)) = w5 at *
    clear hb3 bc1 bc2 y1 y2
    simp [Leaves, settle, results, Tryd.results27, go_sem, hrd]
    exact hbq
end Go.Proofs.YtebkmlbpngpmdaaDoor
