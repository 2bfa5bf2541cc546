/- ShapeDeep. -/
import Derived.Test.YtmlkccbhdhgoeaaDoorT14g
import Derived.Test.YtmlkccbhdhgoeaaDoorT21g
import Derived.OpenShut
namespace Go.Proofs.YtmlkccbhdhgoeaaDoor
open Go Go.RowKit

theorem row_of {W : World} {b n : Nat} {k m : Int} {us : List M.Ty} {a : Option Addr} {cap : Nat} (h : W.heap[b]? = some (.cells #[.int .i64 k, .int .i64 m, .slice a us.length cap] 24 (0, 0))) (hb : b < n) (hL : LayT W n us (.slice a us.length cap)) : LayT W n [.mk k m us] (.slice (some ⟨b, 0, none⟩) 1 1) := by
  refine .row (ts := [.mk k m us]) (fun _ => .slice a us.length cap) hb (Nat.le_refl _) (by decide) ?_ ?_ ?_ ?_
  all_goals
    intro i k' m' us' e
    match i, e with
    | 0, e => cases e; first | exact hL | simp [World.cell?, h]

set_option maxRecDepth 100000 in
set_option maxHeartbeats 16000000 in
theorem sdeep_law (HS : Hid Shapes) (k n : Int) (ts : List M.Ty) (at_ : Option Addr) (ct : Nat) (x : Nat) (hx : x < 65536) (w : World) (hT : LayT w w.heap.size ts (.slice at_ ts.length ct)) :
    Calls Tryd.prog 7 #[tv k n (.slice at_ ts.length ct), .int .u16 x] w fun e w' => e = .returned (.bool true) ∧ Below w.heap.size w w' := by
  have HW := Lib.hid (fun W => sworks HS W)
  have G : Hid (∀ W, Below w.heap.size w W → LayT W W.heap.size ts (.slice at_ ts.length ct)) := Lib.hid fun W h => (hT.from_ h).mono h.size
  have vnil : ∀ W, Vl W W.heap.size 0 [] [] none 0 none 0 := fun W => ⟨by unfold M.In; omega, .nil_ (by decide), .nil_ (by decide)⟩
  have HFew : Hid (∀ W, Below w.heap.size w W → Calls Tryd.prog 9 #[tv k n (.slice at_ ts.length ct), .agg #[.int .u64 0, .int .u64 0, .int .u64 0, .int .u64 0, .slice none 0 0, .slice none 0 0, .int .i64 0]] W fun e w' => FewP e (.mk k n ts) (.mk 0 [] [] 0) ∧ Below W.heap.size W w') := Lib.hid fun W h => by
    have := sfew_any k n ts at_ ct 0 [] [] 0 none 0 none 0 W (G.out W h) (vnil W)
    rw [vv_0] at this
    exact this
  obtain ⟨y, hy⟩ : ∃ y : Nat, y = x % 512 + 1 := ⟨_, rfl⟩
  have hyx : (x : Int) % 512 + 1 = (y : Nat) := by omega
  have S1 := Lib.hid (fun W (h : Below w.heap.size w W) (h1 : M.cntT (.mk k n ts) ≤ 60) => HS.out.check k n ts at_ ct W (G.out W h) (by omega))
  have S2 : Hid (∀ b W, W.heap[b]? = some (.cells #[.int .i64 k, .int .i64 n, .slice at_ ts.length ct] 24 (0, 0)) → Below w.heap.size w W → M.cntT (.mk k n ts) ≤ 60 → Calls Tryd.prog 14 #[tv 4 y (.slice (some ⟨b, 0, none⟩) 1 1)] W fun e w' => e = .returned (.int .i64 (M.chkT 0 (.mk 4 y [.mk k n ts]) : Nat)) ∧ Below W.heap.size W w') := Lib.hid fun b W hr h h1 =>
    HS.out.check 4 y [.mk k n ts] _ 1 W (row_of hr (Array.getElem?_eq_some_iff.1 hr).1 (G.out W h)) (by simp only [M.cntT, M.cntTs] at h1 ⊢; omega)
  have S3 : Hid (∀ b W, W.heap[b]? = some (.cells #[.int .i64 k, .int .i64 n, .slice at_ ts.length ct] 24 (0, 0)) → Below w.heap.size w W → M.cntT (.mk k n ts) ≤ 60 → Calls Tryd.prog 19 #[tv 4 y (.slice (some ⟨b, 0, none⟩) 1 1), .agg #[.int .u64 0, .int .u64 0, .int .u64 0, .int .u64 0, .slice none 0 0, .slice none 0 0, .int .i64 0]] W fun e w' => e = .returned (.int .i64 (M.chkT 0 (.mk 4 y [.mk k n ts]) : Nat)) ∧ Below W.heap.size W w') := Lib.hid fun b W hr h h1 => by
    have := HS.out.fits 4 y [.mk k n ts] _ 1 0 [] [] 0 none 0 none 0 W (row_of hr (Array.getElem?_eq_some_iff.1 hr).1 (G.out W h)) (vnil W) (by simp only [M.cntT, M.cntTs] at h1 ⊢; omega) (by decide +kernel)
    rw [vv_0, M.fits_nil] at this
    exact this
  have hnone := Lib.hid (fun h => M.chkT_none (n := (y : Int)) (t := .mk k n ts) h)
  have hlist := Lib.hid (fun h => M.chkT_list (n := (y : Int)) (t := .mk k n ts) (by omega) h)
  generalize M.chkT 0 (.mk 4 y [.mk k n ts]) = f at *
  generalize M.chkT 0 (.mk k n ts) = e0 at *
  have hb0 : ∀ o, Below w.heap.size w (w.alloc o) := fun o => (Below.refl _ w).alloc (Nat.le_refl _) o
  clear hT G vnil hy
  go_enter Tryd.func7, Tryd.ntmps7
  go_wp2_with fail
  refine (HW.out _).mono ?_
  rintro e w1 ⟨rfl, hb1⟩
  have B1 := (hb0 _).trans (hb1.mono (by simp))
  have e1 := (bcell hb1).1
  go_wp2_with fail
  refine (HFew.out _ B1).mono ?_
  rintro e w2 ⟨hq, hb2⟩
  obtain ⟨q, rfl, hfew⟩ := hq.out
  have B2 := B1.trans (hb2.mono B1.size)
  have e2 := (bcell (hb1.trans (hb2.mono hb1.size))).1
  have HQ := Lib.hid hfew
  have hz2 : w.heap.size + 1 ≤ w2.heap.size := by have := (hb1.trans (hb2.mono hb1.size)).size; simpa using this
  have hbox : w2.heap[w.heap.size]? = some (.cells #[.int .i64 k, .int .i64 n, .slice at_ ts.length ct] 24 (0, 0)) := ((hb1.trans (hb2.mono hb1.size)).block _ (by simp)).trans (heap_alloc_new w _)
  clear hq hfew e1 hb2
  cases q with
  | false =>
    go_wp2_with fail
    go_ret
    exact ⟨rfl, B2⟩
  | true =>
  have h1 := (HQ.out rfl).1
  clear HQ
  have H1 := Lib.hid h1
  have g0 : w2.cell? ⟨w.heap.size, 0, none⟩ = some (.int .i64 k) := by simp [World.cell?, hbox]
  have g1 : w2.cell? ⟨w.heap.size, 1, none⟩ = some (.int .i64 n) := by simp [World.cell?, hbox]
  have g2 : w2.cell? ⟨w.heap.size, 2, none⟩ = some (.slice at_ ts.length ct) := by simp [World.cell?, hbox]
  have hb3 := two_boxes w2
  have i0 := fun o o' => ((hb3 o o').cell (p := ⟨w.heap.size, 0, none⟩) (by show w.heap.size < _; omega)).trans g0
  have i1 := fun o o' => ((hb3 o o').cell (p := ⟨w.heap.size, 1, none⟩) (by show w.heap.size < _; omega)).trans g1
  have i2 := fun o o' => ((hb3 o o').cell (p := ⟨w.heap.size, 2, none⟩) (by show w.heap.size < _; omega)).trans g2
  have hb3' := hb3
  clear e2 h1 hb3
  go_wp2_with fail
  obtain ⟨w3, hw3⟩ : ∃ w3, (w2.alloc (.cells #[.int .i64 k, .int .i64 n, .slice at_ ts.length ct] 24)).alloc (.cells #[.int .i64 4, .int .i64 y, .slice (some ⟨w2.heap.size, 0, none⟩) 1 1] 24) = w3 := ⟨_, rfl⟩
  have hb23 : Below w2.heap.size w2 w3 := by rw [← hw3]; exact hb3' _ _
  have hz3 : w3.heap.size = w2.heap.size + 2 := by rw [← hw3]; simp
  have hrow : w3.heap[w2.heap.size]? = some (.cells #[.int .i64 k, .int .i64 n, .slice at_ ts.length ct] 24 (0, 0)) := by
    rw [← hw3]
    exact (Below.heap_alloc _ _ _ (by simp)).trans (heap_alloc_new w2 _)
  have hin : w3.heap[w2.heap.size + 1]? = some (.cells #[.int .i64 4, .int .i64 y, .slice (some ⟨w2.heap.size, 0, none⟩) 1 1] 24 (0, 0)) := by
    rw [← hw3]
    have := heap_alloc_new (w2.alloc (.cells #[.int .i64 k, .int .i64 n, .slice at_ ts.length ct] 24)) (.cells #[.int .i64 4, .int .i64 y, .slice (some ⟨w2.heap.size, 0, none⟩) 1 1] 24)
    rwa [show (w2.alloc (.cells #[.int .i64 k, .int .i64 n, .slice at_ ts.length ct] 24)).heap.size = w2.heap.size + 1 by simp] at this
  have B3 := B2.trans (hb23.mono B2.size)
  rw [hw3]
  clear hw3 hb3' i0 i1 i2 g0 g1 g2 hbox
  refine (S1.out _ B3 H1.out).mono ?_
  rintro e w4 ⟨rfl, hb4⟩
  have B4 := B3.trans (hb4.mono B3.size)
  have hin4 := (hb4.block _ (by omega)).trans hin
  have hrow4 := (hb4.block _ (by omega)).trans hrow
  have j0 : w4.cell? ⟨w2.heap.size + 1, 0, none⟩ = some (.int .i64 4) := by simp [World.cell?, hin4]
  have j1 : w4.cell? ⟨w2.heap.size + 1, 1, none⟩ = some (.int .i64 y) := by simp [World.cell?, hin4]
  have j2 : w4.cell? ⟨w2.heap.size + 1, 2, none⟩ = some (.slice (some ⟨w2.heap.size, 0, none⟩) 1 1) := by simp [World.cell?, hin4]
  go_wp2_with fail
  refine (S2.out _ _ hrow4 B4 H1.out).mono ?_
  rintro e w5 ⟨rfl, hb5⟩
  have B5 := B4.trans (hb5.mono B4.size)
  have hsz4 := hb4.size
  have hin5 := (hb5.block _ (by omega)).trans hin4
  have hrow5 := (hb5.block _ (by omega)).trans hrow4
  have l0 : w5.cell? ⟨w2.heap.size + 1, 0, none⟩ = some (.int .i64 4) := by simp [World.cell?, hin5]
  have l1 : w5.cell? ⟨w2.heap.size + 1, 1, none⟩ = some (.int .i64 y) := by simp [World.cell?, hin5]
  have l2 : w5.cell? ⟨w2.heap.size + 1, 2, none⟩ = some (.slice (some ⟨w2.heap.size, 0, none⟩) 1 1) := by simp [World.cell?, hin5]
  clear j0 j1 j2 hb4 hb5 hin hin4 hrow hrow4 hb23
  by_cases he : e0 = 0
  · subst he
    rcases hlist.out rfl with hf | hf
    · subst hf
      go_wp2_with fail
      refine (S3.out _ _ hrow5 B5 H1.out).mono ?_
      rintro e w6 ⟨rfl, hb6⟩
      go_wp2_with fail
      go_ret
      exact ⟨rfl, B5.trans (hb6.mono B5.size)⟩
    · subst hf
      go_wp2_with fail
      refine (S3.out _ _ hrow5 B5 H1.out).mono ?_
      rintro e w6 ⟨rfl, hb6⟩
      go_wp2_with fail
      go_ret
      exact ⟨rfl, B5.trans (hb6.mono B5.size)⟩
  · have hf := hnone.out he
    have he' : ((e0 : Int) == 0) = false := by simp; omega
    have hf' : ((f : Int) == 0) = false := by simp; omega
    go_wp2_with fail
    refine (S3.out _ _ hrow5 B5 H1.out).mono ?_
    rintro e w6 ⟨rfl, hb6⟩
    go_wp2_with fail
    go_ret
    exact ⟨by simpa using hf, B5.trans (hb6.mono B5.size)⟩

open Go.ChangeShapes Go.WideShapes in
theorem sdeep_at (HS : Hid Shapes) (k n : Int) (ts : List M.Ty) (at_ : Option Addr) (ct : Nat) (x : Int) (w : World) (hx : (Lit.int .u16 x).wf = true) (hT : LayT w w.heap.size ts (.slice at_ ts.length ct)) :
    Calls Tryd.prog 7 #[tv k n (.slice at_ ts.length ct), .int .u16 x] w fun e w' => e = .returned (.bool true) ∧ Below w.heap.size w w' := by
  have h := bounds_u16 hx
  obtain ⟨y, rfl⟩ : ∃ y : Nat, x = y := ⟨x.toNat, by omega⟩
  exact sdeep_law HS k n ts at_ ct y (by omega) w hT
end Go.Proofs.YtmlkccbhdhgoeaaDoor
