/- works: the chapter's example; the laws of legal. -/
import Derived.Test.YthlcjjfnnfifeaaEL8
namespace Go.Proofs.Ythlcjjfnnfifeaa
open Go Go.RowKit

theorem lits13 (W : World) (v : Value) (xs : List Int) (h6 : xs.length ≤ 6) (hv : Zs W W.heap.size xs v) : ∃ va vc, v = .slice va xs.length vc ∧ ∀ w7, w7 = W.alloc (.cells (xs.map (Value.int .i64)).toArray 3) →
    Calls Try.prog 11 #[.slice va xs.length vc, .slice (some ⟨W.heap.size, 0, none⟩) xs.length xs.length] w7 fun e w' => e = .returned (.bool true) ∧ Below w7.heap.size w7 w' := by
  obtain ⟨va, vc, rfl⟩ := hv.slice
  refine ⟨va, vc, rfl, ?_⟩
  rintro w7 rfl
  exact ints_any xs va _ vc _ _ h6 ((hv.from_ ((Below.refl _ _).alloc (Nat.le_refl _) _)).mono (by simp)) ((Zs.made W xs).mono (by simp))

set_option maxRecDepth 100000 in
set_option maxHeartbeats 8000000 in
theorem works13 (w : World) : Calls Try.prog 7 #[] w fun e w' => e = .returned (.bool true) ∧ Below w.heap.size w w' := by
  have wf : ∀ k : Int, 0 ≤ k → k ≤ 126 → wfI k := fun k h1 h2 => by unfold wfI; simp [Lit.wf, IntKind.min, IntKind.max, IntKind.signed, IntKind.bits]; omega
  have R1 := Lib.hid (range13_any 5 0 (wf _ (by decide) (by decide)) (wf _ (by decide) (by decide)))
  have R2 := Lib.hid (range13_any 5 2 (wf _ (by decide) (by decide)) (wf _ (by decide) (by decide)))
  have V1 := Lib.hid (versions13_any 3 3)
  have V2 := Lib.hid (versions13_any 5 1)
  have L1 := Lib.hid (latest13_any 4 4)
  have L2 := Lib.hid (latest13_any 6 4)
  have G1 := Lib.hid (legal13_any 1 2 1 (wf _ (by decide) (by decide)) (wf _ (by decide) (by decide)))
  have G2 := Lib.hid (legal13_any 2 2 1 (wf _ (by decide) (by decide)) (wf _ (by decide) (by decide)))
  rw [show M.rngA 5 0 = 0 by decide, show M.rngB 5 0 = 4 by decide, show M.rngE 5 0 = 0 by decide] at R1
  rw [show M.rngA 5 2 = 0 by decide, show M.rngB 5 2 = 0 by decide, show M.rngE 5 2 = 9 by decide] at R2
  rw [show M.vers 3 3 = [0, 1] by decide] at V1
  rw [show M.vers 5 1 = [0, 1, 2, 4, 126] by decide] at V2
  rw [show M.ltsV 4 4 = 2 by decide, show M.ltsE 4 4 = 0 by decide] at L1
  rw [show M.ltsV 6 4 = 0 by decide, show M.ltsE 6 4 = 10 by decide] at L2
  rw [show M.lgl 1 2 1 = true by decide] at G1
  rw [show M.lgl 2 2 1 = false by decide] at G2
  clear wf
  go_enter Try.func7, Try.ntmps7
  go_wp2_with fail
  refine (R1.out _).mono ?_
  rintro e w1 ⟨rfl, b1⟩
  go_wp2_with fail
  refine (R2.out _).mono ?_
  rintro e w2 ⟨rfl, hb⟩
  have b2 := b1.trans (hb.mono b1.size)
  clear hb b1
  go_wp2_with fail
  refine (V1.out _).mono ?_
  rintro e w3 ⟨v, rfl, hv, hb⟩
  have b3 := b2.trans (hb.mono b2.size)
  clear hb b2
  obtain ⟨va, vc, rfl, hi⟩ := lits13 w3 v _ (by decide) hv
  have HI := Lib.hid hi
  clear hi hv
  go_wp2_with fail
  refine (HI.out _ rfl).mono ?_
  rintro e w4 ⟨rfl, hb⟩
  have b4 := (b3.alloc b3.size (.cells #[.int .i64 0, .int .i64 1] 3)).trans (hb.mono (by have := b3.size; simp; omega))
  clear hb b3
  go_wp2_with fail
  refine (V2.out _).mono ?_
  rintro e w5 ⟨v, rfl, hv, hb⟩
  have b5 := b4.trans (hb.mono b4.size)
  clear hb b4
  obtain ⟨va, vc, rfl, hi⟩ := lits13 w5 v _ (by decide) hv
  have HI := Lib.hid hi
  clear hi hv
  go_wp2_with fail
  refine (HI.out _ rfl).mono ?_
  rintro e w6 ⟨rfl, hb⟩
  have b6 := (b5.alloc b5.size (.cells #[.int .i64 0, .int .i64 1, .int .i64 2, .int .i64 4, .int .i64 126] 3)).trans (hb.mono (by have := b5.size; simp; omega))
  clear hb b5
  go_wp2_with fail
  refine (L1.out _).mono ?_
  rintro e w7 ⟨rfl, hb⟩
  have b7 := b6.trans (hb.mono b6.size)
  clear hb b6
  go_wp2_with fail
  refine (L2.out _).mono ?_
  rintro e w8 ⟨rfl, hb⟩
  have b8 := b7.trans (hb.mono b7.size)
  clear hb b7
  go_wp2_with fail
  refine (G1.out _).mono ?_
  rintro e w9 ⟨rfl, hb⟩
  have b9 := b8.trans (hb.mono b8.size)
  clear hb b8
  go_wp2_with fail
  refine (G2.out _).mono ?_
  rintro e w10 ⟨rfl, hb⟩
  have b10 := b9.trans (hb.mono b9.size)
  clear hb b9
  go_wp2_with fail
  go_ret
  exact ⟨rfl, b10⟩
end Go.Proofs.Ythlcjjfnnfifeaa
