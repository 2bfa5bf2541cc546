/- The look-up of a format; legal.Range, legal.Legal, reach.has. -/
import Derived.Test.YthlcjjfnnfifeaaEL3
namespace Go.Proofs.Ythlcjjfnnfifeaa
open Go Go.RowKit

theorem zero_reach (w : World) : (zeroValue 35).run Try.prog w = .ok (rV (0, 0)) w := by go_simp; rfl
theorem Tab13.look {W : World} {b : Nat} {D : DataW Value} (h : Tab13 W b D) {k v : Int} (hk : wfI k) (hv : wfI v) :
    (Instr.lookup 37 (.map (some b)) (.agg #[.int .i64 k, .int .i64 v]) true).run Try.prog W =
      .ok (.tuple #[.agg #[.int .i64 (M.rngA k v), .int .i64 (M.rngB k v)], .bool (M.span k v).isSome]) W := by
  obtain ⟨hA, es, clock, hb, F, _, hD⟩ := h
  have key := keyS hk hv
  rcases Maps.fit_look (R := Rv13) true fmtKeyed Try.underlying37 (zero_reach W) hb F key with ⟨h2, _, h3⟩ | ⟨e0, y, _, _, h3, h4, h5, _⟩
  · have hn : M.span k v = none := by
      cases hs : M.span k v with
      | none => rfl
      | some ab =>
        have h1 := hA.at_ _ (M.span_mem hs) .nil
        rw [hD] at h1
        have := (h3 .nil).symm.trans h1
        cases this
    unfold M.rngA M.rngB
    rw [hn]
    exact h2
  · cases h4
    cases hs : M.span k v with
    | none =>
      have h1 := hA.not_ (kL k v) .nil (fun p hp e => by
        obtain ⟨w1, w2⟩ := leg_wf p hp
        obtain ⟨e1, e2⟩ := kL_inj hk hv w1 w2 e
        exact M.span_none hs p hp ⟨e1.symm, e2.symm⟩)
      rw [hD] at h1
      have := (h5 .nil).symm.trans h1
      cases this
    | some ab =>
      have h1 := hA.at_ _ (M.span_mem hs) .nil
      rw [hD] at h1
      have h6 := (h5 .nil).symm.trans h1
      unfold M.rngA M.rngB
      rw [hs]
      rw [show e0.val = rV ab from DataW.held.inj h6] at h3
      exact h3

theorem wfI_in {k : Int} (h : wfI k) : -9223372036854775808 ≤ k ∧ k ≤ 9223372036854775807 := by
  unfold wfI at h
  simp [Lit.wf, IntKind.min, IntKind.max, IntKind.signed, IntKind.bits] at h
  omega

set_option maxRecDepth 100000 in
set_option maxHeartbeats 4000000 in
theorem has13_any (a b f : Int) (w : World) : Calls Try.prog 21 #[.agg #[.int .i64 a, .int .i64 b], .int .i64 f] w fun e w' => e = .returned (.bool (decide (a ≤ f) && decide (f ≤ b))) ∧ Below w.heap.size w w' := by
  go_enter Try.func21, Try.ntmps21
  by_cases h1 : a ≤ f
  · go_wp2_with fail
    go_ret
    exact ⟨by simp [h1], (Below.refl _ w).alloc (Nat.le_refl _) _⟩
  · go_wp2_with fail
    go_ret
    exact ⟨by simp [show decide (a ≤ f) = false from decide_eq_false (by omega)], (Below.refl _ w).alloc (Nat.le_refl _) _⟩

theorem below_drewN13 {B : Nat} {w W : World} (h : Below B w W) (n : Nat) : Below B w (W.drewN n) := ⟨h.os, h.tape, h.output, h.size, h.block⟩
theorem M.isSome_E (k v : Int) : (M.span k v).isSome = (M.rngE k v == 0) := by
  unfold M.rngE
  cases M.span k v <;> rfl
theorem M.lgl_eq (f k v : Int) : M.lgl f k v = ((M.span k v).isSome && (decide (M.rngA k v ≤ f) && decide (f ≤ M.rngB k v))) := by
  unfold M.lgl M.rngA M.rngB
  cases M.span k v <;> rfl

set_option maxRecDepth 100000 in
set_option maxHeartbeats 4000000 in
theorem range13_any (k v : Int) (hk : wfI k) (hv : wfI v) (w : World) : Calls Try.prog 8 #[.int .i64 k, .int .i64 v] w fun e w' =>
    e = .returned (.tuple #[.int .i64 (M.rngA k v), .int .i64 (M.rngB k v), .int .i64 (M.rngE k v)]) ∧ Below w.heap.size w w' := by
  have mixed : Try.prog.follows .mixedOrders = true := by kernel_rfl
  have HL := Lib.hid (fun (W : World) (b : Nat) (D : DataW Value) (hT : Tab13 W b D) => hT.look hk hv)
  have HE : Hid (M.rngE k v = if (M.span k v).isSome then 0 else 9) := Lib.hid (by unfold M.rngE; cases M.span k v <;> rfl)
  have HA : Hid ((M.span k v).isSome = false → M.rngA k v = 0 ∧ M.rngB k v = 0) := Lib.hid (by unfold M.rngA M.rngB; cases M.span k v <;> simp)
  rw [HE.out]
  clear HE
  cases hs : (M.span k v).isSome
  · obtain ⟨e1, e2⟩ := HA.out hs
    rw [hs, e1, e2] at HL
    rw [e1, e2]
    clear e1 e2 HA hs
    go_enter Try.func8, Try.ntmps8
    go_wp2_with fail
    refine (table13_any _).mono ?_
    rintro e w1 ⟨rfl, ⟨D, hT⟩, hb⟩
    have hl := HL.out _ _ _ hT
    clear hT
    go_wp2_with fail
    go_ret3
    exact ⟨rfl, hb.alloc hb.size _⟩
  · rw [hs] at HL
    clear HA hs
    generalize M.rngA k v = ra at *
    generalize M.rngB k v = rb at *
    go_enter Try.func8, Try.ntmps8
    go_wp2_with fail
    refine (table13_any _).mono ?_
    rintro e w1 ⟨rfl, ⟨D, hT⟩, hb⟩
    have hl := HL.out _ _ _ hT
    clear hT
    go_wp2_with fail
    go_quiet (fail)
    go_wp2_with fail
    go_ret3
    exact ⟨rfl, below_drewN13 (hb.alloc hb.size _) _⟩

set_option maxRecDepth 100000 in
set_option maxHeartbeats 4000000 in
theorem legal13_any (f k v : Int) (hk : wfI k) (hv : wfI v) (w : World) : Calls Try.prog 16 #[.int .i64 f, .int .i64 k, .int .i64 v] w fun e w' =>
    e = .returned (.bool (M.lgl f k v)) ∧ Below w.heap.size w w' := by
  have HL := Lib.hid (fun (W : World) (b : Nat) (D : DataW Value) (hT : Tab13 W b D) => hT.look hk hv)
  rw [M.lgl_eq f k v]
  have HT := Lib.hid has13_any
  generalize M.rngA k v = ra at *
  generalize M.rngB k v = rb at *
  cases hs : (M.span k v).isSome
  · rw [hs] at HL
    clear hs
    rw [Bool.false_and]
    go_enter Try.func16, Try.ntmps16
    go_wp2_with fail
    refine (table13_any _).mono ?_
    rintro e w1 ⟨rfl, ⟨D, hT⟩, hb⟩
    have hl := HL.out _ _ _ hT
    clear hT
    go_wp2_with fail
    go_ret
    exact ⟨rfl, hb.alloc hb.size _⟩
  · rw [hs] at HL
    clear hs
    rw [Bool.true_and]
    go_enter Try.func16, Try.ntmps16
    go_wp2_with fail
    refine (table13_any _).mono ?_
    rintro e w1 ⟨rfl, ⟨D, hT⟩, hb⟩
    have hl := HL.out _ _ _ hT
    clear hT
    go_wp2_with fail
    refine (HT.out _ _ _ _).mono ?_
    rintro e w2 ⟨rfl, hb2⟩
    go_wp2_with fail
    go_ret
    exact ⟨rfl, (hb.alloc hb.size _).trans (hb2.mono (by have := hb.size; simp; omega))⟩
end Go.Proofs.Ythlcjjfnnfifeaa
