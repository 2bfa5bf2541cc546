/- The law LegalEach. -/
import Derived.Test.YthlcjjfnnfifeaaELA
namespace Go.Proofs.Ythlcjjfnnfifeaa
open Go Go.RowKit

theorem M.vers_at {f k : Int} {i : Nat} (h : i < (M.vers f k).length) : M.lgl f k (M.gi (M.vers f k) i) = true := by
  have h1 := M.gi_some h
  exact M.mem_vers.1 (List.mem_of_getElem? h1)
theorem M.vers_up {f k : Int} {i : Nat} (h : i + 1 < (M.vers f k).length) : M.gi (M.vers f k) i < M.gi (M.vers f k) (i + 1) := by
  have h1 := List.pairwise_iff_getElem.1 (M.vers_lt f k) i (i + 1) (by omega) h (by omega)
  rw [M.gi_get h, M.gi_get (by omega : i < (M.vers f k).length)]
  exact h1
theorem M.vers_some (f k : Int) : (0 ≤ f ∧ f ≤ 5 ∧ 1 ≤ k ∧ k ≤ 5 → M.vers f k ≠ []) ∧ (M.vers f k ≠ [] → 0 ≤ f ∧ f ≤ 5 ∧ 1 ≤ k ∧ k ≤ 5) := by
  refine ⟨fun ⟨h1, h2, h3, h4⟩ => ?_, fun h => ?_⟩
  · have hf : f = 0 ∨ f = 1 ∨ f = 2 ∨ f = 3 ∨ f = 4 ∨ f = 5 := by omega
    have hk : k = 1 ∨ k = 2 ∨ k = 3 ∨ k = 4 ∨ k = 5 := by omega
    rcases hf with rfl | rfl | rfl | rfl | rfl | rfl <;> rcases hk with rfl | rfl | rfl | rfl | rfl <;> decide +kernel
  · obtain ⟨v, hv⟩ := List.exists_mem_of_ne_nil _ h
    obtain ⟨a, b, hs, h1, h2⟩ := M.lgl_span (M.mem_vers.1 hv)
    have hm := M.span_mem hs
    have hr := M.leg_rng _ hm
    have hk : 1 ≤ k ∧ k ≤ 5 := by
      have : ∀ p ∈ M.legT, 1 ≤ p.1 ∧ p.1 ≤ 5 := by decide
      exact this _ hm
    dsimp only at hr
    omega

set_option maxRecDepth 100000 in
set_option maxHeartbeats 8000000 in
theorem leach_law (f k : Int) (w : World) : Calls Try.prog 5 #[.int .i64 f, .int .i64 k] w fun e w' => e = .returned (.bool true) ∧ Below w.heap.size w w' := by
  have mixed : Try.prog.follows .mixedOrders = true := by kernel_rfl
  have V1 := Lib.hid (versions13_any f k)
  have L1 := Lib.hid (latest13_any f k)
  have h5 := M.vers_len f k
  have HSO := Lib.hid (M.vers_some f k)
  have HA := Lib.hid (fun i (h : i < (M.vers f k).length) => M.vers_at h)
  have HU := Lib.hid (fun i (h : i + 1 < (M.vers f k).length) => M.vers_up h)
  have HLV : Hid (M.ltsV f k = if M.vers f k = [] then 0 else (M.vers f k).getD ((M.vers f k).length - 1) 0) := Lib.hid rfl
  have HLE : Hid (M.ltsE f k = if M.vers f k = [] then 10 else 0) := Lib.hid rfl
  generalize M.ltsV f k = lv at *
  generalize M.ltsE f k = le at *
  generalize M.vers f k = xs at *
  go_enter Try.func5, Try.ntmps5
  go_wp2_with fail
  refine (works13 _).mono ?_
  rintro e w1 ⟨rfl, b1⟩
  go_wp2_with fail
  refine (V1.out _).mono ?_
  rintro e w2 ⟨v, rfl, hz, hb⟩
  have b2 := b1.trans (hb.mono b1.size)
  clear hb b1
  obtain ⟨va, vc, rfl⟩ := hz.slice
  go_wp2_with fail
  refine (L1.out _).mono ?_
  rintro e w3 ⟨rfl, hb⟩
  have b3 := b2.trans (hb.mono b2.size)
  have hz3 := (hz.from_ hb).mono hb.size
  clear hb b2 hz
  have hcase : f < 0 ∨ (0 ≤ f ∧ 5 < f) ∨ (0 ≤ f ∧ f ≤ 5 ∧ k < 1) ∨ (0 ≤ f ∧ f ≤ 5 ∧ 1 ≤ k ∧ 5 < k) ∨ (0 ≤ f ∧ f ≤ 5 ∧ 1 ≤ k ∧ k ≤ 5) := by omega
  have hempty : ¬ (0 ≤ f ∧ f ≤ 5 ∧ 1 ≤ k ∧ k ≤ 5) → xs = [] := fun h => Classical.byContradiction fun hn => h (HSO.out.2 hn)
  rcases hcase with c | ⟨c0, c⟩ | ⟨c0, c1, c⟩ | ⟨c0, c1, c2, c⟩ | ⟨c0, c1, c2, c3⟩
  · obtain rfl := hempty (by omega)
    rw [if_pos rfl] at HLV HLE
    obtain rfl := HLV.out
    obtain rfl := HLE.out
    have d0 : decide (0 ≤ f) = false := decide_eq_false (by omega)
    clear hempty hz3
    go_wp2_with fail
    go_loopw [10] (fun i wr => i = .int .i64 0 ∧ Below w.heap.size w wr) (fun i _ => 0)
    case atStart => exact ⟨rfl, b3⟩
    case round =>
      obtain ⟨rfl, hW⟩ := hrel
      go_wp2_with fail
      go_ret
      exact ⟨by simp, hW⟩
  · obtain rfl := hempty (by omega)
    rw [if_pos rfl] at HLV HLE
    obtain rfl := HLV.out
    obtain rfl := HLE.out
    have d0 : decide (0 ≤ f) = true := decide_eq_true (by omega)
    have d1 : decide (f ≤ 5) = false := decide_eq_false (by omega)
    clear hempty hz3
    go_wp2_with fail
    go_loopw [10] (fun i wr => i = .int .i64 0 ∧ Below w.heap.size w wr) (fun i _ => 0)
    case atStart => exact ⟨rfl, b3⟩
    case round =>
      obtain ⟨rfl, hW⟩ := hrel
      go_wp2_with fail
      go_ret
      exact ⟨by simp, hW⟩
  · obtain rfl := hempty (by omega)
    rw [if_pos rfl] at HLV HLE
    obtain rfl := HLV.out
    obtain rfl := HLE.out
    have d0 : decide (0 ≤ f) = true := decide_eq_true (by omega)
    have d1 : decide (f ≤ 5) = true := decide_eq_true (by omega)
    have d2 : decide (1 ≤ k) = false := decide_eq_false (by omega)
    clear hempty hz3
    go_wp2_with fail
    go_loopw [10] (fun i wr => i = .int .i64 0 ∧ Below w.heap.size w wr) (fun i _ => 0)
    case atStart => exact ⟨rfl, b3⟩
    case round =>
      obtain ⟨rfl, hW⟩ := hrel
      go_wp2_with fail
      go_ret
      exact ⟨by simp, hW⟩
  · obtain rfl := hempty (by omega)
    rw [if_pos rfl] at HLV HLE
    obtain rfl := HLV.out
    obtain rfl := HLE.out
    have d0 : decide (0 ≤ f) = true := decide_eq_true (by omega)
    have d1 : decide (f ≤ 5) = true := decide_eq_true (by omega)
    have d2 : decide (1 ≤ k) = true := decide_eq_true (by omega)
    have d3 : decide (k ≤ 5) = false := decide_eq_false (by omega)
    clear hempty hz3
    go_wp2_with fail
    go_loopw [10] (fun i wr => i = .int .i64 0 ∧ Below w.heap.size w wr) (fun i _ => 0)
    case atStart => exact ⟨rfl, b3⟩
    case round =>
      obtain ⟨rfl, hW⟩ := hrel
      go_wp2_with fail
      go_ret
      exact ⟨by simp, hW⟩
  · have hne := HSO.out.1 ⟨c0, c1, c2, c3⟩
    rw [if_neg hne] at HLV HLE
    obtain rfl := HLE.out
    have h1 : 1 ≤ xs.length := by cases xs with
      | nil => exact absurd rfl hne
      | cons => simp
    obtain ⟨n, hn⟩ : ∃ n, xs.length = n + 1 := ⟨xs.length - 1, by omega⟩
    obtain ⟨g, o, rfl, hg, hc⟩ := hz3.cells h1
    have HCC := Lib.hid hc
    have HB3 := Lib.hid b3
    have HG := Lib.hid hg
    have HN := Lib.hid hn
    have hk5 : wfI k := by unfold wfI; simp [Lit.wf, IntKind.min, IntKind.max, IntKind.signed, IntKind.bits]; omega
    have HK5 := Lib.hid hk5
    have d0 : decide (0 ≤ f) = true := decide_eq_true (by omega)
    have d1 : decide (f ≤ 5) = true := decide_eq_true (by omega)
    have d2 : decide (1 ≤ k) = true := decide_eq_true (by omega)
    have d3 : decide (k ≤ 5) = true := decide_eq_true (by omega)
    clear hempty hz3 hc b3 hg hn hk5 hne
    go_wp2_with fail
    go_loopw [10] (fun i wr => ∃ j : Nat, j ≤ xs.length ∧ i = .int .i64 (j : Nat) ∧ Below w3.heap.size w3 wr) (fun i _ => xs.length - (RowKit.intOf i).toNat)
    case atStart => exact ⟨0, Nat.zero_le _, rfl, Below.refl _ _⟩
    case round =>
      obtain ⟨j, hj, rfl, hW⟩ := hrel
      by_cases h : j < xs.length
      · have hlg := HA.out j h
        have hwx := (lgl_wf hlg).2
        have HL := Lib.hid (fun W => legal13_any f k (M.gi xs j) HK5.out hwx W)
        rw [hlg] at HL
        have hcx := (hW.cell (p := ⟨g, o + j, none⟩) HG.out).trans (HCC.out j h)
        have HC1 : Hid (∀ Y, Below wr.heap.size wr Y → Y.cell? ⟨g, o + j, none⟩ = some (.int .i64 (M.gi xs j))) := Lib.hid (fun Y hY => (hY.cell (p := ⟨g, o + j, none⟩) (Nat.lt_of_lt_of_le HG.out hW.size)).trans hcx)
        cases j with
        | zero =>
          have hz0 : (0 : Int) < (xs.length : Int) := by omega
          generalize M.gi xs 0 = x at *
          have HH := Lib.hid h
          clear hlg hwx hcx hj h
          rw [Nat.add_zero] at HC1
          go_wp2_with fail
          refine wp_region_held (S := Below wr.heap.size wr) mixed ?_
          have hS0 : Below wr.heap.size wr wr.drew := (Below.refl _ _).drew
          rw [show Array.replicate (Array.size _) false = #[false, false, false, false, false, false, false, false, false, false, false, false, false, false, false, false, false, false, false, false, false, false, false, false] from rfl, show Array.size (α := Oper) _ = 24 from rfl]
          refine wpAnyH_take (i := 0) (v := .int .i64 f) rfl (by kernel_rfl) (by kernel_rfl) (by kernel_rfl) (fun _ _ _ h => h) (Or.inl ⟨by rfl, ?_⟩) hS0 ?_
          · intro Y hY
            skip
            go_simp
          simp only [Act.put, List.getElem_toArray, List.getElem_cons_zero, List.setIfInBounds_toArray, List.set_cons_zero, List.set_cons_succ]
          refine wpAnyH_take (i := 1) (v := .int .i64 k) rfl (by kernel_rfl) (by kernel_rfl) (by kernel_rfl) (fun _ _ _ h => h) (Or.inl ⟨by rfl, ?_⟩) hS0 ?_
          · intro Y hY
            skip
            go_simp
          simp only [Act.put, List.getElem_toArray, List.getElem_cons_succ, List.getElem_cons_zero, List.setIfInBounds_toArray, List.set_cons_zero, List.set_cons_succ]
          refine wpAnyH_take (i := 2) (v := .slice (some ⟨g, o, none⟩) xs.length vc) rfl (by kernel_rfl) (by kernel_rfl) (by kernel_rfl) (fun _ _ _ h => h) (Or.inl ⟨by rfl, ?_⟩) hS0 ?_
          · intro Y hY
            skip
            go_simp
          simp only [Act.put, List.getElem_toArray, List.getElem_cons_succ, List.getElem_cons_zero, List.setIfInBounds_toArray, List.set_cons_zero, List.set_cons_succ]
          refine wpAnyH_take (i := 3) (v := .int .i64 0) rfl (by kernel_rfl) (by kernel_rfl) (by kernel_rfl) (fun _ _ _ h => h) (Or.inl ⟨by rfl, ?_⟩) hS0 ?_
          · intro Y hY
            skip
            go_simp
          simp only [Act.put, List.getElem_toArray, List.getElem_cons_succ, List.getElem_cons_zero, List.setIfInBounds_toArray, List.set_cons_zero, List.set_cons_succ]
          refine wpAnyH_take (i := 4) (v := .pointer (some ⟨g, o, none⟩)) rfl (by kernel_rfl) (by kernel_rfl) (by kernel_rfl) (fun _ _ _ h => h) (Or.inl ⟨by rfl, ?_⟩) hS0 ?_
          · intro Y hY
            skip
            go_simp
          simp only [Act.put, List.getElem_toArray, List.getElem_cons_succ, List.getElem_cons_zero, List.setIfInBounds_toArray, List.set_cons_zero, List.set_cons_succ]
          refine wpAnyH_take (i := 5) (v := .int .i64 x) rfl (by kernel_rfl) (by kernel_rfl) (by kernel_rfl) (fun _ _ _ h => h) (Or.inl ⟨by rfl, ?_⟩) hS0 ?_
          · intro Y hY
            have c1 := HC1.out Y hY
            go_simp
          simp only [Act.put, List.getElem_toArray, List.getElem_cons_succ, List.getElem_cons_zero, List.setIfInBounds_toArray, List.set_cons_zero, List.set_cons_succ]
          refine wpAnyH_ready (rs := [6]) (by kernel_rfl) (by simp) ?_
          refine AllReadyH.cons rfl (fun K hK => ?_) AllReadyH.nil
          go_simp
          refine (HL.out _).mono ?_
          rintro e w3 ⟨rfl, hb3⟩
          have hS3 : Below wr.heap.size wr w3 := hS0.trans (Below.mono hb3 hS0.size)
          try go_wp2_with fail
          refine hK.out _ _ hS3 (fun _ => ?_)
          clear hK K
          simp only [List.setIfInBounds_toArray, List.set_cons_zero, List.set_cons_succ]
          refine wpAnyH_take (i := 7) (v := .bool false) rfl (by kernel_rfl) (by kernel_rfl) (by kernel_rfl) (fun _ _ _ h => h) (Or.inl ⟨by rfl, ?_⟩) hS3 ?_
          · intro Y hY
            skip
            go_simp
          simp only [Act.put, List.getElem_toArray, List.getElem_cons_succ, List.getElem_cons_zero, List.setIfInBounds_toArray, List.set_cons_zero, List.set_cons_succ]
          refine wpAnyH_take (i := 8) (v := .bool false) rfl (by kernel_rfl) (by kernel_rfl) (by kernel_rfl) (fun _ _ _ h => h) (Or.inl ⟨by rfl, ?_⟩) hS3 ?_
          · intro Y hY
            skip
            go_simp
          simp only [Act.put, List.getElem_toArray, List.getElem_cons_succ, List.getElem_cons_zero, List.setIfInBounds_toArray, List.set_cons_zero, List.set_cons_succ]
          refine wpAnyH_take (i := 9) (v := .int .i64 0) rfl (by kernel_rfl) (by kernel_rfl) (by kernel_rfl) (fun _ _ _ h => h) (Or.inl ⟨by rfl, ?_⟩) hS3 ?_
          · intro Y hY
            skip
            go_simp
          simp only [Act.put, List.getElem_toArray, List.getElem_cons_succ, List.getElem_cons_zero, List.setIfInBounds_toArray, List.set_cons_zero, List.set_cons_succ]
          refine wpAnyH_take (i := 10) (v := .bool false) rfl (by kernel_rfl) (by kernel_rfl) (by kernel_rfl) (fun _ _ _ h => h) (Or.inl ⟨by rfl, ?_⟩) hS3 ?_
          · intro Y hY
            skip
            go_simp
          simp only [Act.put, List.getElem_toArray, List.getElem_cons_succ, List.getElem_cons_zero, List.setIfInBounds_toArray, List.set_cons_zero, List.set_cons_succ]
          refine wpAnyH_take (i := 11) (v := .bool false) rfl (by kernel_rfl) (by kernel_rfl) (by kernel_rfl) (fun _ _ _ h => h) (Or.inl ⟨by rfl, ?_⟩) hS3 ?_
          · intro Y hY
            skip
            go_simp
          simp only [Act.put, List.getElem_toArray, List.getElem_cons_succ, List.getElem_cons_zero, List.setIfInBounds_toArray, List.set_cons_zero, List.set_cons_succ]
          refine wpAnyH_take (i := 12) (v := undef) rfl (by kernel_rfl) (by kernel_rfl) (by kernel_rfl) (fun _ _ _ h => h) (Or.inr ⟨by rfl, rfl⟩) hS3 ?_
          simp only [Act.put, List.getElem_toArray, List.getElem_cons_succ, List.getElem_cons_zero, List.setIfInBounds_toArray, List.set_cons_zero, List.set_cons_succ]
          refine wpAnyH_take (i := 13) (v := undef) rfl (by kernel_rfl) (by kernel_rfl) (by kernel_rfl) (fun _ _ _ h => h) (Or.inr ⟨by rfl, rfl⟩) hS3 ?_
          simp only [Act.put, List.getElem_toArray, List.getElem_cons_succ, List.getElem_cons_zero, List.setIfInBounds_toArray, List.set_cons_zero, List.set_cons_succ]
          refine wpAnyH_take (i := 14) (v := undef) rfl (by kernel_rfl) (by kernel_rfl) (by kernel_rfl) (fun _ _ _ h => h) (Or.inr ⟨by rfl, rfl⟩) hS3 ?_
          simp only [Act.put, List.getElem_toArray, List.getElem_cons_succ, List.getElem_cons_zero, List.setIfInBounds_toArray, List.set_cons_zero, List.set_cons_succ]
          refine wpAnyH_take (i := 15) (v := undef) rfl (by kernel_rfl) (by kernel_rfl) (by kernel_rfl) (fun _ _ _ h => h) (Or.inr ⟨by rfl, rfl⟩) hS3 ?_
          simp only [Act.put, List.getElem_toArray, List.getElem_cons_succ, List.getElem_cons_zero, List.setIfInBounds_toArray, List.set_cons_zero, List.set_cons_succ]
          refine wpAnyH_take (i := 16) (v := undef) rfl (by kernel_rfl) (by kernel_rfl) (by kernel_rfl) (fun _ _ _ h => h) (Or.inr ⟨by rfl, rfl⟩) hS3 ?_
          simp only [Act.put, List.getElem_toArray, List.getElem_cons_succ, List.getElem_cons_zero, List.setIfInBounds_toArray, List.set_cons_zero, List.set_cons_succ]
          refine wpAnyH_take (i := 17) (v := undef) rfl (by kernel_rfl) (by kernel_rfl) (by kernel_rfl) (fun _ _ _ h => h) (Or.inr ⟨by rfl, rfl⟩) hS3 ?_
          simp only [Act.put, List.getElem_toArray, List.getElem_cons_succ, List.getElem_cons_zero, List.setIfInBounds_toArray, List.set_cons_zero, List.set_cons_succ]
          refine wpAnyH_take (i := 18) (v := undef) rfl (by kernel_rfl) (by kernel_rfl) (by kernel_rfl) (fun _ _ _ h => h) (Or.inr ⟨by rfl, rfl⟩) hS3 ?_
          simp only [Act.put, List.getElem_toArray, List.getElem_cons_succ, List.getElem_cons_zero, List.setIfInBounds_toArray, List.set_cons_zero, List.set_cons_succ]
          refine wpAnyH_take (i := 19) (v := undef) rfl (by kernel_rfl) (by kernel_rfl) (by kernel_rfl) (fun _ _ _ h => h) (Or.inr ⟨by rfl, rfl⟩) hS3 ?_
          simp only [Act.put, List.getElem_toArray, List.getElem_cons_succ, List.getElem_cons_zero, List.setIfInBounds_toArray, List.set_cons_zero, List.set_cons_succ]
          refine wpAnyH_take (i := 20) (v := undef) rfl (by kernel_rfl) (by kernel_rfl) (by kernel_rfl) (fun _ _ _ h => h) (Or.inr ⟨by rfl, rfl⟩) hS3 ?_
          simp only [Act.put, List.getElem_toArray, List.getElem_cons_succ, List.getElem_cons_zero, List.setIfInBounds_toArray, List.set_cons_zero, List.set_cons_succ]
          refine wpAnyH_take (i := 21) (v := undef) rfl (by kernel_rfl) (by kernel_rfl) (by kernel_rfl) (fun _ _ _ h => h) (Or.inr ⟨by rfl, rfl⟩) hS3 ?_
          simp only [Act.put, List.getElem_toArray, List.getElem_cons_succ, List.getElem_cons_zero, List.setIfInBounds_toArray, List.set_cons_zero, List.set_cons_succ]
          refine wpAnyH_take (i := 22) (v := .bool false) rfl (by kernel_rfl) (by kernel_rfl) (by kernel_rfl) (fun _ _ _ h => h) (Or.inl ⟨by rfl, ?_⟩) hS3 ?_
          · intro Y hY
            skip
            go_simp
          simp only [Act.put, List.getElem_toArray, List.getElem_cons_succ, List.getElem_cons_zero, List.setIfInBounds_toArray, List.set_cons_zero, List.set_cons_succ]
          refine wpAnyH_take (i := 23) (v := .bool false) rfl (by kernel_rfl) (by kernel_rfl) (by kernel_rfl) (fun _ _ _ h => h) (Or.inl ⟨by rfl, ?_⟩) hS3 ?_
          · intro Y hY
            skip
            go_simp
          simp only [Act.put, List.getElem_toArray, List.getElem_cons_succ, List.getElem_cons_zero, List.setIfInBounds_toArray, List.set_cons_zero, List.set_cons_succ]
          refine wpAnyH_done (by kernel_rfl) ?_ _
          go_wp2_with fail
          exact ⟨⟨1, by have := HH.out; omega, rfl, hW.trans (hS3.mono hW.size)⟩, by have := HH.out; simp [RowKit.intOf]; omega⟩
        | succ q =>
          have hup := HU.out q h
          have hcy := (hW.cell (p := ⟨g, o + q, none⟩) HG.out).trans (HCC.out q (by omega))
          have HC2 : Hid (∀ Y, Below wr.heap.size wr Y → Y.cell? ⟨g, o + q, none⟩ = some (.int .i64 (M.gi xs q))) := Lib.hid (fun Y hY => (hY.cell (p := ⟨g, o + q, none⟩) (Nat.lt_of_lt_of_le HG.out hW.size)).trans hcy)
          generalize M.gi xs (q + 1) = x at *
          generalize M.gi xs q = y at *
          have d5 : decide (x ≤ y) = false := decide_eq_false (by omega)
          have HH := Lib.hid h
          have hq5 : q < 4 := by omega
          have hz1 : ((q + 1 : Nat) : Int) < (xs.length : Int) := by omega
          have hz2 : (q : Int) < (xs.length : Int) := by omega
          have hwq : IntKind.i64.wrap (q : Int) = q := by rw [IntKind.wrap_i64]; omega
          clear hlg hwx hcx hcy hj h hup h5
          go_wp2_with fail
          refine wp_region_held (S := Below wr.heap.size wr) mixed ?_
          have hS0 : Below wr.heap.size wr wr.drew := (Below.refl _ _).drew
          rw [show Array.replicate (Array.size _) false = #[false, false, false, false, false, false, false, false, false, false, false, false, false, false, false, false, false, false, false, false, false, false, false, false] from rfl, show Array.size (α := Oper) _ = 24 from rfl]
          refine wpAnyH_take (i := 0) (v := .int .i64 f) rfl (by kernel_rfl) (by kernel_rfl) (by kernel_rfl) (fun _ _ _ h => h) (Or.inl ⟨by rfl, ?_⟩) hS0 ?_
          · intro Y hY
            skip
            go_simp
          simp only [Act.put, List.getElem_toArray, List.getElem_cons_zero, List.setIfInBounds_toArray, List.set_cons_zero, List.set_cons_succ]
          refine wpAnyH_take (i := 1) (v := .int .i64 k) rfl (by kernel_rfl) (by kernel_rfl) (by kernel_rfl) (fun _ _ _ h => h) (Or.inl ⟨by rfl, ?_⟩) hS0 ?_
          · intro Y hY
            skip
            go_simp
          simp only [Act.put, List.getElem_toArray, List.getElem_cons_succ, List.getElem_cons_zero, List.setIfInBounds_toArray, List.set_cons_zero, List.set_cons_succ]
          refine wpAnyH_take (i := 2) (v := .slice (some ⟨g, o, none⟩) xs.length vc) rfl (by kernel_rfl) (by kernel_rfl) (by kernel_rfl) (fun _ _ _ h => h) (Or.inl ⟨by rfl, ?_⟩) hS0 ?_
          · intro Y hY
            skip
            go_simp
          simp only [Act.put, List.getElem_toArray, List.getElem_cons_succ, List.getElem_cons_zero, List.setIfInBounds_toArray, List.set_cons_zero, List.set_cons_succ]
          refine wpAnyH_take (i := 3) (v := .int .i64 ((q + 1 : Nat) : Int)) rfl (by kernel_rfl) (by kernel_rfl) (by kernel_rfl) (fun _ _ _ h => h) (Or.inl ⟨by rfl, ?_⟩) hS0 ?_
          · intro Y hY
            skip
            go_simp
          simp only [Act.put, List.getElem_toArray, List.getElem_cons_succ, List.getElem_cons_zero, List.setIfInBounds_toArray, List.set_cons_zero, List.set_cons_succ]
          refine wpAnyH_take (i := 4) (v := .pointer (some ⟨g, o + (q + 1), none⟩)) rfl (by kernel_rfl) (by kernel_rfl) (by kernel_rfl) (fun _ _ _ h => h) (Or.inl ⟨by rfl, ?_⟩) hS0 ?_
          · intro Y hY
            skip
            go_simp
            first | done | (intro h; omega)
          simp only [Act.put, List.getElem_toArray, List.getElem_cons_succ, List.getElem_cons_zero, List.setIfInBounds_toArray, List.set_cons_zero, List.set_cons_succ]
          refine wpAnyH_take (i := 5) (v := .int .i64 x) rfl (by kernel_rfl) (by kernel_rfl) (by kernel_rfl) (fun _ _ _ h => h) (Or.inl ⟨by rfl, ?_⟩) hS0 ?_
          · intro Y hY
            have c1 := HC1.out Y hY
            go_simp
          simp only [Act.put, List.getElem_toArray, List.getElem_cons_succ, List.getElem_cons_zero, List.setIfInBounds_toArray, List.set_cons_zero, List.set_cons_succ]
          refine wpAnyH_ready (rs := [6]) (by kernel_rfl) (by simp) ?_
          refine AllReadyH.cons rfl (fun K hK => ?_) AllReadyH.nil
          go_simp
          refine (HL.out _).mono ?_
          rintro e w3 ⟨rfl, hb3⟩
          have hS3 : Below wr.heap.size wr w3 := hS0.trans (Below.mono hb3 hS0.size)
          try go_wp2_with fail
          refine hK.out _ _ hS3 (fun _ => ?_)
          clear hK K
          simp only [List.setIfInBounds_toArray, List.set_cons_zero, List.set_cons_succ]
          refine wpAnyH_take (i := 7) (v := .bool false) rfl (by kernel_rfl) (by kernel_rfl) (by kernel_rfl) (fun _ _ _ h => h) (Or.inl ⟨by rfl, ?_⟩) hS3 ?_
          · intro Y hY
            skip
            go_simp
          simp only [Act.put, List.getElem_toArray, List.getElem_cons_succ, List.getElem_cons_zero, List.setIfInBounds_toArray, List.set_cons_zero, List.set_cons_succ]
          refine wpAnyH_take (i := 8) (v := .bool false) rfl (by kernel_rfl) (by kernel_rfl) (by kernel_rfl) (fun _ _ _ h => h) (Or.inl ⟨by rfl, ?_⟩) hS3 ?_
          · intro Y hY
            skip
            go_simp
          simp only [Act.put, List.getElem_toArray, List.getElem_cons_succ, List.getElem_cons_zero, List.setIfInBounds_toArray, List.set_cons_zero, List.set_cons_succ]
          refine wpAnyH_take (i := 9) (v := .int .i64 ((q + 1 : Nat) : Int)) rfl (by kernel_rfl) (by kernel_rfl) (by kernel_rfl) (fun _ _ _ h => h) (Or.inl ⟨by rfl, ?_⟩) hS3 ?_
          · intro Y hY
            skip
            go_simp
          simp only [Act.put, List.getElem_toArray, List.getElem_cons_succ, List.getElem_cons_zero, List.setIfInBounds_toArray, List.set_cons_zero, List.set_cons_succ]
          refine wpAnyH_take (i := 10) (v := .bool true) rfl (by kernel_rfl) (by kernel_rfl) (by kernel_rfl) (fun _ _ _ h => h) (Or.inl ⟨by rfl, ?_⟩) hS3 ?_
          · intro Y hY
            skip
            go_simp
          simp only [Act.put, List.getElem_toArray, List.getElem_cons_succ, List.getElem_cons_zero, List.setIfInBounds_toArray, List.set_cons_zero, List.set_cons_succ]
          refine wpAnyH_take (i := 11) (v := .bool true) rfl (by kernel_rfl) (by kernel_rfl) (by kernel_rfl) (fun _ _ _ h => h) (Or.inl ⟨by rfl, ?_⟩) hS3 ?_
          · intro Y hY
            skip
            go_simp
          simp only [Act.put, List.getElem_toArray, List.getElem_cons_succ, List.getElem_cons_zero, List.setIfInBounds_toArray, List.set_cons_zero, List.set_cons_succ]
          refine wpAnyH_take (i := 12) (v := .slice (some ⟨g, o, none⟩) xs.length vc) rfl (by kernel_rfl) (by kernel_rfl) (by kernel_rfl) (fun _ _ _ h => h) (Or.inl ⟨by rfl, ?_⟩) hS3 ?_
          · intro Y hY
            skip
            go_simp
          simp only [Act.put, List.getElem_toArray, List.getElem_cons_succ, List.getElem_cons_zero, List.setIfInBounds_toArray, List.set_cons_zero, List.set_cons_succ]
          refine wpAnyH_take (i := 13) (v := .int .i64 ((q + 1 : Nat) : Int)) rfl (by kernel_rfl) (by kernel_rfl) (by kernel_rfl) (fun _ _ _ h => h) (Or.inl ⟨by rfl, ?_⟩) hS3 ?_
          · intro Y hY
            skip
            go_simp
          simp only [Act.put, List.getElem_toArray, List.getElem_cons_succ, List.getElem_cons_zero, List.setIfInBounds_toArray, List.set_cons_zero, List.set_cons_succ]
          refine wpAnyH_take (i := 14) (v := .pointer (some ⟨g, o + (q + 1), none⟩)) rfl (by kernel_rfl) (by kernel_rfl) (by kernel_rfl) (fun _ _ _ h => h) (Or.inl ⟨by rfl, ?_⟩) hS3 ?_
          · intro Y hY
            skip
            go_simp
            first | done | (intro h; omega)
          simp only [Act.put, List.getElem_toArray, List.getElem_cons_succ, List.getElem_cons_zero, List.setIfInBounds_toArray, List.set_cons_zero, List.set_cons_succ]
          refine wpAnyH_take (i := 15) (v := .int .i64 x) rfl (by kernel_rfl) (by kernel_rfl) (by kernel_rfl) (fun _ _ _ h => h) (Or.inl ⟨by rfl, ?_⟩) hS3 ?_
          · intro Y hY
            have c1 := HC1.out Y hY
            go_simp
          simp only [Act.put, List.getElem_toArray, List.getElem_cons_succ, List.getElem_cons_zero, List.setIfInBounds_toArray, List.set_cons_zero, List.set_cons_succ]
          refine wpAnyH_take (i := 16) (v := .slice (some ⟨g, o, none⟩) xs.length vc) rfl (by kernel_rfl) (by kernel_rfl) (by kernel_rfl) (fun _ _ _ h => h) (Or.inl ⟨by rfl, ?_⟩) hS3 ?_
          · intro Y hY
            skip
            go_simp
          simp only [Act.put, List.getElem_toArray, List.getElem_cons_succ, List.getElem_cons_zero, List.setIfInBounds_toArray, List.set_cons_zero, List.set_cons_succ]
          refine wpAnyH_take (i := 17) (v := .int .i64 ((q + 1 : Nat) : Int)) rfl (by kernel_rfl) (by kernel_rfl) (by kernel_rfl) (fun _ _ _ h => h) (Or.inl ⟨by rfl, ?_⟩) hS3 ?_
          · intro Y hY
            skip
            go_simp
          simp only [Act.put, List.getElem_toArray, List.getElem_cons_succ, List.getElem_cons_zero, List.setIfInBounds_toArray, List.set_cons_zero, List.set_cons_succ]
          refine wpAnyH_take (i := 18) (v := .int .i64 (q : Nat)) rfl (by kernel_rfl) (by kernel_rfl) (by kernel_rfl) (fun _ _ _ h => h) (Or.inl ⟨by rfl, ?_⟩) hS3 ?_
          · intro Y hY
            skip
            go_simp
            first | done | exact hwq
          simp only [Act.put, List.getElem_toArray, List.getElem_cons_succ, List.getElem_cons_zero, List.setIfInBounds_toArray, List.set_cons_zero, List.set_cons_succ]
          refine wpAnyH_take (i := 19) (v := .pointer (some ⟨g, o + q, none⟩)) rfl (by kernel_rfl) (by kernel_rfl) (by kernel_rfl) (fun _ _ _ h => h) (Or.inl ⟨by rfl, ?_⟩) hS3 ?_
          · intro Y hY
            skip
            go_simp
          simp only [Act.put, List.getElem_toArray, List.getElem_cons_succ, List.getElem_cons_zero, List.setIfInBounds_toArray, List.set_cons_zero, List.set_cons_succ]
          refine wpAnyH_take (i := 20) (v := .int .i64 y) rfl (by kernel_rfl) (by kernel_rfl) (by kernel_rfl) (fun _ _ _ h => h) (Or.inl ⟨by rfl, ?_⟩) hS3 ?_
          · intro Y hY
            have c2 := HC2.out Y hY
            go_simp
          simp only [Act.put, List.getElem_toArray, List.getElem_cons_succ, List.getElem_cons_zero, List.setIfInBounds_toArray, List.set_cons_zero, List.set_cons_succ]
          refine wpAnyH_take (i := 21) (v := .bool false) rfl (by kernel_rfl) (by kernel_rfl) (by kernel_rfl) (fun _ _ _ h => h) (Or.inl ⟨by rfl, ?_⟩) hS3 ?_
          · intro Y hY
            skip
            go_simp
          simp only [Act.put, List.getElem_toArray, List.getElem_cons_succ, List.getElem_cons_zero, List.setIfInBounds_toArray, List.set_cons_zero, List.set_cons_succ]
          refine wpAnyH_take (i := 22) (v := .bool false) rfl (by kernel_rfl) (by kernel_rfl) (by kernel_rfl) (fun _ _ _ h => h) (Or.inl ⟨by rfl, ?_⟩) hS3 ?_
          · intro Y hY
            skip
            go_simp
          simp only [Act.put, List.getElem_toArray, List.getElem_cons_succ, List.getElem_cons_zero, List.setIfInBounds_toArray, List.set_cons_zero, List.set_cons_succ]
          refine wpAnyH_take (i := 23) (v := .bool false) rfl (by kernel_rfl) (by kernel_rfl) (by kernel_rfl) (fun _ _ _ h => h) (Or.inl ⟨by rfl, ?_⟩) hS3 ?_
          · intro Y hY
            skip
            go_simp
          simp only [Act.put, List.getElem_toArray, List.getElem_cons_succ, List.getElem_cons_zero, List.setIfInBounds_toArray, List.set_cons_zero, List.set_cons_succ]
          refine wpAnyH_done (by kernel_rfl) ?_ _
          go_wp2_with fail
          exact ⟨⟨q + 1 + 1, by have := HH.out; omega, by simp, hW.trans (hS3.mono hW.size)⟩, by have := HH.out; simp [RowKit.intOf]; omega⟩
      · obtain rfl : j = xs.length := by omega
        have hcx := (hW.cell (p := ⟨g, o + n, none⟩) HG.out).trans (HCC.out n (by have := HN.out; omega))
        have hlv : lv = M.gi xs n := by rw [HLV.out, HN.out]; rfl
        rw [← hlv] at hcx
        have hB := HB3.out.trans (hW.mono HB3.out.size)
        have hn4 : n ≤ 4 := by have := HN.out; omega
        have hwn : wrap64 (n : Int) = (n : Int) := by unfold wrap64; omega
        rw [HN.out]
        clear hlv hj h
        go_wp2_with fail
        go_ret
        exact ⟨by simp, hB⟩
end Go.Proofs.Ythlcjjfnnfifeaa
