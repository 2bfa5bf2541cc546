/- The laws LegalTells, LegalRange, LegalGrows. -/
import Derived.Test.YthlcjjfnnfifeaaEL9
namespace Go.Proofs.Ythlcjjfnnfifeaa
open Go Go.RowKit

set_option maxRecDepth 100000 in
set_option maxHeartbeats 8000000 in
theorem ltells_law (f k v : Int) (hk : wfI k) (hv : wfI v) (w : World) : Calls Try.prog 3 #[.int .i64 f, .int .i64 k, .int .i64 v] w fun e w' => e = .returned (.bool true) ∧ Below w.heap.size w w' := by
  have R1 := Lib.hid (range13_any k v hk hv)
  have R2 := Lib.hid (rrange13_any k v)
  have G1 := Lib.hid (legal13_any f k v hk hv)
  have G2 := Lib.hid (rlegal13_any f k v)
  have V1 := Lib.hid (versions13_any f k)
  have V2 := Lib.hid (rversions13_any f k)
  have L1 := Lib.hid (latest13_any f k)
  have L2 := Lib.hid (rlatest13_any f k)
  have h5 := Lib.hid (M.vers_len f k)
  generalize M.rngA k v = ra at *
  generalize M.rngB k v = rb at *
  generalize M.rngE k v = re at *
  generalize M.lgl f k v = lg at *
  generalize M.ltsV f k = lv at *
  generalize M.ltsE f k = le at *
  generalize M.vers f k = xs at *
  clear hk hv
  go_enter Try.func3, Try.ntmps3
  go_wp2_with fail
  refine (works13 _).mono ?_
  rintro e w1 ⟨rfl, b1⟩
  go_wp2_with fail
  refine (R1.out _).mono ?_
  rintro e w2 ⟨rfl, hb⟩
  have b2 := b1.trans (hb.mono b1.size)
  clear hb b1
  go_wp2_with fail
  refine (R2.out _).mono ?_
  rintro e w3 ⟨rfl, hb⟩
  have b3 := b2.trans (hb.mono b2.size)
  clear hb b2
  go_wp2_with fail
  refine (G2.out _).mono ?_
  rintro e w4 ⟨rfl, hb⟩
  have b4 := b3.trans (hb.mono b3.size)
  clear hb b3
  go_wp2_with fail
  refine (V1.out _).mono ?_
  rintro e w5 ⟨v5, rfl, hv5, hb⟩
  have b5 := b4.trans (hb.mono b4.size)
  clear hb b4
  obtain ⟨va, vc, rfl⟩ := hv5.slice
  have HV5 := Lib.hid hv5
  clear hv5
  go_wp2_with fail
  refine (V2.out _).mono ?_
  rintro e w6 ⟨v6, rfl, hv6, hb⟩
  obtain ⟨va2, vc2, rfl⟩ := hv6.slice
  have HI := Lib.hid (ints_any xs va va2 vc vc2 w6 (by have := h5.out; omega) ((HV5.out.from_ hb).mono hb.size) hv6)
  have b6 := b5.trans (hb.mono b5.size)
  clear hb b5 hv6
  go_wp2_with fail
  refine HI.out.mono ?_
  rintro e w7 ⟨rfl, hb⟩
  have b7 := b6.trans (hb.mono b6.size)
  clear hb b6
  go_wp2_with fail
  refine (L1.out _).mono ?_
  rintro e w8 ⟨rfl, hb⟩
  have b8 := b7.trans (hb.mono b7.size)
  clear hb b7
  go_wp2_with fail
  refine (L2.out _).mono ?_
  rintro e w9 ⟨rfl, hb⟩
  have b9 := b8.trans (hb.mono b8.size)
  clear hb b8
  go_wp2_with fail
  refine (G1.out _).mono ?_
  rintro e w10 ⟨rfl, hb⟩
  have b10 := b9.trans (hb.mono b9.size)
  clear hb b9
  go_wp2_with fail
  go_ret
  exact ⟨by simp, b10⟩

theorem M.leg_rng : ∀ p ∈ M.legT, 0 ≤ p.2.2.1 ∧ p.2.2.1 ≤ p.2.2.2 ∧ p.2.2.2 ≤ 5 := by decide
theorem M.rng_cases (f k v : Int) : (M.rngA k v = 0 ∧ M.rngB k v = 0 ∧ M.rngE k v = 9 ∧ M.lgl f k v = false) ∨ (M.rngE k v = 0 ∧ 0 ≤ M.rngA k v ∧ M.rngA k v ≤ M.rngB k v ∧ M.rngB k v ≤ 5 ∧ M.lgl f k v = (decide (M.rngA k v ≤ f) && decide (f ≤ M.rngB k v))) := by
  unfold M.rngA M.rngB M.rngE M.lgl
  cases hs : M.span k v with
  | none => exact .inl ⟨rfl, rfl, rfl, rfl⟩
  | some ab =>
    obtain ⟨h1, h2, h3⟩ := M.leg_rng _ (M.span_mem hs)
    exact .inr ⟨rfl, h1, h2, h3, rfl⟩

set_option maxRecDepth 100000 in
set_option maxHeartbeats 8000000 in
theorem lrange_law (f k v : Int) (hk : wfI k) (hv : wfI v) (w : World) : Calls Try.prog 4 #[.int .i64 f, .int .i64 k, .int .i64 v] w fun e w' => e = .returned (.bool true) ∧ Below w.heap.size w w' := by
  have R1 := Lib.hid (range13_any k v hk hv)
  have G1 := Lib.hid (legal13_any f k v hk hv)
  have hc := M.rng_cases f k v
  generalize M.rngA k v = ra at *
  generalize M.rngB k v = rb at *
  generalize M.rngE k v = re at *
  generalize M.lgl f k v = lg at *
  clear hk hv
  rcases hc with ⟨rfl, rfl, rfl, rfl⟩ | ⟨rfl, h1, h2, h3, rfl⟩
  · go_enter Try.func4, Try.ntmps4
    go_wp2_with fail
    refine (works13 _).mono ?_
    rintro e w1 ⟨rfl, b1⟩
    go_wp2_with fail
    refine (R1.out _).mono ?_
    rintro e w2 ⟨rfl, hb⟩
    have b2 := b1.trans (hb.mono b1.size)
    clear hb b1
    go_wp2_with fail
    refine (G1.out _).mono ?_
    rintro e w3 ⟨rfl, hb⟩
    have b3 := b2.trans (hb.mono b2.size)
    clear hb b2
    go_wp2_with fail
    go_ret
    exact ⟨by simp, b3⟩
  · by_cases hf : ra ≤ f
    · have d1 : decide (ra ≤ f) = true := decide_eq_true hf
      rw [d1, Bool.true_and] at G1
      by_cases hf2 : f ≤ rb
      · rw [decide_eq_true hf2] at G1
        have d0 : decide (0 ≤ ra) = true := decide_eq_true h1
        go_enter Try.func4, Try.ntmps4
        go_wp2_with fail
        refine (works13 _).mono ?_
        rintro e w1 ⟨rfl, b1⟩
        go_wp2_with fail
        refine (R1.out _).mono ?_
        rintro e w2 ⟨rfl, hb⟩
        have b2 := b1.trans (hb.mono b1.size)
        clear hb b1
        go_wp2_with fail
        refine (G1.out _).mono ?_
        rintro e w3 ⟨rfl, hb⟩
        have b3 := b2.trans (hb.mono b2.size)
        clear hb b2
        go_wp2_with fail
        go_ret
        exact ⟨by simp, b3⟩
      · rw [decide_eq_false hf2] at G1
        have d2 : decide (f ≤ rb) = false := decide_eq_false hf2
        have d0 : decide (0 ≤ ra) = true := decide_eq_true h1
        go_enter Try.func4, Try.ntmps4
        go_wp2_with fail
        refine (works13 _).mono ?_
        rintro e w1 ⟨rfl, b1⟩
        go_wp2_with fail
        refine (R1.out _).mono ?_
        rintro e w2 ⟨rfl, hb⟩
        have b2 := b1.trans (hb.mono b1.size)
        clear hb b1
        go_wp2_with fail
        refine (G1.out _).mono ?_
        rintro e w3 ⟨rfl, hb⟩
        have b3 := b2.trans (hb.mono b2.size)
        clear hb b2
        go_wp2_with fail
        go_ret
        exact ⟨by simp, b3⟩
    · have d1 : decide (ra ≤ f) = false := decide_eq_false hf
      rw [d1, Bool.false_and] at G1
      have d0 : decide (0 ≤ ra) = true := decide_eq_true h1
      go_enter Try.func4, Try.ntmps4
      go_wp2_with fail
      refine (works13 _).mono ?_
      rintro e w1 ⟨rfl, b1⟩
      go_wp2_with fail
      refine (R1.out _).mono ?_
      rintro e w2 ⟨rfl, hb⟩
      have b2 := b1.trans (hb.mono b1.size)
      clear hb b1
      go_wp2_with fail
      refine (G1.out _).mono ?_
      rintro e w3 ⟨rfl, hb⟩
      have b3 := b2.trans (hb.mono b2.size)
      clear hb b2
      go_wp2_with fail
      go_ret
      exact ⟨by simp, b3⟩

theorem M.grows1 {f g h k v : Int} (h1 : f ≤ g) (h2 : g ≤ h) (ha : M.lgl f k v = true) (hc : M.lgl h k v = true) : M.lgl g k v = true := by
  obtain ⟨a, b, hs, h3, h4⟩ := M.lgl_span ha
  obtain ⟨a', b', hs', h5, h6⟩ := M.lgl_span hc
  rw [hs] at hs'
  cases hs'
  unfold M.lgl
  rw [hs]
  simp
  omega
theorem M.leg_stays : ∀ p ∈ M.legT, (p.1 = 1 ∨ p.1 = 3 ∨ p.1 = 4) → p.2.2.2 = 5 := by decide
theorem M.grows2 {f g k v : Int} (h1 : f ≤ g) (hk : k = 1 ∨ k = 3 ∨ k = 4) (ha : M.lgl f k v = true) (h5 : g ≤ 5) : M.lgl g k v = true := by
  obtain ⟨a, b, hs, h3, h4⟩ := M.lgl_span ha
  have := M.leg_stays _ (M.span_mem hs) hk
  dsimp only at this
  unfold M.lgl
  rw [hs]
  simp
  omega
set_option maxRecDepth 100000 in
set_option maxHeartbeats 8000000 in
theorem lgrows_law (f g h k v : Int) (hk : wfI k) (hv : wfI v) (w : World) : Calls Try.prog 6 #[.int .i64 f, .int .i64 g, .int .i64 h, .int .i64 k, .int .i64 v] w fun e w' => e = .returned (.bool true) ∧ Below w.heap.size w w' := by
  by_cases h1 : f ≤ g
  · by_cases h2 : g ≤ h
    · have GA := Lib.hid (legal13_any f k v hk hv)
      have GB := Lib.hid (legal13_any g k v hk hv)
      have GC := Lib.hid (legal13_any h k v hk hv)
      have H1 := fun (a : M.lgl f k v = true) (c : M.lgl h k v = true) => M.grows1 h1 h2 a c
      have H2 := fun (hk : k = 1 ∨ k = 3 ∨ k = 4) (a : M.lgl f k v = true) (h5 : g ≤ 5) => M.grows2 h1 hk a h5
      generalize M.lgl f k v = a at *
      generalize M.lgl g k v = b at *
      generalize M.lgl h k v = c at *
      clear hk hv
      have hst : ∃ st : Bool, st = (decide (k = 1) || decide (k = 3) || decide (k = 4)) ∧ (st = true → a = true → g ≤ 5 → b = true) := ⟨_, rfl, fun hs => H2 (by simpa [or_assoc] using hs)⟩
      obtain ⟨st, hst, H3⟩ := hst
      clear H2
      go_enter Try.func6, Try.ntmps6
      go_wp2_with fail
      refine (works13 _).mono ?_
      rintro e w1 ⟨rfl, b1⟩
      go_wp2_with fail
      refine (GA.out _).mono ?_
      rintro e w2 ⟨rfl, hb⟩
      have b2 := b1.trans (hb.mono b1.size)
      clear hb b1
      go_wp2_with fail
      refine (GB.out _).mono ?_
      rintro e w3 ⟨rfl, hb⟩
      have b3 := b2.trans (hb.mono b2.size)
      clear hb b2
      go_wp2_with fail
      refine (GC.out _).mono ?_
      rintro e w4 ⟨rfl, hb⟩
      have b4 := b3.trans (hb.mono b3.size)
      clear hb b3
      have hk4 : (k = 1) ∨ (k ≠ 1 ∧ k = 3) ∨ (k ≠ 1 ∧ k ≠ 3 ∧ k = 4) ∨ (k ≠ 1 ∧ k ≠ 3 ∧ k ≠ 4) := by omega
      rcases hk4 with rfl | ⟨n1, rfl⟩ | ⟨n1, n3, rfl⟩ | ⟨n1, n3, n4⟩
      · skip
        cases a
        · go_wp2_with fail
          all_goals (go_ret; exact ⟨by simp, b4⟩)
        cases b
        · cases c
          · have h5 : 5 < g := by rcases Int.lt_or_le 5 g with h | h; exact h; exact absurd (H3 (by rw [hst]; simp) rfl h) (by simp)
            go_wp2_with fail
            all_goals (go_ret; exact ⟨by simp, b4⟩)
          · exact absurd (H1 rfl rfl) (by simp)
        · go_wp2_with fail
          all_goals (go_ret; exact ⟨by simp, b4⟩)
      · clear n1
        cases a
        · go_wp2_with fail
          all_goals (go_ret; exact ⟨by simp, b4⟩)
        cases b
        · cases c
          · have h5 : 5 < g := by rcases Int.lt_or_le 5 g with h | h; exact h; exact absurd (H3 (by rw [hst]; simp) rfl h) (by simp)
            go_wp2_with fail
            all_goals (go_ret; exact ⟨by simp, b4⟩)
          · exact absurd (H1 rfl rfl) (by simp)
        · go_wp2_with fail
          all_goals (go_ret; exact ⟨by simp, b4⟩)
      · clear n1 n3
        cases a
        · go_wp2_with fail
          all_goals (go_ret; exact ⟨by simp, b4⟩)
        cases b
        · cases c
          · have h5 : 5 < g := by rcases Int.lt_or_le 5 g with h | h; exact h; exact absurd (H3 (by rw [hst]; simp) rfl h) (by simp)
            go_wp2_with fail
            all_goals (go_ret; exact ⟨by simp, b4⟩)
          · exact absurd (H1 rfl rfl) (by simp)
        · go_wp2_with fail
          all_goals (go_ret; exact ⟨by simp, b4⟩)
      · have q1 : (k == 1) = false := by simp [n1]
        have q3 : (k == 3) = false := by simp [n3]
        have q4 : (k == 4) = false := by simp [n4]
        cases a
        · go_wp2_with fail
          all_goals (go_ret; exact ⟨by simp, b4⟩)
        cases b
        · cases c
          · skip
            go_wp2_with fail
            all_goals (go_ret; exact ⟨by simp, b4⟩)
          · exact absurd (H1 rfl rfl) (by simp)
        · go_wp2_with fail
          all_goals (go_ret; exact ⟨by simp, b4⟩)
    · have h2' : h < g := by omega
      have d1 : decide (g < f) = false := decide_eq_false (by omega)
      go_enter Try.func6, Try.ntmps6
      go_wp2_with fail
      refine (works13 _).mono ?_
      rintro e w1 ⟨rfl, b1⟩
      go_wp2_with fail
      go_ret
      exact ⟨by simp, b1⟩
  · have h1' : g < f := by omega
    go_enter Try.func6, Try.ntmps6
    go_wp2_with fail
    refine (works13 _).mono ?_
    rintro e w1 ⟨rfl, b1⟩
    go_wp2_with fail
    go_ret
    exact ⟨by simp, b1⟩
end Go.Proofs.Ythlcjjfnnfifeaa
