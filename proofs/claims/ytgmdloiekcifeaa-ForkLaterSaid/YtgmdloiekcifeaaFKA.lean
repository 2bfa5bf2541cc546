/- ForkLater, ForkLatest, ForkFewer. -/
import Derived.Test.YtgmdloiekcifeaaFK7
namespace Go.Proofs.Ytgmdloiekcifeaa
open Go Go.RowKit

/-- What the calls of package fork answer of one schedule, in every later world. -/
structure Sch (w : World) (xs : List Int) (sv : Value) : Prop where
  chk : ∀ W, Below w.heap.size w W → Calls Try.prog 17 #[sch sv] W fun e w' => e = .returned (.int .i64 (M.chkE xs)) ∧ Below W.heap.size W w'
  act : ∀ W t, Below w.heap.size w W → Calls Try.prog 10 #[sch sv, .int .u64 t] W fun e w' => e = .returned (.tuple #[.int .i64 (M.actV xs t), .int .i64 (M.actE xs t)]) ∧ Below W.heap.size W w'
  frm : ∀ W f, Below w.heap.size w W → Calls Try.prog 12 #[sch sv, .int .i64 f] W fun e w' => e = .returned (.tuple #[.int .u64 (M.frmV xs f), .int .i64 (M.frmE xs f)]) ∧ Below W.heap.size W w'
  evr : ∀ W, Below w.heap.size w W → Calls Try.prog 15 #[sch sv] W fun e w' => ∃ v, e = .returned v ∧ Zs w' w'.heap.size (M.evr xs) v ∧ Below W.heap.size W w'
theorem Sch.of (xs : List Int) (a : Option Addr) (cap : Nat) (w : World) (hN : Ns w w.heap.size xs (.slice a xs.length cap)) : Sch w xs (.slice a xs.length cap) :=
  ⟨fun W h => fcheck_any xs a cap W ((hN.from_ h).mono h.size), fun W t h => active_any xs a cap t W ((hN.from_ h).mono h.size), fun W f h => from_any xs a cap f W ((hN.from_ h).mono h.size), fun W h => ever_any xs a cap W ((hN.from_ h).mono h.size)⟩
/-- A box of one cell that a call has made, in every later world. -/
theorem box_later (w : World) (t : TypeId) (v : Value) : Below w.heap.size w (w.alloc (.cells #[v] t)) ∧ ∀ W, Below (w.heap.size + 1) (w.alloc (.cells #[v] t)) W → W.cell? ⟨w.heap.size, 0, none⟩ = some v :=
  ⟨(Below.refl _ w).alloc (Nat.le_refl _) _, fun W h => (h.cell (p := ⟨w.heap.size, 0, none⟩) (by show w.heap.size < _; omega)).trans (Boxed.new w t v).cell⟩

theorem M.actE_cases (xs : List Int) (t : Int) : (M.actE xs t = 0 ∧ M.chkE xs = 0 ∧ M.beg xs t ≠ 0 ∧ M.actV xs t = ((M.beg xs t - 1 : Nat) : Int)) ∨ (M.actE xs t ≠ 0 ∧ M.actV xs t = 0 ∧ (M.chkE xs = 0 → M.beg xs t = 0 ∧ M.actE xs t = 10)) := by
  unfold M.actE M.actV
  by_cases h : M.chkE xs = 0
  · rw [if_pos h, if_pos h]
    by_cases h0 : M.beg xs t = 0
    · rw [if_pos h0]
      exact .inr ⟨by decide, by rw [h0]; rfl, fun _ => ⟨h0, rfl⟩⟩
    · rw [if_neg h0]
      exact .inl ⟨rfl, h, h0, rfl⟩
  · rw [if_neg h, if_neg h]
    exact .inr ⟨h, rfl, fun e => absurd e h⟩
theorem M.act_later (xs : List Int) {t u : Int} (htu : t ≤ u) : M.actE xs t ≠ 0 ∨ (M.actE xs u = 0 ∧ M.actV xs t ≤ M.actV xs u) := by
  rcases M.actE_cases xs t with ⟨h1, h2, h3, h4⟩ | ⟨h1, _⟩
  · have hm := M.beg_mono xs htu
    refine .inr ⟨by unfold M.actE; rw [if_pos h2, if_neg (by omega)], ?_⟩
    rw [h4]
    unfold M.actV
    rw [if_pos h2]
    omega
  · exact .inl h1

set_option maxRecDepth 100000 in
set_option maxHeartbeats 8000000 in
theorem later_law (xs : List Int) (a : Option Addr) (cap : Nat) (t u : Int) (w : World) (hN : Ns w w.heap.size xs (.slice a xs.length cap)) :
    Calls Try.prog 4 #[sch (.slice a xs.length cap), .int .u64 t, .int .u64 u] w fun e w' => e = .returned (.bool true) ∧ Below w.heap.size w w' := by
  have HS := Lib.hid (Sch.of xs a cap w hN)
  have HX := Lib.hid (box_later w 24 (.slice a xs.length cap))
  have HW := Lib.hid works12
  clear hN
  have HL := Lib.hid (fun h => M.act_later xs (t := t) (u := u) h)
  go_enter Try.func4, Try.ntmps4
  go_wp2_with fail
  refine (HW.out _).mono ?_
  rintro e w1 ⟨rfl, hb1⟩
  rw [World.size_alloc] at hb1
  have B1 := HX.out.1.trans (hb1.mono (Nat.le_succ w.heap.size))
  have c1 := HX.out.2 w1 hb1
  by_cases htu : t ≤ u
  · have hl := HL.out htu
    have A1 := Lib.hid (fun W h => HS.out.act W t h)
    have A2 := Lib.hid (fun W h => HS.out.act W u h)
    generalize M.actE xs t = e1 at *
    generalize M.actE xs u = e2 at *
    generalize M.actV xs t = v1 at *
    generalize M.actV xs u = v2 at *
    have HLL := Lib.hid hl
    clear HS HL hl
    go_wp2_with fail
    refine (A1.out _ B1).mono ?_
    rintro e w2 ⟨rfl, hb2⟩
    have B2 := B1.trans (hb2.mono B1.size)
    have c2 := HX.out.2 w2 (hb1.trans (hb2.mono (by have := hb1.size; simpa using this)))
    go_wp2_with fail
    refine (A2.out _ B2).mono ?_
    rintro e w3 ⟨rfl, hb3⟩
    have B3 := B2.trans (hb3.mono B2.size)
    clear c1 c2 hb1 hb2 hb3
    by_cases h1 : e1 = 0
    · subst h1
      rcases HLL.out with h | ⟨h, hv⟩
      · exact absurd rfl h
      · subst h
        go_wp2_with fail
        go_ret
        exact ⟨rfl, B3⟩
    · have hb : (e1 != 0) = true := bne_iff_ne.2 h1
      clear HLL h1
      by_cases h2 : e2 = 0
      · subst h2
        by_cases h3 : v1 ≤ v2
        · go_wp2_with fail
          go_ret
          exact ⟨rfl, B3⟩
        · go_wp2_with fail
          go_ret
          exact ⟨rfl, B3⟩
      · have hc : (e2 == 0) = false := beq_eq_false_iff_ne.2 h2
        clear h2
        go_wp2_with fail
        go_ret
        exact ⟨rfl, B3⟩
  · go_wp2_with fail
    go_ret
    exact ⟨rfl, B1⟩

theorem M.act_latest {xs : List Int} {t : Int} (h : M.actE xs t = 0) : ∃ q : Nat, M.actV xs t = q ∧ q ≤ 5 ∧ M.frmE xs q = 0 ∧ M.frmV xs q ≤ t ∧ (M.frmE xs ((q : Int) + 1) = 10 ∨ (M.frmE xs ((q : Int) + 1) = 0 ∧ t < M.frmV xs ((q : Int) + 1))) := by
  rcases M.actE_cases xs t with ⟨_, h2, h3, h4⟩ | ⟨h1, _⟩
  · obtain ⟨l1, l6, hs⟩ := M.chkE_zero h2
    have hle := M.beg_le xs t
    obtain ⟨q, hq⟩ : ∃ q, M.beg xs t = q + 1 := ⟨M.beg xs t - 1, by omega⟩
    refine ⟨q, by rw [h4, hq]; rfl, by omega, ?_, ?_, ?_⟩
    · unfold M.frmE
      rw [if_pos h2, if_neg (by omega)]
    · unfold M.frmV
      rw [if_pos h2, if_neg (by omega), Int.toNat_natCast]
      have := M.beg_iff hs t (i := q) (by omega)
      omega
    · unfold M.frmE M.frmV
      rw [if_pos h2, if_pos h2]
      by_cases hl : q + 1 < xs.length
      · rw [if_neg (by omega), if_neg (by omega), show ((q : Int) + 1).toNat = q + 1 by omega]
        have := M.beg_iff hs t hl
        exact .inr ⟨rfl, by omega⟩
      · rw [if_pos (by omega)]
        exact .inl rfl
  · exact absurd h h1

set_option maxRecDepth 100000 in
set_option maxHeartbeats 8000000 in
theorem latest_law (xs : List Int) (a : Option Addr) (cap : Nat) (t : Int) (w : World) (hN : Ns w w.heap.size xs (.slice a xs.length cap)) :
    Calls Try.prog 5 #[sch (.slice a xs.length cap), .int .u64 t] w fun e w' => e = .returned (.bool true) ∧ Below w.heap.size w w' := by
  have HS := Lib.hid (Sch.of xs a cap w hN)
  have HX := Lib.hid (box_later w 24 (.slice a xs.length cap))
  have HW := Lib.hid works12
  clear hN
  have HL := Lib.hid (M.act_latest (xs := xs) (t := t))
  have HL2 : Hid (M.actE xs t ≠ 0 → M.actV xs t = 0) := fun h => by
    rcases M.actE_cases xs t with ⟨h1, _⟩ | ⟨_, h2, _⟩
    · exact absurd h1 h
    · exact h2
  go_enter Try.func5, Try.ntmps5
  go_wp2_with fail
  refine (HW.out _).mono ?_
  rintro e w1 ⟨rfl, hb1⟩
  rw [World.size_alloc] at hb1
  have B1 := HX.out.1.trans (hb1.mono (Nat.le_succ w.heap.size))
  have c1 := HX.out.2 w1 hb1
  have A1 := Lib.hid (fun W h => HS.out.act W t h)
  by_cases h0 : M.actE xs t = 0
  · obtain ⟨q, hv, hq, f1, f2, f3⟩ := HL.out h0
    rw [hv, h0] at A1
    have F1 := Lib.hid (fun W h => HS.out.frm W q h)
    have F2 := Lib.hid (fun W h => HS.out.frm W ((q : Int) + 1) h)
    rw [f1] at F1
    clear HS HL HL2 h0 hv f1
    generalize M.frmV xs q = x1 at *
    generalize M.frmV xs ((q : Int) + 1) = x2 at *
    generalize M.frmE xs ((q : Int) + 1) = e2 at *
    have HF3 := Lib.hid f3
    clear f3
    go_wp2_with fail
    refine (A1.out _ B1).mono ?_
    rintro e w2 ⟨rfl, hb2⟩
    have B2 := B1.trans (hb2.mono B1.size)
    have hb12 := hb1.trans (hb2.mono (by have := hb1.size; simpa using this))
    have c2 := HX.out.2 w2 hb12
    clear c1 hb1 hb2
    go_wp2_with fail
    refine (F1.out _ B2).mono ?_
    rintro e w3 ⟨rfl, hb3⟩
    have B3 := B2.trans (hb3.mono B2.size)
    have hb13 := hb12.trans (hb3.mono (by have := hb12.size; simpa using this))
    have c3 := HX.out.2 w3 hb13
    clear c2 hb12 hb3
    go_wp2_with fail
    refine (F2.out _ B3).mono ?_
    rintro e w4 ⟨rfl, hb4⟩
    have B4 := B3.trans (hb4.mono B3.size)
    clear c3 hb13 hb4
    rcases HF3.out with rfl | ⟨rfl, hx⟩
    · go_wp2_with fail
      go_ret
      exact ⟨rfl, B4⟩
    · go_wp2_with fail
      go_ret
      exact ⟨rfl, B4⟩
  · rw [HL2.out h0] at A1
    have hne : (M.actE xs t != 0) = true := bne_iff_ne.2 h0
    clear HS HL HL2 h0
    generalize M.actE xs t = e1 at *
    go_wp2_with fail
    refine (A1.out _ B1).mono ?_
    rintro e w2 ⟨rfl, hb2⟩
    have B2 := B1.trans (hb2.mono B1.size)
    go_wp2_with fail
    go_ret
    exact ⟨rfl, B2⟩

theorem M.gi_take {xs : List Int} {k i : Nat} (h : i < k) : M.gi (xs.take k) i = M.gi xs i := by
  unfold M.gi
  rw [List.getD_eq_getElem?_getD, List.getD_eq_getElem?_getD, List.getElem?_take_of_lt h]
theorem M.fewer {xs : List Int} (h : M.chkE xs = 0) {k : Nat} (hk1 : 1 ≤ k) (hk : k ≤ xs.length) (t : Int) : M.chkE (xs.take k) = 0 ∧ M.beg (xs.take k) t = min (M.beg xs t) k := by
  obtain ⟨l1, l6, hs⟩ := M.chkE_zero h
  have hl : (xs.take k).length = k := by rw [List.length_take]; omega
  have hs2 : M.srt (xs.take k) = true := by
    unfold M.srt
    rw [List.all_eq_true]
    intro i hi
    rw [List.mem_range, hl] at hi
    rw [M.gi_take (by omega), M.gi_take (by omega)]
    simpa using M.srt_mono hs (Nat.le_succ i) (by omega)
  refine ⟨by unfold M.chkE; rw [if_neg (by omega), if_pos hs2], ?_⟩
  have hr := M.beg_le (xs.take k) t
  rw [hl] at hr
  have e : ∀ i, i < k → (M.beg xs t ≤ i ↔ M.beg (xs.take k) t ≤ i) := fun i hi => by
    rw [← M.beg_iff hs t (i := i) (by omega), ← M.beg_iff hs2 t (i := i) (by omega), M.gi_take hi]
  generalize M.beg (xs.take k) t = r2 at *
  generalize M.beg xs t = r at *
  rcases Nat.lt_or_ge r k with h1 | h1
  · have h2 := (e r h1).1 (Nat.le_refl _)
    rcases Nat.lt_or_ge r2 r with h3 | h3
    · have := (e r2 (by omega)).2 (Nat.le_refl _)
      omega
    · omega
  · have : ¬ r2 ≤ k - 1 := fun h3 => by
      have := (e (k - 1) (by omega)).2 h3
      omega
    omega
theorem Ns.take {w : World} {n : Nat} {xs : List Int} {b o cap k : Nat} (h : Ns w n xs (.slice (some ⟨b, o, none⟩) xs.length cap)) (hk1 : 1 ≤ k) (hk : k ≤ xs.length) : Ns w n (xs.take k) (.slice (some ⟨b, o, none⟩) k cap) := by
  obtain ⟨a2, c2, e, h2, h3⟩ := h.slice
  cases e
  obtain ⟨b', o', e, hb, hc⟩ := h.cells (by omega)
  cases e
  have hl : (xs.take k).length = k := by rw [List.length_take]; omega
  have := Ns.row (w := w) (n := n) (xs := xs.take k) (b := b) (o := o) (cap := cap) hb (by omega) h3 fun i x hx => by
    have hi : i < k := by have := (List.getElem?_eq_some_iff.1 hx).1; omega
    rw [M.gi_some (by omega), M.gi_take hi] at hx
    cases hx
    exact hc i (by omega)
  rwa [hl] at this

set_option maxRecDepth 100000 in
set_option maxHeartbeats 8000000 in
theorem fewer_law (xs : List Int) (a : Option Addr) (cap : Nat) (t X : Int) (w : World) (hX0 : 0 ≤ X) (hX : X < 256) (hN : Ns w w.heap.size xs (.slice a xs.length cap)) :
    Calls Try.prog 7 #[sch (.slice a xs.length cap), .int .u64 t, .int .u8 X] w fun e w' => e = .returned (.bool true) ∧ Below w.heap.size w w' := by
  have HS := Lib.hid (Sch.of xs a cap w hN)
  have HX := Lib.hid (box_later w 24 (.slice a xs.length cap))
  have HW := Lib.hid works12
  have K1 := Lib.hid (fun W h => HS.out.chk W h)
  by_cases h0 : M.chkE xs = 0
  · rw [h0] at K1
    obtain ⟨l1, l6, hs⟩ := M.chkE_zero h0
    obtain ⟨b, o, rfl, hb, hc⟩ := hN.cells l1
    obtain ⟨_, _, ee, hcap, hcm⟩ := hN.slice
    cases ee
    obtain ⟨m, hm⟩ : ∃ m : Nat, X % (xs.length : Int) = m := ⟨(X % (xs.length : Int)).toNat, by have := Int.emod_nonneg X (show (xs.length : Int) ≠ 0 by omega); omega⟩
    have hml : m < xs.length := by have := Int.emod_lt_of_pos X (show (0 : Int) < (xs.length : Int) by omega); omega
    obtain ⟨f1, f2⟩ := M.fewer h0 (k := m + 1) (by omega) (by omega) t
    have HS2 := Lib.hid (Sch.of (xs.take (m + 1)) (some ⟨b, o, none⟩) cap w (by rw [show (xs.take (m + 1)).length = m + 1 by rw [List.length_take]; omega]; exact hN.take (by omega) (by omega)))
    rw [show (xs.take (m + 1)).length = m + 1 by rw [List.length_take]; omega] at HS2
    have A1 := Lib.hid (fun W h => HS.out.act W t h)
    have A2 := Lib.hid (fun W h => HS2.out.act W t h)
    have e1 : M.actE (xs.take (m + 1)) t = M.actE xs t := by
      unfold M.actE
      rw [if_pos f1, if_pos h0, f2]
      by_cases hb : M.beg xs t = 0
      · rw [hb]; rfl
      · rw [if_neg hb, if_neg (by omega)]
    have e2 : M.actV (xs.take (m + 1)) t = min (M.actV xs t) (m : Int) := by
      unfold M.actV
      rw [if_pos f1, if_pos h0, f2]
      omega
    rw [e1, e2] at A2
    obtain ⟨q, hq, hq9⟩ : ∃ q : Nat, M.actV xs t = q ∧ q ≤ 6 := by
      unfold M.actV
      rw [if_pos h0]
      exact ⟨_, rfl, by have := M.beg_le xs t; omega⟩
    rw [hq] at A1 A2
    generalize M.actE xs t = e0 at *
    have hm6 : m < 6 := by omega
    have hmc : m + 1 ≤ cap := by omega
    have hl0 : ¬ ((xs.length : Int) = 0) := by omega
    have htm : X.tmod (xs.length : Int) = (m : Int) := by rw [Int.tmod_eq_emod_of_nonneg hX0]; exact hm
    clear HS HS2 hN hc hs h0 f1 f2 e1 e2 hq hb
    go_enter Try.func7, Try.ntmps7
    go_wp2_with fail
    refine (HW.out _).mono ?_
    rintro e w1 ⟨rfl, hb1⟩
    rw [World.size_alloc] at hb1
    have B1 := HX.out.1.trans (hb1.mono (Nat.le_succ w.heap.size))
    have c1 := HX.out.2 w1 hb1
    go_wp2_with fail
    refine (K1.out _ B1).mono ?_
    rintro e w2 ⟨rfl, hb2⟩
    have B2 := B1.trans (hb2.mono B1.size)
    have hb12 := hb1.trans (hb2.mono (by have := hb1.size; simpa using this))
    have c2 := HX.out.2 w2 hb12
    clear c1 hb1 hb2
    go_wp2_with fail
    refine (A1.out _ B2).mono ?_
    rintro e w3 ⟨rfl, hb3⟩
    have B3 := B2.trans (hb3.mono B2.size)
    have hb13 := hb12.trans (hb3.mono (by have := hb12.size; simpa using this))
    have c3 := HX.out.2 w3 hb13
    have hcz : (m : Int) + 1 ≤ (cap : Int) := by omega
    have hm0 : (0 : Int) ≤ (m : Int) + 1 := by omega
    clear c2 hb12 hb3
    go_wp2_with fail
    refine (A2.out _ B3).mono ?_
    rintro e w4 ⟨rfl, hb4⟩
    have B4 := B3.trans (hb4.mono B3.size)
    clear c3 hb13 hb4
    by_cases hqm : q ≤ m
    · have hq1 : (q : Int) ≤ (m : Int) := by omega
      have hq2 : ¬ (m : Int) < (q : Int) := by omega
      rw [Int.min_eq_left hq1]
      go_wp2_with fail
      go_ret
      exact ⟨rfl, B4⟩
    · have hq2 : (m : Int) < (q : Int) := by omega
      rw [Int.min_eq_right (by omega)]
      go_wp2_with fail
      go_ret
      exact ⟨rfl, B4⟩
  · have hne : (M.chkE xs != 0) = true := bne_iff_ne.2 h0
    clear HS h0 hN
    generalize M.chkE xs = e1 at *
    go_enter Try.func7, Try.ntmps7
    go_wp2_with fail
    refine (HW.out _).mono ?_
    rintro e w1 ⟨rfl, hb1⟩
    rw [World.size_alloc] at hb1
    have B1 := HX.out.1.trans (hb1.mono (Nat.le_succ w.heap.size))
    have c1 := HX.out.2 w1 hb1
    go_wp2_with fail
    refine (K1.out _ B1).mono ?_
    rintro e w2 ⟨rfl, hb2⟩
    have B2 := B1.trans (hb2.mono B1.size)
    go_wp2_with fail
    go_ret
    exact ⟨rfl, B2⟩
end Go.Proofs.Ytgmdloiekcifeaa
