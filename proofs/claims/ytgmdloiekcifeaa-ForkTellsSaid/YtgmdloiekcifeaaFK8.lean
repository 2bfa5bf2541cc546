/- The reference's Check, Active, From. -/
import Derived.Test.YtgmdloiekcifeaaFK4
namespace Go.Proofs.Ytgmdloiekcifeaa
open Go Go.RowKit

theorem below_drewN {B : Nat} {w W : World} (h : Below B w W) (n : Nat) : Below B w (W.drewN n) := ⟨h.os, h.tape, h.output, h.size, h.block⟩
theorem M.srt_no {xs : List Int} (h : M.srt xs = false) : ∃ i, i + 1 < xs.length ∧ M.gi xs (i + 1) < M.gi xs i := by
  unfold M.srt at h
  rw [List.all_eq_false] at h
  obtain ⟨i, hi, hx⟩ := h
  rw [List.mem_range] at hi
  exact ⟨i, by omega, by simpa using hx⟩

set_option maxRecDepth 100000 in
set_option maxHeartbeats 4000000 in
theorem rcheck_any (xs : List Int) (a : Option Addr) (cap : Nat) (w : World) (hN : Ns w w.heap.size xs (.slice a xs.length cap)) :
    Calls Try.prog 9 #[sch (.slice a xs.length cap)] w fun e w' => e = .returned (.int .i64 (M.chkE xs)) ∧ Below w.heap.size w w' := by
  have mixed : Try.prog.follows .mixedOrders = true := by kernel_rfl
  by_cases hlen : xs.length < 1 ∨ 6 < xs.length
  · rw [show M.chkE xs = 2 by unfold M.chkE; rw [if_pos hlen]]
    clear hN
    rcases hlen with h | h
    · go_enter Try.func9, Try.ntmps9
      go_wp2_with fail
      go_ret
      exact ⟨rfl, by (repeat (first | exact Below.refl _ _ | refine Below.drew ?_ | refine Below.alloc ?_ (by first | omega | (simp; omega) | simp) _ | refine Below.setCell ?_ (by first | omega | (simp; omega) | simp) _))⟩
    · have h1 : ¬ xs.length < 1 := by omega
      go_enter Try.func9, Try.ntmps9
      go_wp2_with fail
      go_ret
      exact ⟨rfl, by (repeat (first | exact Below.refl _ _ | refine Below.drew ?_ | refine Below.alloc ?_ (by first | omega | (simp; omega) | simp) _ | refine Below.setCell ?_ (by first | omega | (simp; omega) | simp) _))⟩
  · have h1 : 1 ≤ xs.length := by omega
    have h6 : xs.length ≤ 6 := by omega
    obtain ⟨b, o, rfl, hb, hc⟩ := hN.cells h1
    have hR : M.chkE xs = if M.srt xs then 0 else 11 := by unfold M.chkE; rw [if_neg hlen]
    obtain ⟨r, hr⟩ : ∃ r, M.chkE xs = r := ⟨_, rfl⟩
    rw [hr] at hR ⊢
    have HY : Hid ((∀ k, k + 1 < xs.length → M.gi xs k ≤ M.gi xs (k + 1)) → r = 0) := fun h => by
      rw [hR, if_pos]
      unfold M.srt
      rw [List.all_eq_true]
      intro k hk
      rw [List.mem_range] at hk
      simpa using h k (by omega)
    have HNo : Hid (∀ k, k + 1 < xs.length → M.gi xs (k + 1) < M.gi xs k → r = 11) := fun k hk h => by
      rw [hR, if_neg]
      intro hs
      have := List.all_eq_true.1 hs k (List.mem_range.2 (by omega))
      have : M.gi xs k ≤ M.gi xs (k + 1) := by simpa using this
      omega
    obtain ⟨w0, hw0⟩ : ∃ w0, w.alloc (.cells #[.slice (some ⟨b, o, none⟩) xs.length cap] 24) = w0 := ⟨_, rfl⟩
    have hsz : w0.heap.size = w.heap.size + 1 := by rw [← hw0]; simp
    have hb0 : Below w.heap.size w w0 := by rw [← hw0]; (repeat (first | exact Below.refl _ _ | refine Below.drew ?_ | refine Below.alloc ?_ (by first | omega | (simp; omega) | simp) _ | refine Below.setCell ?_ (by first | omega | (simp; omega) | simp) _))
    have hc0 : w0.cell? ⟨w.heap.size, 0, none⟩ = some (.slice (some ⟨b, o, none⟩) xs.length cap) := by rw [← hw0, World.cell?_alloc_at _ _ _ _ (by simp)]; rfl
    have HC0 := Lib.hid (fun W (h : Below w0.heap.size w0 W) => (h.cell (p := ⟨w.heap.size, 0, none⟩) (by rw [hsz]; show w.heap.size < _; omega)).trans hc0)
    have HC := Lib.hid (fun W (h : Below w0.heap.size w0 W) (i : Nat) (hi : i < xs.length) => ((h.cell (p := ⟨b, o + i, none⟩) (by rw [hsz]; show b < _; omega)).trans (hb0.cell (p := ⟨b, o + i, none⟩) hb)).trans (hc i hi))
    have HW := Lib.hid hw0
    have HB := Lib.hid hb0
    have HR := Lib.hid hr
    clear hr hR hc hb hN hlen hb0 hsz
    have hlt1 : ¬ (xs.length : Int) < 1 := by omega
    have hgt6 : ¬ (6 : Int) < (xs.length : Int) := by omega
    go_enter Try.func9, Try.ntmps9
    go_wp2_with fail
    try rw [HW.out]
    clear hw0 HW
    go_loopw [3] (fun i wr => ∃ j : Nat, 1 ≤ j ∧ j ≤ xs.length ∧ i = .int .i64 (j : Nat) ∧ (∀ k, k + 1 < j → M.gi xs k ≤ M.gi xs (k + 1)) ∧ Below w0.heap.size w0 wr) (fun i _ => xs.length - (RowKit.intOf i).toNat)
    case atStart => exact ⟨1, Nat.le_refl _, h1, rfl, fun k hk => by omega, Below.refl _ _⟩
    case round =>
      clear hc0
      obtain ⟨j, hj1, hj, rfl, hs, hW⟩ := hrel
      have c0 := HC0.out _ hW
      by_cases h : j < xs.length
      · obtain ⟨q, rfl⟩ : ∃ q, j = q + 1 := ⟨j - 1, by omega⟩
        have ca := HC.out _ hW (q + 1) h
        have cb := HC.out _ hW q (by omega)
        have hz : ((q + 1 : Nat) : Int) < (xs.length : Int) := by omega
        have HS := Lib.hid hs
        have HJ := Lib.hid h
        have HNq := Lib.hid (HNo.out q h)
        have hq6 : q < 6 := by omega
        clear hs h hj hj1
        generalize hx : M.gi xs (q + 1) = x at *
        generalize hy : M.gi xs q = y at *
        by_cases hxy : x < y
        · have hr11 := HNq.out hxy
          subst hr11
          go_wp2_with fail
          go_quiet (fail)
          go_wp2_with fail
          go_ret
          exact ⟨rfl, HB.out.trans ((below_drewN hW _).mono HB.out.size)⟩
        · go_wp2_with fail
          go_quiet (fail)
          go_wp2_with fail
          refine ⟨⟨q + 1 + 1, by omega, HJ.out, by simp, fun k hk => ?_, below_drewN hW _⟩, by have := HJ.out; simp [RowKit.intOf]; omega⟩
          by_cases e : k = q
          · subst e; omega
          · exact HS.out k (by omega)
      · obtain rfl : j = xs.length := by omega
        have hr0 := HY.out (fun k hk => hs k hk)
        subst hr0
        go_wp2_with fail
        go_ret
        exact ⟨rfl, HB.out.trans (hW.mono HB.out.size)⟩

theorem M.beg_first {xs : List Int} (hs : M.srt xs = true) (h1 : 1 ≤ xs.length) (t : Int) : M.beg xs t = 0 ↔ t < M.gi xs 0 := by
  have := M.beg_iff hs t (i := 0) (by omega)
  omega

set_option maxRecDepth 100000 in
set_option maxHeartbeats 4000000 in
theorem ractive_any (xs : List Int) (a : Option Addr) (cap : Nat) (t : Int) (w : World) (hN : Ns w w.heap.size xs (.slice a xs.length cap)) :
    Calls Try.prog 11 #[sch (.slice a xs.length cap), .int .u64 t] w fun e w' => e = .returned (.tuple #[.int .i64 (M.actV xs t), .int .i64 (M.actE xs t)]) ∧ Below w.heap.size w w' := by
  have HK := Lib.hid (fun (W : World) (h : Below w.heap.size w W) => rcheck_any xs a cap W ((hN.from_ h).mono h.size))
  obtain ⟨w0, hw0⟩ : ∃ w0, w.alloc (.cells #[.slice a xs.length cap] 24) = w0 := ⟨_, rfl⟩
  have hsz : w0.heap.size = w.heap.size + 1 := by rw [← hw0]; simp
  have hb0 : Below w.heap.size w w0 := by rw [← hw0]; (repeat (first | exact Below.refl _ _ | refine Below.drew ?_ | refine Below.alloc ?_ (by first | omega | (simp; omega) | simp) _ | refine Below.setCell ?_ (by first | omega | (simp; omega) | simp) _))
  have hc0 : w0.cell? ⟨w.heap.size, 0, none⟩ = some (.slice a xs.length cap) := by rw [← hw0, World.cell?_alloc_at _ _ _ _ (by simp)]; rfl
  have HW := Lib.hid hw0
  have HB := Lib.hid hb0
  have HZ := Lib.hid hsz
  have HC := Lib.hid hc0
  clear hw0 hb0 hsz hc0
  by_cases hE : M.chkE xs = 0
  · obtain ⟨h1, h6, hs⟩ := M.chkE_zero hE
    obtain ⟨b, o, rfl, hb, hc⟩ := hN.cells h1
    have hcX := Lib.hid (fun W (h : Below w.heap.size w W) (i : Nat) (hi : i < xs.length) => (h.cell (p := ⟨b, o + i, none⟩) hb).trans (hc i hi))
    unfold M.actV M.actE
    rw [if_pos hE, if_pos hE]
    rw [hE] at HK
    have HI := Lib.hid (fun (i : Nat) (hi : i < xs.length) => M.beg_iff hs t hi)
    have h0 := M.beg_first hs h1 t
    have hr := M.beg_le xs t
    generalize M.beg xs t = r at *
    obtain ⟨V, hV⟩ : ∃ V : Int, ((r - 1 : Nat) : Int) = V := ⟨_, rfl⟩
    obtain ⟨E, hEE⟩ : ∃ E : Int, (if r = 0 then 10 else 0) = E := ⟨_, rfl⟩
    rw [hV, hEE]
    have HV := Lib.hid hV
    have HEE := Lib.hid hEE
    have H0 := Lib.hid h0
    have HR := Lib.hid hr
    clear hE hs hc hN hb hV hEE h0 hr
    go_enter Try.func11, Try.ntmps11
    go_wp2_with fail
    rw [HW.out]
    refine (HK.out _ HB.out).mono ?_
    rintro e w1 ⟨rfl, hb1⟩
    have B1 := HB.out.trans (hb1.mono HB.out.size)
    have C1 := Lib.hid (fun W (h : Below w1.heap.size w1 W) => (h.cell (p := ⟨w.heap.size, 0, none⟩) (by have := hb1.size; rw [HZ.out] at this; show w.heap.size < _; omega)).trans ((hb1.cell (p := ⟨w.heap.size, 0, none⟩) (by rw [HZ.out]; show w.heap.size < _; omega)).trans HC.out))
    have c1 := C1.out _ (Below.refl _ _)
    have g0 := hcX.out _ B1 0 (by omega)
    rw [Nat.add_zero] at g0
    have hz0 : (0 : Int) < (xs.length : Int) := by omega
    clear hb1
    by_cases ht : t < M.gi xs 0
    · have e1 := H0.out.2 ht
      obtain rfl : E = 10 := by rw [← HEE.out, if_pos e1]
      obtain rfl : V = 0 := by rw [← HV.out, e1]; rfl
      generalize M.gi xs 0 = x0 at *
      clear e1
      go_wp2_with fail
      go_ret2
      exact ⟨rfl, B1⟩
    · have hr0 : Hid (r ≠ 0) := fun h => ht (H0.out.1 h)
      obtain rfl : E = 0 := by rw [← HEE.out, if_neg hr0.out]
      clear H0
      generalize M.gi xs 0 = x0 at *
      go_wp2_with fail
      go_loopw [7, 8] (fun f i wr => ∃ j : Nat, j ≤ xs.length ∧ i = .int .i64 (j : Nat) ∧ f = .int .i64 ((min r j - 1 : Nat) : Int) ∧ wr = w1) (fun f i _ => xs.length - (RowKit.intOf i).toNat)
      case atStart => exact ⟨0, Nat.zero_le _, rfl, by simp, rfl⟩
      case round =>
        obtain ⟨j, hj, rfl, rfl, rfl⟩ := hrel
        by_cases h : j < xs.length
        · have ca := hcX.out _ B1 j h
          have hI := HI.out j h
          have HJ := Lib.hid h
          have hzj : (j : Int) < (xs.length : Int) := by omega
          clear g0 hz0
          generalize M.gi xs j = x at *
          by_cases hx : x ≤ t
          · have e1 : min r (j + 1) - 1 = j := by have := HR.out; have := hr0.out; omega
            clear hI
            go_wp2_with fail
            exact ⟨⟨j + 1, HJ.out, by simp, by rw [e1], trivial⟩, by have := HJ.out; simp [RowKit.intOf]; omega⟩
          · have e1 : min r (j + 1) - 1 = min r j - 1 := by have := HR.out; have := hr0.out; omega
            clear hI
            go_wp2_with fail
            exact ⟨⟨j + 1, HJ.out, by simp, by rw [e1], trivial⟩, by have := HJ.out; simp [RowKit.intOf]; omega⟩
        · obtain rfl : j = xs.length := by omega
          have e1 : ((min r xs.length - 1 : Nat) : Int) = V := by rw [← HV.out, Nat.min_eq_left HR.out]
          rw [e1]
          clear e1
          go_wp2_with fail
          go_ret2
          exact ⟨rfl, B1⟩
  · unfold M.actV M.actE
    rw [if_neg hE, if_neg hE]
    have hne : (M.chkE xs != 0) = true := bne_iff_ne.2 hE
    clear hE hN
    generalize M.chkE xs = c at *
    go_enter Try.func11, Try.ntmps11
    go_wp2_with fail
    rw [HW.out]
    refine (HK.out _ HB.out).mono ?_
    rintro e w1 ⟨rfl, hb1⟩
    have B1 := HB.out.trans (hb1.mono HB.out.size)
    go_wp2_with fail
    go_ret2
    exact ⟨rfl, B1⟩
set_option maxRecDepth 100000 in
set_option maxHeartbeats 4000000 in
theorem rfrom_any (xs : List Int) (a : Option Addr) (cap : Nat) (f : Int) (w : World) (hN : Ns w w.heap.size xs (.slice a xs.length cap)) :
    Calls Try.prog 13 #[sch (.slice a xs.length cap), .int .i64 f] w fun e w' => e = .returned (.tuple #[.int .u64 (M.frmV xs f), .int .i64 (M.frmE xs f)]) ∧ Below w.heap.size w w' := by
  have HK := Lib.hid (fun (W : World) (h : Below w.heap.size w W) => rcheck_any xs a cap W ((hN.from_ h).mono h.size))
  obtain ⟨w0, hw0⟩ : ∃ w0, w.alloc (.cells #[.slice a xs.length cap] 24) = w0 := ⟨_, rfl⟩
  have hsz : w0.heap.size = w.heap.size + 1 := by rw [← hw0]; simp
  have hb0 : Below w.heap.size w w0 := by rw [← hw0]; (repeat (first | exact Below.refl _ _ | refine Below.drew ?_ | refine Below.alloc ?_ (by first | omega | (simp; omega) | simp) _ | refine Below.setCell ?_ (by first | omega | (simp; omega) | simp) _))
  have hc0 : w0.cell? ⟨w.heap.size, 0, none⟩ = some (.slice a xs.length cap) := by rw [← hw0, World.cell?_alloc_at _ _ _ _ (by simp)]; rfl
  have HW := Lib.hid hw0
  have HB := Lib.hid hb0
  have HZ := Lib.hid hsz
  have HC := Lib.hid hc0
  clear hw0 hb0 hsz hc0
  by_cases hE : M.chkE xs = 0
  · obtain ⟨h1, h6, hs⟩ := M.chkE_zero hE
    obtain ⟨b, o, rfl, hb, hc⟩ := hN.cells h1
    unfold M.frmV M.frmE
    rw [if_pos hE, if_pos hE]
    rw [hE] at HK
    clear hE hs hN
    by_cases h0 : f < 0
    · rw [if_pos (.inl h0), if_pos (.inl h0)]
      clear hc
      go_enter Try.func13, Try.ntmps13
      go_wp2_with fail
      rw [HW.out]
      refine (HK.out _ HB.out).mono ?_
      rintro e w1 ⟨rfl, hb1⟩
      have B1 := HB.out.trans (hb1.mono HB.out.size)
      go_wp2_with fail
      go_ret2
      exact ⟨rfl, B1⟩
    · by_cases h2 : (xs.length : Int) ≤ f
      · rw [if_pos (.inr h2), if_pos (.inr h2)]
        clear hc
        go_enter Try.func13, Try.ntmps13
        go_wp2_with fail
        rw [HW.out]
        refine (HK.out _ HB.out).mono ?_
        rintro e w1 ⟨rfl, hb1⟩
        have c1 := (hb1.cell (p := ⟨w.heap.size, 0, none⟩) (by rw [HZ.out]; show w.heap.size < _; omega)).trans HC.out
        have B1 := HB.out.trans (hb1.mono HB.out.size)
        clear hb1
        go_wp2_with fail
        go_ret2
        exact ⟨rfl, B1⟩
      · rw [if_neg (by omega), if_neg (by omega)]
        obtain ⟨k, rfl⟩ : ∃ k : Nat, f = k := ⟨f.toNat, by omega⟩
        have hk : k < xs.length := by omega
        have hkz : (k : Int) < (xs.length : Int) := by omega
        rw [Int.toNat_natCast]
        have ck := hc k hk
        generalize M.gi xs k = x at *
        clear hc h2
        go_enter Try.func13, Try.ntmps13
        go_wp2_with fail
        rw [HW.out]
        refine (HK.out _ HB.out).mono ?_
        rintro e w1 ⟨rfl, hb1⟩
        have c1 := (hb1.cell (p := ⟨w.heap.size, 0, none⟩) (by rw [HZ.out]; show w.heap.size < _; omega)).trans HC.out
        have B1 := HB.out.trans (hb1.mono HB.out.size)
        have ck1 := (B1.cell (p := ⟨b, o + k, none⟩) hb).trans ck
        clear hb1
        go_wp2_with fail
        go_ret2
        exact ⟨rfl, B1⟩
  · unfold M.frmV M.frmE
    rw [if_neg hE, if_neg hE]
    have hne : (M.chkE xs != 0) = true := bne_iff_ne.2 hE
    clear hE hN
    generalize M.chkE xs = c at *
    go_enter Try.func13, Try.ntmps13
    go_wp2_with fail
    rw [HW.out]
    refine (HK.out _ HB.out).mono ?_
    rintro e w1 ⟨rfl, hb1⟩
    have B1 := HB.out.trans (hb1.mono HB.out.size)
    go_wp2_with fail
    go_ret2
    exact ⟨rfl, B1⟩
end Go.Proofs.Ytgmdloiekcifeaa
