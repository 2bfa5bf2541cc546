/- fork.Active, fork.From. -/
import Derived.Test.YtgmdloiekcifeaaFK3
namespace Go.Proofs.Ytgmdloiekcifeaa
open Go Go.RowKit Go.Lib

set_option maxRecDepth 100000 in
set_option maxHeartbeats 4000000 in
theorem active_any (xs : List Int) (a : Option Addr) (cap : Nat) (t : Int) (w : World) (hN : Ns w w.heap.size xs (.slice a xs.length cap)) :
    Calls Try.prog 10 #[sch (.slice a xs.length cap), .int .u64 t] w fun e w' => e = .returned (.tuple #[.int .i64 (M.actV xs t), .int .i64 (M.actE xs t)]) ∧ Below w.heap.size w w' := by
  have HK := Lib.hid (fun (W : World) (h : Below w.heap.size w W) => fcheck_any xs a cap W ((hN.from_ h).mono h.size))
  obtain ⟨w0, hw0⟩ : ∃ w0, w.alloc (.cells #[.slice a xs.length cap] 24) = w0 := ⟨_, rfl⟩
  have hsz : w0.heap.size = w.heap.size + 1 := by rw [← hw0]; simp
  have hb0 : Below w.heap.size w w0 := by rw [← hw0]; (repeat (first | exact Below.refl _ _ | refine Below.drew ?_ | refine Below.alloc ?_ (by first | omega | (simp; omega) | simp) _ | refine Below.setCell ?_ (by first | omega | (simp; omega) | simp) _))
  have hc0 : w0.cell? ⟨w.heap.size, 0, none⟩ = some (.slice a xs.length cap) := by rw [← hw0, World.cell?_alloc_at _ _ _ _ (by simp)]; rfl
  have HW := Lib.hid hw0
  have HB := Lib.hid hb0
  have HZ := Lib.hid hsz
  have HC := Lib.hid hc0
  clear hw0 hb0 hsz hc0
  by_cases hE : M.chkE xs = 0
  · obtain ⟨h1, h6, hs⟩ := M.chkE_zero hE
    obtain ⟨b, o, rfl, hb, hc⟩ := hN.cells h1
    have HG := Lib.hid (fun (W : World) (h : Below w.heap.size w W) => begun_any xs b o cap t W h6 hs (Nat.lt_of_lt_of_le hb h.size) (fun i hi => (h.cell (p := ⟨b, o + i, none⟩) hb).trans (hc i hi)))
    unfold M.actV M.actE
    rw [if_pos hE, if_pos hE]
    rw [hE] at HK
    clear hE hs hc hN hb
    have hr := M.beg_le xs t
    generalize M.beg xs t = r at *
    have hr6 : r ≤ 6 := by omega
    clear hr
    go_enter Try.func10, Try.ntmps10
    go_wp2_with fail
    rw [HW.out]
    refine (HK.out _ HB.out).mono ?_
    rintro e w1 ⟨rfl, hb1⟩
    have c1 := (hb1.cell (p := ⟨w.heap.size, 0, none⟩) (by rw [HZ.out]; show w.heap.size < _; omega)).trans HC.out
    have B1 := HB.out.trans (hb1.mono HB.out.size)
    clear hb1
    go_wp2_with fail
    refine (HG.out _ B1).mono ?_
    rintro e w2 ⟨rfl, hb2⟩
    have B2 := B1.trans (hb2.mono B1.size)
    clear hb2
    by_cases h0 : r = 0
    · subst h0
      go_wp2_with fail
      go_ret2
      exact ⟨rfl, B2⟩
    · obtain ⟨q, rfl⟩ : ∃ q, r = q + 1 := ⟨r - 1, by omega⟩
      go_wp2_with fail
      go_ret2
      exact ⟨by simp, B2⟩
  · unfold M.actV M.actE
    rw [if_neg hE, if_neg hE]
    have hne : (M.chkE xs != 0) = true := bne_iff_ne.2 hE
    clear hE hN
    generalize M.chkE xs = c at *
    go_enter Try.func10, Try.ntmps10
    go_wp2_with fail
    rw [HW.out]
    refine (HK.out _ HB.out).mono ?_
    rintro e w1 ⟨rfl, hb1⟩
    have B1 := HB.out.trans (hb1.mono HB.out.size)
    go_wp2_with fail
    go_ret2
    exact ⟨rfl, B1⟩

set_option maxRecDepth 100000 in
set_option maxHeartbeats 4000000 in
theorem from_any (xs : List Int) (a : Option Addr) (cap : Nat) (f : Int) (w : World) (hN : Ns w w.heap.size xs (.slice a xs.length cap)) :
    Calls Try.prog 12 #[sch (.slice a xs.length cap), .int .i64 f] w fun e w' => e = .returned (.tuple #[.int .u64 (M.frmV xs f), .int .i64 (M.frmE xs f)]) ∧ Below w.heap.size w w' := by
  have HK := Lib.hid (fun (W : World) (h : Below w.heap.size w W) => fcheck_any xs a cap W ((hN.from_ h).mono h.size))
  obtain ⟨w0, hw0⟩ : ∃ w0, w.alloc (.cells #[.slice a xs.length cap] 24) = w0 := ⟨_, rfl⟩
  have hsz : w0.heap.size = w.heap.size + 1 := by rw [← hw0]; simp
  have hb0 : Below w.heap.size w w0 := by rw [← hw0]; (repeat (first | exact Below.refl _ _ | refine Below.drew ?_ | refine Below.alloc ?_ (by first | omega | (simp; omega) | simp) _ | refine Below.setCell ?_ (by first | omega | (simp; omega) | simp) _))
  have hc0 : w0.cell? ⟨w.heap.size, 0, none⟩ = some (.slice a xs.length cap) := by rw [← hw0, World.cell?_alloc_at _ _ _ _ (by simp)]; rfl
  have HW := Lib.hid hw0
  have HB := Lib.hid hb0
  have HZ := Lib.hid hsz
  have HC := Lib.hid hc0
  clear hw0 hb0 hsz hc0
  by_cases hE : M.chkE xs = 0
  · obtain ⟨h1, h6, hs⟩ := M.chkE_zero hE
    obtain ⟨b, o, rfl, hb, hc⟩ := hN.cells h1
    unfold M.frmV M.frmE
    rw [if_pos hE, if_pos hE]
    rw [hE] at HK
    clear hE hs hN
    by_cases h0 : f < 0
    · rw [if_pos (.inl h0), if_pos (.inl h0)]
      clear hc
      go_enter Try.func12, Try.ntmps12
      go_wp2_with fail
      rw [HW.out]
      refine (HK.out _ HB.out).mono ?_
      rintro e w1 ⟨rfl, hb1⟩
      have B1 := HB.out.trans (hb1.mono HB.out.size)
      go_wp2_with fail
      go_ret2
      exact ⟨rfl, B1⟩
    · by_cases h2 : (xs.length : Int) ≤ f
      · rw [if_pos (.inr h2), if_pos (.inr h2)]
        clear hc
        go_enter Try.func12, Try.ntmps12
        go_wp2_with fail
        rw [HW.out]
        refine (HK.out _ HB.out).mono ?_
        rintro e w1 ⟨rfl, hb1⟩
        have c1 := (hb1.cell (p := ⟨w.heap.size, 0, none⟩) (by rw [HZ.out]; show w.heap.size < _; omega)).trans HC.out
        have B1 := HB.out.trans (hb1.mono HB.out.size)
        clear hb1
        go_wp2_with fail
        go_ret2
        exact ⟨rfl, B1⟩
      · rw [if_neg (by omega), if_neg (by omega)]
        obtain ⟨k, rfl⟩ : ∃ k : Nat, f = k := ⟨f.toNat, by omega⟩
        have hk : k < xs.length := by omega
        have hkz : (k : Int) < (xs.length : Int) := by omega
        rw [Int.toNat_natCast]
        have ck := hc k hk
        generalize M.gi xs k = x at *
        clear hc h2
        go_enter Try.func12, Try.ntmps12
        go_wp2_with fail
        rw [HW.out]
        refine (HK.out _ HB.out).mono ?_
        rintro e w1 ⟨rfl, hb1⟩
        have c1 := (hb1.cell (p := ⟨w.heap.size, 0, none⟩) (by rw [HZ.out]; show w.heap.size < _; omega)).trans HC.out
        have B1 := HB.out.trans (hb1.mono HB.out.size)
        have ck1 := (B1.cell (p := ⟨b, o + k, none⟩) hb).trans ck
        clear hb1
        go_wp2_with fail
        go_ret2
        exact ⟨rfl, B1⟩
  · unfold M.frmV M.frmE
    rw [if_neg hE, if_neg hE]
    have hne : (M.chkE xs != 0) = true := bne_iff_ne.2 hE
    clear hE hN
    generalize M.chkE xs = c at *
    go_enter Try.func12, Try.ntmps12
    go_wp2_with fail
    rw [HW.out]
    refine (HK.out _ HB.out).mono ?_
    rintro e w1 ⟨rfl, hb1⟩
    have B1 := HB.out.trans (hb1.mono HB.out.size)
    go_wp2_with fail
    go_ret2
    exact ⟨rfl, B1⟩
end Go.Proofs.Ytgmdloiekcifeaa
