/- SszOnly. -/
import Derived.Test.YtemnjoiajmcpjaaGreatDoorS8g
import Derived.Test.YtemnjoiajmcpjaaGreatDoorK11
import Derived.Test.YtemnjoiajmcpjaaGreatDoorK12
namespace Go.Proofs.YtemnjoiajmcpjaaGreatDoor
open Go Go.RowKit

theorem M.get_cnt {t : M.Ty} {s : List UInt8} (h : (M.getT t s).2 = 0) : M.cntV (M.getT t s).1 ≤ 1 + 7 * s.length := by
  obtain ⟨h1, h2, h3⟩ := M.ssz_only h
  have hc := M.fitsV_fits h2
  have hf : M.fitV t (M.getT t s).1 = 0 := by rw [← M.fitsV_in hc]; exact h2
  have hp : M.putV t (M.getT t s).1 = s := by
    unfold M.putT at h1
    rw [if_neg (by simp [h2])] at h1
    split at h1
    · cases h1
    · exact congrArg Prod.fst h1
  have := (M.cnt_put t 0 hc _ hf h3).1
  rw [hp] at this
  exact this
theorem M.get_err {t : M.Ty} {s : List UInt8} (hg : ∀ k n ts, t = .mk k n ts → (M.getV (.mk k n ts) s).2 ≠ 0 → (M.getV (.mk k n ts) s).1 = M.noV) (h : (M.getT t s).2 ≠ 0) : (M.getT t s).1 = M.noV := by
  unfold M.getT at h ⊢
  split
  · rfl
  · split
    · rfl
    · rename_i h1 h2
      rw [if_neg h1, if_neg h2] at h
      obtain ⟨k, n, ts⟩ := t
      exact hg k n ts rfl h
set_option maxRecDepth 100000 in
set_option maxHeartbeats 8000000 in
theorem zonly_law (HK : Hid ZWorks) (HZ : Hid Sszs) (HN : Hid (∀ k n ts s, (M.getV (.mk k n ts) s).2 ≠ 0 → (M.getV (.mk k n ts) s).1 = M.noV)) (k n : Int) (ts : List M.Ty) (at_ : Option Addr) (ct : Nat) (s : List UInt8) (w : World)
    (hT : LayT w w.heap.size ts (.slice at_ ts.length ct)) (_hs : s.length ≤ maxLen) :
    Calls Tryz.prog 6 #[tv k n (.slice at_ ts.length ct), .string ⟨s.toArray⟩] w fun e w' => e = .returned (.bool true) ∧ Below w.heap.size w w' := by
  obtain ⟨w0, hw0⟩ : ∃ w0, w.alloc (.cells #[.int .i64 k, .int .i64 n, .slice at_ ts.length ct] 24) = w0 := ⟨_, rfl⟩
  have hb0 : Below w.heap.size w w0 := by rw [← hw0]; exact (Below.refl _ _).alloc (Nat.le_refl _) _
  have hz0 : w0.heap.size = w.heap.size + 1 := by rw [← hw0]; simp
  have hB0 : BoxT w0 w.heap.size k n (.slice at_ ts.length ct) := by rw [← hw0]; exact BoxT.new _ _ _ _ _
  have HW := Lib.hid hw0
  clear hw0
  go_enter Tryz.func6, Tryz.ntmps6
  go_wp2_with fail
  rw [HW.out]
  refine (HK.out w0).mono ?_
  rintro e w1 ⟨rfl, hb1⟩
  have hb01 : Below w0.heap.size w0 w1 := hb1
  have hbw1 := hb0.trans (hb01.mono hb0.size)
  have hB1 := hB0.from_ hb01 (by omega)
  have t0 := hB1.c0
  have t1 := hB1.c1
  have t2 := hB1.c2
  go_wp2_with fail
  refine (few_none k n ts at_ ct w1 ((hT.from_ hbw1).mono hbw1.size)).mono ?_
  rintro e w2 ⟨⟨q1, rfl, hq1⟩, hb2⟩
  have hb02 : Below w0.heap.size w0 w2 := hb01.trans (hb2.mono hb01.size)
  have hbw2 := hb0.trans (hb02.mono hb0.size)
  have HQ1 := Lib.hid hq1
  clear hq1 t0 t1 t2 hB1 hb1 hb2
  cases q1 with
  | false =>
    go_wp2_with fail
    go_ret
    exact ⟨rfl, hbw2⟩
  | true =>
    obtain ⟨g1, g2⟩ := HQ1.out rfl
    have hB2 := hB0.from_ hb02 (by omega)
    have t0 := hB2.c0
    have t1 := hB2.c1
    have t2 := hB2.c2
    by_cases hl : s.length ≤ 800
    case neg =>
      have hl1 : (800 : Int) < (s.length : Nat) := by omega
      go_wp2_with fail
      go_ret
      exact ⟨rfl, hbw2⟩
    have HP1 := Lib.hid (HZ.out.get k n ts at_ ct s w2 ((hT.from_ hbw2).mono hbw2.size) (by omega) (by omega))
    have HON : Hid ((M.getT (.mk k n ts) s).2 = 0 → M.putT (.mk k n ts) (M.getT (.mk k n ts) s).1 = (s, 0) ∧ M.fitsV (.mk k n ts) (M.getT (.mk k n ts) s).1 = 0 ∧ M.cntV (M.getT (.mk k n ts) s).1 ≤ 6000) := fun h =>
      ⟨(M.ssz_only h).1, (M.ssz_only h).2.1, by have := M.get_cnt h; omega⟩
    have HER : Hid ((M.getT (.mk k n ts) s).2 ≠ 0 → (M.getT (.mk k n ts) s).1 = M.noV) := M.get_err fun k n ts _ => HN.out k n ts s
    generalize M.getT (.mk k n ts) s = r at *
    obtain ⟨v, x⟩ := r
    simp only at HON HER
    have hl1 : (s.length : Int) ≤ 800 := by omega
    go_wp2_with fail
    refine HP1.out.mono ?_
    rintro e w3 ⟨⟨N1, bs1, us1, p1, ab1, cb1, au1, cu1, hg1, rfl, hv1⟩, hb3⟩
    simp only at hg1
    subst hg1
    have hb03 : Below w0.heap.size w0 w3 := hb02.trans (hb3.mono hb02.size)
    obtain ⟨w4, hw4⟩ : ∃ w4, w3.alloc (.cells #[.int .u64 (M.pt 0 N1), .int .u64 (M.pt 1 N1), .int .u64 (M.pt 2 N1), .int .u64 (M.pt 3 N1), .slice ab1 bs1.length cb1, .slice au1 us1.length cu1, .int .i64 p1] 31) = w4 := ⟨_, rfl⟩
    have hz4 : w4.heap.size = w3.heap.size + 1 := by rw [← hw4]; simp
    have hb4 : Below w3.heap.size w3 w4 := by rw [← hw4]; exact (Below.refl _ _).alloc (Nat.le_refl _) _
    have hb04 : Below w0.heap.size w0 w4 := hb03.trans (hb4.mono hb03.size)
    have hbw4 := hb0.trans (hb04.mono hb0.size)
    have hA4 : Cells7 w4 w3.heap.size 0 N1 (.slice ab1 bs1.length cb1) (.slice au1 us1.length cu1) p1 := by rw [← hw4]; exact Cells7.new _ _ _ _ _ _
    have hv4 := (hv1.from_ hb4).mono hb4.size
    have HW4 := Lib.hid hw4
    clear hw4 t0 t1 t2 HP1
    have hB4 := hB0.from_ hb04 (by omega)
    have t0 := hB4.c0
    have t1 := hB4.c1
    have t2 := hB4.c2
    have a0 := hA4.c0
    have a1 := hA4.c1
    have a2 := hA4.c2
    have a3 := hA4.c3
    have a4 := hA4.c4
    have a5 := hA4.c5
    have a6 := hA4.c6
    simp only [Nat.zero_add] at a1 a2 a3 a4 a5 a6
    rw [← HW4.out] at t0 t1 t2 a0 a1 a2 a3 a4 a5 a6
    by_cases hx : x = 0
    case neg =>
      obtain ⟨e1, e2, e3, e4⟩ := M.va_inj (HER.out hx)
      subst e1 e2 e3 e4
      have hx1 : (((x : Nat) : Int) != 0) = true := by simp; omega
      have HS := shape_same 0 [] [] 0 ab1 cb1 au1 cu1 0 [] [] 0 none 0 none 0 w4 hv4 ⟨by unfold M.In; omega, .nil_ (by decide), .nil_ (by decide)⟩ (by decide) (by decide)
      rw [show vv 0 (.slice none ([] : List Bool).length 0) (.slice none ([] : List M.Va).length 0) 0 = .agg #[.int .u64 0, .int .u64 0, .int .u64 0, .int .u64 0, .slice none 0 0, .slice none 0 0, .int .i64 0] by
        show Value.agg _ = _
        rw [show M.pt 0 0 = 0 by decide +kernel, show M.pt 1 0 = 0 by decide +kernel, show M.pt 2 0 = 0 by decide +kernel, show M.pt 3 0 = 0 by decide +kernel]; rfl] at HS
      have HS := Lib.hid HS
      clear hx HON
      go_wp2_with fail
      rw [show w3.alloc (.cells #[.int .u64 (M.pt 0 0), .int .u64 (M.pt 1 0), .int .u64 (M.pt 2 0), .int .u64 (M.pt 3 0), .slice ab1 0 cb1, .slice au1 0 cu1, .int .i64 0] 31) = w4 from HW4.out]
      refine HS.out.mono ?_
      rintro e w5 ⟨rfl, hb5⟩
      rw [(M.same_eq (.mk 0 [] [] 0) (.mk 0 [] [] 0)).2 rfl]
      go_wp2_with fail
      go_ret
      exact ⟨rfl, hbw4.trans (Below.mono hb5 hbw4.size)⟩
    subst hx
    obtain ⟨hput, hfit, hcnt⟩ := HON.out rfl
    have HP := HZ.out.put k n ts at_ ct N1 bs1 us1 p1 ab1 cb1 au1 cu1 w4 ((hT.from_ hbw4).mono hbw4.size) hv4 (by omega) hcnt
    rw [hput] at HP
    have HP := Lib.hid HP
    have HFT := Lib.hid hfit
    have HCN := Lib.hid hcnt
    clear hput hfit HON HER hcnt
    go_wp2_with fail
    rw [HW4.out]
    refine HP.out.mono ?_
    rintro e w5 ⟨rfl, hb5⟩
    have hb05 : Below w0.heap.size w0 w5 := hb04.trans (Below.mono hb5 hb04.size)
    have hbw5 := hb0.trans (hb05.mono hb0.size)
    have HF := shape_fits k n ts at_ ct N1 bs1 us1 p1 ab1 cb1 au1 cu1 w5 ((hT.from_ hbw5).mono hbw5.size) ((hv4.from_ hb5).mono (Below.size hb5)) (by omega) HCN.out
    rw [HFT.out] at HF
    have HF := Lib.hid HF
    clear t0 t1 t2 a0 a1 a2 a3 a4 a5 a6 HP
    have hB5 := hB0.from_ hb05 (by omega)
    have hA5 := hA4.from_ hb5 (by omega)
    have t0 := hB5.c0
    have t1 := hB5.c1
    have t2 := hB5.c2
    have a0 := hA5.c0
    have a1 := hA5.c1
    have a2 := hA5.c2
    have a3 := hA5.c3
    have a4 := hA5.c4
    have a5 := hA5.c5
    have a6 := hA5.c6
    simp only [Nat.zero_add] at a1 a2 a3 a4 a5 a6
    go_wp2_with fail
    refine HF.out.mono ?_
    rintro e w6 ⟨rfl, hb6⟩
    go_wp2_with fail
    go_ret
    exact ⟨rfl, hbw5.trans (Below.mono hb6 hbw5.size)⟩
end Go.Proofs.YtemnjoiajmcpjaaGreatDoor
