/- The reference's Vals: how many values stand in a value. -/
import Derived.Test.YtmlkccbhdhgoeaaDoorT1g
import Derived.Test.YtmlkccbhdhgoeaaDoorMM
namespace Go.Proofs.YtmlkccbhdhgoeaaDoor
open Go Go.RowKit

theorem div8 (n : Nat) (h : (n : Int) ≤ 9223372036854775807) : IntKind.i64.wrap (Int.tdiv (n : Int) 8) = ((n / 8 : Nat) : Int) := by
  rw [IntKind.wrap_i64, show Int.tdiv (n : Int) 8 = ((n / 8 : Nat) : Int) from rfl]
  omega

set_option maxRecDepth 100000 in
set_option maxHeartbeats 4000000 in
theorem vals_n (n : Nat) : ∀ (N : Nat) (bs : List Bool) (xs : List M.Va) (p : Int) (ab : Option Addr) (cb : Nat) (a : Option Addr) (cap : Nat) (w : World) (mo : Nat) (dp : Int), SizeOf.sizeOf xs ≤ n → Vl w w.heap.size N bs xs ab cb a cap → mo ≤ 1000 → -1 ≤ dp → dp ≤ 16 →
    Calls Tryd.prog 21 #[vv N (.slice ab bs.length cb) (.slice a xs.length cap) p, .int .i64 (mo : Nat), .int .i64 dp] w fun e w' => (∃ r : Nat, e = .returned (.int .i64 (r : Nat)) ∧ 1 ≤ r ∧ r ≤ mo + 1 ∧ (r ≤ mo → M.cntV (.mk N bs xs p) ≤ r)) ∧ Below w.heap.size w w' := by
  induction n with
  | zero => intro N bs xs p ab cb a cap w mo dp h; cases xs <;> simp at h
  | succ n ih =>
    intro N bs xs p ab cb a cap w mo dp hs hL hmo hd1 hd2
    have hB := Cells7.new w N (.slice ab bs.length cb) (.slice a xs.length cap) p 31
    have hb0 : Below w.heap.size w (w.alloc (.cells #[.int .u64 (M.pt 0 N), .int .u64 (M.pt 1 N), .int .u64 (M.pt 2 N), .int .u64 (M.pt 3 N), .slice ab bs.length cb, .slice a xs.length cap, .int .i64 p] 31)) := by (repeat (first | exact Below.refl _ _ | refine Below.drew ?_ | refine Below.alloc ?_ (by first | omega | (simp; omega) | simp) _ | refine Below.setCell ?_ (by first | omega | (simp; omega) | simp) _))
    obtain ⟨_, _, hbe, _, hbm⟩ := hL.b.slice
    have hbl : bs.length ≤ maxLen := by
      cases hbe
      omega
    simp only [maxLen] at hbl
    clear hbe hbm
    obtain ⟨q8, hq8⟩ : ∃ q8, q8 = bs.length / 8 := ⟨_, rfl⟩
    have h8 : (bs.length : Int) / 8 = (q8 : Nat) := by omega
    have hc8 : Hid (M.cntV (.mk N bs xs p) = 1 + q8 + M.cntVs xs) := by show _ = _; rw [M.cntV, hq8]
    have hq8m : q8 ≤ 9223372036854775807 / 8 := by omega
    clear hq8
    by_cases hdp : dp < 0
    · clear hc8
      go_enter Tryd.func21, Tryd.ntmps21
      go_wp2_with fail
      go_ret
      refine ⟨⟨mo + 1, by simp, by omega, by omega, by omega⟩, ?_⟩
      exact hb0
    · have hdp' : decide (dp < 0) = false := by simp; omega
      by_cases hbig : mo < 1 + q8
      · have hbig' : (mo : Int) < 1 + (q8 : Int) := by omega
        clear hc8
        go_enter Tryd.func21, Tryd.ntmps21
        go_wp2_with fail
        go_ret
        refine ⟨⟨mo + 1, by simp, by omega, by omega, by omega⟩, ?_⟩
        exact hb0
      · have hbig' : ¬ (mo : Int) < 1 + (q8 : Int) := by omega
        go_enter Tryd.func21, Tryd.ntmps21
        go_wp2_with fail
        generalize hw0 : w.alloc (.cells #[.int .u64 (M.pt 0 N), .int .u64 (M.pt 1 N), .int .u64 (M.pt 2 N), .int .u64 (M.pt 3 N), .slice ab bs.length cb, .slice a xs.length cap, .int .i64 p] 31) = w0 at *
        have hz : w0.heap.size = w.heap.size + 1 := by rw [← hw0]; simp
        clear hw0
        go_loopw [7, 8] (fun m i wr => ∃ k q : Nat, k ≤ xs.length ∧ i = .int .i64 k ∧ m = .int .i64 (q : Nat) ∧ 1 ≤ q ∧ q ≤ mo + 1 ∧ (q ≤ mo → 1 + q8 + M.cntVs (xs.take k) ≤ q) ∧ Below w0.heap.size w0 wr) (fun _ i _ => xs.length - (intOf i).toNat)
        case atStart => exact ⟨0, 1 + q8, by omega, rfl, by simp, by omega, by omega, fun _ => by simp [M.cntVs], Below.refl _ _⟩
        case round =>
          obtain ⟨k, q, hk, rfl, rfl, hq1, hq2, hq3, hW⟩ := hrel
          have hbx := hB.from_ hW (by omega)
          have hLr := (hL.from_ hb0).from_ (hW.mono (by omega))
          have hsz := hW.size
          have hc5 := hbx.c5
          have hbW : Below w.heap.size w wr := hb0.trans (hW.mono (by omega))
          by_cases hlt : k < xs.length
          · obtain ⟨b, o, N', bs', us, p', ab', cb', au, cu, rfl, hbn, hxk, hC, hVl⟩ := hLr.v.at_ hlt
            obtain ⟨e0, e1, e2, e3, e4, e5, e6⟩ := hC
            by_cases hqm : q ≤ mo
            · have hk2 : k < 1000 := by have := hq3 hqm; have h2 := M.length_cntV (xs.take k); rw [List.length_take] at h2; omega
              have hnx := M.cntVs_next hxk
              generalize M.cntVs (xs.take k) = c at *
              have hsx := size_va hxk
              rw [M.Va.mk.sizeOf_spec] at hsx
              obtain ⟨r, hr⟩ : ∃ r, r = mo - q := ⟨_, rfl⟩
              have hr2 : (mo : Int) - (q : Int) = (r : Nat) := by omega
              have hr3 : Hid (r + q = mo) := by show _ = _; omega
              have hr4 : r ≤ 1000 := by omega
              clear hr
              have HQ := Lib.hid hq3
              have IH := Lib.hid ih
              have HN := Lib.hid hnx
              clear hq3 ih hnx
              go_wp2_with fail
              refine (IH.out N' bs' us p' ab' cb' au cu _ r _ (by omega) (hVl.mono (by omega)) (by omega) (by omega) (by omega)).mono ?_
              rintro e w1 ⟨⟨s, rfl, hs1, hs2, hs3⟩, hb1⟩
              have hw1 : Below w0.heap.size w0 w1 := hW.trans (hb1.mono hsz)
              have hqs : q + s ≤ 2000 := by have := hr3.out; omega
              generalize M.cntV (M.Va.mk N' bs' us p') = c2 at *
              have HS := Lib.hid hs3
              clear hs3
              go_wp2_with fail
              go_roundw
              case rel => exact ⟨k + 1, q + s, by omega, by simp, by simp, by omega, by have := hr3.out; omega, fun h => by have := hr3.out; rw [HN.out]; have := HS.out (by omega); have := HQ.out hqm; omega, hw1⟩
              case measure => simp [intOf]; omega
            · go_wp2_with fail
              go_ret
              exact ⟨⟨q, rfl, by omega, by omega, fun h => by omega⟩, hbW⟩
          · obtain rfl : k = xs.length := by omega
            rw [List.take_length] at *
            have HQ := Lib.hid hq3
            clear hq3
            go_wp2_with fail
            go_ret
            exact ⟨⟨q, rfl, by omega, by omega, fun h => by rw [hc8.out]; exact HQ.out h⟩, hbW⟩
end Go.Proofs.YtmlkccbhdhgoeaaDoor
