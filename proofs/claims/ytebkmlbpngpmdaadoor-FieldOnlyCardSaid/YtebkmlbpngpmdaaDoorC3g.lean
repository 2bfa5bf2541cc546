/- The reference's Many. -/
import Derived.Test.YtebkmlbpngpmdaaDoorC1g
namespace Go.Proofs.YtebkmlbpngpmdaaDoor
open Go Go.RowKit

set_option maxRecDepth 100000 in
set_option maxHeartbeats 4000000 in
theorem many_n (n : Nat) : ∀ (l : Bool) (d : List UInt8) (xs : List M.It) (v : Value) (w : World) (mo : Nat) (dp : Int), SizeOf.sizeOf xs ≤ n → Lay w w.heap.size xs v → mo ≤ 1000 → -1 ≤ dp → dp ≤ 16 →
    Calls Tryd.prog 48 #[iv l d v, .int .i64 (mo : Nat), .int .i64 dp] w fun e w' => (∃ r : Nat, e = .returned (.int .i64 (r : Nat)) ∧ 1 ≤ r ∧ r ≤ mo + 1 ∧ (r ≤ mo → M.cntI (.mk l d xs) ≤ r)) ∧ Below w.heap.size w w' := by
  induction n with
  | zero => intro l d xs v w mo dp h; cases xs <;> simp at h
  | succ n ih =>
    intro l d xs v w mo dp hs hL hmo hd1 hd2
    by_cases hdp : dp < 0
    · go_enter Tryd.func48, Tryd.ntmps48
      go_wp2_with fail
      go_ret
      refine ⟨⟨mo + 1, by simp, by omega, by omega, by omega⟩, ?_⟩
      (repeat (first | exact Below.refl _ _ | refine Below.drew ?_ | refine Below.alloc ?_ (by first | omega | (simp; omega) | simp) _ | refine Below.setCell ?_ (by first | omega | (simp; omega) | simp) _))
    · have hB := Box.new w l d v 30
      have hb0 : Below w.heap.size w (w.alloc (.cells #[.bool l, .string ⟨d.toArray⟩, v] 30)) := by (repeat (first | exact Below.refl _ _ | refine Below.drew ?_ | refine Below.alloc ?_ (by first | omega | (simp; omega) | simp) _ | refine Below.setCell ?_ (by first | omega | (simp; omega) | simp) _))
      have hdp' : decide (dp < 0) = false := by simp; omega
      go_enter Tryd.func48, Tryd.ntmps48
      go_wp2_with fail
      generalize hw0 : w.alloc (.cells #[.bool l, .string ⟨d.toArray⟩, v] 30) = w0 at *
      have hz : w0.heap.size = w.heap.size + 1 := by rw [← hw0]; simp
      clear hw0
      go_loopw [7, 8] (fun m i wr => ∃ k q : Nat, k ≤ xs.length ∧ i = .int .i64 k ∧ m = .int .i64 (q : Nat) ∧ 1 ≤ q ∧ q ≤ mo + 1 ∧ (q ≤ mo → 1 + M.cntIs (xs.take k) ≤ q) ∧ Below w0.heap.size w0 wr) (fun _ i _ => xs.length - (intOf i).toNat)
      case atStart => exact ⟨0, 1, by omega, rfl, rfl, by omega, by omega, fun _ => by simp [M.cntIs], Below.refl _ _⟩
      case round =>
        obtain ⟨k, q, hk, rfl, rfl, hq1, hq2, hq3, hW⟩ := hrel
        have hbx := hB.from_ hW (by omega)
        have hLr := (hL.from_ hb0).from_ (hW.mono (by omega))
        have hsz := hW.size
        by_cases hlt : k < xs.length
        · obtain ⟨b, o, cp, l', d', ys, u, hve, hbn, hxk, e0, e1, e2, hLu⟩ := hLr.at_ hlt
          subst hve
          have hc2 := hbx.c2
          by_cases hqm : q ≤ mo
          · have hk2 : k < 1000 := by have := hq3 hqm; have h2 := M.length_cnt (xs.take k); rw [List.length_take] at h2; omega
            have hnx := M.cntIs_next hxk
            generalize M.cntIs (xs.take k) = c at *
            have hsx := size_get hxk
            rw [M.It.mk.sizeOf_spec] at hsx
            obtain ⟨r, hr⟩ : ∃ r, r = mo - q := ⟨_, rfl⟩
            have hr2 : (mo : Int) - (q : Int) = (r : Nat) := by omega
            have hr3 : Hid (r + q = mo) := by show _ = _; omega
            have hr4 : r ≤ 1000 := by omega
            clear hr
            have HQ := Lib.hid hq3
            have IH := Lib.hid ih
            have HN := Lib.hid hnx
            clear hq3 ih hnx
            go_wp2_with fail
            refine (IH.out l' d' ys u _ r _ (by omega) (hLu.mono (by omega)) (by omega) (by omega) (by omega)).mono ?_
            rintro e w1 ⟨⟨s, rfl, hs1, hs2, hs3⟩, hb1⟩
            have hw1 : Below w0.heap.size w0 w1 := hW.trans (hb1.mono hsz)
            have hqs : q + s ≤ 2000 := by have := hr3.out; omega
            generalize M.cntI (M.It.mk l' d' ys) = c2 at *
            have HS := Lib.hid hs3
            clear hs3
            go_wp2_with fail
            go_roundw
            case rel => exact ⟨k + 1, q + s, by omega, by simp, by simp, by omega, by have := hr3.out; omega, fun h => by have := hr3.out; rw [HN.out]; have := HS.out (by omega); have := HQ.out hqm; omega, hw1⟩
            case measure => simp [intOf]; omega
          · have hc0 := hbx.c0
            have hc1 := hbx.c1
            have hbW : Below w.heap.size w wr := hb0.trans (hW.mono (by omega))
            go_wp2_with fail
            all_goals go_ret
            all_goals first | exact ⟨⟨q, rfl, by omega, by omega, fun h => by omega⟩, hbW⟩ | exact ⟨⟨mo + 1, by simp, by omega, by omega, fun h => by omega⟩, hbW⟩
        · obtain rfl : k = xs.length := by omega
          rw [List.take_length] at *
          obtain ⟨a, cap, hv, hcap, hmax⟩ := hLr.slice
          subst hv
          have hc2 := hbx.c2
          have hc0 := hbx.c0
          have hc1 := hbx.c1
          have hbW : Below w.heap.size w wr := hb0.trans (hW.mono (by omega))
          have HQ := Lib.hid hq3
          clear hq3
          go_wp2_with fail
          all_goals go_ret
          all_goals first | exact ⟨⟨q, rfl, by omega, by omega, fun h => by rw [M.cntI]; exact HQ.out h⟩, hbW⟩ | exact ⟨⟨mo + 1, by simp, by omega, by omega, fun h => by omega⟩, hbW⟩
end Go.Proofs.YtebkmlbpngpmdaaDoor
