/- The reference's Types: how many types stand in a type. -/
import Derived.Test.YtmlkccbhdhgoeaaDoorT1g
import Derived.Test.YtmlkccbhdhgoeaaDoorMM
namespace Go.Proofs.YtmlkccbhdhgoeaaDoor
open Go Go.RowKit

set_option maxRecDepth 100000 in
set_option maxHeartbeats 4000000 in
theorem types_n (n : Nat) : ∀ (l d : Int) (xs : List M.Ty) (a : Option Addr) (cap : Nat) (w : World) (mo : Nat) (dp : Int), SizeOf.sizeOf xs ≤ n → LayT w w.heap.size xs (.slice a xs.length cap) → mo ≤ 1000 → -1 ≤ dp → dp ≤ 16 →
    Calls Tryd.prog 20 #[tv l d (.slice a xs.length cap), .int .i64 (mo : Nat), .int .i64 dp] w fun e w' => (∃ r : Nat, e = .returned (.int .i64 (r : Nat)) ∧ 1 ≤ r ∧ r ≤ mo + 1 ∧ (r ≤ mo → M.cntT (.mk l d xs) ≤ r)) ∧ Below w.heap.size w w' := by
  induction n with
  | zero => intro l d xs a cap w mo dp h; cases xs <;> simp at h
  | succ n ih =>
    intro l d xs a cap w mo dp hs hL hmo hd1 hd2
    by_cases hdp : dp < 0
    · go_enter Tryd.func20, Tryd.ntmps20
      go_wp2_with fail
      go_ret
      refine ⟨⟨mo + 1, by simp, by omega, by omega, by omega⟩, ?_⟩
      (repeat (first | exact Below.refl _ _ | refine Below.drew ?_ | refine Below.alloc ?_ (by first | omega | (simp; omega) | simp) _ | refine Below.setCell ?_ (by first | omega | (simp; omega) | simp) _))
    · have hB := BoxT.new w l d (.slice a xs.length cap) 24
      have hb0 : Below w.heap.size w (w.alloc (.cells #[.int .i64 l, .int .i64 d, .slice a xs.length cap] 24)) := by (repeat (first | exact Below.refl _ _ | refine Below.drew ?_ | refine Below.alloc ?_ (by first | omega | (simp; omega) | simp) _ | refine Below.setCell ?_ (by first | omega | (simp; omega) | simp) _))
      have hdp' : decide (dp < 0) = false := by simp; omega
      go_enter Tryd.func20, Tryd.ntmps20
      go_wp2_with fail
      generalize hw0 : w.alloc (.cells #[.int .i64 l, .int .i64 d, .slice a xs.length cap] 24) = w0 at *
      have hz : w0.heap.size = w.heap.size + 1 := by rw [← hw0]; simp
      clear hw0
      go_loopw [7, 8] (fun m i wr => ∃ k q : Nat, k ≤ xs.length ∧ i = .int .i64 k ∧ m = .int .i64 (q : Nat) ∧ 1 ≤ q ∧ q ≤ mo + 1 ∧ (q ≤ mo → 1 + M.cntTs (xs.take k) ≤ q) ∧ Below w0.heap.size w0 wr) (fun _ i _ => xs.length - (intOf i).toNat)
      case atStart => exact ⟨0, 1, by omega, rfl, rfl, by omega, by omega, fun _ => by simp [M.cntTs], Below.refl _ _⟩
      case round =>
        obtain ⟨k, q, hk, rfl, rfl, hq1, hq2, hq3, hW⟩ := hrel
        have hbx := hB.from_ hW (by omega)
        have hLr := (hL.from_ hb0).from_ (hW.mono (by omega))
        have hsz := hW.size
        have hc2 := hbx.c2
        have hbW : Below w.heap.size w wr := hb0.trans (hW.mono (by omega))
        by_cases hlt : k < xs.length
        · obtain ⟨b, o, l', d', ys, au, cu, rfl, hbn, hxk, e0, e1, e2, hLu⟩ := hLr.at_ hlt
          by_cases hqm : q ≤ mo
          · have hk2 : k < 1000 := by have := hq3 hqm; have h2 := M.length_cntT (xs.take k); rw [List.length_take] at h2; omega
            have hnx := M.cntTs_next hxk
            generalize M.cntTs (xs.take k) = c at *
            have hsx := size_ty hxk
            rw [M.Ty.mk.sizeOf_spec] at hsx
            obtain ⟨r, hr⟩ : ∃ r, r = mo - q := ⟨_, rfl⟩
            have hr2 : (mo : Int) - (q : Int) = (r : Nat) := by omega
            have hr3 : Hid (r + q = mo) := by show _ = _; omega
            have hr4 : r ≤ 1000 := by omega
            clear hr
            have HQ := Lib.hid hq3
            have IH := Lib.hid ih
            have HN := Lib.hid hnx
            clear hq3 ih hnx
            go_wp2_with fail
            refine (IH.out l' d' ys au cu _ r _ (by omega) (hLu.mono (by omega)) (by omega) (by omega) (by omega)).mono ?_
            rintro e w1 ⟨⟨s, rfl, hs1, hs2, hs3⟩, hb1⟩
            have hw1 : Below w0.heap.size w0 w1 := hW.trans (hb1.mono hsz)
            have hqs : q + s ≤ 2000 := by have := hr3.out; omega
            generalize M.cntT (M.Ty.mk l' d' ys) = c2 at *
            have HS := Lib.hid hs3
            clear hs3
            go_wp2_with fail
            go_roundw
            case rel => exact ⟨k + 1, q + s, by omega, by simp, by simp, by omega, by have := hr3.out; omega, fun h => by have := hr3.out; rw [HN.out]; have := HS.out (by omega); have := HQ.out hqm; omega, hw1⟩
            case measure => simp [intOf]; omega
          · go_wp2_with fail
            go_ret
            exact ⟨⟨q, rfl, by omega, by omega, fun h => by omega⟩, hbW⟩
        · obtain rfl : k = xs.length := by omega
          rw [List.take_length] at *
          have HQ := Lib.hid hq3
          clear hq3
          go_wp2_with fail
          go_ret
          exact ⟨⟨q, rfl, by omega, by omega, fun h => by rw [M.cntT]; exact HQ.out h⟩, hbW⟩
end Go.Proofs.YtmlkccbhdhgoeaaDoor
