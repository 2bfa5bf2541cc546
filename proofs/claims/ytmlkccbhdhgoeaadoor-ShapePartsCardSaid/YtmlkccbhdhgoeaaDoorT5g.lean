/- The reference's check, Check, fixed, Fixed. -/
import Derived.Test.YtmlkccbhdhgoeaaDoorT4g
namespace Go.Proofs.YtmlkccbhdhgoeaaDoor
open Go Go.RowKit

theorem LayT.long {w : World} {n : Nat} {ts : List M.Ty} {a : Option Addr} {cap : Nat} (h : LayT w n ts (.slice a ts.length cap)) : ts.length ≤ 9223372036854775807 := by
  obtain ⟨_, _, e, h1, h2⟩ := h.slice
  cases e
  simp only [maxLen] at h2
  omega

set_option maxRecDepth 100000 in
set_option maxHeartbeats 4000000 in
theorem tcheck_n (n : Nat) : ∀ (k m : Int) (xs : List M.Ty) (a : Option Addr) (cap : Nat) (d : Nat) (w : World), SizeOf.sizeOf xs ≤ n → LayT w w.heap.size xs (.slice a xs.length cap) → d ≤ 6 →
    Calls Tryd.prog 22 #[tv k m (.slice a xs.length cap), .int .i64 d] w fun e w' => e = .returned (.int .i64 (M.chkT d (.mk k m xs) : Nat)) ∧ Below w.heap.size w w' := by
  induction n with
  | zero => intro k m xs a cap d w h; cases xs <;> simp at h
  | succ n ih =>
    intro k m xs a cap d w hs hL hd
    have hlong := hL.long
    have hB := BoxT.new w k m (.slice a xs.length cap) 24
    have hb0 : Below w.heap.size w (w.alloc (.cells #[.int .i64 k, .int .i64 m, .slice a xs.length cap] 24)) := by (repeat (first | exact Below.refl _ _ | refine Below.drew ?_ | refine Below.alloc ?_ (by first | omega | (simp; omega) | simp) _ | refine Below.setCell ?_ (by first | omega | (simp; omega) | simp) _))
    by_cases h1 : k < 1 ∨ 8 < k
    · have E : M.chkT d (.mk k m xs) = 9 := by rw [M.chkT, if_pos h1]
      rw [E]
      rcases h1 with h1 | h1
      · go_enter Tryd.func22, Tryd.ntmps22
        go_wp2_with fail
        go_ret
        exact ⟨rfl, hb0⟩
      · have h2 : ¬ k < 1 := by omega
        go_enter Tryd.func22, Tryd.ntmps22
        go_wp2_with fail
        go_ret
        exact ⟨rfl, hb0⟩
    · have h2 : ¬ k < 1 := by omega
      have h3 : ¬ 8 < k := by omega
      have HF := Lib.hid (fun W => tform_any k m xs.length a cap W hlong)
      by_cases hf : M.formT k m xs.length = false
      · have E : M.chkT d (.mk k m xs) = 2 := by rw [M.chkT, if_neg h1, if_pos hf]
        rw [E]
        rw [hf] at HF
        clear E hf h1
        go_enter Tryd.func22, Tryd.ntmps22
        go_wp2_with fail
        refine (HF.out _).mono ?_
        rintro e w1 ⟨rfl, hb1⟩
        go_wp2_with fail
        go_ret
        exact ⟨rfl, hb0.trans (hb1.mono (by simp))⟩
      · rw [Bool.not_eq_false] at hf
        rw [hf] at HF
        by_cases hdd : 6 ≤ d
        · have E : M.chkT d (.mk k m xs) = 7 := by rw [M.chkT, if_neg h1, if_neg (by rw [hf]; simp), if_pos hdd]
          rw [E]
          clear E hf h1
          go_enter Tryd.func22, Tryd.ntmps22
          go_wp2_with fail
          refine (HF.out _).mono ?_
          rintro e w1 ⟨rfl, hb1⟩
          go_wp2_with fail
          go_ret
          exact ⟨rfl, hb0.trans (hb1.mono (by simp))⟩
        · obtain ⟨d1, hd1e⟩ : ∃ d1, d1 = d + 1 := ⟨_, rfl⟩
          have E : Hid (M.chkT d (.mk k m xs) = M.chkTs d1 xs) := by show _ = _; rw [M.chkT, if_neg h1, if_neg (by rw [hf]; simp), if_neg hdd, hd1e]
          have hd1 : (d : Int) + 1 = (d1 : Nat) := by omega
          have hd16 : d1 ≤ 6 := by omega
          clear hd1e
          have hdd' : ¬ (6 : Int) ≤ (d : Int) := by omega
          clear hf h1
          go_enter Tryd.func22, Tryd.ntmps22
          go_wp2_with fail
          refine (HF.out _).mono ?_
          rintro e w1 ⟨rfl, hb1⟩
          have hb01 : Below w.heap.size w w1 := hb0.trans (hb1.mono (by simp))
          have hsz1 : w.heap.size + 1 ≤ w1.heap.size := by simpa using hb1.size
          have hB1 := hB.from_ hb1 (by simp)
          clear hb1 HF hB hb0
          go_wp2_with fail
          go_loopw [6] (fun i wr => ∃ j : Nat, j ≤ xs.length ∧ i = .int .i64 j ∧ M.chkTs d1 (xs.take j) = 0 ∧ Below w1.heap.size w1 wr) (fun i _ => xs.length - (intOf i).toNat)
          case atStart => exact ⟨0, by omega, rfl, rfl, Below.refl _ _⟩
          case round =>
            obtain ⟨j, hj, rfl, hq, hW⟩ := hrel
            have hbW : Below w.heap.size w wr := hb01.trans (hW.mono (by omega))
            have hc2 := (hB1.from_ hW (by omega)).c2
            have hLr := hL.from_ hbW
            have hsz := hW.size
            by_cases hlt : j < xs.length
            · obtain ⟨b, o, k', m', us, au, cu, rfl, hbn, hxk, e0, e1, e2, hLu⟩ := hLr.at_ hlt
              have hsx := size_ty hxk
              rw [M.Ty.mk.sizeOf_spec] at hsx
              have IH := Lib.hid (fun W (h : Below wr.heap.size wr W) => ih k' m' us au cu d1 W (by omega) ((hLu.from_ (h.mono hbW.size)).mono (Nat.le_trans hbW.size h.size)) hd16)
              have HN := Lib.hid (M.chkTs_next hxk hq)
              have hj9 : (j : Int) < 9223372036854775807 := by omega
              by_cases hz : M.chkT d1 (.mk k' m' us) = 0
              · rw [hz] at IH HN
                clear ih hq hL hLr
                go_wp2_with fail
                refine (IH.out _ (Below.refl _ _)).mono ?_
                rintro e w2 ⟨rfl, hb2⟩
                go_wp2_with fail
                go_roundw
                case rel => exact ⟨j + 1, by omega, by simp, HN.out, hW.trans (hb2.mono hsz)⟩
                case measure => simp [intOf]; omega
              · have E2 := M.chkTs_first hxk hq hz
                rw [E2] at E
                generalize hrr : M.chkT d1 (.mk k' m' us) = r at *
                have hr : ¬ ((r : Nat) : Int) = 0 := by omega
                clear ih hq hL hLr HN E2 hrr hz
                go_wp2_with fail
                refine (IH.out _ (Below.refl _ _)).mono ?_
                rintro e w2 ⟨rfl, hb2⟩
                clear IH hsx hLu hxk hdd hdd' hj9 hd1 hd16 e0 e1 e2 hc2 hB1 hbn
                go_wp2_with fail
                go_ret
                rw [E.out]
                exact ⟨rfl, hbW.trans (hb2.mono hbW.size)⟩
            · obtain rfl : j = xs.length := by omega
              rw [List.take_length] at hq
              rw [hq] at E
              go_wp2_with fail
              go_ret
              rw [E.out]
              exact ⟨rfl, hbW⟩

theorem tcheck_any (k m : Int) (xs : List M.Ty) (a : Option Addr) (cap : Nat) (w : World) (hL : LayT w w.heap.size xs (.slice a xs.length cap)) :
    Calls Tryd.prog 10 #[tv k m (.slice a xs.length cap)] w fun e w' => e = .returned (.int .i64 (M.chkT 0 (.mk k m xs) : Nat)) ∧ Below w.heap.size w w' := by
  have HR := Lib.hid (fun W (h : Below w.heap.size w W) => tcheck_n _ k m xs a cap 0 W (Nat.le_refl _) ((hL.from_ h).mono h.size) (by omega))
  have hb0 : Below w.heap.size w (w.alloc (.cells #[.int .i64 k, .int .i64 m, .slice a xs.length cap] 24)) := by (repeat (first | exact Below.refl _ _ | refine Below.drew ?_ | refine Below.alloc ?_ (by first | omega | (simp; omega) | simp) _ | refine Below.setCell ?_ (by first | omega | (simp; omega) | simp) _))
  go_enter Tryd.func10, Tryd.ntmps10
  go_wp2_with fail
  refine (HR.out _ hb0).mono ?_
  rintro e w1 ⟨rfl, hb1⟩
  go_wp2_with fail
  go_ret
  exact ⟨rfl, hb0.trans (hb1.mono (by simp))⟩
end Go.Proofs.YtmlkccbhdhgoeaaDoor
