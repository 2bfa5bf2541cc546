/- The reference's form, check, Check. The reference's check, Check, fixed, Fixed. The reference's fixed, Fixed. Regions that draw their order, whose operations read, or call what keeps a class of worlds. The reference's size, Size. What '==' says of two words. The reference's only. -/
import Derived.Test.YtaajkbclojmbeaaGreatDoorI03
import Derived.Test.YtaajkbclojmbeaaGreatDoorI01
import Derived.Test.YtaajkbclojmbeaaGreatDoorI02
import Derived.Deep.Quiet
import Derived.Deep.QuietTactic
import Derived.Deep.RegionWith
import Derived.Lib.Hide
import Derived.Laws.StructEq
import Derived.Laws.Tables
import Derived.Laws.Cover2
namespace Go.Proofs.YtaajkbclojmbeaaGreatDoor
open Go Go.RowKit

set_option maxRecDepth 100000 in
set_option maxHeartbeats 4000000 in
theorem tform_1 (n : Int) (m : Nat) (a : Option Addr) (cap : Nat) (w : World) (_hm : m ≤ 9223372036854775807) :
    Calls Tryz.prog 145 #[tv 1 n (.slice a m cap)] w fun e w' => e = .returned (.bool (M.formT 1 n m)) ∧ Below w.heap.size w w' := by
  have hb0 : ∀ o, Below w.heap.size w (w.alloc o) := fun o => (Below.refl _ w).alloc (Nat.le_refl _) o
  go_enter Tryz.func145, Tryz.ntmps145
  go_wp2_with fail
  all_goals go_ret
  all_goals refine ⟨?_, hb0 _⟩
  all_goals simp_all [M.formT]
  all_goals first | omega | (rw [Bool.eq_iff_iff]; simp; omega)

set_option maxRecDepth 100000 in
set_option maxHeartbeats 4000000 in
theorem tform_2 (n : Int) (m : Nat) (a : Option Addr) (cap : Nat) (w : World) (_hm : m ≤ 9223372036854775807) :
    Calls Tryz.prog 145 #[tv 2 n (.slice a m cap)] w fun e w' => e = .returned (.bool (M.formT 2 n m)) ∧ Below w.heap.size w w' := by
  have hb0 : ∀ o, Below w.heap.size w (w.alloc o) := fun o => (Below.refl _ w).alloc (Nat.le_refl _) o
  go_enter Tryz.func145, Tryz.ntmps145
  go_wp2_with fail
  all_goals go_ret
  all_goals refine ⟨?_, hb0 _⟩
  all_goals simp_all [M.formT]
  all_goals first | omega | (rw [Bool.eq_iff_iff]; simp; omega)

set_option maxRecDepth 100000 in
set_option maxHeartbeats 4000000 in
theorem tform_3 (n : Int) (m : Nat) (a : Option Addr) (cap : Nat) (w : World) (_hm : m ≤ 9223372036854775807) :
    Calls Tryz.prog 145 #[tv 3 n (.slice a m cap)] w fun e w' => e = .returned (.bool (M.formT 3 n m)) ∧ Below w.heap.size w w' := by
  have hb0 : ∀ o, Below w.heap.size w (w.alloc o) := fun o => (Below.refl _ w).alloc (Nat.le_refl _) o
  go_enter Tryz.func145, Tryz.ntmps145
  go_wp2_with fail
  all_goals go_ret
  all_goals refine ⟨?_, hb0 _⟩
  all_goals simp_all [M.formT]
  all_goals first | omega | (rw [Bool.eq_iff_iff]; simp; omega)

set_option maxRecDepth 100000 in
set_option maxHeartbeats 4000000 in
theorem tform_4 (n : Int) (m : Nat) (a : Option Addr) (cap : Nat) (w : World) (_hm : m ≤ 9223372036854775807) :
    Calls Tryz.prog 145 #[tv 4 n (.slice a m cap)] w fun e w' => e = .returned (.bool (M.formT 4 n m)) ∧ Below w.heap.size w w' := by
  have hb0 : ∀ o, Below w.heap.size w (w.alloc o) := fun o => (Below.refl _ w).alloc (Nat.le_refl _) o
  go_enter Tryz.func145, Tryz.ntmps145
  go_wp2_with fail
  all_goals go_ret
  all_goals refine ⟨?_, hb0 _⟩
  all_goals simp_all [M.formT]
  all_goals first | omega | (rw [Bool.eq_iff_iff]; simp; omega)

set_option maxRecDepth 100000 in
set_option maxHeartbeats 4000000 in
theorem tform_5 (n : Int) (m : Nat) (a : Option Addr) (cap : Nat) (w : World) (_hm : m ≤ 9223372036854775807) :
    Calls Tryz.prog 145 #[tv 5 n (.slice a m cap)] w fun e w' => e = .returned (.bool (M.formT 5 n m)) ∧ Below w.heap.size w w' := by
  have hb0 : ∀ o, Below w.heap.size w (w.alloc o) := fun o => (Below.refl _ w).alloc (Nat.le_refl _) o
  go_enter Tryz.func145, Tryz.ntmps145
  go_wp2_with fail
  all_goals go_ret
  all_goals refine ⟨?_, hb0 _⟩
  all_goals simp_all [M.formT]
  all_goals first | omega | (rw [Bool.eq_iff_iff]; simp; omega)

set_option maxRecDepth 100000 in
set_option maxHeartbeats 4000000 in
theorem tform_6 (n : Int) (m : Nat) (a : Option Addr) (cap : Nat) (w : World) (_hm : m ≤ 9223372036854775807) :
    Calls Tryz.prog 145 #[tv 6 n (.slice a m cap)] w fun e w' => e = .returned (.bool (M.formT 6 n m)) ∧ Below w.heap.size w w' := by
  have hb0 : ∀ o, Below w.heap.size w (w.alloc o) := fun o => (Below.refl _ w).alloc (Nat.le_refl _) o
  go_enter Tryz.func145, Tryz.ntmps145
  go_wp2_with fail
  all_goals go_ret
  all_goals refine ⟨?_, hb0 _⟩
  all_goals simp_all [M.formT]
  all_goals first | omega | (rw [Bool.eq_iff_iff]; simp; omega)

set_option maxRecDepth 100000 in
set_option maxHeartbeats 4000000 in
theorem tform_7 (n : Int) (m : Nat) (a : Option Addr) (cap : Nat) (w : World) (hm : m ≤ 9223372036854775807) :
    Calls Tryz.prog 145 #[tv 7 n (.slice a m cap)] w fun e w' => e = .returned (.bool (M.formT 7 n m)) ∧ Below w.heap.size w w' := by
  have hb0 : ∀ o, Below w.heap.size w (w.alloc o) := fun o => (Below.refl _ w).alloc (Nat.le_refl _) o
  go_enter Tryz.func145, Tryz.ntmps145
  go_wp2_with fail
  all_goals go_ret
  all_goals refine ⟨?_, hb0 _⟩
  all_goals simp_all [M.formT]
  all_goals first | omega | (rw [Bool.eq_iff_iff]; simp; omega)

set_option maxRecDepth 100000 in
set_option maxHeartbeats 4000000 in
theorem tform_8 (k n : Int) (m : Nat) (a : Option Addr) (cap : Nat) (w : World) (hm : m ≤ 9223372036854775807) (h1 : ¬ k = 1) (h2 : ¬ k = 2) (h3 : ¬ k = 3) (h4 : ¬ k = 4) (h5 : ¬ k = 5) (h6 : ¬ k = 6) (h7 : ¬ k = 7) :
    Calls Tryz.prog 145 #[tv k n (.slice a m cap)] w fun e w' => e = .returned (.bool (M.formT k n m)) ∧ Below w.heap.size w w' := by
  have hb0 : ∀ o, Below w.heap.size w (w.alloc o) := fun o => (Below.refl _ w).alloc (Nat.le_refl _) o
  go_enter Tryz.func145, Tryz.ntmps145
  go_wp2_with fail
  all_goals go_ret
  all_goals refine ⟨?_, hb0 _⟩
  all_goals simp_all [M.formT]
  all_goals first | omega | (rw [Bool.eq_iff_iff]; simp; omega)

theorem tform_any (k n : Int) (m : Nat) (a : Option Addr) (cap : Nat) (w : World) (hm : m ≤ 9223372036854775807) :
    Calls Tryz.prog 145 #[tv k n (.slice a m cap)] w fun e w' => e = .returned (.bool (M.formT k n m)) ∧ Below w.heap.size w w' := by
  by_cases h1 : k = 1
  · subst h1; exact tform_1 n m a cap w hm
  by_cases h2 : k = 2
  · subst h2; exact tform_2 n m a cap w hm
  by_cases h3 : k = 3
  · subst h3; exact tform_3 n m a cap w hm
  by_cases h4 : k = 4
  · subst h4; exact tform_4 n m a cap w hm
  by_cases h5 : k = 5
  · subst h5; exact tform_5 n m a cap w hm
  by_cases h6 : k = 6
  · subst h6; exact tform_6 n m a cap w hm
  by_cases h7 : k = 7
  · subst h7; exact tform_7 n m a cap w hm
  exact tform_8 k n m a cap w hm h1 h2 h3 h4 h5 h6 h7
end Go.Proofs.YtaajkbclojmbeaaGreatDoor
namespace Go.Proofs.YtaajkbclojmbeaaGreatDoor
open Go Go.RowKit

theorem LayT.long {w : World} {n : Nat} {ts : List M.Ty} {a : Option Addr} {cap : Nat} (h : LayT w n ts (.slice a ts.length cap)) : ts.length ≤ 9223372036854775807 := by
  obtain ⟨_, _, e, h1, h2⟩ := h.slice
  cases e
  simp only [maxLen] at h2
  omega

set_option maxRecDepth 100000 in
set_option maxHeartbeats 4000000 in
theorem tcheck_n (n : Nat) : ∀ (k m : Int) (xs : List M.Ty) (a : Option Addr) (cap : Nat) (d : Nat) (w : World), SizeOf.sizeOf xs ≤ n → LayT w w.heap.size xs (.slice a xs.length cap) → d ≤ 6 →
    Calls Tryz.prog 114 #[tv k m (.slice a xs.length cap), .int .i64 d] w fun e w' => e = .returned (.int .i64 (M.chkT d (.mk k m xs) : Nat)) ∧ Below w.heap.size w w' := by
  induction n with
  | zero => intro k m xs a cap d w h; cases xs <;> simp at h
  | succ n ih =>
    intro k m xs a cap d w hs hL hd
    have hlong := hL.long
    have hB := BoxT.new w k m (.slice a xs.length cap) 32
    have hb0 : Below w.heap.size w (w.alloc (.cells #[.int .i64 k, .int .i64 m, .slice a xs.length cap] 32)) := by (repeat (first | exact Below.refl _ _ | refine Below.drew ?_ | refine Below.alloc ?_ (by first | omega | (simp; omega) | simp) _ | refine Below.setCell ?_ (by first | omega | (simp; omega) | simp) _))
    by_cases h1 : k < 1 ∨ 8 < k
    · have E : M.chkT d (.mk k m xs) = 9 := by rw [M.chkT, if_pos h1]
      rw [E]
      rcases h1 with h1 | h1
      · go_enter Tryz.func114, Tryz.ntmps114
        go_wp2_with fail
        go_ret
        exact ⟨rfl, hb0⟩
      · have h2 : ¬ k < 1 := by omega
        go_enter Tryz.func114, Tryz.ntmps114
        go_wp2_with fail
        go_ret
        exact ⟨rfl, hb0⟩
    · have h2 : ¬ k < 1 := by omega
      have h3 : ¬ 8 < k := by omega
      have HF := Lib.hid (fun W => tform_any k m xs.length a cap W hlong)
      by_cases hf : M.formT k m xs.length = false
      · have E : M.chkT d (.mk k m xs) = 2 := by rw [M.chkT, if_neg h1, if_pos hf]
        rw [E]
        rw [hf] at HF
        clear E hf h1
        go_enter Tryz.func114, Tryz.ntmps114
        go_wp2_with fail
        refine (HF.out _).mono ?_
        rintro e w1 ⟨rfl, hb1⟩
        go_wp2_with fail
        go_ret
        exact ⟨rfl, hb0.trans (hb1.mono (by simp))⟩
      · rw [Bool.not_eq_false] at hf
        rw [hf] at HF
        by_cases hdd : 6 ≤ d
        · have E : M.chkT d (.mk k m xs) = 7 := by rw [M.chkT, if_neg h1, if_neg (by rw [hf]; simp), if_pos hdd]
          rw [E]
          clear E hf h1
          go_enter Tryz.func114, Tryz.ntmps114
          go_wp2_with fail
          refine (HF.out _).mono ?_
          rintro e w1 ⟨rfl, hb1⟩
          go_wp2_with fail
          go_ret
          exact ⟨rfl, hb0.trans (hb1.mono (by simp))⟩
        · obtain ⟨d1, hd1e⟩ : ∃ d1, d1 = d + 1 := ⟨_, rfl⟩
          have E : Hid (M.chkT d (.mk k m xs) = M.chkTs d1 xs) := by show _ = _; rw [M.chkT, if_neg h1, if_neg (by rw [hf]; simp), if_neg hdd, hd1e]
          have hd1 : (d : Int) + 1 = (d1 : Nat) := by omega
          have hd16 : d1 ≤ 6 := by omega
          clear hd1e
          have hdd' : ¬ (6 : Int) ≤ (d : Int) := by omega
          clear hf h1
          go_enter Tryz.func114, Tryz.ntmps114
          go_wp2_with fail
          refine (HF.out _).mono ?_
          rintro e w1 ⟨rfl, hb1⟩
          have hb01 : Below w.heap.size w w1 := hb0.trans (hb1.mono (by simp))
          have hsz1 : w.heap.size + 1 ≤ w1.heap.size := by simpa using hb1.size
          have hB1 := hB.from_ hb1 (by simp)
          clear hb1 HF hB hb0
          go_wp2_with fail
          go_loopw [6] (fun i wr => ∃ j : Nat, j ≤ xs.length ∧ i = .int .i64 j ∧ M.chkTs d1 (xs.take j) = 0 ∧ Below w1.heap.size w1 wr) (fun i _ => xs.length - (intOf i).toNat)
          case atStart => exact ⟨0, by omega, rfl, rfl, Below.refl _ _⟩
          case round =>
            obtain ⟨j, hj, rfl, hq, hW⟩ := hrel
            have hbW : Below w.heap.size w wr := hb01.trans (hW.mono (by omega))
            have hc2 := (hB1.from_ hW (by omega)).c2
            have hLr := hL.from_ hbW
            have hsz := hW.size
            by_cases hlt : j < xs.length
            · obtain ⟨b, o, k', m', us, au, cu, rfl, hbn, hxk, e0, e1, e2, hLu⟩ := hLr.at_ hlt
              have hsx := size_ty hxk
              rw [M.Ty.mk.sizeOf_spec] at hsx
              have IH := Lib.hid (fun W (h : Below wr.heap.size wr W) => ih k' m' us au cu d1 W (by omega) ((hLu.from_ (h.mono hbW.size)).mono (Nat.le_trans hbW.size h.size)) hd16)
              have HN := Lib.hid (M.chkTs_next hxk hq)
              have hj9 : (j : Int) < 9223372036854775807 := by omega
              by_cases hz : M.chkT d1 (.mk k' m' us) = 0
              · rw [hz] at IH HN
                clear ih hq hL hLr
                go_wp2_with fail
                refine (IH.out _ (Below.refl _ _)).mono ?_
                rintro e w2 ⟨rfl, hb2⟩
                go_wp2_with fail
                go_roundw
                case rel => exact ⟨j + 1, by omega, by simp, HN.out, hW.trans (hb2.mono hsz)⟩
                case measure => simp [intOf]; omega
              · have E2 := M.chkTs_first hxk hq hz
                rw [E2] at E
                generalize hrr : M.chkT d1 (.mk k' m' us) = r at *
                have hr : ¬ ((r : Nat) : Int) = 0 := by omega
                clear ih hq hL hLr HN E2 hrr hz
                go_wp2_with fail
                refine (IH.out _ (Below.refl _ _)).mono ?_
                rintro e w2 ⟨rfl, hb2⟩
                clear IH hsx hLu hxk hdd hdd' hj9 hd1 hd16 e0 e1 e2 hc2 hB1 hbn
                go_wp2_with fail
                go_ret
                rw [E.out]
                exact ⟨rfl, hbW.trans (hb2.mono hbW.size)⟩
            · obtain rfl : j = xs.length := by omega
              rw [List.take_length] at hq
              rw [hq] at E
              go_wp2_with fail
              go_ret
              rw [E.out]
              exact ⟨rfl, hbW⟩

theorem tcheck_any (k m : Int) (xs : List M.Ty) (a : Option Addr) (cap : Nat) (w : World) (hL : LayT w w.heap.size xs (.slice a xs.length cap)) :
    Calls Tryz.prog 58 #[tv k m (.slice a xs.length cap)] w fun e w' => e = .returned (.int .i64 (M.chkT 0 (.mk k m xs) : Nat)) ∧ Below w.heap.size w w' := by
  have HR := Lib.hid (fun W (h : Below w.heap.size w W) => tcheck_n _ k m xs a cap 0 W (Nat.le_refl _) ((hL.from_ h).mono h.size) (by omega))
  have hb0 : Below w.heap.size w (w.alloc (.cells #[.int .i64 k, .int .i64 m, .slice a xs.length cap] 32)) := by (repeat (first | exact Below.refl _ _ | refine Below.drew ?_ | refine Below.alloc ?_ (by first | omega | (simp; omega) | simp) _ | refine Below.setCell ?_ (by first | omega | (simp; omega) | simp) _))
  go_enter Tryz.func58, Tryz.ntmps58
  go_wp2_with fail
  refine (HR.out _ hb0).mono ?_
  rintro e w1 ⟨rfl, hb1⟩
  go_wp2_with fail
  go_ret
  exact ⟨rfl, hb0.trans (hb1.mono (by simp))⟩
end Go.Proofs.YtaajkbclojmbeaaGreatDoor
namespace Go.Proofs.YtaajkbclojmbeaaGreatDoor
open Go Go.RowKit

set_option maxRecDepth 100000 in
set_option maxHeartbeats 4000000 in
theorem tfixed_n (n : Nat) : ∀ (k m : Int) (xs : List M.Ty) (a : Option Addr) (cap : Nat) (w : World), SizeOf.sizeOf xs ≤ n → LayT w w.heap.size xs (.slice a xs.length cap) →
    Calls Tryz.prog 168 #[tv k m (.slice a xs.length cap)] w fun e w' => e = .returned (.bool (M.fixT (.mk k m xs))) ∧ Below w.heap.size w w' := by
  induction n with
  | zero => intro k m xs a cap w h; cases xs <;> simp at h
  | succ n ih =>
    intro k m xs a cap w hs hL
    have hlong := hL.long
    have hB := BoxT.new w k m (.slice a xs.length cap) 32
    have hb0 : Below w.heap.size w (w.alloc (.cells #[.int .i64 k, .int .i64 m, .slice a xs.length cap] 32)) := by (repeat (first | exact Below.refl _ _ | refine Below.drew ?_ | refine Below.alloc ?_ (by first | omega | (simp; omega) | simp) _ | refine Below.setCell ?_ (by first | omega | (simp; omega) | simp) _))
    by_cases h4 : k = 4
    · rw [show M.fixT (.mk k m xs) = false by rw [M.fixT, if_pos (.inl h4)]]
      subst h4
      go_enter Tryz.func168, Tryz.ntmps168
      go_wp2_with fail
      go_ret
      exact ⟨rfl, hb0⟩
    by_cases h6 : k = 6
    · rw [show M.fixT (.mk k m xs) = false by rw [M.fixT, if_pos (.inr (.inl h6))]]
      subst h6
      go_enter Tryz.func168, Tryz.ntmps168
      go_wp2_with fail
      go_ret
      exact ⟨rfl, hb0⟩
    by_cases h8 : k = 8
    · rw [show M.fixT (.mk k m xs) = false by rw [M.fixT, if_pos (.inr (.inr h8))]]
      subst h8
      go_enter Tryz.func168, Tryz.ntmps168
      go_wp2_with fail
      go_ret
      exact ⟨rfl, hb0⟩
    have b4 : (k == 4) = false := by simpa using h4
    have b6 : (k == 6) = false := by simpa using h6
    have b8 : (k == 8) = false := by simpa using h8
    have E : Hid (M.fixT (.mk k m xs) = M.fixTs xs) := by show _ = _; rw [M.fixT, if_neg (by omega)]
    go_enter Tryz.func168, Tryz.ntmps168
    go_wp2_with fail
    generalize hw0 : w.alloc (.cells #[.int .i64 k, .int .i64 m, .slice a xs.length cap] 32) = w0 at *
    have hz0 : w0.heap.size = w.heap.size + 1 := by rw [← hw0]; simp
    clear hw0
    go_loopw [3] (fun i wr => ∃ j : Nat, j ≤ xs.length ∧ i = .int .i64 j ∧ M.fixTs (xs.take j) = true ∧ Below w0.heap.size w0 wr) (fun i _ => xs.length - (intOf i).toNat)
    case atStart => exact ⟨0, by omega, rfl, rfl, Below.refl _ _⟩
    case round =>
      obtain ⟨j, hj, rfl, hq, hW⟩ := hrel
      have hbW : Below w.heap.size w wr := hb0.trans (hW.mono (by omega))
      have hc2 := (hB.from_ hW (by omega)).c2
      have hLr := hL.from_ hbW
      have hsz := hW.size
      by_cases hlt : j < xs.length
      · obtain ⟨b, o, k', m', us, au, cu, rfl, hbn, hxk, e0, e1, e2, hLu⟩ := hLr.at_ hlt
        have hsx := size_ty hxk
        rw [M.Ty.mk.sizeOf_spec] at hsx
        have IH := Lib.hid (ih k' m' us au cu wr (by omega) (hLu.mono hbW.size))
        have hj9 : (j : Int) < 9223372036854775807 := by omega
        by_cases hz : M.fixT (.mk k' m' us) = true
        · have HN := Lib.hid (M.fixTs_next hxk hq)
          rw [hz] at IH HN
          clear ih hq hL hLr hsx hxk
          go_wp2_with fail
          refine IH.out.mono ?_
          rintro e w2 ⟨rfl, hb2⟩
          clear IH hLu e0 e1 e2
          go_wp2_with fail
          go_roundw
          case rel => exact ⟨j + 1, by omega, by simp, HN.out, hW.trans (hb2.mono hsz)⟩
          case measure => simp [intOf]; omega
        · rw [Bool.not_eq_true] at hz
          rw [M.fixTs_first hxk hz] at E
          rw [hz] at IH
          clear ih hq hL hLr hsx hxk
          go_wp2_with fail
          refine IH.out.mono ?_
          rintro e w2 ⟨rfl, hb2⟩
          clear IH hLu e0 e1 e2
          go_wp2_with fail
          go_ret
          rw [E.out]
          exact ⟨rfl, hbW.trans (hb2.mono hbW.size)⟩
      · obtain rfl : j = xs.length := by omega
        rw [List.take_length] at hq
        rw [hq] at E
        go_wp2_with fail
        go_ret
        rw [E.out]
        exact ⟨rfl, hbW⟩

set_option maxRecDepth 100000 in
theorem tfixed_any (k m : Int) (xs : List M.Ty) (a : Option Addr) (cap : Nat) (w : World) (hL : LayT w w.heap.size xs (.slice a xs.length cap)) :
    Calls Tryz.prog 149 #[tv k m (.slice a xs.length cap)] w fun e w' => e = .returned (.bool (M.fixedT (.mk k m xs))) ∧ Below w.heap.size w w' := by
  have HR := Lib.hid (fun W (h : Below w.heap.size w W) => tcheck_any k m xs a cap W ((hL.from_ h).mono h.size))
  have HX := Lib.hid (fun W (h : Below w.heap.size w W) => tfixed_n _ k m xs a cap W (Nat.le_refl _) ((hL.from_ h).mono h.size))
  have hb0 : Below w.heap.size w (w.alloc (.cells #[.int .i64 k, .int .i64 m, .slice a xs.length cap] 32)) := by (repeat (first | exact Below.refl _ _ | refine Below.drew ?_ | refine Below.alloc ?_ (by first | omega | (simp; omega) | simp) _ | refine Below.setCell ?_ (by first | omega | (simp; omega) | simp) _))
  by_cases hz : M.chkT 0 (.mk k m xs) = 0
  · rw [show M.fixedT (.mk k m xs) = M.fixT (.mk k m xs) by rw [M.fixedT, if_pos hz]]
    rw [hz] at HR
    generalize M.fixT (.mk k m xs) = q at *
    clear hz hL
    go_enter Tryz.func149, Tryz.ntmps149
    go_wp2_with fail
    refine (HR.out _ hb0).mono ?_
    rintro e w1 ⟨rfl, hb1⟩
    obtain ⟨hce, hfr⟩ := bcell hb1
    go_wp2_with fail
    refine (HX.out _ (hb0.trans (hb1.mono (by simp)))).mono ?_
    rintro e w2 ⟨rfl, hb2⟩
    go_wp2_with fail
    go_ret
    exact ⟨by simp, hb0.trans ((hb1.trans (hb2.mono hb1.size)).mono (by simp))⟩
  · rw [M.fixedT_none hz]
    generalize M.chkT 0 (.mk k m xs) = q at *
    have hq : ¬ ((q : Nat) : Int) = 0 := by omega
    clear hz hL HX
    go_enter Tryz.func149, Tryz.ntmps149
    go_wp2_with fail
    refine (HR.out _ hb0).mono ?_
    rintro e w1 ⟨rfl, hb1⟩
    go_wp2_with fail
    go_ret
    exact ⟨rfl, hb0.trans (hb1.mono (by simp))⟩
end Go.Proofs.YtaajkbclojmbeaaGreatDoor
namespace Go.Proofs.YtaajkbclojmbeaaGreatDoor
open Go Go.RowKit

section
variable {P : Program} {ops : Array Oper} {C : World → Prop} {Q : Act → Prop} {o : Oper} {rest : List Oper} {a : Act}
/-- An operation that yields the same value in every world of the class. -/
theorem quiet_val (v : Value) (hw : Region.wanted o (yielded ops a.tmps) = true) (h1 : ∀ w, C w → (execOp a.eval o).run P w = .ok (.value v) w) (h : wpQuiet P ops C Q rest (a.put o.dst v)) : wpQuiet P ops C Q (o :: rest) a := by
  unfold wpQuiet
  rw [if_pos hw]
  refine ⟨v, fun w hc => ?_, h⟩
  unfold Oper.quietAt
  rw [h1 w hc]
  exact ⟨rfl, rfl⟩
/-- A call that hands back the same value in every world of the class, and leaves a world of the class. -/
theorem quiet_call (v : Value) (f : FuncId) (args : Array Value) (hw : Region.wanted o (yielded ops a.tmps) = true) (h1 : ∀ w, C w → (execOp a.eval o).run P w = .ok (.enter f args) w) (h2 : ∀ w, C w → Calls P f args w fun e w' => e = .returned v ∧ C w') (h : wpQuiet P ops C Q rest (a.put o.dst v)) : wpQuiet P ops C Q (o :: rest) a := by
  unfold wpQuiet
  rw [if_pos hw]
  refine ⟨v, fun w hc => ?_, h⟩
  unfold Oper.quietAt
  rw [h1 w hc]
  exact ⟨rfl, h2 w hc⟩
/-- An operation that is passed over. -/
theorem quiet_skip (hw : Region.wanted o (yielded ops a.tmps) = false) (h : wpQuiet P ops C Q rest (a.put o.dst undef)) : wpQuiet P ops C Q (o :: rest) a := by
  unfold wpQuiet
  rw [if_neg (by rw [hw]; decide)]
  exact h
theorem region_quiet {id : Nat} {Q : Exit → Act → World → Prop} {a : Act} {w : World} {l : List Oper} (hm : P.follows .mixedOrders = true) (hB : Region.lexB .any l.toArray = true) (hC : C w.drew)
    (h : wpQuiet P l.toArray C (fun a' => ∀ w', C w' → Q .normal a' w') l a) : (Code.region id l.toArray true).wp P Q a w :=
  wp_region_quiet hm hB hC (by simpa using h)
end
end Go.Proofs.YtaajkbclojmbeaaGreatDoor
namespace Go.Proofs.YtaajkbclojmbeaaGreatDoor
open Go Go.RowKit

theorem M.form_range {k n : Int} {ins : List M.Ty} {d : Nat} (h : M.chkT d (.mk k n ins) = 0) : 0 ≤ n ∧ n ≤ 512 ∧ (k = 3 → 0 < ins.length) := by
  obtain ⟨h1, h2, _, _⟩ := M.chkT_ok.1 h
  unfold M.formT at h2
  split at h2
  · simp at h2; omega
  · split at h2
    · simp at h2; omega
    · split at h2
      · simp at h2; exact ⟨by omega, by omega, fun _ => by omega⟩
      · split at h2
        · simp at h2; omega
        · split at h2
          · simp at h2; omega
          · simp at h2; omega

theorem wrap_small {x : Int} (h0 : 0 ≤ x) (h1 : x ≤ 1152921504606846976) : IntKind.i64.wrap x = x := by
  rw [IntKind.wrap_i64]
  omega

set_option maxRecDepth 100000 in
set_option maxHeartbeats 8000000 in
theorem tsize_n (n : Nat) : ∀ (k m : Int) (xs : List M.Ty) (a : Option Addr) (cap : Nat) (d : Nat) (w : World), SizeOf.sizeOf xs ≤ n → LayT w w.heap.size xs (.slice a xs.length cap) → M.chkT d (.mk k m xs) = 0 →
    Calls Tryz.prog 151 #[tv k m (.slice a xs.length cap)] w fun e w' => e = .returned (.int .i64 (M.szT (.mk k m xs) : Nat)) ∧ Below w.heap.size w w' := by
  induction n with
  | zero => intro k m xs a cap d w h; cases xs <;> simp at h
  | succ n ih =>
    intro k m xs a cap d w hs hL hck
    have hlong := hL.long
    have hB := BoxT.new w k m (.slice a xs.length cap) 32
    have hb0 : Below w.heap.size w (w.alloc (.cells #[.int .i64 k, .int .i64 m, .slice a xs.length cap] 32)) := by (repeat (first | exact Below.refl _ _ | refine Below.drew ?_ | refine Below.alloc ?_ (by first | omega | (simp; omega) | simp) _ | refine Below.setCell ?_ (by first | omega | (simp; omega) | simp) _))
    obtain ⟨hm0, hm5, hpos⟩ := M.form_range hck
    obtain ⟨mn, rfl⟩ : ∃ mn : Nat, m = mn := ⟨m.toNat, by omega⟩
    have hparts := (M.chkT_ok.1 hck).2.2.2
    have hmost : M.szT (.mk k mn xs) ≤ 64 * 512 ^ 6 := Nat.le_trans (M.szT_most _ d hck) (Nat.mul_le_mul_left _ (Nat.pow_le_pow_right (by omega) (by omega)))
    by_cases h1 : k = 1
    · have E : M.szT (.mk k mn xs) = mn := by rw [M.szT, if_pos h1]; simp
      rw [E]
      subst h1
      clear ih hparts hmost E hck
      go_enter Tryz.func151, Tryz.ntmps151
      go_wp2_with fail
      go_ret
      exact ⟨rfl, hb0⟩
    by_cases h2 : k = 2
    · have E : M.szT (.mk k mn xs) = 1 := by rw [M.szT, if_neg h1, if_pos h2]
      rw [E]
      subst h2
      clear ih hparts hmost E hck
      go_enter Tryz.func151, Tryz.ntmps151
      go_wp2_with fail
      go_ret
      exact ⟨rfl, hb0⟩
    by_cases h5 : k = 5
    · have E : M.szT (.mk k mn xs) = (mn + 7) / 8 := by rw [M.szT, if_neg h1, if_neg h2, if_pos h5]; simp
      rw [E]
      subst h5
      clear ih hparts hmost E hck
      go_enter Tryz.func151, Tryz.ntmps151
      go_wp2_with fail
      go_ret
      exact ⟨by first | rfl | (congr 2; omega), hb0⟩
    by_cases h3 : k = 3
    · subst h3
      have hl := hpos rfl
      obtain ⟨b, o, k', m', us, au, cu, rfl, hbn, hxk, e0, e1, e2, hLu⟩ := hL.at_ hl
      simp only [Nat.zero_mul, Nat.add_zero] at e0 e1 e2
      have hsx := size_ty hxk
      rw [M.Ty.mk.sizeOf_spec] at hsx
      have hxs : xs = [.mk k' m' us] := by
        obtain ⟨_, h2, _, _⟩ := M.chkT_ok.1 hck
        simp [M.formT] at h2
        match xs, h2.1.1, hxk with
        | [x], _, hxk => simp at hxk; rw [hxk]
      have E : Hid (M.szT (.mk 3 mn xs) = mn * M.szT (.mk k' m' us)) := by show _ = _; rw [M.szT, hxs]; simp [M.szTs]
      have IH : Hid (∀ W, Below (w.heap.size + 1) (w.alloc (.cells #[.int .i64 3, .int .i64 mn, .slice (some ⟨b, o, none⟩) xs.length cap] 32)) W → Calls Tryz.prog 151 #[tv k' m' (.slice au us.length cu)] W fun e w' => e = .returned (.int .i64 (M.szT (.mk k' m' us) : Nat)) ∧ Below W.heap.size W w') :=
        fun W hb => ih k' m' us au cu (d + 1) W (by omega) (((hLu.from_ hb0).from_ (hb.mono (by omega))).mono (by have := hb.size; simp at this; omega)) (M.chkTs_ok.1 hparts _ (List.mem_of_getElem? hxk))
      rw [E.out] at hmost
      generalize M.szT (.mk k' m' us) = q at *
      have hmul : ((mn * q : Nat) : Int) = (mn : Int) * (q : Int) := Int.natCast_mul mn q
      have hmo : (mn : Int) * (q : Int) ≤ 1152921504606846976 := by rw [← hmul]; omega
      have hmo0 : (0 : Int) ≤ (mn : Int) * (q : Int) := by rw [← hmul]; omega
      have HMUL := Lib.hid hmul
      have hwr := wrap_small hmo0 hmo
      clear ih hparts hmost hck hxs hmul
      go_enter Tryz.func151, Tryz.ntmps151
      go_wp2_with fail
      have mixed : Tryz.prog.follows .mixedOrders = true := by kernel_rfl
      obtain ⟨w0, hw0⟩ : ∃ w0, w.alloc (.cells #[.int .i64 3, .int .i64 mn, .slice (some ⟨b, o, none⟩) xs.length cap] 32) = w0 := ⟨_, rfl⟩
      rw [hw0] at hb0 hB IH ⊢
      have hz0 : w0.heap.size = w.heap.size + 1 := by rw [← hw0]; simp
      have f0 := (hb0.cell (p := ⟨b, o, none⟩) (by show b < _; omega)).trans e0
      have f1 := (hb0.cell (p := ⟨b, o + 1, none⟩) (by show b < _; omega)).trans e1
      have f2 := (hb0.cell (p := ⟨b, o + 2, none⟩) (by show b < _; omega)).trans e2
      clear hw0
      refine region_quiet (C := fun W => Below (w.heap.size + 1) w0 W) mixed (by kernel_rfl) (Below.drew (Below.refl _ _)) ?_
      refine quiet_val (.pointer (some ⟨w.heap.size, 1, none⟩)) (by rfl) (fun W hC => by go_simp) ?_
      simp only [Act.put, List.setIfInBounds_toArray, List.set_cons_zero, List.set_cons_succ]
      refine quiet_val (.int .i64 mn) (by rfl) (fun W hC => by have a1 := (hB.from_ hC (by omega)).c1; go_simp) ?_
      simp only [Act.put, List.setIfInBounds_toArray, List.set_cons_zero, List.set_cons_succ]
      refine quiet_val (.pointer (some ⟨w.heap.size, 2, none⟩)) (by rfl) (fun W hC => by go_simp) ?_
      simp only [Act.put, List.setIfInBounds_toArray, List.set_cons_zero, List.set_cons_succ]
      refine quiet_val (.slice (some ⟨b, o, none⟩) xs.length cap) (by rfl) (fun W hC => by have a1 := (hB.from_ hC (by omega)).c2; go_simp) ?_
      simp only [Act.put, List.setIfInBounds_toArray, List.set_cons_zero, List.set_cons_succ]
      refine quiet_val (.pointer (some ⟨b, o, none⟩)) (by rfl) (fun W hC => by go_simp) ?_
      simp only [Act.put, List.setIfInBounds_toArray, List.set_cons_zero, List.set_cons_succ]
      refine quiet_val (tv k' m' (.slice au us.length cu)) (by rfl) (fun W hC => by have b0 := (hC.cell (p := ⟨b, o, none⟩) (by show b < _; omega)).trans f0; have b1 := (hC.cell (p := ⟨b, o + 1, none⟩) (by show b < _; omega)).trans f1; have b2 := (hC.cell (p := ⟨b, o + 2, none⟩) (by show b < _; omega)).trans f2; go_simp) ?_
      simp only [Act.put, List.setIfInBounds_toArray, List.set_cons_zero, List.set_cons_succ]
      refine quiet_call (.int .i64 q) 151 #[tv k' m' (.slice au us.length cu)] (by rfl) (fun W _ => by go_simp) (fun W hC => (IH.out W hC).mono fun _ _ h => ⟨h.1, hC.trans (h.2.mono (by have := hC.size; omega))⟩) ?_
      simp only [Act.put, List.setIfInBounds_toArray, List.set_cons_zero, List.set_cons_succ]
      refine quiet_val (.int .i64 ((mn : Int) * (q : Int))) (by rfl) (fun W hC => by go_simp) ?_
      simp only [Act.put, List.setIfInBounds_toArray, List.set_cons_zero, List.set_cons_succ]
      refine quiet_val (.int .i64 ((mn : Int) * (q : Int))) (by rfl) (fun W hC => by go_simp) ?_
      simp only [Act.put, List.setIfInBounds_toArray, List.set_cons_zero, List.set_cons_succ]
      refine wpQuiet_nil ?_
      intro w1 hb1
      go_wp2_with fail
      go_ret
      rw [E.out]
      exact ⟨by rw [HMUL.out]; rfl, hb0.trans (hb1.mono (by omega))⟩
    have b1 : (k == 1) = false := by simpa using h1
    have b2 : (k == 2) = false := by simpa using h2
    have b5 : (k == 5) = false := by simpa using h5
    have b3 : (k == 3) = false := by simpa using h3
    have E : Hid (M.szT (.mk k mn xs) = M.szTs xs) := by show _ = _; rw [M.szT, if_neg h1, if_neg h2, if_neg h5, if_neg h3]
    rw [E.out] at hmost
    have HM := Lib.hid hmost
    clear hmost hck
    go_enter Tryz.func151, Tryz.ntmps151
    go_wp2_with fail
    generalize hw0 : w.alloc (.cells #[.int .i64 k, .int .i64 mn, .slice a xs.length cap] 32) = w0 at *
    have hz0 : w0.heap.size = w.heap.size + 1 := by rw [← hw0]; simp
    clear hw0
    go_loopw [3, 4] (fun s i wr => ∃ j : Nat, j ≤ xs.length ∧ i = .int .i64 j ∧ s = .int .i64 (M.szTs (xs.take j) : Nat) ∧ Below w0.heap.size w0 wr) (fun _ i _ => xs.length - (intOf i).toNat)
    case atStart => exact ⟨0, by omega, rfl, rfl, Below.refl _ _⟩
    case round =>
      obtain ⟨j, hj, rfl, rfl, hW⟩ := hrel
      have hbW : Below w.heap.size w wr := hb0.trans (hW.mono (by omega))
      have hc2 := (hB.from_ hW (by omega)).c2
      have hLr := hL.from_ hbW
      have hsz := hW.size
      by_cases hlt : j < xs.length
      · obtain ⟨b, o, k', m', us, au, cu, rfl, hbn, hxk, e0, e1, e2, hLu⟩ := hLr.at_ hlt
        have hsx := size_ty hxk
        rw [M.Ty.mk.sizeOf_spec] at hsx
        have IH := Lib.hid (ih k' m' us au cu (d + 1) wr (by omega) (hLu.mono hbW.size) (M.chkTs_ok.1 hparts _ (List.mem_of_getElem? hxk)))
        have hj9 : (j : Int) < 9223372036854775807 := by omega
        have HN := Lib.hid (M.szTs_next hxk)
        have hmo : M.szTs (xs.take j) + M.szT (.mk k' m' us) ≤ 64 * 512 ^ 6 := by rw [← M.szTs_next hxk]; exact Nat.le_trans (M.szTs_part xs (j + 1)) HM.out
        generalize M.szT (.mk k' m' us) = q at *
        generalize M.szTs (xs.take j) = s at *
        clear ih hL hLr hsx hxk hparts
        go_wp2_with fail
        refine IH.out.mono ?_
        rintro e w2 ⟨rfl, hb2⟩
        clear IH hLu e0 e1 e2
        have hmo2 : (s : Int) + (q : Int) ≤ 1152921504606846976 := by omega
        go_wp2_with fail
        go_roundw
        case rel => exact ⟨j + 1, by omega, by simp, by rw [HN.out]; simp, hW.trans (hb2.mono hsz)⟩
        case measure => simp [intOf]; omega
      · obtain rfl : j = xs.length := by omega
        rw [List.take_length] at *
        go_wp2_with fail
        go_ret
        rw [E.out]
        exact ⟨rfl, hbW⟩

set_option maxRecDepth 100000 in
theorem tsize_any (k m : Int) (xs : List M.Ty) (a : Option Addr) (cap : Nat) (w : World) (hL : LayT w w.heap.size xs (.slice a xs.length cap)) :
    Calls Tryz.prog 119 #[tv k m (.slice a xs.length cap)] w fun e w' => e = .returned (.int .i64 (M.sizeT (.mk k m xs) : Nat)) ∧ Below w.heap.size w w' := by
  have HR := Lib.hid (fun W (h : Below w.heap.size w W) => tfixed_any k m xs a cap W ((hL.from_ h).mono h.size))
  have hb0 : Below w.heap.size w (w.alloc (.cells #[.int .i64 k, .int .i64 m, .slice a xs.length cap] 32)) := by (repeat (first | exact Below.refl _ _ | refine Below.drew ?_ | refine Below.alloc ?_ (by first | omega | (simp; omega) | simp) _ | refine Below.setCell ?_ (by first | omega | (simp; omega) | simp) _))
  cases hz : M.fixedT (.mk k m xs) with
  | true =>
    have HX := Lib.hid (fun W (h : Below w.heap.size w W) => tsize_n _ k m xs a cap 0 W (Nat.le_refl _) ((hL.from_ h).mono h.size) (M.fixedT_ok.1 hz).1)
    rw [M.sizeT_fix hz]
    rw [hz] at HR
    generalize M.szT (.mk k m xs) = q at *
    clear hz hL
    go_enter Tryz.func119, Tryz.ntmps119
    go_wp2_with fail
    refine (HR.out _ hb0).mono ?_
    rintro e w1 ⟨rfl, hb1⟩
    obtain ⟨hce, hfr⟩ := bcell hb1
    go_wp2_with fail
    refine (HX.out _ (hb0.trans (hb1.mono (by simp)))).mono ?_
    rintro e w2 ⟨rfl, hb2⟩
    go_wp2_with fail
    go_ret
    exact ⟨rfl, hb0.trans ((hb1.trans (hb2.mono hb1.size)).mono (by simp))⟩
  | false =>
    rw [M.sizeT_non hz]
    rw [hz] at HR
    clear hz hL
    go_enter Tryz.func119, Tryz.ntmps119
    go_wp2_with fail
    refine (HR.out _ hb0).mono ?_
    rintro e w1 ⟨rfl, hb1⟩
    go_wp2_with fail
    go_ret
    exact ⟨rfl, hb0.trans (hb1.mono (by simp))⟩
end Go.Proofs.YtaajkbclojmbeaaGreatDoor
namespace Go.Proofs.YtaajkbclojmbeaaGreatDoor
open Go Go.RowKit

theorem eqW (a b c d a' b' c' d' : Int) (w : World) : (Op.equalIn 10000 34 (wd a b c d) (wd a' b' c' d')).run Tryz.prog w = .ok (a == a' && (b == b' && (c == c' && d == d'))) w := by
  have u3 := Tryz.underlying23
  have a3 := Tryz.isAgg23
  have z3 := Tryz.sizeOf23
  rw [show (10000 : Nat) = 9999 + 1 from rfl, Op.equalIn]
  simp only [Sem.run_bind, run_underlying Tryz.underlying34, Result.andThen_ok]
  simp only [Std.Legacy.Range.forIn_eq_forIn_range', Std.Legacy.Range.size, Nat.sub_zero, Nat.add_sub_cancel, Nat.div_one, List.range'_succ, List.range'_zero, List.forIn_cons, List.forIn_nil]
  go_simp
  by_cases h1 : a = a' <;> by_cases h2 : b = b' <;> by_cases h3 : c = c' <;> by_cases h4 : d = d' <;> simp [h1, h2, h3, h4]

theorem eqN {A B : Nat} (hA : M.In A) (hB : M.In B) (w : World) : (Op.equalIn 10000 34 (wn A) (wn B)).run Tryz.prog w = .ok (decide (A = B)) w := by
  rw [eqW]
  congr 1
  by_cases h : A = B
  · subst h; simp
  · rw [decide_eq_false h]
    rw [Bool.eq_false_iff]
    intro h'
    simp only [Bool.and_eq_true, beq_iff_eq] at h'
    exact h (M.pt_inj hA hB h'.1 h'.2.1 h'.2.2.1 h'.2.2.2)

end Go.Proofs.YtaajkbclojmbeaaGreatDoor
namespace Go.Proofs.YtaajkbclojmbeaaGreatDoor
open Go Go.RowKit

theorem wn_nought : wn 0 = wd 0 0 0 0 := by
  show wd _ _ _ _ = _
  rw [show M.pt 0 0 = 0 by decide +kernel, show M.pt 1 0 = 0 by decide +kernel, show M.pt 2 0 = 0 by decide +kernel, show M.pt 3 0 = 0 by decide +kernel]
theorem wn_one : wn 1 = wd 1 0 0 0 := by
  show wd _ _ _ _ = _
  rw [show M.pt 0 1 = 1 by decide +kernel, show M.pt 1 1 = 0 by decide +kernel, show M.pt 2 1 = 0 by decide +kernel, show M.pt 3 1 = 0 by decide +kernel]
theorem eq_nought {N : Nat} (h : M.In N) (w : World) : (Op.equalIn 10000 34 (wn N) (wd 0 0 0 0)).run Tryz.prog w = .ok (decide (N = 0)) w := by
  rw [← wn_nought]
  exact eqN h (by unfold M.In; omega) w
theorem eq_one {N : Nat} (h : M.In N) (w : World) : (Op.equalIn 10000 34 (wn N) (wd 1 0 0 0)).run Tryz.prog w = .ok (decide (N = 1)) w := by
  rw [← wn_one]
  exact eqN h (by unfold M.In; omega) w

set_option maxRecDepth 100000 in
set_option maxHeartbeats 4000000 in
theorem ronly_num (N : Nat) (hN : M.In N) (m l : Nat) (p : Int) (ab : Option Addr) (cb : Nat) (a : Option Addr) (cap : Nat) (w : World) :
    Calls Tryz.prog 146 #[vv N (.slice ab m cb) (.slice a l cap) p, .bool true, .bool false, .bool false, .bool false] w fun e w' => e = .returned (.bool (m == 0 && l == 0 && p == 0)) ∧ Below w.heap.size w w' := by
  have hb0 : ∀ o, Below w.heap.size w (w.alloc o) := fun o => (Below.refl _ w).alloc (Nat.le_refl _) o
  have he := fun W => eq_nought hN W
  go_enter Tryz.func146, Tryz.ntmps146
  go_wp2_with fail
  all_goals go_ret
  all_goals refine ⟨?_, hb0 _⟩
  all_goals simp_all

set_option maxRecDepth 100000 in
set_option maxHeartbeats 4000000 in
theorem ronly_items (N : Nat) (hN : M.In N) (m l : Nat) (p : Int) (ab : Option Addr) (cb : Nat) (a : Option Addr) (cap : Nat) (w : World) :
    Calls Tryz.prog 146 #[vv N (.slice ab m cb) (.slice a l cap) p, .bool false, .bool false, .bool true, .bool false] w fun e w' => e = .returned (.bool (N == 0 && m == 0 && p == 0)) ∧ Below w.heap.size w w' := by
  have hb0 : ∀ o, Below w.heap.size w (w.alloc o) := fun o => (Below.refl _ w).alloc (Nat.le_refl _) o
  have he := fun W => eq_nought hN W
  go_enter Tryz.func146, Tryz.ntmps146
  go_wp2_with fail
  all_goals go_ret
  all_goals refine ⟨?_, hb0 _⟩
  all_goals simp_all

set_option maxRecDepth 100000 in
set_option maxHeartbeats 4000000 in
theorem ronly_bits (N : Nat) (hN : M.In N) (m l : Nat) (p : Int) (ab : Option Addr) (cb : Nat) (a : Option Addr) (cap : Nat) (w : World) :
    Calls Tryz.prog 146 #[vv N (.slice ab m cb) (.slice a l cap) p, .bool false, .bool true, .bool false, .bool false] w fun e w' => e = .returned (.bool (N == 0 && l == 0 && p == 0)) ∧ Below w.heap.size w w' := by
  have hb0 : ∀ o, Below w.heap.size w (w.alloc o) := fun o => (Below.refl _ w).alloc (Nat.le_refl _) o
  have he := fun W => eq_nought hN W
  go_enter Tryz.func146, Tryz.ntmps146
  go_wp2_with fail
  all_goals go_ret
  all_goals refine ⟨?_, hb0 _⟩
  all_goals simp_all

set_option maxRecDepth 100000 in
set_option maxHeartbeats 4000000 in
theorem ronly_pick (N : Nat) (hN : M.In N) (m l : Nat) (p : Int) (ab : Option Addr) (cb : Nat) (a : Option Addr) (cap : Nat) (w : World) :
    Calls Tryz.prog 146 #[vv N (.slice ab m cb) (.slice a l cap) p, .bool false, .bool false, .bool true, .bool true] w fun e w' => e = .returned (.bool (N == 0 && m == 0)) ∧ Below w.heap.size w w' := by
  have hb0 : ∀ o, Below w.heap.size w (w.alloc o) := fun o => (Below.refl _ w).alloc (Nat.le_refl _) o
  have he := fun W => eq_nought hN W
  go_enter Tryz.func146, Tryz.ntmps146
  go_wp2_with fail
  all_goals go_ret
  all_goals refine ⟨?_, hb0 _⟩
  all_goals simp_all

end Go.Proofs.YtaajkbclojmbeaaGreatDoor
