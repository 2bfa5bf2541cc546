/- The law FrameOnly. -/
import Derived.Test.YtgeeoefcepjniaaJFA
namespace Go.Proofs.Ytgeeoefcepjniaa
open Go Go.RowKit
attribute [local go_sem] Oper.semAt_some

theorem M.getF_only {s : List UInt8} (h : (M.getF s).2 = 0) : M.putF (M.getF s).1 = (s, 0) ∧ 1 ≤ (M.getF s).1.length ∧ (M.getF s).1.length ≤ 32 := by
  cases s with
  | nil => cases h
  | cons c t =>
    have e : M.getF (c :: t) = if c.toNat = 0 then M.getR 32 t else ([], 9) := rfl
    rw [e] at h ⊢
    by_cases hc : c.toNat = 0
    · rw [if_pos hc] at h ⊢
      obtain rfl : c = 0 := by rw [← UInt8.ofNat_toNat (x := c), hc]; rfl
      obtain ⟨h1, h2, h3, h4⟩ := M.getR_only 32 t h
      refine ⟨?_, h3, h4⟩
      show (if (M.getR 32 t).1.length = 0 then (([] : List UInt8), 2) else if 32 < (M.getR 32 t).1.length then ([], 5) else if M.firF (M.getR 32 t).1 = 0 then (0 :: M.allF (M.getR 32 t).1, 0) else ([], M.firF (M.getR 32 t).1)) = _
      rw [if_neg (by omega), if_neg (by omega), if_pos h2, h1]
    · rw [if_neg hc] at h
      cases h
theorem M.getF_err {s : List UInt8} (h : (M.getF s).2 ≠ 0) : (M.getF s).1 = [] := by
  cases s with
  | nil => rfl
  | cons c t =>
    have e : M.getF (c :: t) = if c.toNat = 0 then M.getR 32 t else ([], 9) := rfl
    rw [e] at h ⊢
    by_cases hc : c.toNat = 0
    · rw [if_pos hc] at h ⊢
      exact M.getR_err 32 t h
    · rw [if_neg hc]

set_option maxRecDepth 100000 in
set_option maxHeartbeats 8000000 in
theorem only14_law (s : List UInt8) (w : World) : Calls Try.prog 5 #[.string ⟨s.toArray⟩] w fun e w' => e = .returned (.bool true) ∧ Below w.heap.size w w' := by
  have HW := Lib.hid works14
  by_cases hl : 2000 < s.length
  · have hl' : (2000 : Int) < (s.length : Nat) := by omega
    go_enter Try.func5, Try.ntmps5
    go_wp2_with fail
    refine (HW.out _).mono ?_
    rintro e w1 ⟨rfl, b1⟩
    go_wp2_with fail
    go_ret
    exact ⟨rfl, b1⟩
  · have hl' : ¬ (2000 : Int) < (s.length : Nat) := by omega
    have HG := Lib.hid (fun W => fget_any s W (by omega))
    have HON := Lib.hid (M.getF_only (s := s))
    have HER := Lib.hid (M.getF_err (s := s))
    generalize M.getF s = r at *
    obtain ⟨ls, q⟩ := r
    dsimp only at *
    by_cases hq : q = 0
    · subst hq
      obtain ⟨h1, h2, h3⟩ := HON.out rfl
      have HP := Lib.hid (fun a cap W (h : Fs W W.heap.size ls (.slice a ls.length cap)) => fput_any ls a cap W h)
      rw [h1] at HP
      have h2' : (1 : Int) ≤ (ls.length : Nat) := by omega
      have h3' : (ls.length : Int) ≤ 32 := by omega
      clear h1 HON HER
      go_enter Try.func5, Try.ntmps5
      go_wp2_with fail
      refine (HW.out _).mono ?_
      rintro e w1 ⟨rfl, b1⟩
      go_wp2_with fail
      refine (HG.out _).mono ?_
      rintro e w2 ⟨a, cap, rfl, hL, hb⟩
      have b2 := b1.trans (hb.mono b1.size)
      clear hb b1
      go_wp2_with fail
      refine (HP.out _ _ _ hL).mono ?_
      rintro e w3 ⟨rfl, hb⟩
      have b3 := b2.trans (hb.mono b2.size)
      go_wp2_with fail
      go_ret
      exact ⟨by simp, b3⟩
    · have hls : ls = [] := HER.out hq
      subst hls
      have hq' : ¬ ((q : Nat) : Int) = 0 := by omega
      clear HON HER
      go_enter Try.func5, Try.ntmps5
      go_wp2_with fail
      refine (HW.out _).mono ?_
      rintro e w1 ⟨rfl, b1⟩
      go_wp2_with fail
      refine (HG.out _).mono ?_
      rintro e w2 ⟨a, cap, rfl, hL, hb⟩
      have b2 := b1.trans (hb.mono b1.size)
      go_wp2_with fail
      go_ret
      exact ⟨by simp, b2⟩
end Go.Proofs.Ytgeeoefcepjniaa
