/- The law FrameBack. -/
import Derived.Test.YtgeeoefcepjniaaJFA
import Derived.Test.YtgeeoefcepjniaaJFC
namespace Go.Proofs.Ytgeeoefcepjniaa
open Go Go.RowKit
attribute [local go_sem] Oper.semAt_some

theorem M.putF_ok {ls : List M.Fr} (h : (M.putF ls).2 = 0) : M.putF ls = (0 :: M.allF ls, 0) ∧ M.firF ls = 0 ∧ ls ≠ [] ∧ ls.length ≤ 32 ∧ (0 :: M.allF ls).length ≤ 140000 := by
  have e : M.putF ls = if ls.length = 0 then ([], 2) else if 32 < ls.length then ([], 5) else if M.firF ls = 0 then (0 :: M.allF ls, 0) else ([], M.firF ls) := rfl
  by_cases h0 : ls.length = 0
  · rw [e, if_pos h0] at h; cases h
  rw [if_neg h0] at e
  by_cases h1 : 32 < ls.length
  · rw [e, if_pos h1] at h; cases h
  rw [if_neg h1] at e
  by_cases h2 : M.firF ls = 0
  · rw [if_pos h2] at e
    refine ⟨e, h2, fun hn => h0 (by rw [hn]; rfl), by omega, ?_⟩
    have := M.allF_len (M.firF_mem h2)
    rw [List.length_cons]
    omega
  · rw [e, if_neg h2] at h
    exact absurd h h2
theorem M.putF_bad {ls : List M.Fr} (h : (M.putF ls).2 ≠ 0) : (M.putF ls).1 = [] := by
  have e : M.putF ls = if ls.length = 0 then ([], 2) else if 32 < ls.length then ([], 5) else if M.firF ls = 0 then (0 :: M.allF ls, 0) else ([], M.firF ls) := rfl
  rw [e] at h ⊢
  split
  · rfl
  · split
    · rfl
    · split
      · rename_i h1 h2 h3
        rw [if_neg h1, if_neg h2, if_pos h3] at h
        exact absurd rfl h
      · rfl

set_option maxRecDepth 100000 in
set_option maxHeartbeats 8000000 in
theorem back14_law (ls : List M.Fr) (a : Option Addr) (cap : Nat) (w : World) (hL : Fs w w.heap.size ls (.slice a ls.length cap)) : Calls Try.prog 4 #[.slice a ls.length cap] w fun e w' => e = .returned (.bool true) ∧ Below w.heap.size w w' := by
  have HW := Lib.hid works14
  have HP := Lib.hid (fun W (h : Fs W W.heap.size ls (.slice a ls.length cap)) => fput_any ls a cap W h)
  have HL := Lib.hid hL
  clear hL
  by_cases hq : (M.putF ls).2 = 0
  · obtain ⟨e1, e2, e3, e4, e5⟩ := M.putF_ok hq
    have hg := M.get_put e3 e2 e4
    have HG := Lib.hid (fun W => fget_any (0 :: M.allF ls) W (by omega))
    rw [hg] at HG
    rw [e1] at HP
    have HE4 := Lib.hid e4
    clear hg hq e1 e2 e3 e4
    generalize 0 :: M.allF ls = s at *
    go_enter Try.func4, Try.ntmps4
    go_wp2_with fail
    refine (HW.out _).mono ?_
    rintro e w1 ⟨rfl, b1⟩
    go_wp2_with fail
    refine (rfew14_any ls a cap w1 (HL.out.kept b1)).mono ?_
    rintro e w1' ⟨⟨q, rfl, _⟩, rfl⟩
    cases q
    · go_wp2_with fail
      go_ret
      exact ⟨rfl, b1⟩
    · go_wp2_with fail
      refine (HP.out _ (HL.out.kept b1)).mono ?_
      rintro e w2 ⟨rfl, hb⟩
      have b2 := b1.trans (hb.mono b1.size)
      clear hb b1
      go_wp2_with fail
      refine (HG.out _).mono ?_
      rintro e w3 ⟨a3, c3, rfl, hM, hb⟩
      have b3 := b2.trans (hb.mono b2.size)
      clear hb b2
      go_wp2_with fail
      refine (rsame14_any ls a a3 cap c3 w3 (HL.out.kept b3) hM (by have := HE4.out; omega)).mono ?_
      rintro e w4 ⟨rfl, hb⟩
      have b4 := b3.trans (hb.mono b3.size)
      go_wp2_with fail
      go_ret
      exact ⟨rfl, b4⟩
  · have hbad := M.putF_bad hq
    have hq' : ¬ (((M.putF ls).2 : Nat) : Int) = 0 := by omega
    generalize M.putF ls = r at *
    obtain ⟨s, q⟩ := r
    dsimp only at *
    subst hbad
    go_enter Try.func4, Try.ntmps4
    go_wp2_with fail
    refine (HW.out _).mono ?_
    rintro e w1 ⟨rfl, b1⟩
    go_wp2_with fail
    refine (rfew14_any ls a cap w1 (HL.out.kept b1)).mono ?_
    rintro e w1' ⟨⟨q2, rfl, _⟩, rfl⟩
    cases q2
    · go_wp2_with fail
      go_ret
      exact ⟨rfl, b1⟩
    · go_wp2_with fail
      refine (HP.out _ (HL.out.kept b1)).mono ?_
      rintro e w2 ⟨rfl, hb⟩
      have b2 := b1.trans (hb.mono b1.size)
      go_wp2_with fail
      go_ret
      exact ⟨rfl, b2⟩
end Go.Proofs.Ytgeeoefcepjniaa
