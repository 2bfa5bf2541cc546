/- The law FrameCut. -/
import Derived.Test.YtgeeoefcepjniaaJFE
namespace Go.Proofs.Ytgeeoefcepjniaa
open Go Go.RowKit
attribute [local go_sem] Oper.semAt_some

namespace M
/-- Where the frames behind the first k begin. -/
def offF (ls : List Fr) (k : Nat) : Nat := 1 + (allF (ls.take k)).length
theorem offF_next {ls : List Fr} {k : Nat} {f : Fr} (h : ls[k]? = some f) (hc : chkF f = 0) : offF ls (k + 1) = offF ls k + 23 + f.data.length := by
  unfold offF
  rw [allF_take h, List.length_append, bytF_pos hc]
  omega
theorem offF_le (ls : List Fr) (k : Nat) : offF ls k ≤ offF ls ls.length := by
  unfold offF
  rw [List.take_length]
  have : allF ls = allF (ls.take k) ++ allF (ls.drop k) := by rw [← allF_append, List.take_append_drop]
  rw [this, List.length_append]
  omega
theorem lead_cut {f : Fr} (h : chkF f = 0) {j : Nat} (hj : j < (bytF f).length) : leadE ((bytF f).take j) = 3 := by
  have hl := bytF_pos h
  obtain ⟨p1, _, _, _⟩ := lead_parts h []
  rw [List.append_nil] at p1
  have h4 := (chkF_ok h).2.2.2
  unfold leadE
  by_cases h22 : ((bytF f).take j).length < 22
  · rw [if_pos h22]
  · rw [if_neg h22]
    have hjl : ((bytF f).take j).length = j := by rw [List.length_take]; omega
    have e : lenF ((bytF f).take j) = f.data.length := by
      rw [← p1]
      unfold lenF
      rw [List.drop_take, List.take_take, Nat.min_eq_left (by omega)]
    rw [e, if_neg (by omega), if_pos (by omega)]
theorem getR_cut (m : Nat) : ∀ (fs : List Fr) (f : Fr) (j : Nat), (∀ g ∈ fs, chkF g = 0) → chkF f = 0 → j < (bytF f).length → (0 < j ∨ fs = []) → fs.length + 1 ≤ m → getR m (allF fs ++ (bytF f).take j) = ([], 3) := by
  induction m with
  | zero => intro fs f j _ _ _ _ h; omega
  | succ m ih =>
    intro fs f j hfs hf hj hjp hm
    cases fs with
    | nil =>
      have e : allF [] ++ (bytF f).take j = (bytF f).take j := rfl
      rw [e, getR, lead_cut hf hj, if_pos (by decide)]
    | cons g gs =>
      have hg := hfs g (by simp)
      have hj0 : 0 < j := by
        rcases hjp with h | h
        · exact h
        · cases h
      rw [allF_cons, List.append_assoc]
      obtain ⟨p1, _, p3, p4⟩ := lead_parts hg (allF gs ++ (bytF f).take j)
      have hr : 0 < (allF gs ++ (bytF f).take j).length := by
        rw [List.length_append, List.length_take]
        omega
      rw [getR, p4, p1, if_neg (by decide), if_neg (by rw [List.length_append, bytF_pos hg]; omega), drop_at (bytF_pos hg), ih gs f j (fun x hx => hfs x (by simp [hx])) hf hj (.inl hj0) (by simpa using hm)]
      rfl
/-- What is got of what is cut. -/
theorem cut_whole {ls : List Fr} (h : firF ls = 0) {k : Nat} (hk : 0 < k) (hkl : k ≤ ls.length) (h32 : ls.length ≤ 32) : getF ((0 :: allF ls).take (offF ls k)) = (ls.take k, 0) := by
  have e : (0 :: allF ls).take (offF ls k) = 0 :: allF (ls.take k) := by
    unfold offF
    rw [Nat.add_comm, List.take_succ_cons]
    congr 1
    have : allF ls = allF (ls.take k) ++ allF (ls.drop k) := by rw [← allF_append, List.take_append_drop]
    rw [this, take_at rfl]
  rw [e]
  refine get_put (fun hn => ?_) (firF_of fun g hg => firF_mem h g (List.mem_of_mem_take hg)) (by rw [List.length_take]; omega)
  have h0 : min k ls.length = 0 := by
    have := congrArg List.length hn
    rwa [List.length_take] at this
  omega
theorem cut_within {ls : List Fr} (h : firF ls = 0) {k c : Nat} (hkl : k < ls.length) (h32 : ls.length ≤ 32) (h1 : offF ls k ≤ c ∨ k = 0) (h2 : c < offF ls (k + 1)) (h3 : k = 0 ∨ c ≠ offF ls k) : getF ((0 :: allF ls).take c) = ([], 3) := by
  have hf : ls[k]? = some ls[k] := List.getElem?_eq_getElem hkl
  have hc : chkF ls[k] = 0 := firF_mem h _ (List.getElem_mem hkl)
  have hn := offF_next hf hc
  have hb := bytF_pos hc
  cases c with
  | zero => rfl
  | succ c =>
    rw [List.take_succ_cons]
    have ho : offF ls k = 1 + (allF (ls.take k)).length := rfl
    have hk0 : k = 0 → (allF (ls.take k)).length = 0 := fun hk => by rw [hk]; rfl
    have e : (allF ls).take c = allF (ls.take k) ++ (bytF ls[k]).take (c - (allF (ls.take k)).length) := by
      have e1 : allF ls = allF (ls.take k) ++ (bytF ls[k] ++ allF (ls.drop (k + 1))) := by
        rw [← allF_cons, ← List.drop_eq_getElem_cons hkl, ← allF_append, List.take_append_drop]
      rw [e1, List.take_append, List.take_of_length_le (by omega)]
      congr 1
      rw [List.take_append_of_le_length (by omega)]
    show getR 32 ((allF ls).take c) = _
    rw [e]
    refine getR_cut 32 _ _ _ (fun g hg => firF_mem h g (List.mem_of_mem_take hg)) hc (by omega) ?_ (by rw [List.length_take]; omega)
    by_cases hk : k = 0
    · right
      rw [hk]
      rfl
    · left
      omega
end M

set_option maxRecDepth 100000 in
set_option maxHeartbeats 16000000 in
theorem cut14_law (ls : List M.Fr) (a : Option Addr) (cap : Nat) (c : Int) (w : World) (hL : Fs w w.heap.size ls (.slice a ls.length cap)) : Calls Try.prog 7 #[.slice a ls.length cap, .int .i64 c] w fun e w' => e = .returned (.bool true) ∧ Below w.heap.size w w' := by
  have HW := Lib.hid works14
  have HP := Lib.hid (fun W (h : Fs W W.heap.size ls (.slice a ls.length cap)) => fput_any ls a cap W h)
  have HL := Lib.hid (fun W (h : Below w.heap.size w W) => hL.kept h)
  clear hL
  by_cases hq : (M.putF ls).2 = 0
  · obtain ⟨e1, e2, e3, e4, e5⟩ := M.putF_ok hq
    rw [e1] at HP
    have HCW := Lib.hid (fun k => @M.cut_whole ls e2 k)
    have HCI := Lib.hid (fun k c => @M.cut_within ls e2 k c)
    have HCK := Lib.hid (M.firF_mem e2)
    have HSL : Hid ((0 :: M.allF ls).length = M.offF ls ls.length) := by
      unfold M.offF
      rw [List.take_length, List.length_cons, Nat.add_comm]
      exact Lib.hid rfl
    have h0 : ls.length ≠ 0 := fun h => e3 (List.eq_nil_of_length_eq_zero h)
    clear hq e1 e2 e3
    generalize 0 :: M.allF ls = s at *
    by_cases hc0 : c < 0
    · go_enter Try.func7, Try.ntmps7
      go_wp2_with fail
      refine (HW.out _).mono ?_
      rintro e w1 ⟨rfl, b1⟩
      go_wp2_with fail
      refine (rfew14_any ls a cap w1 (HL.out _ b1)).mono ?_
      rintro e w1' ⟨⟨q, rfl, _⟩, rfl⟩
      cases q
      · go_wp2_with fail
        go_ret
        exact ⟨rfl, b1⟩
      · go_wp2_with fail
        refine (HP.out _ (HL.out _ b1)).mono ?_
        rintro e w2 ⟨rfl, hb⟩
        have b2 := b1.trans (hb.mono b1.size)
        go_wp2_with fail
        go_ret
        exact ⟨rfl, b2⟩
    · obtain ⟨c, rfl⟩ : ∃ n : Nat, c = n := ⟨c.toNat, by omega⟩
      by_cases hcs : s.length ≤ c
      · have hcs' : (s.length : Int) ≤ (c : Nat) := by omega
        go_enter Try.func7, Try.ntmps7
        go_wp2_with fail
        refine (HW.out _).mono ?_
        rintro e w1 ⟨rfl, b1⟩
        go_wp2_with fail
        refine (rfew14_any ls a cap w1 (HL.out _ b1)).mono ?_
        rintro e w1' ⟨⟨q, rfl, _⟩, rfl⟩
        cases q
        · go_wp2_with fail
          go_ret
          exact ⟨rfl, b1⟩
        · go_wp2_with fail
          refine (HP.out _ (HL.out _ b1)).mono ?_
          rintro e w2 ⟨rfl, hb⟩
          have b2 := b1.trans (hb.mono b1.size)
          go_wp2_with fail
          go_ret
          exact ⟨rfl, b2⟩
      · have hcs' : ¬ (s.length : Int) ≤ (c : Nat) := by omega
        have hsl := slice_lo s c (by omega)
        have HG := Lib.hid (fun W => fget_any (s.take c) W (by rw [List.length_take]; omega))
        go_enter Try.func7, Try.ntmps7
        go_wp2_with fail
        refine (HW.out _).mono ?_
        rintro e w1 ⟨rfl, b1⟩
        go_wp2_with fail
        refine (rfew14_any ls a cap w1 (HL.out _ b1)).mono ?_
        rintro e w1' ⟨⟨q, rfl, _⟩, rfl⟩
        cases q
        · go_wp2_with fail
          go_ret
          exact ⟨rfl, b1⟩
        · go_wp2_with fail
          refine (HP.out _ (HL.out _ b1)).mono ?_
          rintro e w2 ⟨rfl, hb⟩
          have b2 := b1.trans (hb.mono b1.size)
          clear hb
          go_wp2_with fail
          go_loopw [9, 10, 11] (fun t h i wr => ∃ k : Nat, k ≤ ls.length ∧ t = .int .i64 ((M.offF ls k : Nat) : Int) ∧ h = .int .i64 k ∧ i = .int .i64 k ∧ (M.offF ls k ≤ c ∨ k = 0) ∧ Below w.heap.size w wr) (fun _ _ i _ => ls.length - (intOf i).toNat)
          case atStart => exact ⟨0, by omega, rfl, rfl, rfl, .inr rfl, b2⟩
          case round =>
            obtain ⟨k, hk, rfl, rfl, rfl, hoc, hW⟩ := hrel
            have hkl : k < ls.length := by
              rcases Nat.lt_or_ge k ls.length with h | h
              · exact h
              · obtain rfl : k = ls.length := by omega
                have := HSL.out
                omega
            obtain ⟨b, o, f, rfl, hb, hf, c0, c1, c2, c3⟩ := (HL.out _ hW).at_ hkl
            have hfc := HCK.out f (List.mem_of_getElem? hf)
            have hnx := M.offF_next hf hfc
            have hle := M.offF_le ls (k + 1)
            rw [← HSL.out] at hle
            have HCK1 := Lib.hid (HCW.out k)
            have HCK2 := Lib.hid (HCI.out k c hkl)
            have HLk := Lib.hid (fun W (h : Below w.heap.size w W) => (HL.out W h).take k hk)
            obtain ⟨n, hn⟩ : ∃ n, f.data.length = n := ⟨_, rfl⟩
            obtain ⟨q1, hq1⟩ : ∃ q1, M.offF ls k = q1 := ⟨_, rfl⟩
            obtain ⟨q2, hq2⟩ : ∃ q2, M.offF ls (k + 1) = q2 := ⟨_, rfl⟩
            rw [hn, hq1, hq2] at hnx
            rw [hq2] at hle HCK2
            rw [hq1] at hoc HCK1 HCK2
            have HOC := Lib.hid hoc
            clear hoc
            have HQ1 := Lib.hid hq1
            have HQ2 := Lib.hid hq2
            have hqw : True → wrap64 ((q1 : Int) + 23) = (q1 : Int) + 23 := fun _ => by unfold wrap64; omega
            have hqw2 : True → wrap64 ((q1 : Int) + 23 + (n : Int)) = (q1 : Int) + 23 + (n : Int) := fun _ => by unfold wrap64; omega
            have hk' : ((k : Nat) : Int) < (ls.length : Nat) := by omega
            have hn' : (f.data.length : Int) = (n : Nat) := by omega
            rw [hq1]
            clear hf hfc hq1 hq2 HSL HCW HCI HCK hn
            by_cases hgo : q2 ≤ c
            · have hgo' : (q1 : Int) + 23 + (n : Int) ≤ (c : Nat) := by omega
              have hq2' : (q1 : Int) + 23 + (n : Int) = (q2 : Nat) := by omega
              have HQ := Lib.hid hq2'
              clear hnx hq2'
              go_wp2_with fail
              go_roundw
              case rel => exact ⟨k + 1, by omega, by rw [HQ2.out, HQ.out], by go_num, by go_num, .inl (by rw [HQ2.out]; exact hgo), hW⟩
              case measure => simp [intOf]; omega
            · have hgo' : ¬ (q1 : Int) + 23 + (n : Int) ≤ (c : Nat) := by omega
              by_cases hw : 0 < k ∧ q1 = c
              · obtain ⟨hw1, rfl⟩ := hw
                have hgt := HCK1.out hw1 hk e4
                rw [hgt] at HG
                have hw1' : (0 : Int) < (k : Nat) := by omega
                clear hgt
                have hlk : (ls.take k).length = k := by rw [List.length_take]; omega
                obtain ⟨_, _, hsv, hcl, hcm⟩ := (HL.out _ hW).slice
                cases hsv
                have hkc : ((k : Nat) : Int) ≤ (cap : Nat) := by omega
                have HK := Lib.hid hlk
                have HHL := Lib.hid (show k ≤ 100000 by omega)
                clear hlk hcl hcm
                go_wp2_with fail
                refine (HG.out _).mono ?_
                rintro e w3 ⟨a3, c3', rfl, hM, hb3⟩
                have b3 := hW.trans (hb3.mono hW.size)
                rw [HK.out] at hM ⊢
                have hS := rsame14_any (ls.take k) a3 (some ⟨b, o, none⟩) c3' cap w3 (by rw [HK.out]; exact hM) (by rw [HK.out]; exact HLk.out _ b3) (by rw [HK.out]; exact HHL.out)
                rw [HK.out] at hS
                have HS := Lib.hid hS
                clear hM hS hb3 c0 c1 c2 c3
                go_wp2_with fail
                refine HS.out.mono ?_
                rintro e w4 ⟨rfl, hb4⟩
                go_wp2_with fail
                go_ret
                exact ⟨rfl, b3.trans (hb4.mono b3.size)⟩
              · have hgt := HCK2.out e4 HOC.out (by omega) (by omega)
                rw [hgt] at HG
                clear hgt
                by_cases hk0 : 0 < k
                · have hk0' : (0 : Int) < (k : Nat) := by omega
                  have hqc : ¬ (q1 : Int) = (c : Nat) := by omega
                  go_wp2_with fail
                  refine (HG.out _).mono ?_
                  rintro e w3 ⟨a3, c3', rfl, hM, hb3⟩
                  have b3 := hW.trans (hb3.mono hW.size)
                  clear c0 c1 c2 c3
                  go_wp2_with fail
                  go_ret
                  exact ⟨by simp, b3⟩
                · have hk0' : ¬ (0 : Int) < (k : Nat) := by omega
                  go_wp2_with fail
                  refine (HG.out _).mono ?_
                  rintro e w3 ⟨a3, c3', rfl, hM, hb3⟩
                  have b3 := hW.trans (hb3.mono hW.size)
                  clear c0 c1 c2 c3
                  go_wp2_with fail
                  go_ret
                  exact ⟨by simp, b3⟩
  · have hbad := M.putF_bad hq
    have hq' : ¬ (((M.putF ls).2 : Nat) : Int) = 0 := by omega
    generalize M.putF ls = r at *
    obtain ⟨s, q⟩ := r
    dsimp only at *
    go_enter Try.func7, Try.ntmps7
    go_wp2_with fail
    refine (HW.out _).mono ?_
    rintro e w1 ⟨rfl, b1⟩
    go_wp2_with fail
    refine (rfew14_any ls a cap w1 (HL.out _ b1)).mono ?_
    rintro e w1' ⟨⟨q2, rfl, _⟩, rfl⟩
    cases q2
    · go_wp2_with fail
      go_ret
      exact ⟨rfl, b1⟩
    · go_wp2_with fail
      refine (HP.out _ (HL.out _ b1)).mono ?_
      rintro e w2 ⟨rfl, hb⟩
      have b2 := b1.trans (hb.mono b1.size)
      go_wp2_with fail
      go_ret
      exact ⟨rfl, b2⟩
end Go.Proofs.Ytgeeoefcepjniaa
