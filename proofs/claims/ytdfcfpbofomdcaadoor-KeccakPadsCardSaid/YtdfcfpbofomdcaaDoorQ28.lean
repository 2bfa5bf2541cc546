/- The walk of KeccakPads. -/
import Derived.Test.YtdfcfpbofomdcaaDoorQ23
import Derived.Lib.Strings
namespace Go.Proofs.YtdfcfpbofomdcaaDoor
open Go Go.RowKit

theorem two_pads (b c p q : ByteArray) (hp : p = ⟨(M.padL b.size).toArray⟩) (hq : q = ⟨(M.padL c.size).toArray⟩) : (((b ++ p).toList == (c ++ q).toList) == (b.toList == c.toList)) = true := by
  have hb : b.size = b.data.toList.length := by rw [Array.length_toList]; rfl
  have hc : c.size = c.data.toList.length := by rw [Array.length_toList]; rfl
  have e1 : (b ++ p).data.toList = b.data.toList ++ M.padL b.data.toList.length := by rw [hp, ← hb]; simp
  have e2 : (c ++ q).data.toList = c.data.toList ++ M.padL c.data.toList.length := by rw [hq, ← hc]; simp
  rw [Lib.toList_data, Lib.toList_data, Lib.toList_data, Lib.toList_data, e1, e2]
  by_cases h : b.data.toList = c.data.toList
  · rw [h]; simp
  · have h2 : ¬ b.data.toList ++ M.padL b.data.toList.length = c.data.toList ++ M.padL c.data.toList.length := fun h' => h (M.pad_inj h')
    rw [beq_eq_false_iff_ne.2 h, beq_eq_false_iff_ne.2 h2]
    rfl

set_option maxRecDepth 100000 in
set_option maxHeartbeats 4000000 in
theorem kpads_small (b c : ByteArray) (w : World) (hb : b.size ≤ 600) (hc : c.size ≤ 600) (hT : Tab w) :
    Calls Tryd.prog 7 #[.string b, .string c] w fun e w' => e = .returned (.bool true) ∧ Below w.heap.size w w' := by
  have HT := Lib.hid hT
  clear hT
  obtain ⟨p, hp⟩ : ∃ p : ByteArray, p = ⟨(M.padL b.size).toArray⟩ := ⟨_, rfl⟩
  obtain ⟨q, hq⟩ : ∃ q : ByteArray, q = ⟨(M.padL c.size).toArray⟩ := ⟨_, rfl⟩
  have h1 := fun W => kpad b.size W (by omega)
  have h2 := fun W => kpad c.size W (by omega)
  rw [← hp] at h1
  rw [← hq] at h2
  have hpz : p.size = (M.padL b.size).length := by rw [hp]; exact List.size_toArray
  have hqz : q.size = (M.padL c.size).length := by rw [hq]; exact List.size_toArray
  have hm1 : (b.size + p.size) % 136 = 0 := by rw [hpz]; exact M.padL_mul b.size
  have hm2 : (c.size + q.size) % 136 = 0 := by rw [hqz]; exact M.padL_mul c.size
  have e1 : ((((b.size : Int) + (p.size : Int)) % 136) == 0) = true := by simp only [beq_iff_eq]; omega
  have e2 : ((((c.size : Int) + (q.size : Int)) % 136) == 0) = true := by simp only [beq_iff_eq]; omega
  have b1 : p.size ≤ 136 := by rw [hpz, M.padL_length]; omega
  have b2 : q.size ≤ 136 := by rw [hqz, M.padL_length]; omega
  have HP := Lib.hid hp
  have HQ := Lib.hid hq
  have s1 : (b.size : Int) ≤ 600 := by omega
  have s2 : (c.size : Int) ≤ 600 := by omega
  clear hp hq hpz hqz hm1 hm2
  go_enter Tryd.func7, Tryd.ntmps7
  go_wp2_with fail
  refine (works_true _ HT.out).mono ?_
  rintro e w2 ⟨rfl, hW⟩
  go_wp2_with fail
  refine (h1 _).mono ?_
  rintro e w3 ⟨rfl, hb3⟩
  replace hW := hW.trans (hb3.mono hW.size)
  clear hb3
  go_wp2_with fail
  refine (h2 _).mono ?_
  rintro e w4 ⟨rfl, hb4⟩
  replace hW := hW.trans (hb4.mono hW.size)
  clear hb4 h1 h2
  go_wp2_with fail
  go_ret
  rw [two_pads b c p q HP.out HQ.out]
  exact ⟨rfl, hW⟩

set_option maxRecDepth 100000 in
set_option maxHeartbeats 4000000 in
theorem kpads (b c : ByteArray) (w : World) (hT : Tab w) :
    Calls Tryd.prog 7 #[.string b, .string c] w fun e w' => e = .returned (.bool true) ∧ Below w.heap.size w w' := by
  by_cases hb : b.size ≤ 600
  · by_cases hc : c.size ≤ 600
    · exact kpads_small b c w hb hc hT
    · have hb' : (b.size : Int) ≤ 600 := by omega
      have hc' : (600 : Int) < (c.size : Int) := by omega
      have HT := Lib.hid hT
      clear hT hb hc
      go_enter Tryd.func7, Tryd.ntmps7
      go_wp2_with fail
      refine (works_true _ HT.out).mono ?_
      rintro e w2 ⟨rfl, hW⟩
      go_wp2_with fail
      go_ret
      exact ⟨rfl, hW⟩
  · have hb' : (600 : Int) < (b.size : Int) := by omega
    have HT := Lib.hid hT
    clear hT hb
    go_enter Tryd.func7, Tryd.ntmps7
    go_wp2_with fail
    refine (works_true _ HT.out).mono ?_
    rintro e w2 ⟨rfl, hW⟩
    go_wp2_with fail
    go_ret
    exact ⟨rfl, hW⟩
end Go.Proofs.YtdfcfpbofomdcaaDoor
