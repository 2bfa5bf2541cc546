/- num.undigits: what its function tells, digit by digit, and what it says at last. -/
import Derived.Test.YtmcchfgblecgoaaDoorN8
import Derived.Test.YtmcchfgblecgoaaDoorN5
namespace Go.Proofs.YtmcchfgblecgoaaDoor
open Go Go.RowKit Go.Shelf
attribute [local go_sem] Oper.semAt_some

/-- Behind the last digit: nothing is wrong, and nothing changes; or what is wrong is told. -/
def EndE (bE e : Nat) (A B : World) : Prop := (e = 0 ∧ A = B) ∨ (e ≠ 0 ∧ B = A.setCell ⟨bE, 0, none⟩ (.int .i64 e))

set_option maxRecDepth 100000 in
set_option maxHeartbeats 4000000 in
theorem undigits_run (n K e : Nat) (l : List UInt8) (hK : K ≤ 10) (hKl : K ≤ l.length) (hft : ∀ j, j < K → M.ft l j = 0)
    (he0 : e = 0 → 1 ≤ K ∧ (∀ j, j + 1 = K → (l.getD j 0).toNat < 128) ∧ ∀ j, j + 1 < K → 128 ≤ (l.getD j 0).toNat)
    (he1 : e ≠ 0 → K < 10 ∧ M.ft l K = e ∧ ∀ j, j < K → 128 ≤ (l.getD j 0).toNat)
    (ll bS bW bE : Nat) (J : List Nat → World → Prop)
    (hJ : ∀ pre W, J pre W → W.cell? ⟨bS, 0, none⟩ = some (.string ⟨l.toArray⟩) ∧ W.cell? ⟨bW, 0, none⟩ = some (.func (.func 23) #[] #[.pointer (some ⟨bE, 0, none⟩)]) ∧ W.cell? ⟨bE, 0, none⟩ = some (.int .i64 0) ∧ W.frozen? ⟨bE, 0, none⟩ = false)
    (hY : ∀ i W, i < K → J (List.range i) W → YieldAt Fence.wide n Tryd.prog ll #[.int .i64 i, .int .u8 (((l.getD i 0).toNat % 128 : Nat) : Int)] W fun e W' => e = .returned (.bool true) ∧ J (List.range (i + 1)) W')
    (W : World) (h0 : J [] W) :
    CallsIn Fence.wide (n + 1) Tryd.prog 32 #[.func (.yield ll) #[] #[], .pointer (some ⟨bS, 0, none⟩), .pointer (some ⟨bW, 0, none⟩)] W fun e' W' => (∃ v, e' = .returned v) ∧ ∃ W1, J (List.range K) W1 ∧ EndE bE e W1 W' := by
  have HF := Lib.hid hft
  have H0 := Lib.hid he0
  have H1 := Lib.hid he1
  have HJ := Lib.hid hJ
  have HY := Lib.hid hY
  clear hft he0 he1 hJ hY
  have hro : Fence.wide.round = none := rfl
  refine callsIn_of_wp Tryd.func32 rfl trivial ?_ rfl
  simp only [Tryd.ntmps32, List.size_toArray, List.length_cons, List.length_nil, Nat.reduceAdd, Nat.reduceSub, Array.replicate_succ, Array.replicate_zero, List.push_toArray, List.append_toArray, List.nil_append, List.cons_append]
  gi_wp2
  gi_loopw [6] (fun i wr => ∃ j : Nat, (j < K ∨ (j = K ∧ e ≠ 0)) ∧ i = .int .i64 j ∧ J (List.range j) wr) (fun i _ => 10 - (intOf i).toNat)
  case atStart => exact ⟨0, by rcases Nat.eq_zero_or_pos e with h | h; exact .inl (H0.out h).1; (rcases Nat.eq_zero_or_pos K with h2 | h2; exact .inr ⟨h2.symm, by omega⟩; exact .inl h2), rfl, h0⟩
  case round =>
    obtain ⟨j, hj, rfl, hJs⟩ := hrel
    obtain ⟨cS, cW, cE, fE⟩ := HJ.out _ _ hJs
    by_cases hlt : j < K
    · have hj10 : j < 10 := by omega
      have hf := fault_any l j
      rw [HF.out j hlt] at hf
      have HFA := Lib.hid hf
      clear hf
      have hjl : j < l.length := by omega
      have hg : l.getD j 0 = l[j] := by rw [List.getD_eq_getElem?_getD, List.getElem?_eq_getElem hjl, Option.getD_some]
      obtain ⟨c, hc⟩ : ∃ c, (⟨l.toArray⟩ : ByteArray)[j]'(by simpa [ByteArray.size] using hjl) = c := ⟨_, rfl⟩
      have hgc : l.getD j 0 = c := hg.trans hc
      have HYJ := HY.out j wr hlt hJs
      rw [hgc] at HYJ
      obtain ⟨fn, tmps, assign, body, hy, hR⟩ := HYJ
      rw [show ((c.toNat % 128 : Nat) : Int) = (c.toNat : Int) % 128 by omega] at hy
      have HG := Lib.hid hgc
      clear hg hgc
      gi_wp2_with (refine ⟨trivial, ?_⟩; gi_at_call 33; refine (callsIn_wide.2 (HFA.out _)).mono ?_; rintro e w' ⟨rfl, rfl⟩)
      refine hR.mono ?_
      clear hy hR cS cW cE fE
      rintro e1 W3 ⟨rfl, hJ3⟩
      obtain ⟨cS, cW, cE, fE⟩ := HJ.out _ _ hJ3
      by_cases hsm : (c.toNat : Int) < 128
      · gi_wp2
        refine bodyPost_ret (results_none rfl _ _ _) rfl ?_
        have e0 : e = 0 := by
          rcases Nat.eq_zero_or_pos e with h | h
          · exact h
          · have := (H1.out (by omega)).2.2 j hlt
            rw [HG.out] at this
            omega
        have e1 : j + 1 = K := by
          rcases Nat.lt_or_ge (j + 1) K with h | h
          · have := (H0.out e0).2.2 j h
            rw [HG.out] at this
            omega
          · omega
        exact ⟨⟨_, rfl⟩, W3, e1 ▸ hJ3, .inl ⟨e0, rfl⟩⟩
      · have hbg : 128 ≤ (c.toNat : Int) := by omega
        gi_wp2
        go_roundw
        case rel =>
          refine ⟨j + 1, ?_, by simp, hJ3⟩
          rcases Nat.lt_or_ge (j + 1) K with h | h
          · exact .inl h
          · refine .inr ⟨by omega, fun h2 => ?_⟩
            have := (H0.out h2).2.1 j (by omega)
            rw [HG.out] at this
            omega
        case measure => simp [intOf]; omega
    · obtain ⟨rfl, hne⟩ : j = K ∧ e ≠ 0 := by omega
      obtain ⟨k1, k2, k3⟩ := H1.out hne
      have hf := fault_any l j
      rw [k2] at hf
      have HFA := Lib.hid hf
      have HNE := Lib.hid hne
      have hb : ((e : Int) != 0) = true := by simp [hne]
      clear hf k2 k3 hne
      gi_wp2_with (first | (refine ⟨trivial, ?_⟩; gi_at_call 33; refine (callsIn_wide.2 (HFA.out _)).mono ?_; rintro e w' ⟨rfl, rfl⟩) | (refine ⟨trivial, ?_⟩; gi_at_call 23; refine (tell_any _ _ _ _ _ cE fE).mono ?_; rintro e' w' ⟨⟨v, rfl⟩, rfl⟩))
      refine bodyPost_ret (results_none rfl _ _ _) rfl ?_
      exact ⟨⟨_, rfl⟩, wr, hJs, .inr ⟨HNE.out, rfl⟩⟩
end Go.Proofs.YtmcchfgblecgoaaDoor
