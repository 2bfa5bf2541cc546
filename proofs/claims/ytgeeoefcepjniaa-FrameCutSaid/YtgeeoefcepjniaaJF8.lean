/- frame: frames, which tells frames one behind the other. -/
import Derived.Test.YtgeeoefcepjniaaJF7
namespace Go.Proofs.Ytgeeoefcepjniaa
open Go Go.RowKit
attribute [local go_sem] Oper.semAt_some

/-- What comes each time: a frame, and what is wrong. -/
abbrev Ef := M.Fr × Nat
def encF (x : Ef) : Array Value := #[frv x.1, .int .i64 (x.2 : Nat)]
def M.cmb (xs : List M.Fr) (r : List M.Fr × Nat) : List M.Fr × Nat := if r.2 = 0 then (xs ++ r.1, 0) else ([], r.2)
theorem M.cmb_nil (m : Nat) (t : List UInt8) : M.cmb [] (M.getR m t) = M.getR m t := by
  unfold M.cmb
  by_cases h : (M.getR m t).2 = 0
  · rw [if_pos h, List.nil_append, ← h]
  · rw [if_neg h, ← M.getR_err m t h]
theorem M.cmb_zero (xs : List M.Fr) (t : List UInt8) : M.cmb xs (M.getR 0 t) = ([], 5) := rfl
theorem M.cmb_bad (xs : List M.Fr) (m : Nat) (t : List UInt8) (h : M.leadE t ≠ 0) : M.cmb xs (M.getR (m + 1) t) = ([], M.leadE t) := by
  rw [M.getR, if_pos h]
  exact if_neg h
theorem M.cmb_last (xs : List M.Fr) (m : Nat) (t : List UInt8) (h : M.leadE t = 0) (hl : t.length = 23 + M.lenF t) : M.cmb xs (M.getR (m + 1) t) = (xs ++ [M.isF t], 0) := by
  rw [M.getR, if_neg (by omega), if_pos hl]
  exact if_pos rfl
theorem M.cmb_next (xs : List M.Fr) (m : Nat) (t : List UInt8) (h : M.leadE t = 0) (hl : ¬ t.length = 23 + M.lenF t) : M.cmb xs (M.getR (m + 1) t) = M.cmb (xs ++ [M.isF t]) (M.getR m (t.drop (23 + M.lenF t))) := by
  rw [M.getR, if_neg (by omega), if_neg hl]
  unfold M.cmb
  by_cases hq : (M.getR m (t.drop (23 + M.lenF t))).2 = 0
  · rw [if_pos hq, if_pos hq, if_pos rfl, List.append_assoc]
    rfl
  · rw [if_neg hq, if_neg hq, if_neg hq]

theorem frames_in (n : Nat) (s : List UInt8) (k : Nat) (w : World) :
    CallsIn Fence.wide n Try.prog 24 #[.string ⟨s.toArray⟩, .int .i64 k] w fun e w' =>
      e = .returned (.func (.func 28) #[] #[.pointer (some ⟨w.heap.size + 1, 0, none⟩), .pointer (some ⟨w.heap.size, 0, none⟩)]) ∧
      w' = (w.alloc (.cells #[.string ⟨s.toArray⟩] 9)).alloc (.cells #[.int .i64 k] 3) := by
  refine callsIn_of_wp Try.func24 rfl trivial ?_ rfl
  simp only [Try.ntmps24, List.size_toArray, List.length_cons, List.length_nil, Nat.reduceAdd, Nat.reduceSub, Array.replicate_succ, Array.replicate_zero, List.push_toArray, List.append_toArray, List.nil_append, List.cons_append]
  gi_wp2
  go_ret
  exact ⟨rfl, rfl⟩

/-- The boxes of what is gone through. -/
structure EnvF (W : World) (s : List UInt8) (k bA bS : Nat) : Prop where
  cA : Boxed W bA 3 (.int .i64 (k : Nat))
  cS : Boxed W bS 9 (.string ⟨s.toArray⟩)
theorem EnvF.keep {w W : World} {s : List UInt8} {k bA bS : Nat} (h : EnvF w s k bA bS) (hA : W.heap[bA]? = w.heap[bA]?) (hS : W.heap[bS]? = w.heap[bS]?) : EnvF W s k bA bS := ⟨hA.trans h.cA, hS.trans h.cS⟩

set_option maxRecDepth 100000 in
set_option maxHeartbeats 8000000 in
theorem seq14_in (m lp : Nat) (s : List UInt8) (k bA bS : Nat) (hs : s.length ≤ 400000) (hk : k ≤ s.length)
    (J : List Ef → World → Prop) (Jx : Ef → World → Prop) (T : Nat → Prop) (hA : T bA) (hS : T bS) (W : World) (hE : EnvF W s k bA bS)
    (hY : ∀ pre x A B, J pre A → A.grownBy B none → (pre.length ≤ 32) → YieldAt Fence.wide (m - 1) Try.prog lp (encF x) B fun e W' =>
        (e = .returned (.bool true) ∧ x.2 = 0 ∧ J (pre ++ [x]) W' ∧ (∀ b, T b → W'.heap[b]? = B.heap[b]?)) ∨ (e = .returned (.bool false) ∧ ¬ x.2 = 0 ∧ Jx x W'))
    (h0 : J [] W) : CallsIn Fence.wide m Try.prog 28 #[.func (.yield lp) #[] #[], .pointer (some ⟨bA, 0, none⟩), .pointer (some ⟨bS, 0, none⟩)] W fun e W' =>
      (∃ v, e = .returned v) ∧ ((∃ xs : List Ef, M.getR 32 (s.drop k) = (xs.map (·.1), 0) ∧ J xs W') ∨ ∃ x : Ef, (x.2 ≠ 0 ∧ M.getR 32 (s.drop k) = ([], x.2)) ∧ Jx x W') := by
  have hro : Fence.wide.round = none := rfl
  refine callsIn_of_wp Try.func28 rfl trivial ?_ rfl
  simp only [Try.ntmps28, List.size_toArray, List.length_cons, List.length_nil, Nat.reduceAdd, Nat.reduceSub, Array.replicate_succ, Array.replicate_zero, List.push_toArray, List.append_toArray, List.nil_append, List.cons_append]
  have cA := hE.cA.cell
  gi_wp2
  gi_loopw [4, 5, 6, 7, 9] (fun p _ _ _ c wr => ∃ (pre : List Ef) (q n' : Nat), p = .int .i64 (q : Nat) ∧ c = .int .i64 (pre.length : Nat) ∧ q ≤ s.length ∧ pre.length + n' = 32 ∧
      M.getR 32 (s.drop k) = M.cmb (pre.map (·.1)) (M.getR n' (s.drop q)) ∧ EnvF wr s k bA bS ∧ J pre wr)
    (fun _ _ _ _ c _ => 32 - (intOf c).toNat)
  case atStart => exact ⟨[], k, 32, rfl, rfl, hk, rfl, (M.cmb_nil _ _).symm, hE, h0⟩
  case round =>
    obtain ⟨pre, q, n', rfl, rfl, hq, hn', hrel, hEr, hJr⟩ := hrel
    have cS := hEr.cS.cell
    cases n' with
    | zero =>
      have hlen : pre.length = 32 := by omega
      rw [M.cmb_zero] at hrel
      obtain ⟨fn, tmps, assign, body, hy, hR⟩ := hY pre (M.noF, 5) wr wr hJr ⟨rfl, rfl, rfl, Nat.le_refl _, fun _ _ _ => rfl⟩ (by omega)
      dsimp only [encF, M.noF] at hy
      rw [show ((5 : Nat) : Int) = 5 from rfl] at hy
      have hm' : decide (((pre.length : Nat) : Int) < 32) = false := by simp; omega
      gi_wp2
      refine ⟨fun h => (by cases h), hR.mono ?_⟩
      rintro e W' (⟨rfl, hon, _⟩ | ⟨rfl, hoff, hjx⟩)
      · cases hon
      · gi_wp2
        go_end0
        exact ⟨⟨_, rfl⟩, .inr ⟨_, ⟨by simp, hrel⟩, hjx⟩⟩
    | succ n1 =>
      have hm' : decide (((pre.length : Nat) : Int) < 32) = true := by simp; omega
      have HN := Lib.hid (fnext_any s q wr hs hq)
      have hlen : (s.drop q).length = s.length - q := List.length_drop
      by_cases hz : M.leadE (s.drop q) = 0
      · have hle := (M.lead_only hz).2.2.1
        have hdd : (s.drop q).drop (23 + M.lenF (s.drop q)) = s.drop (q + (23 + M.lenF (s.drop q))) := List.drop_drop
        have hlast := M.cmb_last (pre.map (·.1)) n1 (s.drop q) hz
        have hnext := M.cmb_next (pre.map (·.1)) n1 (s.drop q) hz
        rw [hdd] at hnext
        unfold M.nxN M.ldF at HN
        rw [if_pos hz, if_pos hz, hz] at HN
        generalize M.isF (s.drop q) = f at *
        generalize M.lenF (s.drop q) = n at *
        rw [hlen] at hle hlast hnext
        have hmap : (pre ++ [((f, 0) : Ef)]).map (·.1) = pre.map (·.1) ++ [f] := by simp
        have HLA := Lib.hid hlast
        have HNE := Lib.hid hnext
        have HRE := Lib.hid hrel
        have HMA := Lib.hid hmap
        have HD := Lib.hid hdd
        clear hlast hnext hrel hmap hdd hz
        gi_wp2_with (refine ⟨trivial, fun h => (by cases h), (callsIn_wide.2 HN.out).mono ?_⟩; rintro e w1 ⟨rfl, hb1⟩; obtain ⟨fn, tmps, assign, body, hy, hR⟩ := hY pre (f, 0) wr (w1.alloc (.cells #[.string ⟨f.id.toArray⟩, .int .i64 f.num, .string ⟨f.data.toArray⟩, .bool f.last] 24)) hJr ⟨hb1.os, hb1.tape, hb1.output, by have := hb1.size; simp; omega, fun k' hk' _ => (Below.heap_alloc _ _ _ (by have := hb1.size; omega)).trans (hb1.block k' hk')⟩ (by omega); dsimp only [encF] at hy; rw [show ((0 : Nat) : Int) = 0 from rfl] at hy)
        refine ⟨fun h => (by cases h), hR.mono ?_⟩
        rintro e W' (⟨rfl, hon, hj, hkeep⟩ | ⟨rfl, hoff, hjx⟩)
        · have hbk : ∀ c, c < wr.heap.size → T c → W'.heap[c]? = wr.heap[c]? := fun c hc hTc => (hkeep c hTc).trans ((Below.heap_alloc _ _ _ (by have := hb1.size; omega)).trans (hb1.block c hc))
          have hE2 := hEr.keep (hbk bA hEr.cA.lt hA) (hbk bS hEr.cS.lt hS)
          have cS2 := hE2.cS.cell
          by_cases he : s.length - q = 23 + n
          · have he' : (q : Int) + (23 + (n : Int)) = (s.length : Nat) := by omega
            have hrel := HRE.out
            rw [HLA.out he] at hrel
            gi_wp2
            refine bodyPost_ret (results_none rfl _ _ _) rfl ?_
            exact ⟨⟨_, rfl⟩, .inl ⟨_, by rw [hrel, HMA.out], hj⟩⟩
          · have he' : ¬ (q : Int) + (23 + (n : Int)) = (s.length : Nat) := by omega
            have hrel := HRE.out
            rw [HNE.out he, ← HMA.out] at hrel
            gi_wp2
            go_roundw
            case rel => exact ⟨pre ++ [(f, 0)], q + (23 + n), n1, by go_num, by simp, by omega, by simp; omega, hrel, hE2, hj⟩
            case measure => simp [intOf]; omega
        · simp at hoff
      · have hbad := M.cmb_bad (pre.map (·.1)) n1 (s.drop q) hz
        rw [hbad] at hrel
        unfold M.nxN M.ldF at HN
        rw [if_neg hz, if_neg hz, show frv M.noF = .agg #[.string ⟨#[]⟩, .int .i64 0, .string ⟨#[]⟩, .bool false] from rfl] at HN
        have HRE := Lib.hid hrel
        have HZ := Lib.hid hz
        generalize M.leadE (s.drop q) = er at *
        have hq0 : ¬ ((er : Nat) : Int) = 0 := by have := HZ.out; omega
        clear hbad hrel hz
        gi_wp2_with (refine ⟨trivial, fun h => (by cases h), (callsIn_wide.2 HN.out).mono ?_⟩; rintro e w1 ⟨rfl, hb1⟩; obtain ⟨fn, tmps, assign, body, hy, hR⟩ := hY pre (M.noF, er) wr (w1.alloc (.cells #[.string ⟨#[]⟩, .int .i64 0, .string ⟨#[]⟩, .bool false] 24)) hJr ⟨hb1.os, hb1.tape, hb1.output, by have := hb1.size; simp; omega, fun k' hk' _ => (Below.heap_alloc _ _ _ (by have := hb1.size; omega)).trans (hb1.block k' hk')⟩ (by omega); dsimp only [encF, M.noF] at hy)
        refine ⟨fun h => (by cases h), hR.mono ?_⟩
        rintro e W' (⟨rfl, hon, hj, hkeep⟩ | ⟨rfl, hoff, hjx⟩)
        · exact absurd hon HZ.out
        · gi_wp2
          refine bodyPost_ret (results_none rfl _ _ _) rfl ?_
          exact ⟨⟨_, rfl⟩, .inr ⟨_, ⟨HZ.out, HRE.out⟩, hjx⟩⟩
end Go.Proofs.Ytgeeoefcepjniaa
