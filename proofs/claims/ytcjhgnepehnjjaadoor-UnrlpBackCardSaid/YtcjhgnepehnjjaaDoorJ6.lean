/- unrlp.items: the items that stand one behind the other, as a reader reads them. -/
import Derived.Test.YtcjhgnepehnjjaaDoorJ2
import Derived.Test.YtcjhgnepehnjjaaDoorJ3
import Derived.Test.YtcjhgnepehnjjaaDoorJ5
import Derived.DefersIn
import Derived.OwnWalkIn
import Derived.TacticsInMore
import Derived.LoopNIn
import Derived.LoopIn
namespace Go.Proofs.YtcjhgnepehnjjaaDoor
open Go Go.RowKit
attribute [local go_sem] Oper.semAt_some

/-- An item that is read. -/
def ItemC (n : Nat) : Prop := ∀ (s : List UInt8) (k d rb : Nat) (w : World), s.length ≤ 65536 → k ≤ s.length → 2 * (s.length - k) + 1 ≤ n → d ≤ 12 → Boxed w rb 51 (.int .i64 d) →
  Calls Tryd.prog 22 #[.pointer (some ⟨rb, 0, none⟩), .string ⟨s.toArray⟩, .int .i64 k] w fun e w' =>
    ∃ l b xs a cap pl, e = .returned (.tuple #[iv l b (.slice a xs.length cap), .int .i64 (pl : Nat), .int .i64 ((M.readT n (s.drop k) d).2.2 : Nat)]) ∧ (M.readT n (s.drop k) d).1 = .mk l b xs ∧
      Fresh w.heap.size w' xs (.slice a xs.length cap) ∧ Below w.heap.size w w' ∧ ((M.readT n (s.drop k) d).2.2 = 0 → s.drop pl = (M.readT n (s.drop k) d).2.1 ∧ k < pl ∧ pl ≤ s.length)

theorem items_in (n : Nat) (s : List UInt8) (k : Nat) (f : Value) (hf : f.oneCell' = true) (w : World) :
    CallsIn Fence.wide n Tryd.prog 46 #[.string ⟨s.toArray⟩, .int .i64 k, f] w fun e w' =>
      e = .returned (.func (.func 50) #[] #[.pointer (some ⟨w.heap.size + 1, 0, none⟩), .pointer (some ⟨w.heap.size, 0, none⟩), .pointer (some ⟨w.heap.size + 2, 0, none⟩)]) ∧
      w' = ((w.alloc (.cells #[.string ⟨s.toArray⟩] 9)).alloc (.cells #[.int .i64 k] 3)).alloc (.cells #[f] 52) := by
  refine callsIn_of_wp Tryd.func46 rfl trivial ?_ rfl
  simp only [Tryd.ntmps46, List.size_toArray, List.length_cons, List.length_nil, Nat.reduceAdd, Nat.reduceSub, Array.replicate_succ, Array.replicate_zero, List.push_toArray, List.append_toArray, List.nil_append, List.cons_append]
  gi_wp2
  go_ret
  exact ⟨rfl, rfl⟩

/-- What comes each time: an item, the value of its parts, what is wrong. -/
abbrev El := (M.It × Value) × Nat
def encE (x : El) : Array Value := match x.1.1 with | .mk l d _ => #[iv l d x.1.2, .int .i64 (x.2 : Nat)]

def comb (xs : List M.It) (r : List M.It × Nat) : List M.It × Nat := if r.2 ≠ 0 then ([], r.2) else (xs ++ r.1, 0)
theorem comb_nil (n : Nat) (t : List UInt8) (d k : Nat) : comb [] (M.itemsT n t d k) = M.itemsT n t d k := by
  unfold comb
  by_cases h : (M.itemsT n t d k).2 = 0
  · rw [if_neg (by omega), List.nil_append, ← h]
  · rw [if_pos h]
    cases n with
    | zero => rw [M.itemsT]
    | succ n =>
      rw [M.itemsT] at h ⊢
      by_cases h1 : t = []
      · rw [if_pos h1] at h; exact absurd rfl h
      · rw [if_neg h1] at h ⊢
        by_cases h2 : 512 ≤ k
        · rw [if_pos h2]
        · rw [if_neg h2] at h ⊢
          by_cases h3 : (M.readT n t d).2.2 ≠ 0
          · rw [if_pos h3]
          · rw [if_neg h3] at h ⊢
            by_cases h4 : (M.itemsT n (M.readT n t d).2.1 d (k + 1)).2 ≠ 0
            · rw [if_pos h4]
            · rw [if_neg h4] at h; exact absurd rfl h
theorem comb_end (xs : List M.It) (n d k : Nat) : comb xs (M.itemsT (n + 1) [] d k) = (xs, 0) := by
  rw [M.itemsT, if_pos rfl, comb, if_neg (by simp), List.append_nil]
theorem comb_many (xs : List M.It) (n d k : Nat) (t : List UInt8) (ht : t ≠ []) (hk : 512 ≤ k) : comb xs (M.itemsT (n + 1) t d k) = ([], 5) := by
  rw [M.itemsT, if_neg ht, if_pos hk, comb, if_pos (by simp)]
theorem comb_bad (xs : List M.It) (n d k : Nat) (t : List UInt8) (ht : t ≠ []) (hk : ¬ 512 ≤ k) (hr : (M.readT n t d).2.2 ≠ 0) : comb xs (M.itemsT (n + 1) t d k) = ([], (M.readT n t d).2.2) := by
  rw [M.itemsT, if_neg ht, if_neg hk, if_pos hr, comb, if_pos hr]
theorem comb_next (xs : List M.It) (n d k : Nat) (t : List UInt8) (ht : t ≠ []) (hk : ¬ 512 ≤ k) (hr : (M.readT n t d).2.2 = 0) :
    comb xs (M.itemsT (n + 1) t d k) = comb (xs ++ [(M.readT n t d).1]) (M.itemsT n (M.readT n t d).2.1 d (k + 1)) := by
  rw [M.itemsT, if_neg ht, if_neg hk, if_neg (by omega)]
  by_cases h4 : (M.itemsT n (M.readT n t d).2.1 d (k + 1)).2 ≠ 0
  · rw [if_pos h4, comb, if_pos h4, comb, if_pos h4]
  · rw [if_neg h4, comb, if_neg (by simp), comb, if_neg h4, List.append_assoc, List.singleton_append]

/-- What the function reads. -/
structure Env (w : World) (s : List UInt8) (k D rb bA bS bF : Nat) : Prop where
  cA : Boxed w bA 3 (.int .i64 (k : Nat))
  cS : Boxed w bS 9 (.string ⟨s.toArray⟩)
  cF : Boxed w bF 52 (.func (.func 22) #[.pointer (some ⟨rb, 0, none⟩)] #[])
  cR : Boxed w rb 51 (.int .i64 (D : Nat))
theorem Env.keep {w W : World} {s : List UInt8} {k D rb bA bS bF : Nat} (h : Env w s k D rb bA bS bF) (hA : W.heap[bA]? = w.heap[bA]?) (hS : W.heap[bS]? = w.heap[bS]?) (hF : W.heap[bF]? = w.heap[bF]?) (hR : W.heap[rb]? = w.heap[rb]?) : Env W s k D rb bA bS bF :=
  ⟨hA.trans h.cA, hS.trans h.cS, hF.trans h.cF, hR.trans h.cR⟩

set_option maxRecDepth 100000 in
set_option maxHeartbeats 8000000 in
theorem seq_in (N m lp : Nat) (hread : ∀ j, j < N → ItemC j) (s : List UInt8) (k D rb bA bS bF : Nat) (hs : s.length ≤ 65536) (hk : k ≤ s.length) (hN : 2 * (s.length - k) + 2 ≤ N) (hD : D ≤ 12)
    (J : List El → World → Prop) (Jx : El → World → Prop) (T : Nat → Prop) (hA : T bA) (hS : T bS) (hF : T bF) (hR' : T rb) (W : World) (hE : Env W s k D rb bA bS bF)
    (_hJ : ∀ pre A B, J pre A → A.grownBy B none → J pre B)
    (hY : ∀ pre x A B, J pre A → A.grownBy B none → (pre.length ≤ 512 ∧ Fresh A.heap.size B (kids x.1.1) x.1.2) → YieldAt Fence.wide (m - 1) Tryd.prog lp (encE x) B fun e W' =>
        (e = .returned (.bool true) ∧ x.2 = 0 ∧ J (pre ++ [x]) W' ∧ (∀ b, T b → W'.heap[b]? = B.heap[b]?)) ∨ (e = .returned (.bool false) ∧ ¬ x.2 = 0 ∧ Jx x W'))
    (h0 : J [] W) : CallsIn Fence.wide m Tryd.prog 50 #[.func (.yield lp) #[] #[], .pointer (some ⟨bA, 0, none⟩), .pointer (some ⟨bS, 0, none⟩), .pointer (some ⟨bF, 0, none⟩)] W fun e W' =>
      (∃ v, e = .returned v) ∧ ((∃ xs : List El, M.itemsT N (s.drop k) D 0 = (xs.map (·.1.1), 0) ∧ J xs W') ∨ ∃ x : El, (x.2 ≠ 0 ∧ M.itemsT N (s.drop k) D 0 = ([], x.2)) ∧ Jx x W') := by
  have hro : Fence.wide.round = none := rfl
  refine callsIn_of_wp Tryd.func50 rfl trivial ?_ rfl
  simp only [Tryd.ntmps50, List.size_toArray, List.length_cons, List.length_nil, Nat.reduceAdd, Nat.reduceSub, Array.replicate_succ, Array.replicate_zero, List.push_toArray, List.append_toArray, List.nil_append, List.cons_append]
  have cA := hE.cA.cell
  gi_wp2
  gi_loopw [5, 6] (fun p c wr => ∃ (pre : List El) (q n' : Nat), p = .int .i64 (q : Nat) ∧ c = .int .i64 (pre.length : Nat) ∧ q ≤ s.length ∧ pre.length ≤ 512 ∧ 2 * (s.length - q) + 2 ≤ n' ∧ n' ≤ N ∧
      M.itemsT N (s.drop k) D 0 = comb (pre.map (·.1.1)) (M.itemsT n' (s.drop q) D pre.length) ∧ Env wr s k D rb bA bS bF ∧ J pre wr)
    (fun p _ _ => s.length - (intOf p).toNat)
  case atStart => exact ⟨[], k, N, rfl, rfl, hk, by simp, hN, Nat.le_refl _, (comb_nil _ _ _ _).symm, hE, h0⟩
  case round =>
    obtain ⟨pre, q, n', rfl, rfl, hq, hp, hn', hnN, hrel, hEr, hJr⟩ := hrel
    have cS := hEr.cS.cell
    by_cases hlt : q < s.length
    · have hne : s.drop q ≠ [] := by
        intro h
        have := congrArg List.length h
        simp at this
        omega
      have hlt' : ((q : Nat) : Int) < (s.length : Nat) := by omega
      obtain ⟨n1, rfl⟩ : ∃ n1, n' = n1 + 1 := ⟨n' - 1, by omega⟩
      by_cases hmany : pre.length = 512
      · rw [comb_many _ _ _ _ _ hne (by omega)] at hrel
        obtain ⟨fn, tmps, assign, body, hy, hR⟩ := hY pre ((M.It.mk false [] [], .slice none 0 0), 5) wr wr hJr ⟨rfl, rfl, rfl, Nat.le_refl _, fun _ _ _ => rfl⟩ ⟨hp, Fresh.nil _ _ _⟩
        dsimp only [encE, iv] at hy
        rw [show ((5 : Nat) : Int) = 5 from rfl] at hy
        have hm' : (((pre.length : Nat) : Int) == 512) = true := by simp; omega
        gi_wp2
        refine ⟨fun h => (by cases h), hR.mono ?_⟩
        rintro e W' (⟨rfl, hon, _⟩ | ⟨rfl, hoff, hjx⟩)
        · cases hon
        · gi_wp2
          refine bodyPost_ret (results_none rfl _ _ _) rfl ?_
          exact ⟨⟨_, rfl⟩, .inr ⟨_, ⟨by simp, hrel⟩, hjx⟩⟩
      · have hm' : (((pre.length : Nat) : Int) == 512) = false := by simp; omega
        have cF := hEr.cF.cell
        have HRd := Lib.hid (hread n1 (by omega) s q D rb wr hs hq (by omega) hD hEr.cR)
        have hbad := comb_bad (pre.map (·.1.1)) n1 D pre.length (s.drop q) hne (by omega)
        have hnext := comb_next (pre.map (·.1.1)) n1 D pre.length (s.drop q) hne (by omega)
        generalize M.readT n1 (s.drop q) D = r at *
        obtain ⟨it, rest, er⟩ := r
        simp only at HRd hbad hnext
        gi_wp2_with (refine ⟨trivial, fun h => (by cases h), (callsIn_wide.2 HRd.out).mono ?_⟩; rintro e w1 ⟨l, b, xs, a, cap, pl, rfl, hx, hfr, hb1, hpl⟩; obtain ⟨fn, tmps, assign, body, hy, hR⟩ := hY pre ((M.It.mk l b xs, .slice a xs.length cap), er) wr (w1.alloc (.cells #[.bool l, .string ⟨b.toArray⟩, .slice a xs.length cap] 24)) hJr ⟨hb1.os, hb1.tape, hb1.output, by have := hb1.size; simp; omega, fun k' hk' _ => (Below.heap_alloc _ _ _ (by have := hb1.size; omega)).trans (hb1.block k' hk')⟩ ⟨hp, hfr.from_ ((Below.refl _ _).alloc (Nat.le_refl _) _)⟩; dsimp only [encE, iv] at hy)
        refine ⟨fun h => (by cases h), hR.mono ?_⟩
        subst hx
        rintro e W' (⟨rfl, hon, hj, hkeep⟩ | ⟨rfl, hoff, hjx⟩)
        · replace hon : er = 0 := hon
          subst hon
          obtain ⟨hp1, hp2, hp3⟩ := hpl rfl
          rw [hnext rfl, ← hp1] at hrel
          have hbk : ∀ c, c < wr.heap.size → T c → W'.heap[c]? = wr.heap[c]? := fun c hc hTc => (hkeep c hTc).trans ((Below.heap_alloc _ _ _ (by have := hb1.size; omega)).trans (hb1.block c hc))
          have hE2 := hEr.keep (hbk bA hEr.cA.lt hA) (hbk bS hEr.cS.lt hS) (hbk bF hEr.cF.lt hF) (hbk rb hEr.cR.lt hR')
          gi_wp2
          go_roundw
          case rel => exact ⟨pre ++ [((M.It.mk l b xs, .slice a xs.length cap), 0)], pl, n1, rfl, by simp, hp3, by simp; omega, by omega, by omega, by rw [hrel]; simp, hE2, hj⟩
          case measure => simp [intOf]; omega
        · replace hoff : er ≠ 0 := hoff
          have hoff' : ¬ ((er : Nat) : Int) = 0 := by omega
          rw [hbad hoff] at hrel
          gi_wp2
          refine bodyPost_ret (results_none rfl _ _ _) rfl ?_
          exact ⟨⟨_, rfl⟩, .inr ⟨_, ⟨hoff, hrel⟩, hjx⟩⟩
    · obtain rfl : q = s.length := by omega
      obtain ⟨n1, rfl⟩ : ∃ n1, n' = n1 + 1 := ⟨n' - 1, by omega⟩
      rw [List.drop_length, comb_end] at hrel
      gi_wp2
      go_end0
      exact ⟨⟨_, rfl⟩, .inl ⟨pre, hrel, hJr⟩⟩
end Go.Proofs.YtcjhgnepehnjjaaDoor
