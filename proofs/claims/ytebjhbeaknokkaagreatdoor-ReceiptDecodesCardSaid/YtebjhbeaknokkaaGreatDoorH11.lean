/- unrlp: isList, longOf, lengthOf, ownOf, Head, Next. A range over a function whose body may return: what is handed over each time lies in the world of its own; the function makes memory between two rounds. My own law out of the kit's one for the statement. An item more in a row of a call's own, kept in a box: the statement 'l = append(l, it)', in whatever order. The statement 'l = append(l, it)' of unrlp's list, in whatever order. unrlp.items: the items that stand one behind the other, as a reader reads them. unrlp: a list's items, read one behind the other. unrlp: an item, read. unrlp.Decode; what the calls of package unrlp do. -/
import Derived.Test.YtebjhbeaknokkaaGreatDoorH10
import Derived.Test.YtebjhbeaknokkaaGreatDoorH01
import Derived.Laws.Bits64b
import Derived.Test.YtebjhbeaknokkaaGreatDoorH08
import Derived.RangeFuncBound
import Derived.RangeFuncCalls
import Derived.RangeFuncLeaves
import Derived.RangeFuncNested
import Derived.Lib.Hide
import Derived.OrdersHeld
import Derived.Deep.RegionHeld
import Derived.Test.YtebjhbeaknokkaaGreatDoorH07
import Derived.DefersIn
import Derived.OwnWalkIn
import Derived.TacticsInMore
import Derived.LoopNIn
import Derived.LoopIn
import Derived.Shelf.Abstract
open List renaming getElem_toArray → zqA, getElem_cons_succ → zqB, getElem_cons_zero → zqC, setIfInBounds_toArray → zqD, set_cons_zero → zqE, set_cons_succ → zqF
namespace Go.Proofs.YtebjhbeaknokkaaGreatDoor
open Go Go.RowKit

theorem drop_head (s : List UInt8) (k : Nat) (c : UInt8) (h : s[k]? = some c) : (s.drop k).headD 0 = c := by
  rw [List.headD_eq_head?_getD, List.head?_drop, h]
  rfl

set_option maxRecDepth 100000 in
set_option maxHeartbeats 4000000 in
theorem isList_any (s : List UInt8) (k : Nat) (w : World) (_hs : s.length ≤ 200000) (hk : k ≤ s.length) : Calls Tryz.prog 176 #[.string ⟨s.toArray⟩, .int .i64 k] w fun e w' => e = .returned (.bool (decide (192 ≤ ((s.drop k).headD 0).toNat))) ∧ w' = w := by
  by_cases hlt : k < s.length
  · obtain ⟨c, hc⟩ : ∃ c, s[k]? = some c := ⟨s[k], List.getElem?_eq_getElem hlt⟩
    have hd := drop_head s k c hc
    rw [hd]
    have hi := idx_at hc
    have h1 : ((k : Nat) : Int) < (s.length : Nat) := by omega
    have h0 : (0 : Int) ≤ (k : Nat) := by omega
    have hdec : decide (192 ≤ c.toNat) = decide ((192 : Int) ≤ (c.toNat : Nat)) := by simp only [decide_eq_decide]; omega
    rw [hdec]
    go_enter Tryz.func176, Tryz.ntmps176
    go_wp2_with fail
    go_ret
    exact ⟨rfl, rfl⟩
  · have hd : ((s.drop k).headD 0) = 0 := by
      rw [List.drop_eq_nil_of_le (by omega)]; rfl
    rw [hd]
    have h1 : ¬ ((k : Nat) : Int) < (s.length : Nat) := by omega
    go_enter Tryz.func176, Tryz.ntmps176
    go_wp2_with fail
    go_ret
    exact ⟨rfl, rfl⟩

def lg (r : List UInt8) (m : Nat) : Nat × Nat × Nat :=
  if 3 < m then (0, 0, 5) else if r.length < m then (0, 0, 3) else if r.headD 0 = 0 ∨ M.dg (r.take m) < 56 then (0, 0, 8) else (1 + m, M.dg (r.take m), 0)

theorem or_byte {n : Nat} (c : UInt8) (h : n < 65536) : bits BinOp.or IntKind.i64 ((n : Int) * 256) (wrap64 ((c.toNat : Nat) : Int)) = ((n * 256 + c.toNat : Nat) : Int) := by
  have hc := c.toNat_lt
  have e1 : (n : Int) * 256 = ((n * 256 : Nat) : Int) := by omega
  rw [e1, wrap_byte]
  have h1 : (BitVec.ofInt 64 ((n * 256 : Nat) : Int)).toNat = n * 256 := by
    rw [BitVec.ofInt_natCast, BitVec.toNat_ofNat]; exact Nat.mod_eq_of_lt (by omega)
  have h2 : (BitVec.ofInt 64 ((c.toNat : Nat) : Int)).toNat = c.toNat := by
    rw [BitVec.ofInt_natCast, BitVec.toNat_ofNat]; exact Nat.mod_eq_of_lt (by omega)
  have h3 : n * 256 ||| c.toNat = n * 256 + c.toNat := by
    have := Nat.shiftLeft_add_eq_or_of_lt (i := 8) (b := c.toNat) (by omega) n
    rw [Nat.shiftLeft_eq] at this
    rw [← this]
  show IntKind.i64.wrap ((BitVec.ofInt 64 ((n * 256 : Nat) : Int) ||| BitVec.ofInt 64 ((c.toNat : Nat) : Int)).toNat : Int) = _
  rw [BitVec.toNat_or, h1, h2, h3]
  rw [IntKind.wrap_i64]
  omega

set_option maxRecDepth 100000 in
set_option maxHeartbeats 4000000 in
theorem longOf_any (c0 : UInt8) (r : List UInt8) (m : Nat) (w : World) (hs : r.length ≤ 200000) (hm : m ≤ 8) (hm1 : 1 ≤ m) : Calls Tryz.prog 279 #[.string ⟨(c0 :: r).toArray⟩, .int .i64 m] w fun e w' =>
    e = .returned (.tuple #[.int .i64 ((lg r m).1 : Nat), .int .i64 ((lg r m).2.1 : Nat), .int .i64 ((lg r m).2.2 : Nat)]) ∧ Below w.heap.size w w' := by
  unfold lg
  by_cases h3 : 3 < m
  · rw [if_pos h3]
    have h3' : (3 : Int) < (m : Nat) := by omega
    go_enter Tryz.func279, Tryz.ntmps279
    go_wp2_with fail
    exact bodyPost_ret (results_tmp3 rfl _ _ _) rfl ⟨rfl, Below.refl _ _⟩
  · rw [if_neg h3]
    have h3' : ¬ (3 : Int) < (m : Nat) := by omega
    have hadd : wrap64 (1 + ((m : Nat) : Int)) = 1 + (m : Int) := by unfold wrap64; omega
    by_cases hl : r.length < m
    · rw [if_pos hl]
      have hl' : (r.length : Int) + 1 < 1 + (m : Int) := by omega
      go_enter Tryz.func279, Tryz.ntmps279
      go_wp2_with fail
      exact bodyPost_ret (results_tmp3 rfl _ _ _) rfl ⟨rfl, Below.refl _ _⟩
    · rw [if_neg hl]
      have hl' : ¬ (r.length : Int) + 1 < 1 + (m : Int) := by omega
      have hsl : ∀ W : World, (Instr.slice 9 (.string ⟨(c0 :: r).toArray⟩) (some (.int .i64 1)) (some (.int .i64 (1 + (m : Int)))) none).run Tryz.prog W = .ok (.string ⟨(r.take m).toArray⟩) W := by
        intro W
        have := slice_str (c0 :: r) 1 (1 + m) (by omega) (by simp only [List.length_cons]; omega) W
        rw [show ((1 + m : Nat) : Int) = 1 + (m : Int) by omega, cutS] at this
        simpa [Nat.add_comm 1 m] using this
      obtain ⟨c1, r', rfl⟩ : ∃ c1 r', r = c1 :: r' := by
        cases r with
        | nil => simp at hl; omega
        | cons a b => exact ⟨a, b, rfl⟩
      have hdl : ((c1 :: r').take m).length = m := by rw [List.length_take]; omega
      have hix : ∀ hk : 1 < (⟨(c0 :: c1 :: r').toArray⟩ : ByteArray).size, (⟨(c0 :: c1 :: r').toArray⟩ : ByteArray)[1]'hk = c1 := idx_at (by rfl)
      simp only [List.headD_cons]
      generalize (c1 :: r').take m = ds at *
      generalize hp : (if c1 = 0 ∨ M.dg ds < 56 then ((0, 0, 8) : Nat × Nat × Nat) else (1 + m, M.dg ds, 0)) = p
      replace hp := Lib.hid hp
      go_enter Tryz.func279, Tryz.ntmps279
      go_wp2_with (refine wpList_seal _ rfl _ _ 5 _ rfl ⟨ds.toArray⟩ rfl Tryz.underlying9 Tryz.underlying75 Tryz.underlying5 (by simp [ByteArray.size]; unfold maxLen; omega) ?_; intro cap cur w2 hSeal)
      have hsr := hSeal.sr
      have hcells : ∀ j u, (bc ds)[j]? = some u → w2.cell? ⟨w.heap.size, j, none⟩ = some u := by
        intro j u hj
        rcases hsr with ⟨h0, h1⟩ | ⟨ad, c, hv, hc⟩
        · cases h0
        · obtain rfl : ad = ⟨w.heap.size, 0, none⟩ := by cases hv; rfl
          have := hc j u hj
          have hadd : (⟨w.heap.size, 0, none⟩ : Addr).add j = ⟨w.heap.size, j, none⟩ := by unfold Addr.add; split <;> simp_all
          rwa [hadd] at this
      go_loopw [8, 24] (fun n i wr => ∃ k : Nat, k ≤ m ∧ i = .int .i64 k ∧ n = .int .i64 ((M.dg (ds.take k) : Nat) : Int) ∧ wr = w2) (fun _ i _ => m - (intOf i).toNat)
      case atStart => exact ⟨0, by omega, rfl, rfl, rfl⟩
      case round =>
        obtain ⟨k, hk, rfl, rfl, rfl⟩ := hrel
        by_cases hlt : k < m
        · obtain ⟨c, hc⟩ : ∃ c, ds[k]? = some c := ⟨ds[k], List.getElem?_eq_getElem (by omega)⟩
          have hcell := hcells k (.int .u8 (c.toNat : Int)) (by simp [bc, hc])
          have hdg : M.dg (ds.take k) < 65536 := Nat.lt_of_lt_of_le (M.dg_lt _) (by
            rw [List.length_take]
            calc 256 ^ (min k ds.length) ≤ 256 ^ 2 := Nat.pow_le_pow_right (by omega) (by omega)
              _ = 65536 := by decide)
          have hor := or_byte c hdg
          have hstep : M.dg (ds.take k) * 256 + c.toNat = M.dg (ds.take (k + 1)) := by
            rw [List.take_add_one, hc]
            exact (M.dg_snoc _ _).symm
          rw [hstep] at hor
          generalize M.dg (ds.take k) = n at *
          obtain ⟨n', hn'⟩ : ∃ n', n' = M.dg (ds.take (k + 1)) := ⟨_, rfl⟩
          rw [← hn'] at hor
          clear hstep
          have hk' : ((k : Nat) : Int) < (m : Nat) := by omega
          have hkm : k < m := hlt
          go_wp2_with fail
          go_roundw
          case rel => exact ⟨k + 1, by omega, rfl, rfl, trivial⟩
          case measure => simp [intOf]; omega
        · obtain rfl : k = m := by omega
          rw [List.take_of_length_le (by omega)]
          have hlow := hSeal.low
          by_cases hz : c1 = 0
          · have hp := hp.out
            rw [if_pos (Or.inl hz)] at hp
            subst hp
            subst hz
            go_wp2_with fail
            exact bodyPost_ret (results_tmp3 rfl _ _ _) rfl ⟨rfl, hlow⟩
          · have hz' : ¬ c1.toNat = 0 := fun h => hz (by rw [← UInt8.ofNat_toNat (x := c1), h]; rfl)
            have hz2 : (((c1.toNat : Nat) : Int) == 0) = false := by simp; omega
            by_cases h56 : M.dg ds < 56
            · have hp := hp.out
              rw [if_pos (Or.inr h56)] at hp
              subst hp
              have h56' : ((M.dg ds : Nat) : Int) < 56 := by omega
              go_wp2_with fail
              exact bodyPost_ret (results_tmp3 rfl _ _ _) rfl ⟨rfl, hlow⟩
            · have hp := hp.out
              rw [if_neg (fun h => h.elim hz h56)] at hp
              subst hp
              have h56' : ¬ ((M.dg ds : Nat) : Int) < 56 := by omega
              go_wp2_with fail
              exact bodyPost_ret (results_tmp3 rfl _ _ _) rfl ⟨rfl, hlow⟩

def ln : List UInt8 → Nat × Nat × Nat
  | [] => (0, 0, 3)
  | c :: r =>
    if c.toNat < 128 then (0, 1, 0) else if c.toNat < 184 then (1, c.toNat - 128, 0) else if c.toNat < 192 then lg r (c.toNat - 183)
    else if c.toNat < 248 then (1, c.toNat - 192, 0) else lg r (c.toNat - 247)

set_option maxRecDepth 100000 in
set_option maxHeartbeats 4000000 in
theorem lengthOf_any (t : List UInt8) (w : World) (hs : t.length ≤ 200000) : Calls Tryz.prog 268 #[.string ⟨t.toArray⟩] w fun e w' =>
    e = .returned (.tuple #[.int .i64 ((ln t).1 : Nat), .int .i64 ((ln t).2.1 : Nat), .int .i64 ((ln t).2.2 : Nat)]) ∧ Below w.heap.size w w' := by
  cases t with
  | nil =>
    go_enter Tryz.func268, Tryz.ntmps268
    go_wp2_with fail
    exact bodyPost_ret (results_tmp3 rfl _ _ _) rfl ⟨rfl, Below.refl _ _⟩
  | cons c r =>
    have hne : ((⟨(c :: r).toArray⟩ : ByteArray) == ⟨#[]⟩) = false := by
      rfl
    have hb := wrap_byte c
    have hc := c.toNat_lt
    have hix : ∀ hk : 0 < (⟨(c :: r).toArray⟩ : ByteArray).size, (⟨(c :: r).toArray⟩ : ByteArray)[0]'hk = c := idx_at (by rfl)
    have w0 : wrap64 (((c.toNat : Nat) : Int) - 128) = ((c.toNat : Nat) : Int) - 128 := by unfold wrap64; omega
    have w1 : wrap64 (((c.toNat : Nat) : Int) - 192) = ((c.toNat : Nat) : Int) - 192 := by unfold wrap64; omega
    have w2 : wrap64 (((c.toNat : Nat) : Int) - 128 - 56) = ((c.toNat : Nat) : Int) - 128 - 56 := by unfold wrap64; omega
    have w3 : wrap64 (((c.toNat : Nat) : Int) - 192 - 56) = ((c.toNat : Nat) : Int) - 192 - 56 := by unfold wrap64; omega
    by_cases h1 : c.toNat < 128
    · have hp : ln (c :: r) = (0, 1, 0) := by rw [ln, if_pos h1]
      rw [hp]
      have h1' : ((c.toNat : Nat) : Int) < 128 := by omega
      go_enter Tryz.func268, Tryz.ntmps268
      go_wp2_with fail
      exact bodyPost_ret (results_tmp3 rfl _ _ _) rfl ⟨rfl, Below.refl _ _⟩
    · have h1' : ¬ ((c.toNat : Nat) : Int) < 128 := by omega
      by_cases h2 : c.toNat < 184
      · have hp : ln (c :: r) = (1, c.toNat - 128, 0) := by rw [ln, if_neg h1, if_pos h2]
        rw [hp]
        have h2' : ((c.toNat : Nat) : Int) < 184 := by omega
        have hv : ((c.toNat - 128 : Nat) : Int) = ((c.toNat : Nat) : Int) - 128 := by omega
        rw [hv]
        go_enter Tryz.func268, Tryz.ntmps268
        go_wp2_with fail
        exact bodyPost_ret (results_tmp3 rfl _ _ _) rfl ⟨rfl, Below.refl _ _⟩
      · have h2' : ¬ ((c.toNat : Nat) : Int) < 184 := by omega
        by_cases h3 : c.toNat < 192
        · have hp : ln (c :: r) = lg r (c.toNat - 183) := by rw [ln, if_neg h1, if_neg h2, if_pos h3]
          rw [hp]
          have h3' : ((c.toNat : Nat) : Int) < 192 := by omega
          have H := Lib.hid (fun W => longOf_any c r (c.toNat - 183) W (by simp at hs; omega) (by omega) (by omega))
          have hv : ((c.toNat - 183 : Nat) : Int) = ((c.toNat : Nat) : Int) - 128 - 56 + 1 := by omega
          have w4 : wrap64 (((c.toNat : Nat) : Int) - 128 - 56 + 1) = ((c.toNat : Nat) : Int) - 128 - 56 + 1 := by unfold wrap64; omega
          rw [hv] at H
          generalize lg r (c.toNat - 183) = p at *
          obtain ⟨p1, p2, p3⟩ := p
          clear hv
          go_enter Tryz.func268, Tryz.ntmps268
          go_wp2_with (refine (H.out _).mono ?_; rintro e W' ⟨rfl, hb⟩)
          exact bodyPost_ret (results_tmp3 rfl _ _ _) rfl ⟨rfl, hb⟩
        · have h3' : ¬ ((c.toNat : Nat) : Int) < 192 := by omega
          by_cases h4 : c.toNat < 248
          · have hp : ln (c :: r) = (1, c.toNat - 192, 0) := by rw [ln, if_neg h1, if_neg h2, if_neg h3, if_pos h4]
            rw [hp]
            have h4' : ((c.toNat : Nat) : Int) < 248 := by omega
            have hv : ((c.toNat - 192 : Nat) : Int) = ((c.toNat : Nat) : Int) - 192 := by omega
            rw [hv]
            go_enter Tryz.func268, Tryz.ntmps268
            go_wp2_with fail
            exact bodyPost_ret (results_tmp3 rfl _ _ _) rfl ⟨rfl, Below.refl _ _⟩
          · have hp : ln (c :: r) = lg r (c.toNat - 247) := by rw [ln, if_neg h1, if_neg h2, if_neg h3, if_neg h4]
            rw [hp]
            have h4' : ¬ ((c.toNat : Nat) : Int) < 248 := by omega
            have H := Lib.hid (fun W => longOf_any c r (c.toNat - 247) W (by simp at hs; omega) (by omega) (by omega))
            have hv : ((c.toNat - 247 : Nat) : Int) = ((c.toNat : Nat) : Int) - 192 - 56 + 1 := by omega
            have w4 : wrap64 (((c.toNat : Nat) : Int) - 192 - 56 + 1) = ((c.toNat : Nat) : Int) - 192 - 56 + 1 := by unfold wrap64; omega
            rw [hv] at H
            generalize lg r (c.toNat - 247) = p at *
            obtain ⟨p1, p2, p3⟩ := p
            clear hv
            go_enter Tryz.func268, Tryz.ntmps268
            go_wp2_with (refine (H.out _).mono ?_; rintro e W' ⟨rfl, hb⟩)
            exact bodyPost_ret (results_tmp3 rfl _ _ _) rfl ⟨rfl, hb⟩

theorem lg_ok {r : List UInt8} {m : Nat} (h : (lg r m).2.2 = 0) : m ≤ 3 ∧ m ≤ r.length ∧ lg r m = (1 + m, M.dg (r.take m), 0) ∧ ∀ l, M.hdLong r m l = if r.length < m + M.dg (r.take m) then M.hdErr 3 else ⟨1 + m, M.dg (r.take m), l, 0⟩ := by
  unfold lg at h ⊢
  by_cases h1 : 3 < m
  · rw [if_pos h1] at h; cases h
  · rw [if_neg h1] at h ⊢
    by_cases h2 : r.length < m
    · rw [if_pos h2] at h; cases h
    · rw [if_neg h2] at h ⊢
      by_cases h3 : r.headD 0 = 0 ∨ M.dg (r.take m) < 56
      · rw [if_pos h3] at h; cases h
      · rw [if_neg h3]
        refine ⟨by omega, by omega, rfl, fun l => ?_⟩
        unfold M.hdLong
        rw [if_neg h1, if_neg h2, if_neg h3]
theorem lg_no {r : List UInt8} {m : Nat} (h : (lg r m).2.2 ≠ 0) : lg r m = (0, 0, (lg r m).2.2) ∧ ∀ l, M.hdLong r m l = M.hdErr (lg r m).2.2 := by
  unfold lg at h ⊢
  unfold M.hdLong
  by_cases h1 : 3 < m
  · simp [h1]
  · by_cases h2 : r.length < m
    · simp [h1, h2]
    · by_cases h3 : r.headD 0 = 0 ∨ M.dg (r.take m) < 56
      · simp only [if_neg h1, if_neg h2, if_pos h3, implies_true, and_self]
      · rw [if_neg h1, if_neg h2, if_neg h3] at h; exact absurd rfl h

structure LnOk (t : List UInt8) : Prop where
  le : (ln t).1 ≤ t.length
  four : (ln t).1 ≤ 4
  few : (ln t).2.1 < 16777216
  short : t.length < (ln t).1 + (ln t).2.1 → M.hdT t = M.hdErr 3
  spare : ¬ t.length < (ln t).1 + (ln t).2.1 → (ln t).1 = 1 ∧ t.headD 0 = 129 ∧ ((t.drop 1).headD 0).toNat < 128 → M.hdT t = M.hdErr 8
  ok : ¬ t.length < (ln t).1 + (ln t).2.1 → ¬ ((ln t).1 = 1 ∧ t.headD 0 = 129 ∧ ((t.drop 1).headD 0).toNat < 128) → M.hdT t = ⟨(ln t).1, (ln t).2.1, decide (192 ≤ (t.headD 0).toNat), 0⟩
theorem ln_no {t : List UInt8} (h : (ln t).2.2 ≠ 0) : ln t = (0, 0, (ln t).2.2) ∧ M.hdT t = M.hdErr (ln t).2.2 := by
  cases t with
  | nil => exact ⟨rfl, rfl⟩
  | cons c r =>
    have hc := c.toNat_lt
    by_cases h1 : c.toNat < 128
    · have hp : ln (c :: r) = (0, 1, 0) := by rw [ln, if_pos h1]
      rw [hp] at h; exact absurd rfl h
    · by_cases h2 : c.toNat < 184
      · have hp : ln (c :: r) = (1, c.toNat - 128, 0) := by rw [ln, if_neg h1, if_pos h2]
        rw [hp] at h; exact absurd rfl h
      · by_cases h3 : c.toNat < 192
        · have hp : ln (c :: r) = lg r (c.toNat - 183) := by rw [ln, if_neg h1, if_neg h2, if_pos h3]
          rw [hp] at h ⊢
          obtain ⟨e1, e2⟩ := lg_no h
          refine ⟨e1, ?_⟩
          rw [M.hdT, if_neg h1, if_neg h2, if_pos h3, e2]
        · by_cases h4 : c.toNat < 248
          · have hp : ln (c :: r) = (1, c.toNat - 192, 0) := by rw [ln, if_neg h1, if_neg h2, if_neg h3, if_pos h4]
            rw [hp] at h; exact absurd rfl h
          · have hp : ln (c :: r) = lg r (c.toNat - 247) := by rw [ln, if_neg h1, if_neg h2, if_neg h3, if_neg h4]
            rw [hp] at h ⊢
            obtain ⟨e1, e2⟩ := lg_no h
            refine ⟨e1, ?_⟩
            rw [M.hdT, if_neg h1, if_neg h2, if_neg h3, if_neg h4, e2]
theorem dg_few {r : List UInt8} {m : Nat} (h : m ≤ 3) : M.dg (r.take m) < 16777216 := Nat.lt_of_lt_of_le (M.dg_lt _) (by
  rw [List.length_take]
  calc 256 ^ (min m r.length) ≤ 256 ^ 3 := Nat.pow_le_pow_right (by omega) (by omega)
    _ = 16777216 := by decide)
set_option maxRecDepth 100000 in
theorem ln_yes {t : List UInt8} (h : (ln t).2.2 = 0) : LnOk t := by
  cases t with
  | nil => cases h
  | cons c r =>
    have hc := c.toNat_lt
    have hn : c ≠ 129 → ¬ ((c :: r).headD 0 = 129) := fun h h' => h h'
    have h129 : c = 129 ↔ c.toNat = 129 := ⟨fun h => by rw [h]; rfl, fun h => by rw [← UInt8.ofNat_toNat (x := c), h]; rfl⟩
    by_cases h1 : c.toNat < 128
    · have hp : ln (c :: r) = (0, 1, 0) := by rw [ln, if_pos h1]
      have hq : M.hdT (c :: r) = ⟨0, 1, false, 0⟩ := by rw [M.hdT, if_pos h1]
      constructor <;> simp only [hp, hq, List.length_cons, List.headD_cons]
      · omega
      · omega
      · omega
      · intro h; omega
      · intro _ h; omega
      · intro _ _; exact congrArg (fun b => (⟨_, _, b, 0⟩ : M.Hd)) (decide_eq_false (by show ¬ 192 ≤ c.toNat; omega)).symm
    · by_cases h2 : c.toNat < 184
      · have hp : ln (c :: r) = (1, c.toNat - 128, 0) := by rw [ln, if_neg h1, if_pos h2]
        have hq : M.hdT (c :: r) = if r.length < c.toNat - 128 then M.hdErr 3 else if c.toNat = 129 ∧ (r.headD 0).toNat < 128 then M.hdErr 8 else ⟨1, c.toNat - 128, false, 0⟩ := by rw [M.hdT, if_neg h1, if_pos h2]
        constructor <;> simp only [hp, hq, List.length_cons, List.headD_cons, List.drop_succ_cons, List.drop_zero]
        · omega
        · omega
        · omega
        · intro h; rw [if_pos (by omega)]
        · rintro h ⟨_, h5, h6⟩; rw [if_neg (by omega), if_pos ⟨h129.1 h5, h6⟩]
        · intro h h5
          rw [if_neg (by omega), if_neg (fun h6 => h5 ⟨trivial, h129.2 h6.1, h6.2⟩)]
          exact congrArg (fun b => (⟨_, _, b, 0⟩ : M.Hd)) (decide_eq_false (by show ¬ 192 ≤ c.toNat; omega)).symm
      · have hne : c ≠ 129 := fun h => by rw [h] at h2; exact h2 (by decide)
        by_cases h3 : c.toNat < 192
        · have hp : ln (c :: r) = lg r (c.toNat - 183) := by rw [ln, if_neg h1, if_neg h2, if_pos h3]
          have hq : M.hdT (c :: r) = M.hdLong r (c.toNat - 183) false := by rw [M.hdT, if_neg h1, if_neg h2, if_pos h3]
          rw [hp] at h
          obtain ⟨e1, e2, e3, e4⟩ := lg_ok h
          have hd := dg_few (r := r) e1
          constructor <;> simp only [hp, hq, e3, e4, List.length_cons, List.headD_cons]
          · omega
          · omega
          · omega
          · intro h; rw [if_pos (by omega)]
          · rintro h ⟨_, h5, h6⟩; exact absurd h5 hne
          · intro h h5
            rw [if_neg (by omega)]
            exact congrArg (fun b => (⟨_, _, b, 0⟩ : M.Hd)) (decide_eq_false (by show ¬ 192 ≤ c.toNat; omega)).symm
        · by_cases h4 : c.toNat < 248
          · have hp : ln (c :: r) = (1, c.toNat - 192, 0) := by rw [ln, if_neg h1, if_neg h2, if_neg h3, if_pos h4]
            have hq : M.hdT (c :: r) = if r.length < c.toNat - 192 then M.hdErr 3 else ⟨1, c.toNat - 192, true, 0⟩ := by rw [M.hdT, if_neg h1, if_neg h2, if_neg h3, if_pos h4]
            constructor <;> simp only [hp, hq, List.length_cons, List.headD_cons]
            · omega
            · omega
            · omega
            · intro h; rw [if_pos (by omega)]
            · rintro h ⟨_, h5, h6⟩; exact absurd h5 hne
            · intro h h5
              rw [if_neg (by omega)]
              exact congrArg (fun b => (⟨_, _, b, 0⟩ : M.Hd)) (decide_eq_true (by show 192 ≤ c.toNat; omega)).symm
          · have hp : ln (c :: r) = lg r (c.toNat - 247) := by rw [ln, if_neg h1, if_neg h2, if_neg h3, if_neg h4]
            have hq : M.hdT (c :: r) = M.hdLong r (c.toNat - 247) true := by rw [M.hdT, if_neg h1, if_neg h2, if_neg h3, if_neg h4]
            rw [hp] at h
            obtain ⟨e1, e2, e3, e4⟩ := lg_ok h
            have hd := dg_few (r := r) e1
            constructor <;> simp only [hp, hq, e3, e4, List.length_cons, List.headD_cons]
            · omega
            · omega
            · omega
            · intro h; rw [if_pos (by omega)]
            · rintro h ⟨_, h5, h6⟩; exact absurd h5 hne
            · intro h h5
              rw [if_neg (by omega)]
              exact congrArg (fun b => (⟨_, _, b, 0⟩ : M.Hd)) (decide_eq_true (by show 192 ≤ c.toNat; omega)).symm
theorem ln_129 (r : List UInt8) : ln (129 :: r) = (1, 1, 0) := rfl

set_option maxRecDepth 100000 in
set_option maxHeartbeats 4000000 in
theorem ownOf_any (t : List UInt8) (w : World) (hs : t.length ≤ 200000) : Calls Tryz.prog 246 #[.string ⟨t.toArray⟩] w fun e w' =>
    e = .returned (.tuple #[.int .i64 ((M.hdT t).off : Nat), .int .i64 ((M.hdT t).n : Nat), .int .i64 ((M.hdT t).e : Nat)]) ∧ Below w.heap.size w w' := by
  have H := Lib.hid (fun W => lengthOf_any t W hs)
  by_cases h0 : (ln t).2.2 = 0
  · obtain ⟨hle, h4, hfew, hsh, hsp, hok⟩ := ln_yes h0
    have h129 : ∀ r, t = 129 :: r → (ln t).2.1 = 1 := fun r e => by rw [e, ln_129]
    generalize ln t = p at H h0 hle h4 hfew hsh hsp hok h129
    obtain ⟨p1, p2, p3⟩ := p
    simp only at H h0 hle h4 hfew hsh hsp hok h129
    subst h0
    have hsub : wrap64 ((t.length : Int) - (p1 : Nat)) = (t.length : Int) - (p1 : Nat) := by unfold wrap64; omega
    by_cases hlt : t.length < p1 + p2
    · rw [hsh hlt]
      have hlt' : (t.length : Int) - (p1 : Nat) < (p2 : Nat) := by omega
      clear hsh hsp hok
      go_enter Tryz.func246, Tryz.ntmps246
      go_wp2_with (refine (H.out _).mono ?_; rintro e W' ⟨rfl, hb⟩)
      exact bodyPost_ret (results_tmp3 rfl _ _ _) rfl ⟨rfl, hb⟩
    · have hlt' : ¬ (t.length : Int) - (p1 : Nat) < (p2 : Nat) := by omega
      replace hsp := hsp hlt
      replace hok := hok hlt
      clear hsh
      by_cases h1 : p1 = 1
      · subst h1
        obtain ⟨c, r, rfl⟩ : ∃ c r, t = c :: r := by
          cases t with
          | nil => simp at hle
          | cons a b => exact ⟨a, b, rfl⟩
        have hix : ∀ hk : 0 < (⟨(c :: r).toArray⟩ : ByteArray).size, (⟨(c :: r).toArray⟩ : ByteArray)[0]'hk = c := idx_at (by rfl)
        by_cases h5 : c = 129
        · subst h5
          obtain rfl := h129 r rfl
          obtain ⟨d, r', rfl⟩ : ∃ d r', r = d :: r' := by
            cases r with
            | nil => simp at hlt
            | cons a b => exact ⟨a, b, rfl⟩
          have hix2 : ∀ hk : 1 < (⟨(129 :: d :: r').toArray⟩ : ByteArray).size, (⟨(129 :: d :: r').toArray⟩ : ByteArray)[1]'hk = d := idx_at (by rfl)
          have hsub2 : wrap64 ((r'.length : Int) + 1) = (r'.length : Int) + 1 := by simp only [List.length_cons] at hs; unfold wrap64; omega
          have hlt2 : ¬ (r'.length : Int) + 1 < 1 := by omega
          by_cases h7 : d.toNat < 128
          · rw [hsp ⟨rfl, rfl, h7⟩]
            have h7' : ((d.toNat : Nat) : Int) < 128 := by omega
            clear hsp hok hsub hlt' h129 hlt
            go_enter Tryz.func246, Tryz.ntmps246
            go_wp2_with (refine (H.out _).mono ?_; rintro e W' ⟨rfl, hb⟩)
            exact bodyPost_ret (results_tmp3 rfl _ _ _) rfl ⟨rfl, hb⟩
          · rw [hok (fun h => h7 h.2.2)]
            have h7' : ¬ ((d.toNat : Nat) : Int) < 128 := by omega
            clear hsp hok hsub hlt' h129 hlt
            generalize (decide (192 ≤ ((129 :: d :: r').headD 0).toNat)) = dd
            go_enter Tryz.func246, Tryz.ntmps246
            go_wp2_with (refine (H.out _).mono ?_; rintro e W' ⟨rfl, hb⟩)
            exact bodyPost_ret (results_tmp3 rfl _ _ _) rfl ⟨rfl, hb⟩
        · have h5' : ¬ c.toNat = 129 := fun h => h5 (by rw [← UInt8.ofNat_toNat (x := c), h]; rfl)
          have h6 : (((c.toNat : Nat) : Int) == 129) = false := by simp; omega
          rw [hok (fun h => h5 h.2.1)]
          simp only
          have hsub2 : wrap64 (r.length : Int) = (r.length : Int) := by simp only [List.length_cons] at hs; unfold wrap64; omega
          have hlt2 : ¬ (r.length : Int) < (p2 : Nat) := by simp only [List.length_cons] at hlt; omega
          clear hsp hok hsub hlt' h129
          generalize (decide (192 ≤ c.toNat)) = dd
          go_enter Tryz.func246, Tryz.ntmps246
          go_wp2_with (refine (H.out _).mono ?_; rintro e W' ⟨rfl, hb⟩)
          exact bodyPost_ret (results_tmp3 rfl _ _ _) rfl ⟨rfl, hb⟩
      · rw [hok (fun h => h1 h.1)]
        have h1' : ¬ ((p1 : Nat) : Int) = 1 := by omega
        clear hsp hok
        go_enter Tryz.func246, Tryz.ntmps246
        go_wp2_with (refine (H.out _).mono ?_; rintro e W' ⟨rfl, hb⟩)
        exact bodyPost_ret (results_tmp3 rfl _ _ _) rfl ⟨rfl, hb⟩
  · obtain ⟨e1, e2⟩ := ln_no h0
    rw [e2]
    rw [e1] at H
    generalize (ln t).2.2 = q at *
    have h0' : ¬ ((q : Nat) : Int) = 0 := by omega
    simp only at H
    go_enter Tryz.func246, Tryz.ntmps246
    go_wp2_with (refine (H.out _).mono ?_; rintro e W' ⟨rfl, hb⟩)
    exact bodyPost_ret (results_tmp3 rfl _ _ _) rfl ⟨rfl, hb⟩

theorem hdT_list_flag {t : List UInt8} (h : (M.hdT t).e = 0) : (M.hdT t).list = decide (192 ≤ (t.headD 0).toNat) := by
  obtain ⟨_, _, _, h1, h2⟩ := M.hdT_ok h
  cases hl : (M.hdT t).list with
  | true => exact (decide_eq_true (h1 hl).2.1).symm
  | false =>
    refine (decide_eq_false ?_).symm
    have := ln_no (t := t)
    by_cases h0 : (ln t).2.2 = 0
    · obtain ⟨_, _, _, hsh, hsp, hok⟩ := ln_yes h0
      by_cases hlt : t.length < (ln t).1 + (ln t).2.1
      · rw [hsh hlt] at h; cases h
      · by_cases hx : (ln t).1 = 1 ∧ t.headD 0 = 129 ∧ ((t.drop 1).headD 0).toNat < 128
        · rw [hsp hlt hx] at h; cases h
        · rw [hok hlt hx] at hl
          exact of_decide_eq_false hl
    · rw [(this h0).2] at h
      exact absurd h h0

theorem results_four {fn : Func} {a b c d : Tmp} (h : fn.results = #[.tmp a, .tmp b, .tmp c, .tmp d]) (tmps : Array Value) (P : Program) (w : World) :
    (results fn tmps).run P w = .ok (.tuple #[tmps.getD a undef, tmps.getD b undef, tmps.getD c undef, tmps.getD d undef]) w := by
  simp [results, h]

set_option maxRecDepth 100000 in
set_option maxHeartbeats 4000000 in
theorem head_ok : HeadOk := by
  intro s k w hs
  by_cases hk0 : k < 0
  · have e : headZ s k = M.hdErr 1 := by unfold headZ; rw [if_pos hk0]
    rw [e]
    go_enter Tryz.func177, Tryz.ntmps177
    go_wp2_with fail
    exact bodyPost_ret (results_four rfl _ _ _) rfl ⟨rfl, Below.refl _ _⟩
  · obtain ⟨j, rfl⟩ : ∃ j : Nat, k = j := ⟨k.toNat, by omega⟩
    have e : headZ s (j : Int) = M.headL s j := by unfold headZ; rw [if_neg hk0]; simp
    rw [e]
    by_cases hj : s.length < j
    · have e2 : M.headL s j = M.hdErr 1 := by unfold M.headL; rw [if_pos hj]
      rw [e2]
      have hj' : (s.length : Int) < (j : Nat) := by omega
      go_enter Tryz.func177, Tryz.ntmps177
      go_wp2_with fail
      exact bodyPost_ret (results_four rfl _ _ _) rfl ⟨rfl, Below.refl _ _⟩
    · have hj' : ¬ (s.length : Int) < (j : Nat) := by omega
      have hsl : ∀ W : World, (Instr.slice 9 (.string ⟨s.toArray⟩) (some (.int .i64 (j : Nat))) none none).run Tryz.prog W = .ok (.string ⟨(s.drop j).toArray⟩) W := by
        intro W
        have h2 : ((j : Nat) : Int) ≤ (s.length : Nat) := by omega
        have e : (⟨s.toArray⟩ : ByteArray).extract j s.length = ⟨(s.drop j).toArray⟩ := by rw [cutS]; simp
        have hz : (⟨s.toArray⟩ : ByteArray).size = s.length := rfl
        simp [Instr.slice, run_underlying Tryz.underlying9, Instr.sliceBounds, run_sliceBound, h2, e, hz]
      have H := Lib.hid (fun W => ownOf_any (s.drop j) W (by rw [List.length_drop]; omega))
      have HL := Lib.hid (fun W => isList_any s j W hs (by omega))
      have hfl := hdT_list_flag (t := s.drop j)
      have hok := M.hdT_ok (t := s.drop j)
      have e2 : M.headL s j = if (M.hdT (s.drop j)).e = 0 then ⟨j + (M.hdT (s.drop j)).off, (M.hdT (s.drop j)).n, (M.hdT (s.drop j)).list, 0⟩ else M.hdErr (M.hdT (s.drop j)).e := by unfold M.headL; rw [if_neg hj]
      rw [e2]
      have hlen : (s.drop j).length = s.length - j := List.length_drop
      generalize s.drop j = t at *
      by_cases h0 : (M.hdT t).e = 0
      · rw [if_pos h0, hfl h0]
        obtain ⟨h1, h2, h3, _⟩ := hok h0
        rw [h0] at H
        generalize (M.hdT t).off = f at *
        generalize (M.hdT t).n = n at *
        generalize decide (192 ≤ (t.headD 0).toNat) = b at *
        have hadd : wrap64 ((j : Int) + (f : Nat)) = (j : Int) + (f : Nat) := by unfold wrap64; omega
        clear hfl hok e2
        go_enter Tryz.func177, Tryz.ntmps177
        go_wp2_with (first | (go_at_call 246; refine (H.out _).mono ?_; rintro e W' ⟨rfl, hb⟩) | (go_at_call 176; refine (HL.out _).mono ?_; rintro e W'' ⟨rfl, rfl⟩))
        exact bodyPost_ret (results_four rfl _ _ _) rfl ⟨by simp, hb⟩
      · rw [if_neg h0]
        generalize (M.hdT t).e = q at *
        have h0' : ¬ ((q : Nat) : Int) = 0 := by omega
        clear hfl hok e2
        go_enter Tryz.func177, Tryz.ntmps177
        go_wp2_with (refine (H.out _).mono ?_; rintro e W' ⟨rfl, hb⟩)
        exact bodyPost_ret (results_four rfl _ _ _) rfl ⟨rfl, hb⟩

end Go.Proofs.YtebjhbeaknokkaaGreatDoor
namespace Go.Proofs.YtebjhbeaknokkaaGreatDoor
open Go Go.RowKit

def lvPost {α : Type} (On : α → Prop) (B : Nat) (T : Nat → Prop) (I : List α → World → Prop) (Ix : α → World → Prop) (xs : List α) (x : α) (W : World) : Exit → Act → World → Prop
  | .normal, _, W' => On x ∧ KeepsFrom B W W' ∧ (∀ b, T b → W'.heap[b]? = W.heap[b]?) ∧ I xs W'
  | .ret, _, W' => ¬ On x ∧ KeepsFrom B W W' ∧ Ix x W'
  | _, _, _ => False

theorem range_lv {α : Type} {P : Program} {n : Nat} {g : Operand} {ps : Array Tmp} {assign body : Code} {Q : Exit → Act → World → Prop} {a : Act} {w : World} (h1 : 1 ≤ n)
    {gf : Nat} {lb : Array Value} (hg : a.eval g = .func (.func gf) #[] lb) (eg : ∀ args w, (callFunc gf args).run P w = .ok (.enter gf args) w)
    {encs : α → Array Value} (hps : ∀ x, (encs x).size = ps.size) (I : List α → World → Prop) (hI : OwnFrom w.heap.size I) (Ix : α → World → Prop) (hIx : OwnFrom w.heap.size Ix)
    (T : Nat → Prop) (hT : ∀ b, T b → b < w.heap.size) (S : List α → Prop) (Sx On : α → Prop)
    (G : List α → α → World → World → Prop)
    (hseq : ∀ (l : Nat) (J : List α → World → Prop) (Jx : α → World → Prop) (W : World), w.heap.size ≤ W.heap.size → (∀ b, T b → W.heap[b]? = w.heap[b]?) →
      (∀ pre A B, J pre A → A.grownBy B none → J pre B) →
      (∀ pre x A B, J pre A → A.grownBy B none → G pre x A B → YieldAt Fence.wide (n - 1 - 1) P l (encs x) B fun e W' =>
        (e = .returned (.bool true) ∧ On x ∧ J (pre ++ [x]) W' ∧ (∀ b, T b → W'.heap[b]? = B.heap[b]?)) ∨ (e = .returned (.bool false) ∧ ¬ On x ∧ Jx x W')) →
      J [] W → CallsIn Fence.wide (n - 1) P gf (#[.func (.yield l) #[] #[]] ++ lb) W fun e W' => (∃ v, e = .returned v) ∧ ((∃ xs, S xs ∧ J xs W') ∨ ∃ x, Sx x ∧ Jx x W'))
    (h0 : I [] w) (Ax : List α → α → Act → World → Prop) (hAx : ∀ pre x a', OwnFrom w.heap.size fun (_ : Unit) W => Ax pre x a' W)
    (hassign : ∀ (l : Nat) (pre : List α) (x : α) (A B : World) (K : Act → World → Prop), I pre A → A.grownBy B none → G pre x A B → (∀ a' B', KeepsFrom w.heap.size B B' → (∀ b, T b → B'.heap[b]? = B.heap[b]?) → Ax pre x a' B' → K a' B') →
      assign.wpIn (Fence.wide.inRound l) (n - 1 - 1) P (Exit.then K (fun _ _ _ => False)) { tmps := (ps.zip (encs x)).foldl (fun t (p, v) => t.setIfInBounds p v) a.tmps, defers := [] } B)
    (hbody : ∀ (l : Nat) (pre : List α) (x : α) (a' : Act) (B : World), Ax pre x a' B →
      body.wpIn (Fence.wide.inRound l) (n - 1 - 1) P (lvPost On w.heap.size T I Ix (pre ++ [x]) x B) a' B)
    (hdone : ∀ (D : Nat) (xs : List α) (W : World), w.heap.size ≤ D → S xs → I xs W → W.heap[D]? = some (.deferred (some [])) → Q .normal { a with defers := { target := .collected D, args := #[] } :: a.defers } W)
    (hstop : ∀ (D : Nat) (x : α) (W : World), w.heap.size ≤ D → Sx x → Ix x W → W.heap[D]? = some (.deferred (some [])) → Code.ret.wpIn Fence.wide n P Q { a with defers := { target := .collected D, args := #[] } :: a.defers } W) :
    (Code.rangeFunc g ps assign body).wpIn Fence.wide n P Q a w := by
  refine wpIn_rangeFunc ?_
  intro fn hfn
  have hro : Fence.wide.round = none := rfl
  rw [hro]
  obtain ⟨rec, hrec⟩ : ∃ rec : LoopState → Option Code → Loop, rec = fun st pe => { state := st, pending := pe, fn, tmps := a.tmps, params := ps, assign, body, defers := w.heap.size } := ⟨_, rfl⟩
  obtain ⟨W1, hW1⟩ : ∃ W1, (w.alloc (.deferred (some []))).alloc (.loop (rec .ready none)) = W1 := ⟨_, rfl⟩
  have hL1 : W1.heap[w.heap.size + 1]? = some (.loop (rec .ready none)) := by
    rw [← hW1]; have := World.alloc_heap_new (w.alloc (.deferred (some []))) (.loop (rec .ready none)); rwa [World.size_alloc] at this
  have hK1 : W1.heap[w.heap.size]? = some (.deferred (some [])) := by
    rw [← hW1]; exact (Below.heap_alloc _ _ _ (by simp)).trans (World.alloc_heap_new w _)
  have hI1 : I [] W1 := by rw [← hW1]; exact hI.alloc _ (hI.alloc _ h0)
  have hb1 : Below w.heap.size w W1 := by rw [← hW1]; exact ((Below.refl _ w).alloc (Nat.le_refl _) _).alloc (by simp) _
  refine ⟨w.heap.size + 1, [{ target := .collected w.heap.size, args := #[] }], W1, { target := .fn (.func gf) lb, args := #[.func (.yield (w.heap.size + 1)) #[] #[]] }, W1, gf,
    #[.func (.yield (w.heap.size + 1)) #[] #[]] ++ lb, W1, ?_, ?_, fun _ _ => trivial, ?_, fun _ => h1, ?_⟩
  · rw [← hW1, hrec]; exact run_enterLoop_outer _ _ _ _ _
  · simp only [resolve, hg]
    simp [go_sem]
  · simp [invoke, go_sem, eg]
  · refine (hseq (w.heap.size + 1)
      (fun pre W => I pre W ∧ W.heap[w.heap.size + 1]? = some (.loop (rec .ready none)) ∧ W.heap[w.heap.size]? = some (.deferred (some [])))
      (fun x W => Ix x W ∧ W.heap[w.heap.size + 1]? = some (.loop (rec .done (some .ret))) ∧ W.heap[w.heap.size]? = some (.deferred (some [])))
      W1 hb1.size (fun b hb => hb1.block b (hT b hb))
      (fun pre A B hs hg' => ⟨hI pre A B none hs.1 hg' (fun r e => by cases e), (hg'.block _ (Array.getElem?_eq_some_iff.1 hs.2.1).1 (by simp)).trans hs.2.1, (hg'.block _ (Array.getElem?_eq_some_iff.1 hs.2.2).1 (by simp)).trans hs.2.2⟩)
      ?_ ⟨hI1, hL1, hK1⟩).mono ?_
    · rintro pre x A W ⟨hi, hlA, hkA⟩ hgr hgx
      have hl : W.heap[w.heap.size + 1]? = some (.loop (rec .ready none)) := (hgr.block _ (Array.getElem?_eq_some_iff.1 hlA).1 (by simp)).trans hlA
      have hk : W.heap[w.heap.size]? = some (.deferred (some [])) := (hgr.block _ (Array.getElem?_eq_some_iff.1 hkA).1 (by simp)).trans hkA
      have hlt : w.heap.size + 1 < W.heap.size := (Array.getElem?_eq_some_iff.1 hl).1
      have hltA : w.heap.size + 1 < A.heap.size := (Array.getElem?_eq_some_iff.1 hlA).1
      have hy := run_yield (P := P) (args := encs x) hl (by rw [hrec]; exact hps x)
      rw [hrec] at hy
      refine ⟨fn, _, assign, body, hy, roundIn_of_wpIn hfn (hassign _ pre x A W _ hi hgr hgx ?_)⟩
      intro a' W' hk1 hT1 hax
      have hl1 := hk1.same _ _ (by omega) hl rfl
      have hd1 := hk1.same _ _ (Nat.le_refl _) hk rfl
      have hlt1 : w.heap.size + 1 < W'.heap.size := (Array.getElem?_eq_some_iff.1 hl1).1
      refine ⟨_, run_beginRound hl1 (by rw [hrec]), ?_⟩
      have hl2 : (W'.putObj (w.heap.size + 1) (.loop { rec .ready none with state := .busy })).heap[w.heap.size + 1]? = some (.loop { rec .ready none with state := .busy }) := World.putObj_heap_same hlt1
      have hk2 : (W'.putObj (w.heap.size + 1) (.loop { rec .ready none with state := .busy })).heap[w.heap.size]? = some (.deferred (some [])) := (World.putObj_heap_other (by omega)).trans hd1
      refine wpIn_mono (hbody _ pre x a' _ ((hAx pre x a').putObj (s := ()) _ hax (by omega) hl1 rfl)) ?_
      have fin : ∀ (jump : Option Code) (W3 : World), KeepsFrom w.heap.size (W'.putObj (w.heap.size + 1) (.loop { rec .ready none with state := .busy })) W3 →
          (Instr.endRound (w.heap.size + 1) jump).run P W3 = .ok (.bool jump.isNone) (W3.putObj (w.heap.size + 1) (.loop (rec (if jump.isNone then .ready else .done) jump))) ∧
          W3.heap[w.heap.size + 1]? = some (.loop { rec .ready none with state := .busy }) ∧
          (W3.putObj (w.heap.size + 1) (.loop (rec (if jump.isNone then .ready else .done) jump))).heap[w.heap.size + 1]? = some (.loop (rec (if jump.isNone then .ready else .done) jump)) ∧
          (W3.putObj (w.heap.size + 1) (.loop (rec (if jump.isNone then .ready else .done) jump))).heap[w.heap.size]? = some (.deferred (some [])) := fun jump W3 hk3 => by
        have hl3 := hk3.same _ _ (by omega) hl2 rfl
        have := run_endRound (P := P) jump hl3
        rw [hrec] at this ⊢
        exact ⟨this, by rw [hrec] at hl3; exact hl3, World.putObj_heap_same (Array.getElem?_eq_some_iff.1 hl3).1, (World.putObj_heap_other (by omega)).trans (hk3.same _ _ (Nat.le_refl _) hk2 rfl)⟩
      rintro e a3 W3 hp
      cases e with
      | normal =>
        obtain ⟨hon, hk3, hkp3, hi3⟩ := hp
        obtain ⟨hr, hl3, hl4, hk4⟩ := fin none W3 hk3
        refine ⟨_, _, hr, .inl ⟨rfl, hon, ⟨hI.putObj _ hi3 (by omega) hl3 rfl, hl4, hk4⟩, fun b hb => ?_⟩⟩
        have := hT b hb
        rw [World.putObj_heap_other (by omega), hkp3 b hb, World.putObj_heap_other (by omega), hT1 b hb]
      | ret =>
        obtain ⟨hon, hk3, hi3⟩ := hp
        obtain ⟨hr, hl3, hl4, hk4⟩ := fin (some .ret) W3 hk3
        exact ⟨_, _, hr, .inr ⟨rfl, hon, hIx.putObj _ hi3 (by omega) hl3 rfl, hl4, hk4⟩⟩
      | exit id => exact hp.elim
      | goto t => exact hp.elim
      | panic ch => exact hp.elim
      | outgrown => exact hp.elim
    · rintro e W2 ⟨⟨v, rfl⟩, (⟨xs, hS, hi, hl, hk⟩ | ⟨x, hSx, hi, hl, hk⟩)⟩
      · exact ⟨none, _, by have := run_endLoop (P := P) hl (by rw [hrec]; simp); rw [hrec] at this; exact this, hdone _ xs _ (Nat.le_refl _) hS (hI.putObj _ hi (by omega) hl rfl) ((World.putObj_heap_other (by omega)).trans hk)⟩
      · exact ⟨some .ret, _, by have := run_endLoop (P := P) hl (by rw [hrec]; simp); rw [hrec] at this; exact this, hstop _ x _ (Nat.le_refl _) hSx (hIx.putObj _ hi (by omega) hl rfl) ((World.putObj_heap_other (by omega)).trans hk)⟩

theorem LayS.kept {w W : World} {S : Nat → Prop} {xs : List M.It} {v : Value} (h : LayS w S xs v) {row : Option Nat} (hg : w.grownBy W row) (hr : ∀ r, row = some r → ∃ o : Obj, w.heap[r]? = some o ∧ o.isCells = false) : LayS W S xs v := by
  induction h with
  | nil_ hm => exact .nil_ hm
  | row V hb hc hm c0 c1 c2 _ ih =>
    exact .row V hb hc hm (fun i l d ys e => cell_kept (c0 i l d ys e) hg hr) (fun i l d ys e => cell_kept (c1 i l d ys e) hg hr) (fun i l d ys e => cell_kept (c2 i l d ys e) hg hr) ih
theorem LayS.wider {w : World} {S T : Nat → Prop} {xs : List M.It} {v : Value} (h : LayS w S xs v) (hST : ∀ b, S b → T b) : LayS w T xs v := h.keep fun b hb => ⟨hST b hb, rfl⟩
theorem ItRow.kept {B : Nat} {w W : World} {L : List (M.It × Value)} {v : Value} (h : ItRow B w L v) {row : Option Nat} (hg : w.grownBy W row) (hr : ∀ r, row = some r → ∃ o : Obj, w.heap[r]? = some o ∧ o.isCells = false) : ItRow B W L v := by
  refine ⟨⟨h.own.1, ?_⟩, fun p hp => ((h.kid p hp).kept hg hr).wider fun b ⟨h1, h2, h3⟩ => ⟨h1, Nat.lt_of_lt_of_le h2 hg.size, h3⟩⟩
  rcases h.own.2 with h0 | ⟨g, cap, cur, hv, hB, hgc, h1⟩
  · exact .inl h0
  · refine .inr ⟨g, cap, cur, hv, hB, (hg.block g (Array.getElem?_eq_some_iff.1 hgc).1 (fun e => ?_)).trans hgc, h1⟩
    obtain ⟨o, ho, hc⟩ := hr g e.symm
    rw [hgc] at ho
    cases ho
    cases hc
end Go.Proofs.YtebjhbeaknokkaaGreatDoor
namespace Go.Proofs.YtebjhbeaknokkaaGreatDoor
open Go Go.RowKit

theorem ItRow.last {B : Nat} {w : World} {L : List (M.It × Value)} {z : M.It} {uz : Value} {v : Value} (h : ItRow B w (L ++ [(z, uz)]) v) (l : Bool) (d : List UInt8) (ys : List M.It) (u : Value) (hu : u.oneCell' = true)
    (hk : LayS w (fun b => B ≤ b ∧ b < w.heap.size ∧ some b ≠ v.ownBlock) ys u) :
    ∃ g cap w', v = .slice (some ⟨g, 0, none⟩) (L.length + 1) cap ∧ (storeVar 44 ⟨g, L.length * 3, none⟩ (.agg #[.bool l, .string ⟨d.toArray⟩, u])).run Tryz.prog w = .ok () w' ∧ ItRow B w' (L ++ [(.mk l d ys, u)]) v ∧ w.grownBy w' (some g) ∧ B ≤ g := by
  obtain ⟨hlen, hown⟩ := h.own
  rcases hown with ⟨_, h0⟩ | ⟨g, cap, cur, hv, hB, hg, hc, hm, hcs, htake⟩
  · simp at h0
  · rw [List.length_append, List.length_singleton] at hv hc htake
    obtain ⟨i, hi, hz0, hz1, hz2⟩ := info_parts Tryz.ofItem
    have h1 : ∀ x ∈ ([.bool l, .string ⟨d.toArray⟩, u] : List Value), x.oneCell' = true := by
      intro x hx
      simp only [List.mem_cons, List.not_mem_nil, or_false] at hx
      rcases hx with rfl | rfl | rfl
      · rfl
      · rfl
      · exact hu
    have hst := run_storeCells_at Tryz.prog g (L.length * 3) 44 [.bool l, .string ⟨d.toArray⟩, u] 0 cur w hg (by simp; omega) h1
    simp only [Nat.add_zero, List.length_cons, List.length_nil, Nat.zero_add, Nat.reduceAdd] at hst
    have hbk : v.ownBlock = some g := by rw [hv]; rfl
    obtain ⟨cur', hcur'⟩ : ∃ cur', cur' = (cur.toList.take (L.length * 3) ++ [.bool l, .string ⟨d.toArray⟩, u] ++ cur.toList.drop (L.length * 3 + 3)).toArray := ⟨_, rfl⟩
    rw [← hcur'] at hst
    have hgrow : w.grownBy (w.setRow g cur') (some g) := ⟨rfl, rfl, rfl, by simp, fun k _ hk => setRow_other w g k _ (fun e => hk (by simp [e]))⟩
    have hLl : (L.flatMap c3).length = L.length * 3 := by
      rw [List.flatMap_append, List.length_append] at hlen
      have e3 : ([(z, uz)].flatMap c3).length = 3 := by
        obtain ⟨zl, zd, zs⟩ := z
        rfl
      rw [e3, List.length_append, List.length_singleton] at hlen
      omega
    refine ⟨g, cap, w.setRow g cur', hv, ?_, ⟨⟨?_, .inr ⟨g, cap, cur', ?_, hB, setRow_heap w g cur cur' 44 (0, 0) hg, ?_, hm, ?_, ?_⟩⟩, ?_⟩, hgrow, hB⟩
    · simp [storeVar, Value.cells, hst]
    · rw [List.flatMap_append, List.length_append, hLl, List.length_append, List.length_singleton]
      show _ + 3 = _
      omega
    · rw [List.length_append, List.length_singleton]; exact hv
    · rw [List.length_append, List.length_singleton]; exact hc
    · rw [hcur', List.size_toArray]
      simp only [List.length_append, List.length_take, List.length_drop, List.length_cons, List.length_nil, Array.length_toList]
      omega
    · rw [List.length_append, List.length_singleton, hcur', List.toList_toArray, List.flatMap_append]
      have ht1 : cur.toList.take (L.length * 3) = L.flatMap c3 := by
        have := congrArg (List.take (L.length * 3)) htake
        rw [List.take_take, show min (L.length * 3) ((L.length + 1) * 3) = L.length * 3 by omega, List.flatMap_append, ← hLl, List.take_left] at this
        rw [hLl] at this
        exact this
      rw [ht1]
      have e3 : [((M.It.mk l d ys), u)].flatMap c3 = [.bool l, .string ⟨d.toArray⟩, u] := rfl
      rw [e3, show (L.length + 1) * 3 = (L.flatMap c3 ++ [.bool l, .string ⟨d.toArray⟩, u]).length by rw [List.length_append, hLl]; simp; omega, List.take_left]
    · have hS : ∀ b, (B ≤ b ∧ b < w.heap.size ∧ some b ≠ v.ownBlock) → (B ≤ b ∧ b < (w.setRow g cur').heap.size ∧ some b ≠ v.ownBlock) ∧ (w.setRow g cur').heap[b]? = w.heap[b]? := fun b ⟨k1, k2, k3⟩ =>
        ⟨⟨k1, Nat.lt_of_lt_of_le k2 hgrow.size, k3⟩, hgrow.block b k2 (by rw [← hbk]; exact k3)⟩
      intro p hp
      rcases List.mem_append.1 hp with h2 | h2
      · exact (h.kid p (List.mem_append_left _ h2)).keep hS
      · simp only [List.mem_singleton] at h2
        subst h2
        exact hk.keep hS
end Go.Proofs.YtebjhbeaknokkaaGreatDoor
namespace Go.Proofs.YtebjhbeaknokkaaGreatDoor
open Go Go.RowKit

theorem wp_store_one {P : Program} {o : Oper} {a : Act} {w w' : World} {K : Act → World → Prop} {Q : Exit → Act → World → Prop} (ty : TypeId) (x y : Operand) (ho : o.op = .store ty x y)
    (ad : Addr) (val : Value) (hx : a.eval x = .pointer (some ad)) (hy : a.eval y = val) (hr : (storeVar ty ad val).run P w = .ok () w') (h : K (a.put o.dst undef) w') : o.wp P a w K Q := by
  unfold Oper.wp execOp
  simp only [ho, hx, hy, Instr.storeAt, Instr.sureAddr, Sem.run_bind, Sem.run_pure, Result.andThen_ok, hr]
  exact h

structure Grown (B bl : Nat) (W X : World) (L : List (M.It × Value)) (v v' : Value) : Prop where
  row : ItRow B X (L ++ [(M.It.mk false [] [], .slice none 0 0)]) v'
  box : Boxed X bl 42 v
  os : X.os = W.os
  tape : X.tape = W.tape
  output : X.output = W.output
  size : W.heap.size ≤ X.heap.size
  block : ∀ b, b < W.heap.size → some b ≠ v.ownBlock → X.heap[b]? = W.heap[b]?
  new : v'.ownBlock = v.ownBlock ∨ ∃ g, v'.ownBlock = some g ∧ W.heap.size ≤ g

set_option maxRecDepth 100000 in
set_option maxHeartbeats 8000000 in
theorem list_reg3 (bl bi B : Nat) (L : List (M.It × Value)) (v v' : Value) (l : Bool) (d : List UInt8) (ys : List M.It) (u : Value) (tb : Nat) (W X : World)
    (t0 t1 t2 t3 t4 t5 t6 t7 t10 t11 t12 t13 t14 t15 t16 t17 t18 t19 t20 t21 t22 t23 t24 t25 t26 t27 t28 t34 t35 : Value) (ops : Array Oper)
    (hcode : Tryz.f178.body.bind (regAt 9) = some (.region 9 ops true)) (hG : Grown B bl W X L v v') (hbl : bl < B) (_hB : B ≤ W.heap.size) (hlen : L.length ≤ 600)
    (hbi : bi < W.heap.size) (hbi2 : some bi ≠ v.ownBlock) (hbi3 : bi ≠ bl)
    (hS : (fun w => w.cell? ⟨bi, 0, none⟩ = some (.bool l) ∧ w.cell? ⟨bi, 1, none⟩ = some (.string ⟨d.toArray⟩) ∧ w.cell? ⟨bi, 2, none⟩ = some u) X) (hu : u.oneCell' = true) (hk : LayS W (fun b => B ≤ b ∧ b < W.heap.size ∧ some b ≠ v.ownBlock) ys u) :
    wpAnyH Tryz.prog .any ops (nrm fun _ U => ∃ v', Boxed U bl 42 v' ∧ ItRow B U (L ++ [(.mk l d ys, u)]) v' ∧ U.os = W.os ∧ U.tape = W.tape ∧ U.output = W.output ∧ W.heap.size ≤ U.heap.size ∧
        ∀ b, b < W.heap.size → b ≠ bl → some b ≠ v.ownBlock → U.heap[b]? = W.heap[b]?) (fun w => w.cell? ⟨bi, 0, none⟩ = some (.bool l) ∧ w.cell? ⟨bi, 1, none⟩ = some (.string ⟨d.toArray⟩) ∧ w.cell? ⟨bi, 2, none⟩ = some u) 3 #[true, true, true, true, true, false, false, false] { tmps := #[t0, t1, t2, t3, t4, t5, t6, t7, .pointer (some ⟨bl, 0, none⟩), .pointer (some ⟨bi, 0, none⟩), t10, t11, t12, t13, t14, t15, t16, t17, t18, t19, t20, t21, t22, t23, t24, t25, t26, t27, t28, v, .agg #[.bool l, .string ⟨d.toArray⟩, u], .int .i64 L.length, .slice (some ⟨tb, 0, none⟩) 1 1, v', t34, t35], defers := [] } X := by
  simp only [Tryz.f178, Option.bind_some, regAt, Option.some_or, Option.none_or, if_true, if_false, Nat.reduceEqDiff, Option.some.injEq, Code.region.injEq, true_and, and_true] at hcode
  subst hcode
  have hbX : bi < X.heap.size := Nat.lt_of_lt_of_le hbi hG.size
  have hkX : ∀ X' : World, X.heap.size ≤ X'.heap.size → (∀ b, B ≤ b → b < W.heap.size → some b ≠ v.ownBlock → X'.heap[b]? = W.heap[b]?) → LayS X' (fun b => B ≤ b ∧ b < X'.heap.size ∧ some b ≠ v'.ownBlock) ys u := fun X' hz hbk =>
    hk.keep fun b ⟨h1, h2, h3⟩ => ⟨⟨h1, by have := hG.size; omega, fun e => by
      rcases hG.new with h | ⟨g, h, hg⟩
      · exact h3 (by rw [e, h])
      · rw [h] at e; cases e; omega⟩, hbk b h1 h2 h3⟩
  have hblX : bl < X.heap.size := hG.box.lt
  have hvf := hG.box.frozen
  have hvc := hG.box.cell
  obtain ⟨g, cap, X1, hv', hr1, hrow1, hg1, hBg⟩ := hG.row.last l d ys u hu (hkX X (Nat.le_refl _) (fun b h1 h2 h3 => hG.block b h2 h3))
  subst hv'
  have hgb : g ≠ bi := fun e => by
    rcases hG.new with h | ⟨g', h, hg'⟩
    · exact hbi2 (by rw [← e]; exact h)
    · have : g = g' := Option.some.inj h
      omega
  have hgl : g ≠ bl := by omega
  have hSk : ∀ {Y Y' : World}, (fun w : World => w.cell? ⟨bi, 0, none⟩ = some (.bool l) ∧ w.cell? ⟨bi, 1, none⟩ = some (.string ⟨d.toArray⟩) ∧ w.cell? ⟨bi, 2, none⟩ = some u) Y → Y'.heap[bi]? = Y.heap[bi]? → (fun w : World => w.cell? ⟨bi, 0, none⟩ = some (.bool l) ∧ w.cell? ⟨bi, 1, none⟩ = some (.string ⟨d.toArray⟩) ∧ w.cell? ⟨bi, 2, none⟩ = some u) Y' := fun {Y Y'} h e =>
    ⟨(World.cell?_of_block (a := ⟨bi, 0, none⟩) e).trans h.1, (World.cell?_of_block (a := ⟨bi, 1, none⟩) e).trans h.2.1, (World.cell?_of_block (a := ⟨bi, 2, none⟩) e).trans h.2.2⟩
  have hix : ((0 : Int) ≤ (L.length : Nat)) ∧ ((L.length : Nat) : Int) < (L.length : Int) + 1 := by omega
  -- the box stored behind the row
  have hend1 : ∃ v', Boxed (X1.setCell ⟨bl, 0, none⟩ (.slice (some ⟨g, 0, none⟩) (L.length + 1) cap)) bl 42 v' ∧ ItRow B (X1.setCell ⟨bl, 0, none⟩ (.slice (some ⟨g, 0, none⟩) (L.length + 1) cap)) (L ++ [(.mk l d ys, u)]) v' ∧ (X1.setCell ⟨bl, 0, none⟩ (.slice (some ⟨g, 0, none⟩) (L.length + 1) cap)).os = W.os ∧ (X1.setCell ⟨bl, 0, none⟩ (.slice (some ⟨g, 0, none⟩) (L.length + 1) cap)).tape = W.tape ∧ (X1.setCell ⟨bl, 0, none⟩ (.slice (some ⟨g, 0, none⟩) (L.length + 1) cap)).output = W.output ∧ W.heap.size ≤ (X1.setCell ⟨bl, 0, none⟩ (.slice (some ⟨g, 0, none⟩) (L.length + 1) cap)).heap.size ∧
        ∀ b, b < W.heap.size → b ≠ bl → some b ≠ v.ownBlock → (X1.setCell ⟨bl, 0, none⟩ (.slice (some ⟨g, 0, none⟩) (L.length + 1) cap)).heap[b]? = W.heap[b]? := by
    have hb1 : Boxed X1 bl 42 v := (hg1.block bl hblX (by simp; omega)).trans hG.box
    refine ⟨_, hb1.set _, hrow1.setCell ⟨bl, 0, none⟩ _ hbl, hg1.os.trans hG.os, hg1.tape.trans hG.tape, hg1.output.trans hG.output, ?_, fun b h1 h2 h3 => ?_⟩
    · have := hg1.size; have := hG.size; simp [World.setCell]; omega
    · have hbg : b ≠ g := fun e => by
        rcases hG.new with h | ⟨g', h, hg'⟩
        · exact h3 (by rw [e]; exact h)
        · have : g = g' := Option.some.inj h
          omega
      exact (Below.heap_setCell _ _ _ _ (by simpa using h2)).trans ((hg1.block b (by have := hG.size; omega) (by simpa using hbg)).trans (hG.block b h1 h3))
  -- the row stored behind the box
  obtain ⟨Y, hY⟩ : ∃ Y, Y = X.setCell ⟨bl, 0, none⟩ (.slice (some ⟨g, 0, none⟩) (L.length + 1) cap) := ⟨_, rfl⟩
  have hYz : Y.heap.size = X.heap.size := by rw [hY]; simp [World.setCell]
  have hYb : ∀ b, b ≠ bl → Y.heap[b]? = X.heap[b]? := fun b hb => by rw [hY]; exact Below.heap_setCell _ _ _ _ (by simpa using hb)
  have hYbox : Boxed Y bl 42 (.slice (some ⟨g, 0, none⟩) (L.length + 1) cap) := by rw [hY]; exact hG.box.set _
  have hYrow : ItRow B Y (L ++ [(M.It.mk false [] [], .slice none 0 0)]) (.slice (some ⟨g, 0, none⟩) (L.length + 1) cap) := by rw [hY]; exact hG.row.setCell ⟨bl, 0, none⟩ _ hbl
  obtain ⟨g2, cap2, Y1, hv2, hr2, hrow2, hg2, _⟩ := hYrow.last l d ys u hu (hkX Y (by omega) (fun b h1 h2 h3 => (hYb b (by omega)).trans (hG.block b h2 h3)))
  obtain ⟨rfl, rfl⟩ : g = g2 ∧ cap = cap2 := by cases hv2; exact ⟨rfl, rfl⟩
  have hend2 : ∃ v', Boxed Y1 bl 42 v' ∧ ItRow B Y1 (L ++ [(.mk l d ys, u)]) v' ∧ Y1.os = W.os ∧ Y1.tape = W.tape ∧ Y1.output = W.output ∧ W.heap.size ≤ Y1.heap.size ∧
        ∀ b, b < W.heap.size → b ≠ bl → some b ≠ v.ownBlock → Y1.heap[b]? = W.heap[b]? := by
    refine ⟨_, (hg2.block bl (by omega) (by simp; omega)).trans hYbox, hrow2, hg2.os.trans (by rw [hY]; exact hG.os), hg2.tape.trans (by rw [hY]; exact hG.tape), hg2.output.trans (by rw [hY]; exact hG.output), ?_, fun b h1 h2 h3 => ?_⟩
    · have := hg2.size; have := hG.size; omega
    · have hbg : b ≠ g := fun e => by
        rcases hG.new with h | ⟨g', h, hg'⟩
        · exact h3 (by rw [e]; exact h)
        · have : g = g' := Option.some.inj h
          omega
      exact (hg2.block b (by have := hG.size; omega) (by simpa using hbg)).trans ((hYb b h2).trans (hG.block b h1 h3))
  have hS1 := hSk hS (Y' := X1) (hg1.block bi hbX (by simp; omega))
  have hSY := hSk hS (Y' := Y) (hYb bi hbi3)
  have hSY1 := hSk hSY (Y' := Y1) (hg2.block bi (by omega) (by simp; omega))
  have hSe := hSk hS1 (Y' := X1.setCell ⟨bl, 0, none⟩ (.slice (some ⟨g, 0, none⟩) (L.length + 1) cap)) (Below.heap_setCell _ _ _ _ (by simpa using hbi3))
  have hvf1 : X1.frozen? ⟨bl, 0, none⟩ = false := (World.frozen?_of_block (a := ⟨bl, 0, none⟩) (hg1.block bl hblX (by simp; omega))).trans hvf
  have hvc1 : X1.cell? ⟨bl, 0, none⟩ = some v := (World.cell?_of_block (a := ⟨bl, 0, none⟩) (hg1.block bl hblX (by simp; omega))).trans hvc
  subst hY
  refine wpAnyH_ready (rs := [5, 7]) (by kernel_rfl) (by simp) ?_
  refine AllReadyH.cons rfl (fun K hK => ?_) (AllReadyH.cons rfl (fun K hK => ?_) AllReadyH.nil)
  · go_simp
    refine hK.out _ _ hS (fun _ => ?_)
    clear hK K
    simp only [List.setIfInBounds_toArray, List.set_cons_zero, List.set_cons_succ]
    refine wpAnyH_ready (rs := [6, 7]) (by kernel_rfl) (by simp) ?_
    refine AllReadyH.cons rfl (fun K hK => ?_) (AllReadyH.cons rfl (fun K hK => ?_) AllReadyH.nil)
    · rw [if_pos (by rfl)]
      refine wp_store_one _ _ _ rfl ⟨g, L.length * 3, none⟩ _ rfl rfl hr1 ?_
      refine hK.out _ _ hS1 (fun _ => ?_)
      clear hK K
      simp only [Act.put, zqA, zqB, zqC, zqD, zqE, zqF]
      refine wpAnyH_ready (rs := [7]) (by kernel_rfl) (by simp) ?_
      refine AllReadyH.cons rfl (fun K hK => ?_) AllReadyH.nil
      go_simp
      refine hK.out _ _ hSe (fun _ => ?_)
      refine wpAnyH_done (by kernel_rfl) ?_ _
      exact hend1
    · go_simp
      refine hK.out _ _ hSY (fun _ => ?_)
      clear hK K
      simp only [List.setIfInBounds_toArray, List.set_cons_zero, List.set_cons_succ]
      refine wpAnyH_ready (rs := [6]) (by kernel_rfl) (by simp) ?_
      refine AllReadyH.cons rfl (fun K hK => ?_) AllReadyH.nil
      rw [if_pos (by rfl)]
      refine wp_store_one _ _ _ rfl ⟨g, L.length * 3, none⟩ _ rfl rfl hr2 ?_
      refine hK.out _ _ hSY1 (fun _ => ?_)
      refine wpAnyH_done (by kernel_rfl) ?_ _
      exact hend2
  · go_simp
    refine hK.out _ _ hSY (fun _ => ?_)
    clear hK K
    simp only [List.setIfInBounds_toArray, List.set_cons_zero, List.set_cons_succ]
    refine wpAnyH_ready (rs := [5]) (by kernel_rfl) (by simp) ?_
    refine AllReadyH.cons rfl (fun K hK => ?_) AllReadyH.nil
    go_simp
    refine hK.out _ _ hSY (fun _ => ?_)
    clear hK K
    simp only [List.setIfInBounds_toArray, List.set_cons_zero, List.set_cons_succ]
    refine wpAnyH_ready (rs := [6]) (by kernel_rfl) (by simp) ?_
    refine AllReadyH.cons rfl (fun K hK => ?_) AllReadyH.nil
    rw [if_pos (by rfl)]
    refine wp_store_one _ _ _ rfl ⟨g, L.length * 3, none⟩ _ rfl rfl hr2 ?_
    refine hK.out _ _ hSY1 (fun _ => ?_)
    refine wpAnyH_done (by kernel_rfl) ?_ _
    exact hend2

theorem wp_append_run {P : Program} {o : Oper} {a : Act} {w w' : World} {K : Act → World → Prop} {Q : Exit → Act → World → Prop} (s x : Operand) (ats : Array TypeId) (ho : o.op = .call { callee := .builtin .append, args := #[s, x], argTypes := ats })
    (v u v' : Value) (hs : a.eval s = v) (hx : a.eval x = u) (hr : (Builtin.append_ ats o.type #[v, u]).run P w = .ok v' w') (h : K (a.put o.dst v') w') : o.wp P a w K Q := by
  unfold Oper.wp execOp
  simp only [ho, resolve, invoke, builtin, Sem.run_bind, Sem.run_pure, Result.andThen_ok, List.map_toArray, List.map_cons, List.map_nil, hs, hx, hr]
  exact h

set_option maxRecDepth 100000 in
set_option maxHeartbeats 8000000 in
theorem list_reg2 (bl bi B : Nat) (L : List (M.It × Value)) (v : Value) (l : Bool) (d : List UInt8) (ys : List M.It) (u : Value) (tb : Nat) (W X : World)
    (t0 t1 t2 t3 t4 t5 t6 t7 t10 t11 t12 t13 t14 t15 t16 t17 t18 t19 t20 t21 t22 t23 t24 t25 t26 t27 t28 t33 t34 t35 : Value) (ops : Array Oper)
    (hcode : Tryz.f178.body.bind (regAt 9) = some (.region 9 ops true)) (hbox : Boxed X bl 42 v) (hrow : ItRow B X L v) (hX : Below W.heap.size W X) (hbl : bl < B) (hB : B ≤ W.heap.size) (hlen : L.length ≤ 600)
    (hbi : bi < W.heap.size) (hbi2 : some bi ≠ v.ownBlock) (hbi3 : bi ≠ bl)
    (htb : ∀ j x, ([.bool false, .string ⟨#[]⟩, .slice none 0 0] : List Value)[j]? = some x → X.cell? ((⟨tb, 0, none⟩ : Addr).add j) = some x)
    (hS : (fun w => w.cell? ⟨bi, 0, none⟩ = some (.bool l) ∧ w.cell? ⟨bi, 1, none⟩ = some (.string ⟨d.toArray⟩) ∧ w.cell? ⟨bi, 2, none⟩ = some u) X) (hu : u.oneCell' = true) (hk : LayS W (fun b => B ≤ b ∧ b < W.heap.size ∧ some b ≠ v.ownBlock) ys u) :
    wpAnyH Tryz.prog .any ops (nrm fun _ U => ∃ v', Boxed U bl 42 v' ∧ ItRow B U (L ++ [(.mk l d ys, u)]) v' ∧ U.os = W.os ∧ U.tape = W.tape ∧ U.output = W.output ∧ W.heap.size ≤ U.heap.size ∧
        ∀ b, b < W.heap.size → b ≠ bl → some b ≠ v.ownBlock → U.heap[b]? = W.heap[b]?) (fun w => w.cell? ⟨bi, 0, none⟩ = some (.bool l) ∧ w.cell? ⟨bi, 1, none⟩ = some (.string ⟨d.toArray⟩) ∧ w.cell? ⟨bi, 2, none⟩ = some u) 4 #[true, true, true, true, false, false, false, false] { tmps := #[t0, t1, t2, t3, t4, t5, t6, t7, .pointer (some ⟨bl, 0, none⟩), .pointer (some ⟨bi, 0, none⟩), t10, t11, t12, t13, t14, t15, t16, t17, t18, t19, t20, t21, t22, t23, t24, t25, t26, t27, t28, v, .agg #[.bool l, .string ⟨d.toArray⟩, u], .int .i64 L.length, .slice (some ⟨tb, 0, none⟩) 1 1, t33, t34, t35], defers := [] } X := by
  obtain ⟨v', X3, hr, hrow3, hg, hnew⟩ := item_append hrow (by have := hX.size; omega) (by omega) 42 ⟨tb, 0, none⟩ 1 false [] [] (.slice none 0 0) htb rfl (.nil_ (by decide))
  have hbv : some bl ≠ v.ownBlock := fun e => by have := (World.ownsRow.lt hrow.own bl e.symm).1; omega
  have hz := hX.size
  have hG : Grown B bl W X3 L v v' := ⟨hrow3, (hg.block bl hbox.lt hbv).trans hbox, hg.os.trans hX.os, hg.tape.trans hX.tape, hg.output.trans hX.output, by have := hg.size; omega,
    fun b h1 h2 => (hg.block b (by omega) h2).trans (hX.block b h1), by rcases hnew with h | h; exact .inl h; exact .inr ⟨_, h, hz⟩⟩
  have hS3 : (fun w => w.cell? ⟨bi, 0, none⟩ = some (.bool l) ∧ w.cell? ⟨bi, 1, none⟩ = some (.string ⟨d.toArray⟩) ∧ w.cell? ⟨bi, 2, none⟩ = some u) X3 := by
    have e := hg.block bi (by omega) hbi2
    exact ⟨(World.cell?_of_block (a := ⟨bi, 0, none⟩) e).trans hS.1, (World.cell?_of_block (a := ⟨bi, 1, none⟩) e).trans hS.2.1, (World.cell?_of_block (a := ⟨bi, 2, none⟩) e).trans hS.2.2⟩
  have HE := list_reg3 bl bi B L v v' l d ys u tb W X3 t0 t1 t2 t3 t4 t5 t6 t7 t10 t11 t12 t13 t14 t15 t16 t17 t18 t19 t20 t21 t22 t23 t24 t25 t26 t27 t28 t34 t35 ops hcode hG hbl hB hlen hbi hbi2 hbi3 hS3 hu hk
  simp only [Tryz.f178, Option.bind_some, regAt, Option.some_or, Option.none_or, if_true, if_false, Nat.reduceEqDiff, Option.some.injEq, Code.region.injEq, true_and, and_true] at hcode
  subst hcode
  refine wpAnyH_ready (rs := [4]) (by kernel_rfl) (by simp) ?_
  refine AllReadyH.cons rfl (fun K hK => ?_) AllReadyH.nil
  rw [if_pos (by rfl)]
  refine wp_append_run _ _ _ rfl _ _ v' rfl rfl hr ?_
  refine hK.out _ _ hS3 (fun _ => ?_)
  clear hK K
  simp only [Act.put, zqA, zqB, zqC, zqD, zqE, zqF]
  exact HE

set_option maxRecDepth 100000 in
set_option maxHeartbeats 8000000 in
theorem list_reg (rd m bl bi B : Nat) (L : List (M.It × Value)) (v : Value) (l : Bool) (d : List UInt8) (ys : List M.It) (u : Value) (W : World)
    (t0 t1 t2 t3 t4 t5 t6 t7 t10 t11 t12 t13 t14 t15 t16 t17 t18 t19 t20 t21 t22 t23 t24 t25 t26 t27 t28 t29 t30 t31 t32 t33 t34 t35 : Value) (ops : Array Oper)
    (hcode : Tryz.f178.body.bind (regAt 9) = some (.region 9 ops true))
    (hv : Boxed W bl 42 v) (hx : Box W bi l d u) (hrow : ItRow B W L v) (hbl : bl < B) (hB : B ≤ W.heap.size) (hbi : bi < W.heap.size) (hbi2 : some bi ≠ v.ownBlock) (hbi3 : bi ≠ bl) (hlen : L.length ≤ 600)
    (hu : u.oneCell' = true) (hk : LayS W (fun b => B ≤ b ∧ b < W.heap.size ∧ some b ≠ v.ownBlock) ys u) :
    (Code.region 9 ops true).wpIn (Fence.wide.inRound rd) m Tryz.prog (nrm fun _ U => ∃ v', Boxed U bl 42 v' ∧ ItRow B U (L ++ [(.mk l d ys, u)]) v' ∧ U.os = W.os ∧ U.tape = W.tape ∧ U.output = W.output ∧ W.heap.size ≤ U.heap.size ∧
        ∀ b, b < W.heap.size → b ≠ bl → some b ≠ v.ownBlock → U.heap[b]? = W.heap[b]?)
      { tmps := #[t0, t1, t2, t3, t4, t5, t6, t7, .pointer (some ⟨bl, 0, none⟩), .pointer (some ⟨bi, 0, none⟩), t10, t11, t12, t13, t14, t15, t16, t17, t18, t19, t20, t21, t22, t23, t24, t25, t26, t27, t28, t29, t30, t31, t32, t33, t34, t35], defers := [] } W := by
  have hd0 : Below W.heap.size W W.drew := (Below.refl _ W).drew
  have hS0 : (fun w => w.cell? ⟨bi, 0, none⟩ = some (.bool l) ∧ w.cell? ⟨bi, 1, none⟩ = some (.string ⟨d.toArray⟩) ∧ w.cell? ⟨bi, 2, none⟩ = some u) W.drew := ⟨hx.c0, hx.c1, hx.c2⟩
  obtain ⟨X, hX⟩ : ∃ X, X = (W.alloc (.cells #[.bool false, .string ⟨#[]⟩, .slice none 0 0] 44)).drew := ⟨_, rfl⟩
  have hWX : Below W.heap.size W X := by rw [hX]; exact ((Below.refl _ W).alloc (Nat.le_refl _) _).drew
  have hcX : ∀ b o, b < W.heap.size → X.cell? ⟨b, o, none⟩ = W.cell? ⟨b, o, none⟩ := fun b o h => hWX.cell (p := ⟨b, o, none⟩) h
  have hSX : (fun w => w.cell? ⟨bi, 0, none⟩ = some (.bool l) ∧ w.cell? ⟨bi, 1, none⟩ = some (.string ⟨d.toArray⟩) ∧ w.cell? ⟨bi, 2, none⟩ = some u) X := ⟨(hcX bi 0 hbi).trans hx.c0, (hcX bi 1 hbi).trans hx.c1, (hcX bi 2 hbi).trans hx.c2⟩
  have hboxX : Boxed X bl 42 v := (hWX.block bl hv.lt).trans hv
  have htb : ∀ j x, ([.bool false, .string ⟨#[]⟩, .slice none 0 0] : List Value)[j]? = some x → X.cell? ((⟨W.heap.size, 0, none⟩ : Addr).add j) = some x := by
    intro j x hj
    rw [addr_add, hX]
    match j, hj with
    | 0, hj => cases hj; simp [go_sem]
    | 1, hj => cases hj; simp [go_sem]
    | 2, hj => cases hj; simp [go_sem]
  have HE := list_reg2 bl bi B L v l d ys u W.heap.size W X t0 t1 t2 t3 t4 t5 t6 t7 t10 t11 t12 t13 t14 t15 t16 t17 t18 t19 t20 t21 t22 t23 t24 t25 t26 t27 t28 t33 t34 t35 ops hcode hboxX (hrow.from_ hWX) hWX hbl hB hlen hbi hbi2 hbi3 htb hSX hu hk
  obtain ⟨va, vc, rfl⟩ := hrow.slice
  have hvc := hv.cell
  have hvX : X.cell? ⟨bl, 0, none⟩ = some (.slice va L.length vc) := (hcX bl 0 hv.lt).trans hvc
  simp only [Tryz.f178, Option.bind_some, regAt, Option.some_or, Option.none_or, if_true, if_false, Nat.reduceEqDiff, Option.some.injEq, Code.region.injEq, true_and, and_true] at hcode
  subst hcode
  dsimp only
  refine wpIn_region_any (by kernel_rfl) (wpAny_round (by kernel_rfl) _ _ _ _ ?_)
  refine wpAny_of_held (S := fun w => w.cell? ⟨bi, 0, none⟩ = some (.bool l) ∧ w.cell? ⟨bi, 1, none⟩ = some (.string ⟨d.toArray⟩) ∧ w.cell? ⟨bi, 2, none⟩ = some u) _ _ _ _ ?_
  change wpAnyH _ _ _ _ _ _ _ _ W.drew
  rw [show Array.replicate (Array.size _) false = #[false, false, false, false, false, false, false, false] from rfl, show Array.size (α := Oper) _ = 8 from rfl]
  refine wpAnyH_take (i := 1) (v := .agg #[.bool l, .string ⟨d.toArray⟩, u]) rfl (by kernel_rfl) (by kernel_rfl) (by kernel_rfl) (fun _ _ _ h => h) (Or.inl ⟨by rfl, ?_⟩) hS0 ?_
  · rintro w ⟨h0, h1, h2⟩
    go_simp
  simp only [Act.put, zqA, zqB, zqC, zqD, zqE, zqF]
  refine wpAnyH_ready (rs := [0, 3]) (by kernel_rfl) (by simp) ?_
  refine AllReadyH.cons rfl (fun K hK => ?_) (AllReadyH.cons rfl (fun K hK => ?_) AllReadyH.nil)
  · go_simp
    refine hK.out _ _ hS0 (fun _ => ?_)
    clear hK K
    simp only [List.setIfInBounds_toArray, List.set_cons_zero]
    refine wpAnyH_take (i := 2) (v := .int .i64 L.length) rfl (by kernel_rfl) (by kernel_rfl) (by kernel_rfl) (fun _ _ _ h => h) (Or.inl ⟨by rfl, ?_⟩) hS0 ?_
    · rintro w ⟨h0, h1, h2⟩
      go_simp
    simp only [Act.put, zqA, zqB, zqC, zqD, zqE, zqF]
    refine wpAnyH_ready (rs := [3]) (by kernel_rfl) (by simp) ?_
    refine AllReadyH.cons rfl (fun K hK => ?_) AllReadyH.nil
    go_simp
    rw [← hX]
    clear hX
    refine hK.out _ _ hSX (fun _ => ?_)
    clear hK K
    simp only [List.setIfInBounds_toArray, List.set_cons_zero, List.set_cons_succ]
    exact HE
  · go_simp
    rw [← hX]
    clear hX
    refine hK.out _ _ hSX (fun _ => ?_)
    clear hK K
    simp only [List.setIfInBounds_toArray, List.set_cons_zero, List.set_cons_succ]
    refine wpAnyH_ready (rs := [0]) (by kernel_rfl) (by simp) ?_
    refine AllReadyH.cons rfl (fun K hK => ?_) AllReadyH.nil
    go_simp
    refine hK.out _ _ hSX (fun _ => ?_)
    clear hK K
    simp only [List.setIfInBounds_toArray, List.set_cons_zero]
    refine wpAnyH_take (i := 2) (v := .int .i64 L.length) rfl (by kernel_rfl) (by kernel_rfl) (by kernel_rfl) (fun _ _ _ h => h) (Or.inl ⟨by rfl, ?_⟩) hSX ?_
    · rintro w ⟨h0, h1, h2⟩
      go_simp
    simp only [Act.put, zqA, zqB, zqC, zqD, zqE, zqF]
    exact HE
end Go.Proofs.YtebjhbeaknokkaaGreatDoor
namespace Go.Proofs.YtebjhbeaknokkaaGreatDoor
open Go Go.RowKit
attribute [local go_sem] Oper.semAt_some

def ItemC (n : Nat) : Prop := ∀ (s : List UInt8) (k d rb : Nat) (w : World), s.length ≤ 65536 → k ≤ s.length → 2 * (s.length - k) + 1 ≤ n → d ≤ 12 → Boxed w rb 141 (.int .i64 d) →
  Calls Tryz.prog 98 #[.pointer (some ⟨rb, 0, none⟩), .string ⟨s.toArray⟩, .int .i64 k] w fun e w' =>
    ∃ l b xs a cap pl, e = .returned (.tuple #[iv l b (.slice a xs.length cap), .int .i64 (pl : Nat), .int .i64 ((M.readT n (s.drop k) d).2.2 : Nat)]) ∧ (M.readT n (s.drop k) d).1 = .mk l b xs ∧
      Fresh w.heap.size w' xs (.slice a xs.length cap) ∧ Below w.heap.size w w' ∧ ((M.readT n (s.drop k) d).2.2 = 0 → s.drop pl = (M.readT n (s.drop k) d).2.1 ∧ k < pl ∧ pl ≤ s.length)

theorem items_in (n : Nat) (s : List UInt8) (k : Nat) (f : Value) (hf : f.oneCell' = true) (w : World) :
    CallsIn Fence.wide n Tryz.prog 248 #[.string ⟨s.toArray⟩, .int .i64 k, f] w fun e w' =>
      e = .returned (.func (.func 269) #[] #[.pointer (some ⟨w.heap.size + 1, 0, none⟩), .pointer (some ⟨w.heap.size, 0, none⟩), .pointer (some ⟨w.heap.size + 2, 0, none⟩)]) ∧
      w' = ((w.alloc (.cells #[.string ⟨s.toArray⟩] 9)).alloc (.cells #[.int .i64 k] 3)).alloc (.cells #[f] 142) := by
  refine callsIn_of_wp Tryz.func248 rfl trivial ?_ rfl
  simp only [Tryz.ntmps248, List.size_toArray, List.length_cons, List.length_nil, Nat.reduceAdd, Nat.reduceSub, Array.replicate_succ, Array.replicate_zero, List.push_toArray, List.append_toArray, List.nil_append, List.cons_append]
  gi_wp2
  go_ret
  exact ⟨rfl, rfl⟩

abbrev El := (M.It × Value) × Nat
def encE (x : El) : Array Value := match x.1.1 with | .mk l d _ => #[iv l d x.1.2, .int .i64 (x.2 : Nat)]

def comb (xs : List M.It) (r : List M.It × Nat) : List M.It × Nat := if r.2 ≠ 0 then ([], r.2) else (xs ++ r.1, 0)
theorem comb_nil (n : Nat) (t : List UInt8) (d k : Nat) : comb [] (M.itemsT n t d k) = M.itemsT n t d k := by
  unfold comb
  by_cases h : (M.itemsT n t d k).2 = 0
  · rw [if_neg (by omega), List.nil_append, ← h]
  · rw [if_pos h]
    cases n with
    | zero => rw [M.itemsT]
    | succ n =>
      rw [M.itemsT] at h ⊢
      by_cases h1 : t = []
      · rw [if_pos h1] at h; exact absurd rfl h
      · rw [if_neg h1] at h ⊢
        by_cases h2 : 512 ≤ k
        · rw [if_pos h2]
        · rw [if_neg h2] at h ⊢
          by_cases h3 : (M.readT n t d).2.2 ≠ 0
          · rw [if_pos h3]
          · rw [if_neg h3] at h ⊢
            by_cases h4 : (M.itemsT n (M.readT n t d).2.1 d (k + 1)).2 ≠ 0
            · rw [if_pos h4]
            · rw [if_neg h4] at h; exact absurd rfl h
theorem comb_end (xs : List M.It) (n d k : Nat) : comb xs (M.itemsT (n + 1) [] d k) = (xs, 0) := by
  rw [M.itemsT, if_pos rfl, comb, if_neg (by simp), List.append_nil]
theorem comb_many (xs : List M.It) (n d k : Nat) (t : List UInt8) (ht : t ≠ []) (hk : 512 ≤ k) : comb xs (M.itemsT (n + 1) t d k) = ([], 5) := by
  rw [M.itemsT, if_neg ht, if_pos hk, comb, if_pos (by simp)]
theorem comb_bad (xs : List M.It) (n d k : Nat) (t : List UInt8) (ht : t ≠ []) (hk : ¬ 512 ≤ k) (hr : (M.readT n t d).2.2 ≠ 0) : comb xs (M.itemsT (n + 1) t d k) = ([], (M.readT n t d).2.2) := by
  rw [M.itemsT, if_neg ht, if_neg hk, if_pos hr, comb, if_pos hr]
theorem comb_next (xs : List M.It) (n d k : Nat) (t : List UInt8) (ht : t ≠ []) (hk : ¬ 512 ≤ k) (hr : (M.readT n t d).2.2 = 0) :
    comb xs (M.itemsT (n + 1) t d k) = comb (xs ++ [(M.readT n t d).1]) (M.itemsT n (M.readT n t d).2.1 d (k + 1)) := by
  rw [M.itemsT, if_neg ht, if_neg hk, if_neg (by omega)]
  by_cases h4 : (M.itemsT n (M.readT n t d).2.1 d (k + 1)).2 ≠ 0
  · rw [if_pos h4, comb, if_pos h4, comb, if_pos h4]
  · rw [if_neg h4, comb, if_neg (by simp), comb, if_neg h4, List.append_assoc, List.singleton_append]

structure Env (w : World) (s : List UInt8) (k D rb bA bS bF : Nat) : Prop where
  cA : Boxed w bA 3 (.int .i64 (k : Nat))
  cS : Boxed w bS 9 (.string ⟨s.toArray⟩)
  cF : Boxed w bF 142 (.func (.func 98) #[.pointer (some ⟨rb, 0, none⟩)] #[])
  cR : Boxed w rb 141 (.int .i64 (D : Nat))
theorem Env.keep {w W : World} {s : List UInt8} {k D rb bA bS bF : Nat} (h : Env w s k D rb bA bS bF) (hA : W.heap[bA]? = w.heap[bA]?) (hS : W.heap[bS]? = w.heap[bS]?) (hF : W.heap[bF]? = w.heap[bF]?) (hR : W.heap[rb]? = w.heap[rb]?) : Env W s k D rb bA bS bF :=
  ⟨hA.trans h.cA, hS.trans h.cS, hF.trans h.cF, hR.trans h.cR⟩

set_option maxRecDepth 100000 in
set_option maxHeartbeats 8000000 in
theorem seq_in (N m lp : Nat) (hread : ∀ j, j < N → ItemC j) (s : List UInt8) (k D rb bA bS bF : Nat) (hs : s.length ≤ 65536) (hk : k ≤ s.length) (hN : 2 * (s.length - k) + 2 ≤ N) (hD : D ≤ 12)
    (J : List El → World → Prop) (Jx : El → World → Prop) (T : Nat → Prop) (hA : T bA) (hS : T bS) (hF : T bF) (hR' : T rb) (W : World) (hE : Env W s k D rb bA bS bF)
    (_hJ : ∀ pre A B, J pre A → A.grownBy B none → J pre B)
    (hY : ∀ pre x A B, J pre A → A.grownBy B none → (pre.length ≤ 512 ∧ Fresh A.heap.size B (kids x.1.1) x.1.2) → YieldAt Fence.wide (m - 1) Tryz.prog lp (encE x) B fun e W' =>
        (e = .returned (.bool true) ∧ x.2 = 0 ∧ J (pre ++ [x]) W' ∧ (∀ b, T b → W'.heap[b]? = B.heap[b]?)) ∨ (e = .returned (.bool false) ∧ ¬ x.2 = 0 ∧ Jx x W'))
    (h0 : J [] W) : CallsIn Fence.wide m Tryz.prog 269 #[.func (.yield lp) #[] #[], .pointer (some ⟨bA, 0, none⟩), .pointer (some ⟨bS, 0, none⟩), .pointer (some ⟨bF, 0, none⟩)] W fun e W' =>
      (∃ v, e = .returned v) ∧ ((∃ xs : List El, M.itemsT N (s.drop k) D 0 = (xs.map (·.1.1), 0) ∧ J xs W') ∨ ∃ x : El, (x.2 ≠ 0 ∧ M.itemsT N (s.drop k) D 0 = ([], x.2)) ∧ Jx x W') := by
  have hro : Fence.wide.round = none := rfl
  refine callsIn_of_wp Tryz.func269 rfl trivial ?_ rfl
  simp only [Tryz.ntmps269, List.size_toArray, List.length_cons, List.length_nil, Nat.reduceAdd, Nat.reduceSub, Array.replicate_succ, Array.replicate_zero, List.push_toArray, List.append_toArray, List.nil_append, List.cons_append]
  have cA := hE.cA.cell
  gi_wp2
  gi_loopw [5, 6] (fun p c wr => ∃ (pre : List El) (q n' : Nat), p = .int .i64 (q : Nat) ∧ c = .int .i64 (pre.length : Nat) ∧ q ≤ s.length ∧ pre.length ≤ 512 ∧ 2 * (s.length - q) + 2 ≤ n' ∧ n' ≤ N ∧
      M.itemsT N (s.drop k) D 0 = comb (pre.map (·.1.1)) (M.itemsT n' (s.drop q) D pre.length) ∧ Env wr s k D rb bA bS bF ∧ J pre wr)
    (fun p _ _ => s.length - (intOf p).toNat)
  case atStart => exact ⟨[], k, N, rfl, rfl, hk, by simp, hN, Nat.le_refl _, (comb_nil _ _ _ _).symm, hE, h0⟩
  case round =>
    obtain ⟨pre, q, n', rfl, rfl, hq, hp, hn', hnN, hrel, hEr, hJr⟩ := hrel
    have cS := hEr.cS.cell
    by_cases hlt : q < s.length
    · have hne : s.drop q ≠ [] := by
        intro h
        have := congrArg List.length h
        simp at this
        omega
      have hlt' : ((q : Nat) : Int) < (s.length : Nat) := by omega
      obtain ⟨n1, rfl⟩ : ∃ n1, n' = n1 + 1 := ⟨n' - 1, by omega⟩
      by_cases hmany : pre.length = 512
      · rw [comb_many _ _ _ _ _ hne (by omega)] at hrel
        obtain ⟨fn, tmps, assign, body, hy, hR⟩ := hY pre ((M.It.mk false [] [], .slice none 0 0), 5) wr wr hJr ⟨rfl, rfl, rfl, Nat.le_refl _, fun _ _ _ => rfl⟩ ⟨hp, Fresh.nil _ _ _⟩
        dsimp only [encE, iv] at hy
        rw [show ((5 : Nat) : Int) = 5 from rfl] at hy
        have hm' : (((pre.length : Nat) : Int) == 512) = true := by simp; omega
        gi_wp2
        refine ⟨fun h => (by cases h), hR.mono ?_⟩
        rintro e W' (⟨rfl, hon, _⟩ | ⟨rfl, hoff, hjx⟩)
        · cases hon
        · gi_wp2
          refine bodyPost_ret (results_none rfl _ _ _) rfl ?_
          exact ⟨⟨_, rfl⟩, .inr ⟨_, ⟨by simp, hrel⟩, hjx⟩⟩
      · have hm' : (((pre.length : Nat) : Int) == 512) = false := by simp; omega
        have cF := hEr.cF.cell
        have HRd := Lib.hid (hread n1 (by omega) s q D rb wr hs hq (by omega) hD hEr.cR)
        have hbad := comb_bad (pre.map (·.1.1)) n1 D pre.length (s.drop q) hne (by omega)
        have hnext := comb_next (pre.map (·.1.1)) n1 D pre.length (s.drop q) hne (by omega)
        generalize M.readT n1 (s.drop q) D = r at *
        obtain ⟨it, rest, er⟩ := r
        simp only at HRd hbad hnext
        gi_wp2_with (refine ⟨trivial, fun h => (by cases h), (callsIn_wide.2 HRd.out).mono ?_⟩; rintro e w1 ⟨l, b, xs, a, cap, pl, rfl, hx, hfr, hb1, hpl⟩; obtain ⟨fn, tmps, assign, body, hy, hR⟩ := hY pre ((M.It.mk l b xs, .slice a xs.length cap), er) wr (w1.alloc (.cells #[.bool l, .string ⟨b.toArray⟩, .slice a xs.length cap] 44)) hJr ⟨hb1.os, hb1.tape, hb1.output, by have := hb1.size; simp; omega, fun k' hk' _ => (Below.heap_alloc _ _ _ (by have := hb1.size; omega)).trans (hb1.block k' hk')⟩ ⟨hp, hfr.from_ ((Below.refl _ _).alloc (Nat.le_refl _) _)⟩; dsimp only [encE, iv] at hy)
        refine ⟨fun h => (by cases h), hR.mono ?_⟩
        subst hx
        rintro e W' (⟨rfl, hon, hj, hkeep⟩ | ⟨rfl, hoff, hjx⟩)
        · replace hon : er = 0 := hon
          subst hon
          obtain ⟨hp1, hp2, hp3⟩ := hpl rfl
          rw [hnext rfl, ← hp1] at hrel
          have hbk : ∀ c, c < wr.heap.size → T c → W'.heap[c]? = wr.heap[c]? := fun c hc hTc => (hkeep c hTc).trans ((Below.heap_alloc _ _ _ (by have := hb1.size; omega)).trans (hb1.block c hc))
          have hE2 := hEr.keep (hbk bA hEr.cA.lt hA) (hbk bS hEr.cS.lt hS) (hbk bF hEr.cF.lt hF) (hbk rb hEr.cR.lt hR')
          gi_wp2
          go_roundw
          case rel => exact ⟨pre ++ [((M.It.mk l b xs, .slice a xs.length cap), 0)], pl, n1, rfl, by simp, hp3, by simp; omega, by omega, by omega, by rw [hrel]; simp, hE2, hj⟩
          case measure => simp [intOf]; omega
        · replace hoff : er ≠ 0 := hoff
          have hoff' : ¬ ((er : Nat) : Int) = 0 := by omega
          rw [hbad hoff] at hrel
          gi_wp2
          refine bodyPost_ret (results_none rfl _ _ _) rfl ?_
          exact ⟨⟨_, rfl⟩, .inr ⟨_, ⟨hoff, hrel⟩, hjx⟩⟩
    · obtain rfl : q = s.length := by omega
      obtain ⟨n1, rfl⟩ : ∃ n1, n' = n1 + 1 := ⟨n' - 1, by omega⟩
      rw [List.drop_length, comb_end] at hrel
      gi_wp2
      go_end0
      exact ⟨⟨_, rfl⟩, .inl ⟨pre, hrel, hJr⟩⟩
end Go.Proofs.YtebjhbeaknokkaaGreatDoor
namespace Go.Proofs.YtebjhbeaknokkaaGreatDoor
open Go Go.RowKit Go.Shelf
attribute [local go_sem] Oper.semAt_some

def ListC (n : Nat) : Prop := ∀ (s : List UInt8) (k D rb : Nat) (w : World), s.length ≤ 65536 → k ≤ s.length → 2 * (s.length - k) + 2 ≤ n → D < 12 → Boxed w rb 141 (.int .i64 D) →
  Calls Tryz.prog 178 #[.pointer (some ⟨rb, 0, none⟩), .string ⟨s.toArray⟩, .int .i64 k] w fun e w' =>
    ∃ a cap, e = .returned (.tuple #[.slice a (M.itemsT n (s.drop k) (D + 1) 0).1.length cap, .int .i64 ((M.itemsT n (s.drop k) (D + 1) 0).2 : Nat)]) ∧
      Fresh w.heap.size w' (M.itemsT n (s.drop k) (D + 1) 0).1 (.slice a (M.itemsT n (s.drop k) (D + 1) 0).1.length cap) ∧ Below w.heap.size w w'

theorem less_d (bR rb : Nat) (D : Nat) (w : World) (hD : D < 12) (hc : w.cell? ⟨bR, 0, none⟩ = some (.pointer (some ⟨rb, 0, none⟩))) (hr : w.cell? ⟨rb, 0, none⟩ = some (.int .i64 ((D + 1 : Nat) : Int))) (hz : w.frozen? ⟨rb, 0, none⟩ = false) (n : Nat) :
    CallsDIn Fence.wide n Tryz.prog 247 #[.pointer (some ⟨bR, 0, none⟩)] .returning w fun e u' w' => (∃ v, e = .returned v) ∧ u' = .returning ∧ w' = w.setCell ⟨rb, 0, none⟩ (.int .i64 (D : Nat)) := by
  have hw : wrap64 (((D + 1 : Nat) : Int) - 1) = ((D : Nat) : Int) := by unfold wrap64; omega
  have hro : Fence.wide.round = none := rfl
  have H : CallsDIn Fence.wide n Tryz.prog 247 #[.pointer (some ⟨bR, 0, none⟩)] .returning w fun e u' w' => u' = .returning ∧ ((∃ v, e = .returned v) ∧ w' = w.setCell ⟨rb, 0, none⟩ (.int .i64 (D : Nat))) := by
    refine callsDIn_of_wp (R := fun e w' => (∃ v, e = .returned v) ∧ w' = w.setCell ⟨rb, 0, none⟩ (.int .i64 (D : Nat))) Tryz.func247 rfl trivial ?_ rfl
    simp only [Tryz.ntmps247, List.size_toArray, List.length_cons, List.length_nil, Nat.reduceAdd, Nat.reduceSub, Array.replicate_succ, Array.replicate_zero, List.push_toArray, List.append_toArray, List.nil_append, List.cons_append]
    gi_wp2
    go_end0
    exact ⟨⟨_, rfl⟩, rfl⟩
  exact H.mono fun e u' w' ⟨h1, h2, h3⟩ => ⟨h2, h1, h3⟩

structure Fr (w3 : World) (E : Nat → Prop) (W : World) : Prop where
  os : W.os = w3.os
  tape : W.tape = w3.tape
  output : W.output = w3.output
  size : w3.heap.size ≤ W.heap.size
  block : ∀ b, b < w3.heap.size → ¬ E b → W.heap[b]? = w3.heap[b]?
theorem Fr.grown {w3 W W' : World} {E : Nat → Prop} (h : Fr w3 E W) {row : Option Nat} (hg : W.grownBy W' row) (hr : ∀ r, row = some r → w3.heap.size ≤ r) : Fr w3 E W' :=
  ⟨hg.os.trans h.os, hg.tape.trans h.tape, hg.output.trans h.output, Nat.le_trans h.size hg.size, fun b hb hne => (hg.block b (Nat.lt_of_lt_of_le hb h.size) (fun e => by have := hr b e.symm; omega)).trans (h.block b hb hne)⟩
theorem Fr.set {w3 W : World} {E : Nat → Prop} (h : Fr w3 E W) (a : Addr) (u : Value) (ha : E a.block) : Fr w3 E (W.setCell a u) :=
  ⟨h.os, h.tape, h.output, by simpa [World.setCell] using h.size, fun b hb hne => (Below.heap_setCell _ _ _ _ (fun e => hne (by rw [e]; exact ha))).trans (h.block b hb hne)⟩
theorem Fr.wider {w3 W : World} {E E' : Nat → Prop} (h : Fr w3 E W) (hE : ∀ b, E b → E' b) : Fr w3 E' W := ⟨h.os, h.tape, h.output, h.size, fun b hb hne => h.block b hb (fun e => hne (hE b e))⟩
theorem ItRow.cells {B : Nat} {w : World} {L : List (M.It × Value)} {v : Value} (h : ItRow B w L v) {k : Nat} (hk : v.ownBlock = some k) : ∃ o : Obj, w.heap[k]? = some o ∧ o.isCells = true := by
  rcases h.own.2 with ⟨h0, _⟩ | ⟨g, cap, cur, hv, hB, hg, _⟩
  · rw [h0] at hk; cases hk
  · rw [hv] at hk; cases hk; exact ⟨_, hg, rfl⟩
def LI (w3 : World) (bl : Nat) (pre : List El) (W : World) : Prop := ∃ v, Boxed W bl 42 v ∧ ItRow w3.heap.size W (pre.map (·.1)) v ∧ Fr w3 (fun b => b = bl) W
theorem boxed_kept {W W' : World} {b : Nat} {t : TypeId} {v : Value} (h : Boxed W b t v) {row : Option Nat} (hg : W.grownBy W' row) (hr : ∀ r, row = some r → ∃ o : Obj, W.heap[r]? = some o ∧ o.isCells = false) : Boxed W' b t v :=
  (hg.block b h.lt (fun e => by
    obtain ⟨o, ho, hc⟩ := hr b e.symm
    rw [show W.heap[b]? = _ from h] at ho
    cases ho
    cases hc)).trans h
theorem LI_own {w3 : World} {bl : Nat} : OwnFrom w3.heap.size (LI w3 bl) := fun _pre _W _W' _row ⟨v, hv, hr, hf⟩ hg hrow =>
  ⟨v, boxed_kept hv hg (fun r e => (hrow r e).2), hr.kept hg (fun r e => (hrow r e).2), hf.grown hg (fun r e => (hrow r e).1)⟩

def LX (w3 : World) (bn be bl : Nat) (x : El) (W : World) : Prop := Boxed W bn 42 (.slice none 0 0) ∧ Boxed W be 28 (.int .i64 (x.2 : Nat)) ∧ Fr w3 (fun b => b = bl ∨ b = be ∨ b = bn) W
theorem LX_own {w3 : World} {bn be bl : Nat} : OwnFrom w3.heap.size (LX w3 bn be bl) := fun _x _W _W' _row ⟨h1, h2, hf⟩ hg hrow =>
  ⟨boxed_kept h1 hg (fun r e => (hrow r e).2), boxed_kept h2 hg (fun r e => (hrow r e).2), hf.grown hg (fun r e => (hrow r e).1)⟩
def LAx (w3 : World) (bl : Nat) (A1 : Nat → Value → Nat → Act) (pre : List El) (x : El) (a' : Act) (B : World) : Prop :=
  ∃ (v : Value) (bx : Nat) (l : Bool) (d : List UInt8) (ys : List M.It) (u : Value), x.1 = (.mk l d ys, u) ∧ pre.length ≤ 512 ∧ a' = A1 bx (iv l d u) x.2 ∧ Boxed B bl 42 v ∧ ItRow w3.heap.size B (pre.map (·.1)) v ∧ Fr w3 (fun b => b = bl) B ∧ Box B bx l d u ∧ w3.heap.size ≤ bx ∧ bx < B.heap.size ∧ some bx ≠ v.ownBlock ∧ u.oneCell' = true ∧
    LayS B (fun b => w3.heap.size ≤ b ∧ b < B.heap.size ∧ some b ≠ v.ownBlock) ys u
theorem LAx_own {w3 : World} {bl : Nat} {A1 : Nat → Value → Nat → Act} (pre : List El) (x : El) (a' : Act) : OwnFrom w3.heap.size fun (_ : Unit) B => LAx w3 bl A1 pre x a' B := by
  rintro _ W W' row ⟨v, bx, l, d, ys, u, hx, hp, ha, hv, hr, hf, hb, h1, h2, h3, h4, hk⟩ hg hrow
  have hr' : ∀ r, row = some r → ∃ o : Obj, W.heap[r]? = some o ∧ o.isCells = false := fun r e => (hrow r e).2
  exact ⟨v, bx, l, d, ys, u, hx, hp, ha, boxed_kept hv hg hr', hr.kept hg hr', hf.grown hg (fun r e => (hrow r e).1), ⟨cell_kept hb.c0 hg hr', cell_kept hb.c1 hg hr', cell_kept hb.c2 hg hr'⟩, h1, Nat.lt_of_lt_of_le h2 hg.size, h3, h4,
    (hk.kept hg hr').wider fun b ⟨k1, k2, k3⟩ => ⟨k1, Nat.lt_of_lt_of_le k2 hg.size, k3⟩⟩

theorem results_cells {fn : Func} {p q : Tmp} {ty tz : TypeId} (h : fn.results = #[.cell p ty, .cell q tz]) (tmps : Array Value) (P : Program) (w : World) (a b : Addr) (u v : Value) (hp : tmps.getD p undef = .pointer (some a)) (hq : tmps.getD q undef = .pointer (some b))
    (hu : (loadVar ty a).run P w = .ok u w) (hv : (loadVar tz b).run P w = .ok v w) : (results fn tmps).run P w = .ok (.tuple #[u, v]) w := by
  have hp' : tmps[p]?.getD undef = .pointer (some a) := by simpa using hp
  have hq' : tmps[q]?.getD undef = .pointer (some b) := by simpa using hq
  simp [results, h, hp', hq', Sem.run_bind, Result.andThen, asAddr, hu, hv]

set_option maxRecDepth 100000 in
set_option maxHeartbeats 8000000 in
theorem leave_list (w w3 X : World) (rb Dd D : Nat) (u : Value) (q : Nat) (tmps : Array Value) (a : Option Addr) (n cap : Nat) (hu : u = .slice a n cap) (hz3 : w3.heap.size = w.heap.size + 7) (hlt : rb < w.heap.size) (hD : D < 12) (hDd : w3.heap.size ≤ Dd) (hK : X.heap[Dd]? = some (.deferred (some [])))
    (hXn : Boxed X (w.heap.size + 1) 42 u) (hXe : Boxed X (w.heap.size + 2) 28 (.int .i64 (q : Nat))) (hXf : Fr w3 (fun b => b = w.heap.size + 3 ∨ b = w.heap.size + 2 ∨ b = w.heap.size + 1) X)
    (hP3 : Boxed w3 w.heap.size 139 (.pointer (some ⟨rb, 0, none⟩))) (hR3 : Boxed w3 rb 141 (.int .i64 ((D + 1 : Nat) : Int))) (hR : Boxed w rb 141 (.int .i64 D))
    (hback : w3.os = w.os ∧ w3.tape = w.tape ∧ w3.output = w.output ∧ ∀ b, b < w.heap.size → b ≠ rb → w3.heap[b]? = w.heap[b]?)
    (h6 : tmps.getD 6 undef = .pointer (some ⟨w.heap.size + 1, 0, none⟩)) (h7 : tmps.getD 7 undef = .pointer (some ⟨w.heap.size + 2, 0, none⟩)) (R : Ending → World → Prop)
    (hend : ∀ Z : World, Below w.heap.size w Z → X.heap.size = Z.heap.size → (∀ S xs v, LayS X S xs v → (∀ b, S b → b ≠ rb) → LayS Z S xs v) → R (.returned (.tuple #[u, .int .i64 (q : Nat)])) Z) :
    LeavesInM Fence.wide 3 Tryz.prog Tryz.f178 tmps R [{ target := .collected Dd, args := #[] }, { target := .fn (.func 247) #[.pointer (some ⟨w.heap.size, 0, none⟩)], args := #[] }] .returning X := by
  have hDlt : Dd < X.heap.size := (Array.getElem?_eq_some_iff.1 hK).1
  have hsz := hXf.size
  refine ⟨by simp, .inl ⟨_, _, rfl, run_takeDeferred hK, ?_⟩⟩
  obtain ⟨Y, hY⟩ : ∃ Y, Y = X.putObj Dd (.deferred none) := ⟨_, rfl⟩
  have hYo : ∀ b, b ≠ Dd → Y.heap[b]? = X.heap[b]? := fun b hb => by rw [hY]; exact World.putObj_heap_other hb
  have hYz : Y.heap.size = X.heap.size := by rw [hY]; simp [World.putObj]
  have hP : Boxed Y w.heap.size 139 (.pointer (some ⟨rb, 0, none⟩)) := ((hYo _ (by omega)).trans (hXf.block _ (by omega) (by omega))).trans hP3
  have hRY : Boxed Y rb 141 (.int .i64 ((D + 1 : Nat) : Int)) := ((hYo _ (by omega)).trans (hXf.block _ (by omega) (by omega))).trans hR3
  have ho : Y.os = X.os ∧ Y.tape = X.tape ∧ Y.output = X.output := by rw [hY]; exact ⟨rfl, rfl, rfl⟩
  have hYl : ∀ S xs v, LayS X S xs v → LayS Y S xs v := fun S xs v h => h.kept (row := some Dd) (by rw [hY]; exact grownBy_putObj' _ _ _) (fun r e => by cases e; exact ⟨_, hK, rfl⟩)
  show LeavesInM _ _ _ _ _ _ _ _ (X.putObj Dd (.deferred none))
  rw [← hY]
  clear hY
  refine ⟨by simp, .inr ⟨fun h => (by cases h), _, _, 247, #[.pointer (some ⟨w.heap.size, 0, none⟩)], rfl, ?_, fun _ _ => trivial, ?_⟩⟩
  · have eg := enters_of Tryz.func247 (by kernel_rfl) rfl
    simp [invoke, go_sem]
  · refine (less_d w.heap.size rb D Y hD hP.cell hRY.cell hRY.frozen _).mono ?_
    rintro e u' Z ⟨⟨v, rfl⟩, rfl, hZ⟩
    have hZo : ∀ b, b ≠ rb → Z.heap[b]? = Y.heap[b]? := fun b hb => by rw [hZ]; exact Below.heap_setCell _ _ _ _ (by simpa using hb)
    have hZn : Boxed Z (w.heap.size + 1) 42 u := ((hZo _ (by omega)).trans (hYo _ (by omega))).trans hXn
    have hZe : Boxed Z (w.heap.size + 2) 28 (.int .i64 (q : Nat)) := ((hZo _ (by omega)).trans (hYo _ (by omega))).trans hXe
    have hZr : Boxed Z rb 141 (.int .i64 (D : Nat)) := by rw [hZ]; exact hRY.set _
    have hZz : Z.heap.size = X.heap.size := by rw [← hYz, hZ]; simp [World.setCell]
    have hZB : Below w.heap.size w Z := by
      obtain ⟨b1, b2, b3, b4⟩ := hback
      have hzo : Z.os = Y.os ∧ Z.tape = Y.tape ∧ Z.output = Y.output := by rw [hZ]; exact ⟨rfl, rfl, rfl⟩
      refine ⟨hzo.1.trans (ho.1.trans (hXf.os.trans b1)), hzo.2.1.trans (ho.2.1.trans (hXf.tape.trans b2)), hzo.2.2.trans (ho.2.2.trans (hXf.output.trans b3)), by omega, fun b hb => ?_⟩
      by_cases hbr : b = rb
      · subst hbr
        exact (show _ = _ from hZr).trans (show _ = _ from hR).symm
      · exact (hZo b hbr).trans ((hYo b (by omega)).trans ((hXf.block b (by omega) (by omega)).trans (b4 b hb hbr)))
    have hZl : ∀ S xs v, LayS X S xs v → (∀ b, S b → b ≠ rb) → LayS Z S xs v := fun S xs v h hS => (hYl S xs v h).keep fun b hb => ⟨hb, hZo b (hS b hb)⟩
    clear hZ
    have hcn := hZn.cell
    have hce := hZe.cell
    show LeavesInM _ _ _ _ _ _ [] _ _
    refine ⟨_, results_cells rfl _ _ _ ⟨w.heap.size + 1, 0, none⟩ ⟨w.heap.size + 2, 0, none⟩ u (.int .i64 (q : Nat)) h6 h7 ?_ ?_, hend _ hZB hZz.symm hZl⟩
    · subst hu
      go_simp
    · go_simp

set_option maxRecDepth 100000 in
set_option maxHeartbeats 8000000 in
theorem list_c (n : Nat) (hread : ∀ j, j < n → ItemC j) : ListC n := by
  intro s k D rb w hs hk hn hD hR
  have hro : Fence.wide.round = none := rfl
  have hcr := hR.cell
  have hfr := hR.frozen
  have hlt := hR.lt
  have hw : wrap64 (((D : Nat) : Int) + 1) = ((D + 1 : Nat) : Int) := by unfold wrap64; omega
  have hmf : ∀ (fn : Fn) (first cap : Array Value) (w : World), (Instr.makeFunc fn first cap).run Tryz.prog w = .ok (.func fn first cap) w := fun _ _ _ _ => rfl
  obtain ⟨w0, hw0⟩ : ∃ w0, ((w.alloc (.cells #[.pointer (some ⟨rb, 0, none⟩)] 139)).alloc (.cells #[.slice none 0 0] 42)).alloc (.cells #[.int .i64 0] 28) = w0 := ⟨_, rfl⟩
  have hb0 : Below w.heap.size w w0 := by rw [← hw0]; (repeat (first | exact Below.refl _ _ | refine Below.drew ?_ | refine Below.alloc ?_ (by first | omega | (simp; omega) | simp) _ | refine Below.setCell ?_ (by first | omega | (simp; omega) | simp) _))
  have hz0 : w0.heap.size = w.heap.size + 3 := by rw [← hw0]; simp
  have hR0 : Boxed w0 rb 141 (.int .i64 D) := (hb0.block rb hlt).trans hR
  have hP0 : Boxed w0 w.heap.size 139 (.pointer (some ⟨rb, 0, none⟩)) := by rw [← hw0]; exact ((Boxed.new w _ _).alloc _).alloc _
  have hN0 : Boxed w0 (w.heap.size + 1) 42 (.slice none 0 0) := by
    rw [← hw0]
    have := Boxed.new (w.alloc (.cells #[.pointer (some ⟨rb, 0, none⟩)] 139)) 42 (.slice none 0 0)
    rw [World.size_alloc] at this
    exact this.alloc _
  have hE0 : Boxed w0 (w.heap.size + 2) 28 (.int .i64 0) := by
    rw [← hw0]
    have := Boxed.new ((w.alloc (.cells #[.pointer (some ⟨rb, 0, none⟩)] 139)).alloc (.cells #[.slice none 0 0] 42)) 28 (.int .i64 0)
    rw [World.size_alloc, World.size_alloc] at this
    exact this
  obtain ⟨w1, hw1⟩ : ∃ w1, w0.setCell ⟨rb, 0, none⟩ (.int .i64 ((D + 1 : Nat) : Int)) = w1 := ⟨_, rfl⟩
  have hz1 : w1.heap.size = w0.heap.size := by rw [← hw1]; simp [World.setCell]
  have hbk1 : ∀ b, b ≠ rb → w1.heap[b]? = w0.heap[b]? := fun b hb => by rw [← hw1]; exact Below.heap_setCell _ _ _ _ (by simpa using hb)
  have hR1 : Boxed w1 rb 141 (.int .i64 ((D + 1 : Nat) : Int)) := by rw [← hw1]; exact hR0.set _
  have hP1 : Boxed w1 w.heap.size 139 (.pointer (some ⟨rb, 0, none⟩)) := (hbk1 _ (by omega)).trans hP0
  have hN1 : Boxed w1 (w.heap.size + 1) 42 (.slice none 0 0) := (hbk1 _ (by omega)).trans hN0
  have hE1 : Boxed w1 (w.heap.size + 2) 28 (.int .i64 0) := (hbk1 _ (by omega)).trans hE0
  have c0 := hR0.cell
  have f0 := hR0.frozen
  have p0 := hP0.cell
  have p1 := hP1.cell
  have hnow : ∀ W : World, W.setCell ⟨rb, 0, none⟩ (.int .i64 ((D : Int) + 1)) = W.setCell ⟨rb, 0, none⟩ (.int .i64 ((D + 1 : Nat) : Int)) := fun W => rfl
  refine (callsIn_wide (n := 3)).1 ?_
  refine callsIn_of_wp_marks Tryz.func178 rfl trivial ?_ rfl
  simp only [Tryz.ntmps178, List.size_toArray, List.length_cons, List.length_nil, Nat.reduceAdd, Nat.reduceSub, Array.replicate_succ, Array.replicate_zero, List.push_toArray, List.append_toArray, List.nil_append, List.cons_append]
  gi_wp2
  rw [hw1]
  refine ⟨trivial, (items_in _ s k _ rfl _).mono ?_⟩
  rintro e w3 ⟨rfl, hw3⟩
  have hz2 : (w1.alloc (.cells #[.slice none 0 0] 42)).heap.size = w.heap.size + 4 := by rw [World.size_alloc]; omega
  rw [hz2]
  have hb3 : Below w1.heap.size w1 w3 := by rw [hw3]; exact ((((Below.refl _ w1).alloc (Nat.le_refl _) _).alloc (by simp) _).alloc (by simp; omega) _).alloc (by simp; omega) _
  have hz3 : w3.heap.size = w.heap.size + 7 := by rw [hw3]; simp; omega
  have hR3 : Boxed w3 rb 141 (.int .i64 ((D + 1 : Nat) : Int)) := (hb3.block rb (by omega)).trans hR1
  have hP3 : Boxed w3 w.heap.size 139 (.pointer (some ⟨rb, 0, none⟩)) := (hb3.block _ (by omega)).trans hP1
  have hN3 : Boxed w3 (w.heap.size + 1) 42 (.slice none 0 0) := (hb3.block _ (by omega)).trans hN1
  have hE3 : Boxed w3 (w.heap.size + 2) 28 (.int .i64 0) := (hb3.block _ (by omega)).trans hE1
  have hL3 : Boxed w3 (w.heap.size + 3) 42 (.slice none 0 0) := by
    rw [hw3]
    have := Boxed.new w1 42 (.slice none 0 0)
    rw [show w1.heap.size = w.heap.size + 3 by omega] at this
    exact ((this.alloc _).alloc _).alloc _
  have hS3 : Boxed w3 (w.heap.size + 4) 9 (.string ⟨s.toArray⟩) := by
    rw [hw3]
    have := Boxed.new (w1.alloc (.cells #[.slice none 0 0] 42)) 9 (.string ⟨s.toArray⟩)
    rw [hz2] at this
    exact (this.alloc _).alloc _
  have hA3 : Boxed w3 (w.heap.size + 5) 3 (.int .i64 k) := by
    rw [hw3]
    have := Boxed.new ((w1.alloc (.cells #[.slice none 0 0] 42)).alloc (.cells #[.string ⟨s.toArray⟩] 9)) 3 (.int .i64 k)
    rw [World.size_alloc, hz2] at this
    exact this.alloc _
  have hF3 : Boxed w3 (w.heap.size + 6) 142 (.func (.func 98) #[.pointer (some ⟨rb, 0, none⟩)] #[]) := by
    rw [hw3]
    have := Boxed.new (((w1.alloc (.cells #[.slice none 0 0] 42)).alloc (.cells #[.string ⟨s.toArray⟩] 9)).alloc (.cells #[.int .i64 k] 3)) 142 (.func (.func 98) #[.pointer (some ⟨rb, 0, none⟩)] #[])
    rw [World.size_alloc, World.size_alloc, hz2] at this
    exact this
  clear hw3
  have hback : w3.os = w.os ∧ w3.tape = w.tape ∧ w3.output = w.output ∧ ∀ b, b < w.heap.size → b ≠ rb → w3.heap[b]? = w.heap[b]? := by
    have h1 : w1.os = w0.os ∧ w1.tape = w0.tape ∧ w1.output = w0.output := by rw [← hw1]; exact ⟨rfl, rfl, rfl⟩
    exact ⟨hb3.os.trans (h1.1.trans hb0.os), hb3.tape.trans (h1.2.1.trans hb0.tape), hb3.output.trans (h1.2.2.trans hb0.output), fun b h2 h3 => (hb3.block b (by omega)).trans ((hbk1 b h3).trans (hb0.block b h2))⟩
  gi_wp2
  obtain ⟨A1, hA1⟩ : ∃ A1 : Nat → Value → Nat → Act, A1 = fun bx y e => { tmps := #[.pointer (some ⟨rb, 0, none⟩), .string ⟨s.toArray⟩, .int .i64 k, .pointer (some ⟨w.heap.size, 0, none⟩), undef, undef, .pointer (some ⟨w.heap.size + 1, 0, none⟩), .pointer (some ⟨w.heap.size + 1 + 1, 0, none⟩), .pointer (some ⟨w.heap.size + 3, 0, none⟩), .pointer (some ⟨bx, 0, none⟩), .int .i64 (e : Nat),
    .pointer (some ⟨rb, 0, none⟩), .pointer (some ⟨rb, 0, none⟩), .pointer (some ⟨rb, 0, none⟩), .int .i64 D, .int .i64 ((D : Int) + 1), .pointer (some ⟨rb, 0, none⟩), .pointer (some ⟨rb, 0, none⟩), .func (.func 247) #[] #[.pointer (some ⟨w.heap.size, 0, none⟩)], .string ⟨s.toArray⟩, .int .i64 k, .pointer (some ⟨rb, 0, none⟩), .func (.func 98) #[.pointer (some ⟨rb, 0, none⟩)] #[],
    .func (.func 269) #[] #[.pointer (some ⟨w.heap.size + 4 + 1, 0, none⟩), .pointer (some ⟨w.heap.size + 4, 0, none⟩), .pointer (some ⟨w.heap.size + 4 + 2, 0, none⟩)], y, .int .i64 (e : Nat), undef, undef, undef, undef, undef, undef, undef, undef, undef, undef], defers := [] } := ⟨_, rfl⟩
  refine range_lv (gf := 269) (lb := #[.pointer (some ⟨w.heap.size + 5, 0, none⟩), .pointer (some ⟨w.heap.size + 4, 0, none⟩), .pointer (some ⟨w.heap.size + 6, 0, none⟩)]) (by omega) rfl (enters_of Tryz.func269 (by kernel_rfl) rfl)
    (encs := encE) (fun x => by obtain ⟨⟨⟨l, d, ys⟩, u⟩, e⟩ := x; rfl) (LI w3 (w.heap.size + 3)) (LI_own) (LX w3 (w.heap.size + 1) (w.heap.size + 2) (w.heap.size + 3)) (LX_own)
    (fun b => b < w.heap.size + 7 ∧ b ≠ w.heap.size + 3) (fun b hb => by omega) (fun xs => M.itemsT n (s.drop k) (D + 1) 0 = (xs.map (·.1.1), 0)) (fun x => x.2 ≠ 0 ∧ M.itemsT n (s.drop k) (D + 1) 0 = ([], x.2)) (fun x => x.2 = 0)
    (fun pre x A B => pre.length ≤ 512 ∧ Fresh A.heap.size B (kids x.1.1) x.1.2) ?seq ?zero (LAx w3 (w.heap.size + 3) A1) LAx_own ?assign ?body ?done ?stop
  case seq =>
    intro l J Jx W hzW hTW hJ hY h0
    have tb : ∀ {b t v}, b < w.heap.size + 7 → b ≠ w.heap.size + 3 → Boxed w3 b t v → Boxed W b t v := fun h1 h2 h => (hTW _ ⟨h1, h2⟩).trans h
    exact seq_in n (3 - 1) l hread s k (D + 1) rb (w.heap.size + 5) (w.heap.size + 4) (w.heap.size + 6) hs hk hn (by omega) J Jx (fun b => b < w.heap.size + 7 ∧ b ≠ w.heap.size + 3) (by omega) (by omega) (by omega) (by omega) W
      ⟨tb (by omega) (by omega) hA3, tb (by omega) (by omega) hS3, tb (by omega) (by omega) hF3, tb (by omega) (by omega) hR3⟩ hJ hY h0
  case zero => exact ⟨_, hL3, ItRow.nil _ _, ⟨rfl, rfl, rfl, Nat.le_refl _, fun _ _ _ => rfl⟩⟩
  case assign =>
    rintro l pre ⟨⟨⟨l', d, ys⟩, u⟩, er⟩ A B K ⟨v, hv, hrow, hf⟩ hg ⟨hp, hfresh⟩ hK
    replace hfresh : Fresh A.heap.size B ys u := hfresh
    replace hp : pre.length ≤ 512 := hp
    obtain ⟨ua, uc, hue⟩ := hfresh.slice
    subst hue
    dsimp only [encE, iv]
    have hAB : Below A.heap.size A B := ⟨hg.os, hg.tape, hg.output, hg.size, fun k hk => hg.block k hk (by simp)⟩
    have hAB1 : Below A.heap.size A (B.alloc (.cells #[.bool l', .string ⟨d.toArray⟩, .slice ua ys.length uc] 44)) := hAB.alloc hg.size _
    have hsA := hf.size
    have hAz := hg.size
    have hone : (.slice ua ys.length uc : Value).oneCell' = true := rfl
    have hAX : LAx w3 (w.heap.size + 3) A1 pre ((M.It.mk l' d ys, .slice ua ys.length uc), er) (A1 B.heap.size (iv l' d (.slice ua ys.length uc)) er) (B.alloc (.cells #[.bool l', .string ⟨d.toArray⟩, .slice ua ys.length uc] 44)) :=
      ⟨v, B.heap.size, l', d, ys, .slice ua ys.length uc, rfl, hp, rfl, (hAB1.block _ hv.lt).trans hv, hrow.from_ hAB1, hf.grown (row := none) ⟨hAB1.os, hAB1.tape, hAB1.output, hAB1.size, fun k hk _ => hAB1.block k hk⟩ (fun r e => by cases e),
        Box.new B l' d (.slice ua ys.length uc) _, by omega, by simp, fun e => by have := (World.ownsRow.lt hrow.own _ e.symm).2; omega, rfl, hrow.other hsA (hfresh.from_ ((Below.refl _ B).alloc (Nat.le_refl _) _))⟩
    rw [hA1] at hAX
    gi_wp2
    refine hK _ _ ((KeepsOthers.alloc B _).from _) (fun b hb => Below.heap_alloc _ _ _ (by omega)) ?_
    rw [hA1]
    exact hAX
  case body =>
    rintro l pre ⟨⟨⟨l0, d0, ys0⟩, u0⟩, er⟩ a' B ⟨v, bx, l', d, ys, u, hx, hp, rfl, hv, hrow, hf, hb, hb1, hb2, hb3, hu, hk'⟩
    cases hx
    rw [hA1]
    dsimp only [iv]
    have hbn : Boxed B (w.heap.size + 1) 42 (.slice none 0 0) := (hf.block _ (by omega) (by omega)).trans hN3
    have hbe : Boxed B (w.heap.size + 2) 28 (.int .i64 0) := (hf.block _ (by omega) (by omega)).trans hE3
    have hsz := hf.size
    by_cases he : er = 0
    · subst he
      have HR := Lib.hid (list_reg l 1 (w.heap.size + 3) bx w3.heap.size (pre.map (·.1)) v l0 d0 ys0 u0 B)
      gi_wp2
      refine wpIn_mono' (HR.out _ _ _ _ _ _ _ _ _ _ _ _ _ _ _ _ _ _ _ _ _ _ _ _ _ _ _ _ _ _ _ _ _ _ _ (by kernel_rfl) hv hb hrow (by omega) hf.size hb2 hb3 (by omega) (by simp; omega) hu hk') ?_
      rintro b U ⟨v', hbox, hrow', ho, ht, hou, hsz', hbl⟩
      gi_wp2
      have hbl' : ∀ c, c < B.heap.size → c ≠ w.heap.size + 3 → (w3.heap.size ≤ c → ∃ o, B.heap[c]? = some o ∧ o.isCells = false) → U.heap[c]? = B.heap[c]? := fun c h1 h2 h3 => hbl c h1 h2 fun e => by
        have h4 := (World.ownsRow.lt hrow.own c e.symm).1
        obtain ⟨o, ho, hc⟩ := h3 h4
        obtain ⟨o', ho', hc'⟩ := hrow.cells e.symm
        rw [ho] at ho'
        cases ho'
        rw [hc] at hc'
        cases hc'
      exact ⟨rfl, ⟨hsz', fun c o h1 h2 h3 => (hbl' c (Array.getElem?_eq_some_iff.1 h2).1 (by omega) (fun _ => ⟨o, h2, h3⟩)).trans h2⟩, fun c hc => hbl' c (by omega) hc.2 (fun h => by omega),
        v', hbox, by simpa using hrow', ⟨ho.trans hf.os, ht.trans hf.tape, hou.trans hf.output, by omega, fun c h1 h2 => (hbl' c (by omega) h2 (fun h => by omega)).trans (hf.block c h1 h2)⟩⟩
    · have he' : (((er : Nat) : Int) != 0) = true := by simp; omega
      have cn := hbn.cell
      have fn := hbn.frozen
      have ce := hbe.cell
      have fe := hbe.frozen
      gi_wp2
      refine ⟨fun h => he h, ((KeepsOthers.setCell _ _ _).trans (KeepsOthers.setCell _ _ _)).from _, (hbn.set _).other (by omega) _, (hbe.other (by omega) _).set _, ((hf.wider fun b h => .inl h).set _ _ (.inr (.inr rfl))).set _ _ (.inr (.inl rfl))⟩
  case done =>
    rintro Dd xs W hDd hxs ⟨v, hv, hrow, hf⟩ hK
    have hsz := hf.size
    have hbn : Boxed W (w.heap.size + 1) 42 (.slice none 0 0) := (hf.block _ (by omega) (by omega)).trans hN3
    have hbe : Boxed W (w.heap.size + 2) 28 (.int .i64 0) := (hf.block _ (by omega) (by omega)).trans hE3
    have hbp : Boxed W w.heap.size 139 (.pointer (some ⟨rb, 0, none⟩)) := (hf.block _ (by omega) (by omega)).trans hP3
    have hbr : Boxed W rb 141 (.int .i64 ((D + 1 : Nat) : Int)) := (hf.block _ (by omega) (by omega)).trans hR3
    obtain ⟨va, vc, hve⟩ := hrow.slice
    subst hve
    have cv := hv.cell
    have cn := hbn.cell
    have fn := hbn.frozen
    have ce := hbe.cell
    have fe := hbe.frozen
    have hbe1 : Boxed (W.setCell ⟨w.heap.size + 1, 0, none⟩ (.slice va xs.length vc)) (w.heap.size + 2) 28 (.int .i64 0) := hbe.other (by omega) _
    obtain ⟨X, hX⟩ : ∃ X, X = (W.setCell ⟨w.heap.size + 1, 0, none⟩ (.slice va xs.length vc)).setCell ⟨w.heap.size + 1 + 1, 0, none⟩ (.int .i64 0) := ⟨_, rfl⟩
    have hXo : ∀ b, b ≠ w.heap.size + 1 → b ≠ w.heap.size + 2 → X.heap[b]? = W.heap[b]? := fun b h1 h2 => by
      rw [hX]
      exact (Below.heap_setCell _ _ _ _ (by simpa using h2)).trans (Below.heap_setCell _ _ _ _ (by simpa using h1))
    have hXz : X.heap.size = W.heap.size := by rw [hX]; simp [World.setCell]
    have hXn : Boxed X (w.heap.size + 1) 42 (.slice va xs.length vc) := by rw [hX]; exact (hbn.set _).other (by omega) _
    have hXe : Boxed X (w.heap.size + 2) 28 (.int .i64 0) := by rw [hX]; exact hbe1.set _
    have hXf : Fr w3 (fun b => b = w.heap.size + 3 ∨ b = w.heap.size + 2 ∨ b = w.heap.size + 1) X := by rw [hX]; exact ((hf.wider fun b h => .inl h).set _ _ (.inr (.inr rfl))).set _ _ (.inr (.inl rfl))
    have hXr : LayS X (fun b => w3.heap.size ≤ b ∧ b < W.heap.size) (xs.map (·.1.1)) (.slice va xs.length vc) := by
      have h1 := hrow.fresh
      simp only [List.map_map, List.length_map] at h1
      exact h1.keep fun b ⟨h2, h3⟩ => ⟨⟨h2, h3⟩, hXo b (by omega) (by omega)⟩
    have hKX : X.heap[Dd]? = some (.deferred (some [])) := (hXo Dd (by omega) (by omega)).trans hK
    have hDlt : Dd < X.heap.size := (Array.getElem?_eq_some_iff.1 hKX).1
    have hres : (xs.map (·.1.1)).length = xs.length := List.length_map _
    gi_wp2
    rw [← hX]
    refine leave_list w w3 X rb Dd D (.slice va xs.length vc) 0 _ va xs.length vc rfl hz3 hlt hD hDd hKX hXn hXe hXf hP3 hR3 hR hback rfl rfl _ ?_
    intro Z hB hz hl
    refine ⟨va, vc, rfl, ?_, hB⟩
    have h2 := hl _ _ _ hXr (fun b hb => by omega)
    exact h2.wider fun b hb => by omega
  case stop =>
    rintro Dd x W hDd ⟨hx0, hxi⟩ ⟨hXn, hXe, hXf⟩ hK
    gi_wp2
    refine leave_list w w3 W rb Dd D (.slice none 0 0) x.2 _ none 0 0 rfl hz3 hlt hD hDd hK hXn hXe hXf hP3 hR3 hR hback rfl rfl _ ?_
    intro Z hB hz hl
    exact ⟨none, 0, rfl, Fresh.nil _ _ _, hB⟩
end Go.Proofs.YtebjhbeaknokkaaGreatDoor
namespace Go.Proofs.YtebjhbeaknokkaaGreatDoor
open Go Go.RowKit Go.Shelf

theorem results_cell_two {fn : Func} {p q r : Tmp} {ty : TypeId} (h : fn.results = #[.cell p ty, .tmp q, .tmp r]) (tmps : Array Value) (P : Program) (w : World) (a : Addr) (u : Value) (hp : tmps.getD p undef = .pointer (some a))
    (hu : (loadVar ty a).run P w = .ok u w) : (results fn tmps).run P w = .ok (.tuple #[u, tmps.getD q undef, tmps.getD r undef]) w := by
  have hp' : tmps[p]?.getD undef = .pointer (some a) := by simpa using hp
  simp [results, h, hp', Result.andThen, asAddr, hu]

theorem take_own (s : List UInt8) (k o m : Nat) : ((s.take (k + o + m)).drop (k + o)) = ((s.drop k).drop o).take m := by
  rw [List.drop_take, List.drop_drop, show k + o + m - (k + o) = m by omega]

theorem item_end (w w1 : World) (tmps : Array Value) (l : Bool) (d : List UInt8) (xs : List M.It) (a : Option Addr) (cap pl er : Nat) (hB : Below w.heap.size w w1) (o0 : Value) (o1 : Value) (o2 : Value)
    (hrow : w1.heap[w.heap.size]? = some (.cells #[o0, o1, o2] 44 (0, 0))) (hF : LayS w1 (fun b => w.heap.size < b ∧ b < w1.heap.size) xs (.slice a xs.length cap))
    (h6 : tmps.getD 6 undef = .pointer (some ⟨w.heap.size, 0, none⟩)) (h7 : tmps.getD 7 undef = .int .i64 (pl : Nat)) (h8 : tmps.getD 8 undef = .int .i64 (er : Nat)) :
    (results Tryz.f98 tmps).run Tryz.prog (w1.setRow w.heap.size #[.bool l, .string ⟨d.toArray⟩, .slice a xs.length cap]) = .ok (.tuple #[iv l d (.slice a xs.length cap), .int .i64 (pl : Nat), .int .i64 (er : Nat)]) (w1.setRow w.heap.size #[.bool l, .string ⟨d.toArray⟩, .slice a xs.length cap]) ∧
      Fresh w.heap.size (w1.setRow w.heap.size #[.bool l, .string ⟨d.toArray⟩, .slice a xs.length cap]) xs (.slice a xs.length cap) ∧ Below w.heap.size w (w1.setRow w.heap.size #[.bool l, .string ⟨d.toArray⟩, .slice a xs.length cap]) := by
  have hg : (w1.setRow w.heap.size #[.bool l, .string ⟨d.toArray⟩, .slice a xs.length cap]).heap[w.heap.size]? = some (.cells #[.bool l, .string ⟨d.toArray⟩, .slice a xs.length cap] 44 (0, 0)) := setRow_heap _ _ _ _ _ (0, 0) hrow
  have hz : (w1.setRow w.heap.size #[.bool l, .string ⟨d.toArray⟩, .slice a xs.length cap]).heap.size = w1.heap.size := by simp
  have ho : ∀ b, b ≠ w.heap.size → (w1.setRow w.heap.size #[.bool l, .string ⟨d.toArray⟩, .slice a xs.length cap]).heap[b]? = w1.heap[b]? := fun b hb => setRow_other _ _ _ _ (fun e => hb (by simpa using e))
  have hb2 : Below w.heap.size w1 (w1.setRow w.heap.size #[.bool l, .string ⟨d.toArray⟩, .slice a xs.length cap]) := ⟨rfl, rfl, rfl, by omega, fun b hb => ho b (by omega)⟩
  refine ⟨?_, hF.keep fun b ⟨h1, h2⟩ => ⟨⟨by omega, by omega⟩, ho b (by omega)⟩, hB.trans hb2⟩
  have := results_cell_two (fn := Tryz.f98) rfl tmps Tryz.prog (w1.setRow w.heap.size #[.bool l, .string ⟨d.toArray⟩, .slice a xs.length cap]) ⟨w.heap.size, 0, none⟩ (.agg #[.bool l, .string ⟨d.toArray⟩, .slice a xs.length cap]) h6
    (run_loadVar_row _ _ _ _ _ (0, 0) _ hg Tryz.underlying44 rfl Tryz.itemSize)
  rw [h7, h8] at this
  exact this

theorem item_post (w w1 : World) (tmps : Array Value) (l : Bool) (d : List UInt8) (xs : List M.It) (a : Option Addr) (cap pl er : Nat) (hB : Below w.heap.size w w1) (o0 : Value) (o1 : Value) (o2 : Value)
    (hrow : w1.heap[w.heap.size]? = some (.cells #[o0, o1, o2] 44 (0, 0))) (hF : LayS w1 (fun b => w.heap.size < b ∧ b < w1.heap.size) xs (.slice a xs.length cap)) (R : Ending → World → Prop)
    (h6 : tmps.getD 6 undef = .pointer (some ⟨w.heap.size, 0, none⟩)) (h7 : tmps.getD 7 undef = .int .i64 (pl : Nat)) (h8 : tmps.getD 8 undef = .int .i64 (er : Nat))
    (h : ∀ Z, Fresh w.heap.size Z xs (.slice a xs.length cap) → Below w.heap.size w Z → R (.returned (.tuple #[iv l d (.slice a xs.length cap), .int .i64 (pl : Nat), .int .i64 (er : Nat)])) Z) :
    bodyPost Tryz.prog Tryz.f98 R .ret { tmps := tmps, defers := [] } (((w1.setCell ⟨w.heap.size, 0, none⟩ (.bool l)).setCell ⟨w.heap.size, 1, none⟩ (.string ⟨d.toArray⟩)).setCell ⟨w.heap.size, 2, none⟩ (.slice a xs.length cap)) := by
  rw [set_three hrow]
  obtain ⟨e1, e2, e3⟩ := item_end w w1 tmps l d xs a cap pl er hB o0 o1 o2 hrow hF h6 h7 h8
  exact bodyPost_ret e1 rfl (h _ e2 e3)

set_option maxRecDepth 100000 in
set_option maxHeartbeats 8000000 in
theorem item_c (n : Nat) (hl : ListC n) : ItemC (n + 1) := by
  intro s k D rb w hs hk hn hD hR
  have hlt := hR.lt
  have HL := Lib.hid (fun W => isList_any s k W (by omega) hk)
  have HH := Lib.hid (fun W => head_ok s (k : Int) W (by omega))
  have hz : headZ s (k : Int) = M.headL s k := by unfold headZ; rw [if_neg (by omega)]; simp
  have hZ0 : M.headL s k = if (M.hdT (s.drop k)).e = 0 then ⟨k + (M.hdT (s.drop k)).off, (M.hdT (s.drop k)).n, (M.hdT (s.drop k)).list, 0⟩ else M.hdErr (M.hdT (s.drop k)).e := by unfold M.headL; rw [if_neg (by omega)]
  rw [hz, hZ0] at HH
  clear hz hZ0
  obtain ⟨w0, hw0⟩ : ∃ w0, w.alloc (.cells #[.bool false, .string ⟨#[]⟩, .slice none 0 0] 44) = w0 := ⟨_, rfl⟩
  have hb0 : Below w.heap.size w w0 := by rw [← hw0]; (repeat (first | exact Below.refl _ _ | refine Below.drew ?_ | refine Below.alloc ?_ (by first | omega | (simp; omega) | simp) _ | refine Below.setCell ?_ (by first | omega | (simp; omega) | simp) _))
  have hz0 : w0.heap.size = w.heap.size + 1 := by rw [← hw0]; simp
  have hR0 : Boxed w0 rb 141 (.int .i64 D) := (hb0.block rb hlt).trans hR
  have hrow0 : w0.heap[w.heap.size]? = some (.cells #[.bool false, .string ⟨#[]⟩, .slice none 0 0] 44 (0, 0)) := by rw [← hw0]; exact heap_alloc_new w _
  have c0 := hR0.cell
  obtain ⟨⟨_, z0⟩, ⟨_, z1⟩, ⟨_, z2⟩, y0, y1, y2⟩ := cells_three hrow0
  have hrt : M.readT (n + 1) (s.drop k) D = if 192 ≤ (((s.drop k).headD 0)).toNat ∧ 12 ≤ D then (M.zeroI, [], 7)
    else if (M.hdT (s.drop k)).e ≠ 0 then (M.zeroI, [], (M.hdT (s.drop k)).e)
    else if (M.hdT (s.drop k)).list = false then (.mk false (((s.drop k).drop (M.hdT (s.drop k)).off).take (M.hdT (s.drop k)).n) [], (s.drop k).drop ((M.hdT (s.drop k)).off + (M.hdT (s.drop k)).n), 0)
    else if (M.itemsT n (((s.drop k).drop (M.hdT (s.drop k)).off).take (M.hdT (s.drop k)).n) (D + 1) 0).2 ≠ 0 then (M.zeroI, [], (M.itemsT n (((s.drop k).drop (M.hdT (s.drop k)).off).take (M.hdT (s.drop k)).n) (D + 1) 0).2)
    else (.mk true [] (M.itemsT n (((s.drop k).drop (M.hdT (s.drop k)).off).take (M.hdT (s.drop k)).n) (D + 1) 0).1, (s.drop k).drop ((M.hdT (s.drop k)).off + (M.hdT (s.drop k)).n), 0) := by rw [M.readT]
  by_cases hdeep : 192 ≤ (((s.drop k).headD 0)).toNat ∧ 12 ≤ D
  · rw [hrt, if_pos hdeep]
    have h1 : (12 : Int) ≤ (D : Nat) := by omega
    rw [decide_eq_true hdeep.1] at HL
    clear hrt HH
    go_enter Tryz.func98, Tryz.ntmps98
    go_wp2_with (first | (refine (HL.out _).mono ?_; rintro e w1 ⟨rfl, hw1⟩; obtain rfl := hw1.symm))
    refine item_post w w0 _ false [] [] none 0 0 7 hb0 _ _ _ hrow0 (.nil_ (by decide)) _ ?_ ?_ ?_ ?_
    · rfl
    · rfl
    · rfl
    · exact fun Z e2 e3 => ⟨false, [], [], none, 0, 0, rfl, rfl, e2, e3, fun h => by cases h⟩
  · have HD : Hid (12 ≤ D → decide (192 ≤ ((s.drop k).headD 0).toNat) = false) := fun h => decide_eq_false (fun h2 => hdeep ⟨h2, h⟩)
    rw [if_neg hdeep] at hrt
    have hok := M.hdT_ok (t := s.drop k)
    have hfl := hdT_list_flag (t := s.drop k)
    have hlen : (s.drop k).length = s.length - k := List.length_drop
    have htk := take_own s k
    have hdd : ∀ a, (s.drop k).drop a = s.drop (k + a) := fun a => by rw [List.drop_drop]
    by_cases h0 : (M.hdT (s.drop k)).e = 0
    · rw [if_neg (by omega)] at hrt
      rw [if_pos h0] at HH
      obtain ⟨o1, o2, o3, o4, o5⟩ := hok h0
      clear o5 hok
      have htk' := htk (M.hdT (s.drop k)).off (M.hdT (s.drop k)).n
      have hdd' := hdd ((M.hdT (s.drop k)).off + (M.hdT (s.drop k)).n)
      replace hfl := hfl h0
      replace o4 := fun h => (o4 h).2.2
      generalize (M.hdT (s.drop k)).off = f at *
      generalize (M.hdT (s.drop k)).n = m at *
      obtain ⟨A, hA⟩ : ∃ A, A = k + f := ⟨_, rfl⟩
      obtain ⟨E, hE⟩ : ∃ E, E = k + f + m := ⟨_, rfl⟩
      have hAE : A ≤ E := by omega
      have hEs : E ≤ s.length := by omega
      have hadd := Lib.hid (show wrap64 ((A : Int) + (m : Nat)) = (E : Int) by unfold wrap64; omega)
      rw [← hE, ← hA] at htk'
      rw [← hA] at HH
      rw [hdd', show k + (f + m) = E by omega] at hrt
      have hkE : k < E := by rw [hE, Nat.add_assoc]; exact Nat.lt_add_of_pos_right o2
      generalize hown : ((s.drop k).drop f).take m = own at *
      have hol : own.length ≤ 65536 := by rw [← hown, List.length_take, List.length_drop]; omega
      have hmE : m = E - A := by omega
      clear htk hdd hdd'
      have hsl : ∀ W : World, (Instr.slice 9 (.string ⟨s.toArray⟩) (some (.int .i64 (A : Nat))) (some (.int .i64 (E : Nat))) none).run Tryz.prog W = .ok (.string ⟨own.toArray⟩) W := fun W => by
        have := slice_str s A E hAE hEs W
        rwa [cutS, htk'] at this
      cases hlist : (M.hdT (s.drop k)).list with
      | false =>
        rw [hlist] at hrt HH hfl
        rw [if_pos rfl] at hrt
        rw [hrt]
        rw [← hfl] at HL HD
        clear hrt hfl hdeep o4 hown hmE hA hE o1 o2 hlen
        have HC := Lib.hid (fun W => clone_any own W (by omega))
        by_cases h12 : 12 ≤ D
        · have h12' : (12 : Int) ≤ (D : Nat) := by omega
          have hadd := hadd.out
          go_enter Tryz.func98, Tryz.ntmps98
          go_wp2_with (first | (go_at_call 176; refine (HL.out _).mono ?_; rintro e w1 ⟨rfl, hw1⟩; obtain rfl := hw1.symm) | (go_at_call 177; refine (HH.out _).mono ?_; rintro e w1 ⟨rfl, hb1⟩; have HROW := (hb1.block _ (by omega)).trans hrow0; have hB1 := hb0.trans (hb1.mono (by omega))) | (go_at_call 75; refine (HC.out _).mono ?_; rintro e w2 ⟨rfl, hb2⟩; have HROW2 := (hb2.block _ (by have := hb1.size; omega)).trans HROW; obtain ⟨⟨_, q0⟩, ⟨_, q1⟩, ⟨_, q2⟩, g0, g1, g2⟩ := cells_three HROW2; have hB2 := hB1.trans (hb2.mono (by have := hb1.size; omega))))
          refine item_post w w2 _ false own [] none 0 E 0 hB2 _ _ _ HROW2 (.nil_ (by decide)) _ ?_ ?_ ?_ ?_
          · rfl
          · rfl
          · rfl
          · exact fun Z e2 e3 => ⟨false, own, [], none, 0, E, rfl, rfl, e2, e3, fun _ => ⟨rfl, hkE, hEs⟩⟩
        · have h12' : ¬ (12 : Int) ≤ (D : Nat) := by omega
          clear HD HL
          have hadd := hadd.out
          go_enter Tryz.func98, Tryz.ntmps98
          go_wp2_with (first | (go_at_call 177; refine (HH.out _).mono ?_; rintro e w1 ⟨rfl, hb1⟩; have HROW := (hb1.block _ (by omega)).trans hrow0; have hB1 := hb0.trans (hb1.mono (by omega))) | (go_at_call 75; refine (HC.out _).mono ?_; rintro e w2 ⟨rfl, hb2⟩; have HROW2 := (hb2.block _ (by have := hb1.size; omega)).trans HROW; obtain ⟨⟨_, q0⟩, ⟨_, q1⟩, ⟨_, q2⟩, g0, g1, g2⟩ := cells_three HROW2; have hB2 := hB1.trans (hb2.mono (by have := hb1.size; omega))))
          refine item_post w w2 _ false own [] none 0 E 0 hB2 _ _ _ HROW2 (.nil_ (by decide)) _ ?_ ?_ ?_ ?_
          · rfl
          · rfl
          · rfl
          · exact fun Z e2 e3 => ⟨false, own, [], none, 0, E, rfl, rfl, e2, e3, fun _ => ⟨rfl, hkE, hEs⟩⟩
      | true =>
        rw [hlist] at hrt HH hfl
        rw [if_neg (by simp)] at hrt
        have h12 : ¬ 12 ≤ D := fun h => hdeep ⟨of_decide_eq_true hfl.symm, h⟩
        have h12' : ¬ (12 : Int) ≤ (D : Nat) := by omega
        have hf1 := o4 hlist
        have hsl2 : ∀ W : World, (Instr.slice 9 (.string ⟨s.toArray⟩) none (some (.int .i64 (E : Nat))) none).run Tryz.prog W = .ok (.string ⟨(s.take E).toArray⟩) W := fun W => by
          have h2 : ((E : Nat) : Int) ≤ (s.length : Nat) := by omega
          have e : (⟨s.toArray⟩ : ByteArray).extract 0 E = ⟨(s.take E).toArray⟩ := by rw [cutS]; simp
          have hz : (⟨s.toArray⟩ : ByteArray).size = s.length := rfl
          simp [Instr.slice, run_underlying Tryz.underlying9, Instr.sliceBounds, run_sliceBound, h2, e, hz]
        have htl : (s.take E).length = E := by rw [List.length_take]; omega
        have HI : Hid (∀ W, Below w0.heap.size w0 W → Calls Tryz.prog 178 #[.pointer (some ⟨rb, 0, none⟩), .string ⟨(s.take E).toArray⟩, .int .i64 (A : Nat)] W fun e w' => ∃ a cap, e = .returned (.tuple #[.slice a (M.itemsT n own (D + 1) 0).1.length cap, .int .i64 ((M.itemsT n own (D + 1) 0).2 : Nat)]) ∧
            Fresh W.heap.size w' (M.itemsT n own (D + 1) 0).1 (.slice a (M.itemsT n own (D + 1) 0).1.length cap) ∧ Below W.heap.size W w') := fun W hb => by
          have := hl (s.take E) A D rb W (by omega) (by omega) (by omega) (by omega) ((hb.block rb (by omega)).trans hR0)
          rwa [htk'] at this
        clear HL HD hfl hdeep o4 hown htk' hl hmE hA hE o1 o2 hlen htl hf1
        generalize hr : M.itemsT n own (D + 1) 0 = r at *
        obtain ⟨xs, e2⟩ := r
        simp only at HI hrt
        have hadd := hadd.out
        by_cases he2 : e2 = 0
        · subst he2
          rw [if_neg (by simp)] at hrt
          rw [hrt]
          clear hrt hr
          go_enter Tryz.func98, Tryz.ntmps98
          go_wp2_with (first | (go_at_call 177; refine (HH.out _).mono ?_; rintro e w1 ⟨rfl, hb1⟩; have HROW := (hb1.block _ (by omega)).trans hrow0; have hB1 := hb0.trans (hb1.mono (by omega))) | (go_at_call 178; refine (HI.out w1 hb1).mono ?_; rintro e w2 ⟨a, cap, rfl, hfr, hb2⟩; have HROW2 := (hb2.block _ (by have := hb1.size; omega)).trans HROW; obtain ⟨⟨_, q0⟩, ⟨_, q1⟩, ⟨_, q2⟩, g0, g1, g2⟩ := cells_three HROW2; have hB2 := hB1.trans (hb2.mono (by have := hb1.size; omega))))
          refine item_post w w2 _ true [] xs a cap E 0 hB2 _ _ _ HROW2 (hfr.keep fun b ⟨h1, h2⟩ => ⟨⟨by have := hb1.size; omega, h2⟩, rfl⟩) _ ?_ ?_ ?_ ?_
          · rfl
          · rfl
          · rfl
          · exact fun Z e2 e3 => ⟨true, [], xs, a, cap, E, rfl, rfl, e2, e3, fun _ => ⟨rfl, hkE, hEs⟩⟩
        · rw [if_pos he2] at hrt
          rw [hrt]
          have he2' : ¬ ((e2 : Nat) : Int) = 0 := by omega
          clear hrt hr
          go_enter Tryz.func98, Tryz.ntmps98
          go_wp2_with (first | (go_at_call 177; refine (HH.out _).mono ?_; rintro e w1 ⟨rfl, hb1⟩; have HROW := (hb1.block _ (by omega)).trans hrow0; have hB1 := hb0.trans (hb1.mono (by omega))) | (go_at_call 178; refine (HI.out w1 hb1).mono ?_; rintro e w2 ⟨a, cap, rfl, hfr, hb2⟩; have HROW2 := (hb2.block _ (by have := hb1.size; omega)).trans HROW; obtain ⟨⟨_, q0⟩, ⟨_, q1⟩, ⟨_, q2⟩, g0, g1, g2⟩ := cells_three HROW2; have hB2 := hB1.trans (hb2.mono (by have := hb1.size; omega))))
          refine item_post w w2 _ false [] [] none 0 0 e2 hB2 _ _ _ HROW2 (.nil_ (by decide)) _ ?_ ?_ ?_ ?_
          · rfl
          · rfl
          · rfl
          · exact fun Z e2 e3 => ⟨false, [], [], none, 0, 0, rfl, rfl, e2, e3, fun h => absurd h he2⟩
    · rw [if_pos h0] at hrt
      rw [if_neg h0] at HH
      simp only [M.hdErr] at HH
      rw [hrt]
      generalize (M.hdT (s.drop k)).e = q at *
      have h0' : ¬ ((q : Nat) : Int) = 0 := by omega
      clear hrt hok hfl hlen htk hdd hdeep
      by_cases h12 : 12 ≤ D
      · have h12' : (12 : Int) ≤ (D : Nat) := by omega
        rw [HD.out h12] at HL
        clear HD
        go_enter Tryz.func98, Tryz.ntmps98
        go_wp2_with (first | (go_at_call 176; refine (HL.out _).mono ?_; rintro e w1 ⟨rfl, hw1⟩; obtain rfl := hw1.symm) | (go_at_call 177; refine (HH.out _).mono ?_; rintro e w1 ⟨rfl, hb1⟩; have HROW := (hb1.block _ (by omega)).trans hrow0; obtain ⟨⟨_, q0⟩, ⟨_, q1⟩, ⟨_, q2⟩, g0, g1, g2⟩ := cells_three HROW; have hB1 := hb0.trans (hb1.mono (by omega))))
        refine item_post w w1 _ false [] [] none 0 0 q hB1 _ _ _ HROW (.nil_ (by decide)) _ ?_ ?_ ?_ ?_
        · rfl
        · rfl
        · rfl
        · exact fun Z e2 e3 => ⟨false, [], [], none, 0, 0, rfl, rfl, e2, e3, fun h => absurd h h0⟩
      · have h12' : ¬ (12 : Int) ≤ (D : Nat) := by omega
        clear HD HL
        go_enter Tryz.func98, Tryz.ntmps98
        go_wp2_with (first | (go_at_call 177; refine (HH.out _).mono ?_; rintro e w1 ⟨rfl, hb1⟩; have HROW := (hb1.block _ (by omega)).trans hrow0; obtain ⟨⟨_, q0⟩, ⟨_, q1⟩, ⟨_, q2⟩, g0, g1, g2⟩ := cells_three HROW; have hB1 := hb0.trans (hb1.mono (by omega))))
        refine item_post w w1 _ false [] [] none 0 0 q hB1 _ _ _ HROW (.nil_ (by decide)) _ ?_ ?_ ?_ ?_
        · rfl
        · rfl
        · rfl
        · exact fun Z e2 e3 => ⟨false, [], [], none, 0, 0, rfl, rfl, e2, e3, fun h => absurd h h0⟩
end Go.Proofs.YtebjhbeaknokkaaGreatDoor
namespace Go.Proofs.YtebjhbeaknokkaaGreatDoor
open Go Go.RowKit Go.Shelf

theorem item_all (n : Nat) : ItemC n := by
  induction n using Nat.strongRecOn with
  | _ n ih =>
    cases n with
    | zero => intro s k d rb w h1 h2 h3; omega
    | succ n => exact item_c n (list_c n fun j hj => ih j (by omega))

theorem results_cell_one {fn : Func} {p q : Tmp} {ty : TypeId} (h : fn.results = #[.cell p ty, .tmp q]) (tmps : Array Value) (P : Program) (w : World) (a : Addr) (u : Value) (hp : tmps.getD p undef = .pointer (some a))
    (hu : (loadVar ty a).run P w = .ok u w) : (results fn tmps).run P w = .ok (.tuple #[u, tmps.getD q undef]) w := by
  have hp' : tmps[p]?.getD undef = .pointer (some a) := by simpa using hp
  simp [results, h, hp', Result.andThen, asAddr, hu]

end Go.Proofs.YtebjhbeaknokkaaGreatDoor
