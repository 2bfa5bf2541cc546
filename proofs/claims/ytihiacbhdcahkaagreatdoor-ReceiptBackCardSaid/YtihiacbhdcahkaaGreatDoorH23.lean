/- unrlp: isList, longOf, lengthOf, ownOf, Head, Next. A range over a function whose body may return: what is handed over each time lies in the world of its own; the function makes memory between two rounds. My own law out of the kit's one for the statement. An item more in a row of a call's own, kept in a box: the statement 'l = append(l, it)', in whatever order. -/
import Derived.Test.YtihiacbhdcahkaaGreatDoorH22
import Derived.Test.YtihiacbhdcahkaaGreatDoorH02
import Derived.Laws.Bits64b
import Derived.Test.YtihiacbhdcahkaaGreatDoorH15
import Derived.RangeFuncBound
import Derived.RangeFuncCalls
import Derived.RangeFuncLeaves
import Derived.RangeFuncNested
import Derived.Lib.Hide
import Derived.OrdersHeld
import Derived.Deep.RegionHeld
namespace Go.Proofs.YtihiacbhdcahkaaGreatDoor
open Go Go.RowKit

theorem drop_head (s : List UInt8) (k : Nat) (c : UInt8) (h : s[k]? = some c) : (s.drop k).headD 0 = c := by
  rw [List.headD_eq_head?_getD, List.head?_drop, h]
  rfl

set_option maxRecDepth 100000 in
set_option maxHeartbeats 4000000 in
theorem isList_any (s : List UInt8) (k : Nat) (w : World) (_hs : s.length ≤ 200000) (hk : k ≤ s.length) : Calls Tryz.prog 179 #[.string ⟨s.toArray⟩, .int .i64 k] w fun e w' => e = .returned (.bool (decide (192 ≤ ((s.drop k).headD 0).toNat))) ∧ w' = w := by
  by_cases hlt : k < s.length
  · obtain ⟨c, hc⟩ : ∃ c, s[k]? = some c := ⟨s[k], List.getElem?_eq_getElem hlt⟩
    have hd := drop_head s k c hc
    rw [hd]
    have hi := idx_at hc
    have h1 : ((k : Nat) : Int) < (s.length : Nat) := by omega
    have h0 : (0 : Int) ≤ (k : Nat) := by omega
    have hdec : decide (192 ≤ c.toNat) = decide ((192 : Int) ≤ (c.toNat : Nat)) := by simp only [decide_eq_decide]; omega
    rw [hdec]
    go_enter Tryz.func179, Tryz.ntmps179
    go_wp2_with fail
    go_ret
    exact ⟨rfl, rfl⟩
  · have hd : ((s.drop k).headD 0) = 0 := by
      rw [List.drop_eq_nil_of_le (by omega)]; rfl
    rw [hd]
    have h1 : ¬ ((k : Nat) : Int) < (s.length : Nat) := by omega
    go_enter Tryz.func179, Tryz.ntmps179
    go_wp2_with fail
    go_ret
    exact ⟨rfl, rfl⟩

/-- What a length in m bytes tells. -/
def lg (r : List UInt8) (m : Nat) : Nat × Nat × Nat :=
  if 3 < m then (0, 0, 5) else if r.length < m then (0, 0, 3) else if r.headD 0 = 0 ∨ M.dg (r.take m) < 56 then (0, 0, 8) else (1 + m, M.dg (r.take m), 0)

theorem or_byte {n : Nat} (c : UInt8) (h : n < 65536) : bits BinOp.or IntKind.i64 ((n : Int) * 256) (wrap64 ((c.toNat : Nat) : Int)) = ((n * 256 + c.toNat : Nat) : Int) := by
  have hc := c.toNat_lt
  have e1 : (n : Int) * 256 = ((n * 256 : Nat) : Int) := by omega
  rw [e1, wrap_byte]
  have h1 : (BitVec.ofInt 64 ((n * 256 : Nat) : Int)).toNat = n * 256 := by
    rw [BitVec.ofInt_natCast, BitVec.toNat_ofNat]; exact Nat.mod_eq_of_lt (by omega)
  have h2 : (BitVec.ofInt 64 ((c.toNat : Nat) : Int)).toNat = c.toNat := by
    rw [BitVec.ofInt_natCast, BitVec.toNat_ofNat]; exact Nat.mod_eq_of_lt (by omega)
  have h3 : n * 256 ||| c.toNat = n * 256 + c.toNat := by
    have := Nat.shiftLeft_add_eq_or_of_lt (i := 8) (b := c.toNat) (by omega) n
    rw [Nat.shiftLeft_eq] at this
    rw [← this]
  show IntKind.i64.wrap ((BitVec.ofInt 64 ((n * 256 : Nat) : Int) ||| BitVec.ofInt 64 ((c.toNat : Nat) : Int)).toNat : Int) = _
  rw [BitVec.toNat_or, h1, h2, h3]
  rw [IntKind.wrap_i64]
  omega

set_option maxRecDepth 100000 in
set_option maxHeartbeats 4000000 in
theorem longOf_any (c0 : UInt8) (r : List UInt8) (m : Nat) (w : World) (hs : r.length ≤ 200000) (hm : m ≤ 8) (hm1 : 1 ≤ m) : Calls Tryz.prog 282 #[.string ⟨(c0 :: r).toArray⟩, .int .i64 m] w fun e w' =>
    e = .returned (.tuple #[.int .i64 ((lg r m).1 : Nat), .int .i64 ((lg r m).2.1 : Nat), .int .i64 ((lg r m).2.2 : Nat)]) ∧ Below w.heap.size w w' := by
  unfold lg
  by_cases h3 : 3 < m
  · rw [if_pos h3]
    have h3' : (3 : Int) < (m : Nat) := by omega
    go_enter Tryz.func282, Tryz.ntmps282
    go_wp2_with fail
    exact bodyPost_ret (results_tmp3 rfl _ _ _) rfl ⟨rfl, Below.refl _ _⟩
  · rw [if_neg h3]
    have h3' : ¬ (3 : Int) < (m : Nat) := by omega
    have hadd : wrap64 (1 + ((m : Nat) : Int)) = 1 + (m : Int) := by unfold wrap64; omega
    by_cases hl : r.length < m
    · rw [if_pos hl]
      have hl' : (r.length : Int) + 1 < 1 + (m : Int) := by omega
      go_enter Tryz.func282, Tryz.ntmps282
      go_wp2_with fail
      exact bodyPost_ret (results_tmp3 rfl _ _ _) rfl ⟨rfl, Below.refl _ _⟩
    · rw [if_neg hl]
      have hl' : ¬ (r.length : Int) + 1 < 1 + (m : Int) := by omega
      have hsl : ∀ W : World, (Instr.slice 9 (.string ⟨(c0 :: r).toArray⟩) (some (.int .i64 1)) (some (.int .i64 (1 + (m : Int)))) none).run Tryz.prog W = .ok (.string ⟨(r.take m).toArray⟩) W := by
        intro W
        have := slice_str (c0 :: r) 1 (1 + m) (by omega) (by simp only [List.length_cons]; omega) W
        rw [show ((1 + m : Nat) : Int) = 1 + (m : Int) by omega, cutS] at this
        simpa [Nat.add_comm 1 m] using this
      obtain ⟨c1, r', rfl⟩ : ∃ c1 r', r = c1 :: r' := by
        cases r with
        | nil => simp at hl; omega
        | cons a b => exact ⟨a, b, rfl⟩
      have hdl : ((c1 :: r').take m).length = m := by rw [List.length_take]; omega
      have hix : ∀ hk : 1 < (⟨(c0 :: c1 :: r').toArray⟩ : ByteArray).size, (⟨(c0 :: c1 :: r').toArray⟩ : ByteArray)[1]'hk = c1 := idx_at (by rfl)
      simp only [List.headD_cons]
      generalize (c1 :: r').take m = ds at *
      generalize hp : (if c1 = 0 ∨ M.dg ds < 56 then ((0, 0, 8) : Nat × Nat × Nat) else (1 + m, M.dg ds, 0)) = p
      replace hp := Lib.hid hp
      go_enter Tryz.func282, Tryz.ntmps282
      go_wp2_with (refine wpList_seal _ rfl _ _ 5 _ rfl ⟨ds.toArray⟩ rfl Tryz.underlying9 Tryz.underlying76 Tryz.underlying5 (by simp [ByteArray.size]; unfold maxLen; omega) ?_; intro cap cur w2 hSeal)
      have hsr := hSeal.sr
      have hcells : ∀ j u, (bc ds)[j]? = some u → w2.cell? ⟨w.heap.size, j, none⟩ = some u := by
        intro j u hj
        rcases hsr with ⟨h0, h1⟩ | ⟨ad, c, hv, hc⟩
        · cases h0
        · obtain rfl : ad = ⟨w.heap.size, 0, none⟩ := by cases hv; rfl
          have := hc j u hj
          have hadd : (⟨w.heap.size, 0, none⟩ : Addr).add j = ⟨w.heap.size, j, none⟩ := by unfold Addr.add; split <;> simp_all
          rwa [hadd] at this
      go_loopw [8, 24] (fun n i wr => ∃ k : Nat, k ≤ m ∧ i = .int .i64 k ∧ n = .int .i64 ((M.dg (ds.take k) : Nat) : Int) ∧ wr = w2) (fun _ i _ => m - (intOf i).toNat)
      case atStart => exact ⟨0, by omega, rfl, rfl, rfl⟩
      case round =>
        obtain ⟨k, hk, rfl, rfl, rfl⟩ := hrel
        by_cases hlt : k < m
        · obtain ⟨c, hc⟩ : ∃ c, ds[k]? = some c := ⟨ds[k], List.getElem?_eq_getElem (by omega)⟩
          have hcell := hcells k (.int .u8 (c.toNat : Int)) (by simp [bc, hc])
          have hdg : M.dg (ds.take k) < 65536 := Nat.lt_of_lt_of_le (M.dg_lt _) (by
            rw [List.length_take]
            calc 256 ^ (min k ds.length) ≤ 256 ^ 2 := Nat.pow_le_pow_right (by omega) (by omega)
              _ = 65536 := by decide)
          have hor := or_byte c hdg
          have hstep : M.dg (ds.take k) * 256 + c.toNat = M.dg (ds.take (k + 1)) := by
            rw [List.take_add_one, hc]
            exact (M.dg_snoc _ _).symm
          rw [hstep] at hor
          generalize M.dg (ds.take k) = n at *
          obtain ⟨n', hn'⟩ : ∃ n', n' = M.dg (ds.take (k + 1)) := ⟨_, rfl⟩
          rw [← hn'] at hor
          clear hstep
          have hk' : ((k : Nat) : Int) < (m : Nat) := by omega
          have hkm : k < m := hlt
          go_wp2_with fail
          go_roundw
          case rel => exact ⟨k + 1, by omega, rfl, rfl, trivial⟩
          case measure => simp [intOf]; omega
        · obtain rfl : k = m := by omega
          rw [List.take_of_length_le (by omega)]
          have hlow := hSeal.low
          by_cases hz : c1 = 0
          · have hp := hp.out
            rw [if_pos (Or.inl hz)] at hp
            subst hp
            subst hz
            go_wp2_with fail
            exact bodyPost_ret (results_tmp3 rfl _ _ _) rfl ⟨rfl, hlow⟩
          · have hz' : ¬ c1.toNat = 0 := fun h => hz (by rw [← UInt8.ofNat_toNat (x := c1), h]; rfl)
            have hz2 : (((c1.toNat : Nat) : Int) == 0) = false := by simp; omega
            by_cases h56 : M.dg ds < 56
            · have hp := hp.out
              rw [if_pos (Or.inr h56)] at hp
              subst hp
              have h56' : ((M.dg ds : Nat) : Int) < 56 := by omega
              go_wp2_with fail
              exact bodyPost_ret (results_tmp3 rfl _ _ _) rfl ⟨rfl, hlow⟩
            · have hp := hp.out
              rw [if_neg (fun h => h.elim hz h56)] at hp
              subst hp
              have h56' : ¬ ((M.dg ds : Nat) : Int) < 56 := by omega
              go_wp2_with fail
              exact bodyPost_ret (results_tmp3 rfl _ _ _) rfl ⟨rfl, hlow⟩

/-- How much there is, be it there or not. -/
def ln : List UInt8 → Nat × Nat × Nat
  | [] => (0, 0, 3)
  | c :: r =>
    if c.toNat < 128 then (0, 1, 0) else if c.toNat < 184 then (1, c.toNat - 128, 0) else if c.toNat < 192 then lg r (c.toNat - 183)
    else if c.toNat < 248 then (1, c.toNat - 192, 0) else lg r (c.toNat - 247)

set_option maxRecDepth 100000 in
set_option maxHeartbeats 4000000 in
theorem lengthOf_any (t : List UInt8) (w : World) (hs : t.length ≤ 200000) : Calls Tryz.prog 271 #[.string ⟨t.toArray⟩] w fun e w' =>
    e = .returned (.tuple #[.int .i64 ((ln t).1 : Nat), .int .i64 ((ln t).2.1 : Nat), .int .i64 ((ln t).2.2 : Nat)]) ∧ Below w.heap.size w w' := by
  cases t with
  | nil =>
    go_enter Tryz.func271, Tryz.ntmps271
    go_wp2_with fail
    exact bodyPost_ret (results_tmp3 rfl _ _ _) rfl ⟨rfl, Below.refl _ _⟩
  | cons c r =>
    have hne : ((⟨(c :: r).toArray⟩ : ByteArray) == ⟨#[]⟩) = false := by
      rfl
    have hb := wrap_byte c
    have hc := c.toNat_lt
    have hix : ∀ hk : 0 < (⟨(c :: r).toArray⟩ : ByteArray).size, (⟨(c :: r).toArray⟩ : ByteArray)[0]'hk = c := idx_at (by rfl)
    have w0 : wrap64 (((c.toNat : Nat) : Int) - 128) = ((c.toNat : Nat) : Int) - 128 := by unfold wrap64; omega
    have w1 : wrap64 (((c.toNat : Nat) : Int) - 192) = ((c.toNat : Nat) : Int) - 192 := by unfold wrap64; omega
    have w2 : wrap64 (((c.toNat : Nat) : Int) - 128 - 56) = ((c.toNat : Nat) : Int) - 128 - 56 := by unfold wrap64; omega
    have w3 : wrap64 (((c.toNat : Nat) : Int) - 192 - 56) = ((c.toNat : Nat) : Int) - 192 - 56 := by unfold wrap64; omega
    by_cases h1 : c.toNat < 128
    · have hp : ln (c :: r) = (0, 1, 0) := by rw [ln, if_pos h1]
      rw [hp]
      have h1' : ((c.toNat : Nat) : Int) < 128 := by omega
      go_enter Tryz.func271, Tryz.ntmps271
      go_wp2_with fail
      exact bodyPost_ret (results_tmp3 rfl _ _ _) rfl ⟨rfl, Below.refl _ _⟩
    · have h1' : ¬ ((c.toNat : Nat) : Int) < 128 := by omega
      by_cases h2 : c.toNat < 184
      · have hp : ln (c :: r) = (1, c.toNat - 128, 0) := by rw [ln, if_neg h1, if_pos h2]
        rw [hp]
        have h2' : ((c.toNat : Nat) : Int) < 184 := by omega
        have hv : ((c.toNat - 128 : Nat) : Int) = ((c.toNat : Nat) : Int) - 128 := by omega
        rw [hv]
        go_enter Tryz.func271, Tryz.ntmps271
        go_wp2_with fail
        exact bodyPost_ret (results_tmp3 rfl _ _ _) rfl ⟨rfl, Below.refl _ _⟩
      · have h2' : ¬ ((c.toNat : Nat) : Int) < 184 := by omega
        by_cases h3 : c.toNat < 192
        · have hp : ln (c :: r) = lg r (c.toNat - 183) := by rw [ln, if_neg h1, if_neg h2, if_pos h3]
          rw [hp]
          have h3' : ((c.toNat : Nat) : Int) < 192 := by omega
          have H := Lib.hid (fun W => longOf_any c r (c.toNat - 183) W (by simp at hs; omega) (by omega) (by omega))
          have hv : ((c.toNat - 183 : Nat) : Int) = ((c.toNat : Nat) : Int) - 128 - 56 + 1 := by omega
          have w4 : wrap64 (((c.toNat : Nat) : Int) - 128 - 56 + 1) = ((c.toNat : Nat) : Int) - 128 - 56 + 1 := by unfold wrap64; omega
          rw [hv] at H
          generalize lg r (c.toNat - 183) = p at *
          obtain ⟨p1, p2, p3⟩ := p
          clear hv
          go_enter Tryz.func271, Tryz.ntmps271
          go_wp2_with (refine (H.out _).mono ?_; rintro e W' ⟨rfl, hb⟩)
          exact bodyPost_ret (results_tmp3 rfl _ _ _) rfl ⟨rfl, hb⟩
        · have h3' : ¬ ((c.toNat : Nat) : Int) < 192 := by omega
          by_cases h4 : c.toNat < 248
          · have hp : ln (c :: r) = (1, c.toNat - 192, 0) := by rw [ln, if_neg h1, if_neg h2, if_neg h3, if_pos h4]
            rw [hp]
            have h4' : ((c.toNat : Nat) : Int) < 248 := by omega
            have hv : ((c.toNat - 192 : Nat) : Int) = ((c.toNat : Nat) : Int) - 192 := by omega
            rw [hv]
            go_enter Tryz.func271, Tryz.ntmps271
            go_wp2_with fail
            exact bodyPost_ret (results_tmp3 rfl _ _ _) rfl ⟨rfl, Below.refl _ _⟩
          · have hp : ln (c :: r) = lg r (c.toNat - 247) := by rw [ln, if_neg h1, if_neg h2, if_neg h3, if_neg h4]
            rw [hp]
            have h4' : ¬ ((c.toNat : Nat) : Int) < 248 := by omega
            have H := Lib.hid (fun W => longOf_any c r (c.toNat - 247) W (by simp at hs; omega) (by omega) (by omega))
            have hv : ((c.toNat - 247 : Nat) : Int) = ((c.toNat : Nat) : Int) - 192 - 56 + 1 := by omega
            have w4 : wrap64 (((c.toNat : Nat) : Int) - 192 - 56 + 1) = ((c.toNat : Nat) : Int) - 192 - 56 + 1 := by unfold wrap64; omega
            rw [hv] at H
            generalize lg r (c.toNat - 247) = p at *
            obtain ⟨p1, p2, p3⟩ := p
            clear hv
            go_enter Tryz.func271, Tryz.ntmps271
            go_wp2_with (refine (H.out _).mono ?_; rintro e W' ⟨rfl, hb⟩)
            exact bodyPost_ret (results_tmp3 rfl _ _ _) rfl ⟨rfl, hb⟩

/-- A head's parts, out of the length's. -/
theorem lg_ok {r : List UInt8} {m : Nat} (h : (lg r m).2.2 = 0) : m ≤ 3 ∧ m ≤ r.length ∧ lg r m = (1 + m, M.dg (r.take m), 0) ∧ ∀ l, M.hdLong r m l = if r.length < m + M.dg (r.take m) then M.hdErr 3 else ⟨1 + m, M.dg (r.take m), l, 0⟩ := by
  unfold lg at h ⊢
  by_cases h1 : 3 < m
  · rw [if_pos h1] at h; cases h
  · rw [if_neg h1] at h ⊢
    by_cases h2 : r.length < m
    · rw [if_pos h2] at h; cases h
    · rw [if_neg h2] at h ⊢
      by_cases h3 : r.headD 0 = 0 ∨ M.dg (r.take m) < 56
      · rw [if_pos h3] at h; cases h
      · rw [if_neg h3]
        refine ⟨by omega, by omega, rfl, fun l => ?_⟩
        unfold M.hdLong
        rw [if_neg h1, if_neg h2, if_neg h3]
theorem lg_no {r : List UInt8} {m : Nat} (h : (lg r m).2.2 ≠ 0) : lg r m = (0, 0, (lg r m).2.2) ∧ ∀ l, M.hdLong r m l = M.hdErr (lg r m).2.2 := by
  unfold lg at h ⊢
  unfold M.hdLong
  by_cases h1 : 3 < m
  · simp [h1]
  · by_cases h2 : r.length < m
    · simp [h1, h2]
    · by_cases h3 : r.headD 0 = 0 ∨ M.dg (r.take m) < 56
      · simp only [if_neg h1, if_neg h2, if_pos h3, implies_true, and_self]
      · rw [if_neg h1, if_neg h2, if_neg h3] at h; exact absurd rfl h

structure LnOk (t : List UInt8) : Prop where
  le : (ln t).1 ≤ t.length
  four : (ln t).1 ≤ 4
  few : (ln t).2.1 < 16777216
  short : t.length < (ln t).1 + (ln t).2.1 → M.hdT t = M.hdErr 3
  spare : ¬ t.length < (ln t).1 + (ln t).2.1 → (ln t).1 = 1 ∧ t.headD 0 = 129 ∧ ((t.drop 1).headD 0).toNat < 128 → M.hdT t = M.hdErr 8
  ok : ¬ t.length < (ln t).1 + (ln t).2.1 → ¬ ((ln t).1 = 1 ∧ t.headD 0 = 129 ∧ ((t.drop 1).headD 0).toNat < 128) → M.hdT t = ⟨(ln t).1, (ln t).2.1, decide (192 ≤ (t.headD 0).toNat), 0⟩
theorem ln_no {t : List UInt8} (h : (ln t).2.2 ≠ 0) : ln t = (0, 0, (ln t).2.2) ∧ M.hdT t = M.hdErr (ln t).2.2 := by
  cases t with
  | nil => exact ⟨rfl, rfl⟩
  | cons c r =>
    have hc := c.toNat_lt
    by_cases h1 : c.toNat < 128
    · have hp : ln (c :: r) = (0, 1, 0) := by rw [ln, if_pos h1]
      rw [hp] at h; exact absurd rfl h
    · by_cases h2 : c.toNat < 184
      · have hp : ln (c :: r) = (1, c.toNat - 128, 0) := by rw [ln, if_neg h1, if_pos h2]
        rw [hp] at h; exact absurd rfl h
      · by_cases h3 : c.toNat < 192
        · have hp : ln (c :: r) = lg r (c.toNat - 183) := by rw [ln, if_neg h1, if_neg h2, if_pos h3]
          rw [hp] at h ⊢
          obtain ⟨e1, e2⟩ := lg_no h
          refine ⟨e1, ?_⟩
          rw [M.hdT, if_neg h1, if_neg h2, if_pos h3, e2]
        · by_cases h4 : c.toNat < 248
          · have hp : ln (c :: r) = (1, c.toNat - 192, 0) := by rw [ln, if_neg h1, if_neg h2, if_neg h3, if_pos h4]
            rw [hp] at h; exact absurd rfl h
          · have hp : ln (c :: r) = lg r (c.toNat - 247) := by rw [ln, if_neg h1, if_neg h2, if_neg h3, if_neg h4]
            rw [hp] at h ⊢
            obtain ⟨e1, e2⟩ := lg_no h
            refine ⟨e1, ?_⟩
            rw [M.hdT, if_neg h1, if_neg h2, if_neg h3, if_neg h4, e2]
theorem dg_few {r : List UInt8} {m : Nat} (h : m ≤ 3) : M.dg (r.take m) < 16777216 := Nat.lt_of_lt_of_le (M.dg_lt _) (by
  rw [List.length_take]
  calc 256 ^ (min m r.length) ≤ 256 ^ 3 := Nat.pow_le_pow_right (by omega) (by omega)
    _ = 16777216 := by decide)
set_option maxRecDepth 100000 in
theorem ln_yes {t : List UInt8} (h : (ln t).2.2 = 0) : LnOk t := by
  cases t with
  | nil => cases h
  | cons c r =>
    have hc := c.toNat_lt
    have hn : c ≠ 129 → ¬ ((c :: r).headD 0 = 129) := fun h h' => h h'
    have h129 : c = 129 ↔ c.toNat = 129 := ⟨fun h => by rw [h]; rfl, fun h => by rw [← UInt8.ofNat_toNat (x := c), h]; rfl⟩
    by_cases h1 : c.toNat < 128
    · have hp : ln (c :: r) = (0, 1, 0) := by rw [ln, if_pos h1]
      have hq : M.hdT (c :: r) = ⟨0, 1, false, 0⟩ := by rw [M.hdT, if_pos h1]
      constructor <;> simp only [hp, hq, List.length_cons, List.headD_cons]
      · omega
      · omega
      · omega
      · intro h; omega
      · intro _ h; omega
      · intro _ _; exact congrArg (fun b => (⟨_, _, b, 0⟩ : M.Hd)) (decide_eq_false (by show ¬ 192 ≤ c.toNat; omega)).symm
    · by_cases h2 : c.toNat < 184
      · have hp : ln (c :: r) = (1, c.toNat - 128, 0) := by rw [ln, if_neg h1, if_pos h2]
        have hq : M.hdT (c :: r) = if r.length < c.toNat - 128 then M.hdErr 3 else if c.toNat = 129 ∧ (r.headD 0).toNat < 128 then M.hdErr 8 else ⟨1, c.toNat - 128, false, 0⟩ := by rw [M.hdT, if_neg h1, if_pos h2]
        constructor <;> simp only [hp, hq, List.length_cons, List.headD_cons, List.drop_succ_cons, List.drop_zero]
        · omega
        · omega
        · omega
        · intro h; rw [if_pos (by omega)]
        · rintro h ⟨_, h5, h6⟩; rw [if_neg (by omega), if_pos ⟨h129.1 h5, h6⟩]
        · intro h h5
          rw [if_neg (by omega), if_neg (fun h6 => h5 ⟨trivial, h129.2 h6.1, h6.2⟩)]
          exact congrArg (fun b => (⟨_, _, b, 0⟩ : M.Hd)) (decide_eq_false (by show ¬ 192 ≤ c.toNat; omega)).symm
      · have hne : c ≠ 129 := fun h => by rw [h] at h2; exact h2 (by decide)
        by_cases h3 : c.toNat < 192
        · have hp : ln (c :: r) = lg r (c.toNat - 183) := by rw [ln, if_neg h1, if_neg h2, if_pos h3]
          have hq : M.hdT (c :: r) = M.hdLong r (c.toNat - 183) false := by rw [M.hdT, if_neg h1, if_neg h2, if_pos h3]
          rw [hp] at h
          obtain ⟨e1, e2, e3, e4⟩ := lg_ok h
          have hd := dg_few (r := r) e1
          constructor <;> simp only [hp, hq, e3, e4, List.length_cons, List.headD_cons]
          · omega
          · omega
          · omega
          · intro h; rw [if_pos (by omega)]
          · rintro h ⟨_, h5, h6⟩; exact absurd h5 hne
          · intro h h5
            rw [if_neg (by omega)]
            exact congrArg (fun b => (⟨_, _, b, 0⟩ : M.Hd)) (decide_eq_false (by show ¬ 192 ≤ c.toNat; omega)).symm
        · by_cases h4 : c.toNat < 248
          · have hp : ln (c :: r) = (1, c.toNat - 192, 0) := by rw [ln, if_neg h1, if_neg h2, if_neg h3, if_pos h4]
            have hq : M.hdT (c :: r) = if r.length < c.toNat - 192 then M.hdErr 3 else ⟨1, c.toNat - 192, true, 0⟩ := by rw [M.hdT, if_neg h1, if_neg h2, if_neg h3, if_pos h4]
            constructor <;> simp only [hp, hq, List.length_cons, List.headD_cons]
            · omega
            · omega
            · omega
            · intro h; rw [if_pos (by omega)]
            · rintro h ⟨_, h5, h6⟩; exact absurd h5 hne
            · intro h h5
              rw [if_neg (by omega)]
              exact congrArg (fun b => (⟨_, _, b, 0⟩ : M.Hd)) (decide_eq_true (by show 192 ≤ c.toNat; omega)).symm
          · have hp : ln (c :: r) = lg r (c.toNat - 247) := by rw [ln, if_neg h1, if_neg h2, if_neg h3, if_neg h4]
            have hq : M.hdT (c :: r) = M.hdLong r (c.toNat - 247) true := by rw [M.hdT, if_neg h1, if_neg h2, if_neg h3, if_neg h4]
            rw [hp] at h
            obtain ⟨e1, e2, e3, e4⟩ := lg_ok h
            have hd := dg_few (r := r) e1
            constructor <;> simp only [hp, hq, e3, e4, List.length_cons, List.headD_cons]
            · omega
            · omega
            · omega
            · intro h; rw [if_pos (by omega)]
            · rintro h ⟨_, h5, h6⟩; exact absurd h5 hne
            · intro h h5
              rw [if_neg (by omega)]
              exact congrArg (fun b => (⟨_, _, b, 0⟩ : M.Hd)) (decide_eq_true (by show 192 ≤ c.toNat; omega)).symm
theorem ln_129 (r : List UInt8) : ln (129 :: r) = (1, 1, 0) := rfl

set_option maxRecDepth 100000 in
set_option maxHeartbeats 4000000 in
theorem ownOf_any (t : List UInt8) (w : World) (hs : t.length ≤ 200000) : Calls Tryz.prog 249 #[.string ⟨t.toArray⟩] w fun e w' =>
    e = .returned (.tuple #[.int .i64 ((M.hdT t).off : Nat), .int .i64 ((M.hdT t).n : Nat), .int .i64 ((M.hdT t).e : Nat)]) ∧ Below w.heap.size w w' := by
  have H := Lib.hid (fun W => lengthOf_any t W hs)
  by_cases h0 : (ln t).2.2 = 0
  · obtain ⟨hle, h4, hfew, hsh, hsp, hok⟩ := ln_yes h0
    have h129 : ∀ r, t = 129 :: r → (ln t).2.1 = 1 := fun r e => by rw [e, ln_129]
    generalize ln t = p at H h0 hle h4 hfew hsh hsp hok h129
    obtain ⟨p1, p2, p3⟩ := p
    simp only at H h0 hle h4 hfew hsh hsp hok h129
    subst h0
    have hsub : wrap64 ((t.length : Int) - (p1 : Nat)) = (t.length : Int) - (p1 : Nat) := by unfold wrap64; omega
    by_cases hlt : t.length < p1 + p2
    · rw [hsh hlt]
      have hlt' : (t.length : Int) - (p1 : Nat) < (p2 : Nat) := by omega
      clear hsh hsp hok
      go_enter Tryz.func249, Tryz.ntmps249
      go_wp2_with (refine (H.out _).mono ?_; rintro e W' ⟨rfl, hb⟩)
      exact bodyPost_ret (results_tmp3 rfl _ _ _) rfl ⟨rfl, hb⟩
    · have hlt' : ¬ (t.length : Int) - (p1 : Nat) < (p2 : Nat) := by omega
      replace hsp := hsp hlt
      replace hok := hok hlt
      clear hsh
      by_cases h1 : p1 = 1
      · subst h1
        obtain ⟨c, r, rfl⟩ : ∃ c r, t = c :: r := by
          cases t with
          | nil => simp at hle
          | cons a b => exact ⟨a, b, rfl⟩
        have hix : ∀ hk : 0 < (⟨(c :: r).toArray⟩ : ByteArray).size, (⟨(c :: r).toArray⟩ : ByteArray)[0]'hk = c := idx_at (by rfl)
        by_cases h5 : c = 129
        · subst h5
          obtain rfl := h129 r rfl
          obtain ⟨d, r', rfl⟩ : ∃ d r', r = d :: r' := by
            cases r with
            | nil => simp at hlt
            | cons a b => exact ⟨a, b, rfl⟩
          have hix2 : ∀ hk : 1 < (⟨(129 :: d :: r').toArray⟩ : ByteArray).size, (⟨(129 :: d :: r').toArray⟩ : ByteArray)[1]'hk = d := idx_at (by rfl)
          have hsub2 : wrap64 ((r'.length : Int) + 1) = (r'.length : Int) + 1 := by simp only [List.length_cons] at hs; unfold wrap64; omega
          have hlt2 : ¬ (r'.length : Int) + 1 < 1 := by omega
          by_cases h7 : d.toNat < 128
          · rw [hsp ⟨rfl, rfl, h7⟩]
            have h7' : ((d.toNat : Nat) : Int) < 128 := by omega
            clear hsp hok hsub hlt' h129 hlt
            go_enter Tryz.func249, Tryz.ntmps249
            go_wp2_with (refine (H.out _).mono ?_; rintro e W' ⟨rfl, hb⟩)
            exact bodyPost_ret (results_tmp3 rfl _ _ _) rfl ⟨rfl, hb⟩
          · rw [hok (fun h => h7 h.2.2)]
            have h7' : ¬ ((d.toNat : Nat) : Int) < 128 := by omega
            clear hsp hok hsub hlt' h129 hlt
            generalize (decide (192 ≤ ((129 :: d :: r').headD 0).toNat)) = dd
            go_enter Tryz.func249, Tryz.ntmps249
            go_wp2_with (refine (H.out _).mono ?_; rintro e W' ⟨rfl, hb⟩)
            exact bodyPost_ret (results_tmp3 rfl _ _ _) rfl ⟨rfl, hb⟩
        · have h5' : ¬ c.toNat = 129 := fun h => h5 (by rw [← UInt8.ofNat_toNat (x := c), h]; rfl)
          have h6 : (((c.toNat : Nat) : Int) == 129) = false := by simp; omega
          rw [hok (fun h => h5 h.2.1)]
          simp only
          have hsub2 : wrap64 (r.length : Int) = (r.length : Int) := by simp only [List.length_cons] at hs; unfold wrap64; omega
          have hlt2 : ¬ (r.length : Int) < (p2 : Nat) := by simp only [List.length_cons] at hlt; omega
          clear hsp hok hsub hlt' h129
          generalize (decide (192 ≤ c.toNat)) = dd
          go_enter Tryz.func249, Tryz.ntmps249
          go_wp2_with (refine (H.out _).mono ?_; rintro e W' ⟨rfl, hb⟩)
          exact bodyPost_ret (results_tmp3 rfl _ _ _) rfl ⟨rfl, hb⟩
      · rw [hok (fun h => h1 h.1)]
        have h1' : ¬ ((p1 : Nat) : Int) = 1 := by omega
        clear hsp hok
        go_enter Tryz.func249, Tryz.ntmps249
        go_wp2_with (refine (H.out _).mono ?_; rintro e W' ⟨rfl, hb⟩)
        exact bodyPost_ret (results_tmp3 rfl _ _ _) rfl ⟨rfl, hb⟩
  · obtain ⟨e1, e2⟩ := ln_no h0
    rw [e2]
    rw [e1] at H
    generalize (ln t).2.2 = q at *
    have h0' : ¬ ((q : Nat) : Int) = 0 := by omega
    simp only at H
    go_enter Tryz.func249, Tryz.ntmps249
    go_wp2_with (refine (H.out _).mono ?_; rintro e W' ⟨rfl, hb⟩)
    exact bodyPost_ret (results_tmp3 rfl _ _ _) rfl ⟨rfl, hb⟩

theorem hdT_list_flag {t : List UInt8} (h : (M.hdT t).e = 0) : (M.hdT t).list = decide (192 ≤ (t.headD 0).toNat) := by
  obtain ⟨_, _, _, h1, h2⟩ := M.hdT_ok h
  cases hl : (M.hdT t).list with
  | true => exact (decide_eq_true (h1 hl).2.1).symm
  | false =>
    refine (decide_eq_false ?_).symm
    have := ln_no (t := t)
    by_cases h0 : (ln t).2.2 = 0
    · obtain ⟨_, _, _, hsh, hsp, hok⟩ := ln_yes h0
      by_cases hlt : t.length < (ln t).1 + (ln t).2.1
      · rw [hsh hlt] at h; cases h
      · by_cases hx : (ln t).1 = 1 ∧ t.headD 0 = 129 ∧ ((t.drop 1).headD 0).toNat < 128
        · rw [hsp hlt hx] at h; cases h
        · rw [hok hlt hx] at hl
          exact of_decide_eq_false hl
    · rw [(this h0).2] at h
      exact absurd h h0

theorem results_four {fn : Func} {a b c d : Tmp} (h : fn.results = #[.tmp a, .tmp b, .tmp c, .tmp d]) (tmps : Array Value) (P : Program) (w : World) :
    (results fn tmps).run P w = .ok (.tuple #[tmps.getD a undef, tmps.getD b undef, tmps.getD c undef, tmps.getD d undef]) w := by
  simp [results, h]

set_option maxRecDepth 100000 in
set_option maxHeartbeats 4000000 in
theorem head_ok : HeadOk := by
  intro s k w hs
  by_cases hk0 : k < 0
  · have e : headZ s k = M.hdErr 1 := by unfold headZ; rw [if_pos hk0]
    rw [e]
    go_enter Tryz.func180, Tryz.ntmps180
    go_wp2_with fail
    exact bodyPost_ret (results_four rfl _ _ _) rfl ⟨rfl, Below.refl _ _⟩
  · obtain ⟨j, rfl⟩ : ∃ j : Nat, k = j := ⟨k.toNat, by omega⟩
    have e : headZ s (j : Int) = M.headL s j := by unfold headZ; rw [if_neg hk0]; simp
    rw [e]
    by_cases hj : s.length < j
    · have e2 : M.headL s j = M.hdErr 1 := by unfold M.headL; rw [if_pos hj]
      rw [e2]
      have hj' : (s.length : Int) < (j : Nat) := by omega
      go_enter Tryz.func180, Tryz.ntmps180
      go_wp2_with fail
      exact bodyPost_ret (results_four rfl _ _ _) rfl ⟨rfl, Below.refl _ _⟩
    · have hj' : ¬ (s.length : Int) < (j : Nat) := by omega
      have hsl : ∀ W : World, (Instr.slice 9 (.string ⟨s.toArray⟩) (some (.int .i64 (j : Nat))) none none).run Tryz.prog W = .ok (.string ⟨(s.drop j).toArray⟩) W := by
        intro W
        have h2 : ((j : Nat) : Int) ≤ (s.length : Nat) := by omega
        have e : (⟨s.toArray⟩ : ByteArray).extract j s.length = ⟨(s.drop j).toArray⟩ := by rw [cutS]; simp
        have hz : (⟨s.toArray⟩ : ByteArray).size = s.length := rfl
        simp [Instr.slice, run_underlying Tryz.underlying9, Instr.sliceBounds, run_sliceBound, h2, e, hz]
      have H := Lib.hid (fun W => ownOf_any (s.drop j) W (by rw [List.length_drop]; omega))
      have HL := Lib.hid (fun W => isList_any s j W hs (by omega))
      have hfl := hdT_list_flag (t := s.drop j)
      have hok := M.hdT_ok (t := s.drop j)
      have e2 : M.headL s j = if (M.hdT (s.drop j)).e = 0 then ⟨j + (M.hdT (s.drop j)).off, (M.hdT (s.drop j)).n, (M.hdT (s.drop j)).list, 0⟩ else M.hdErr (M.hdT (s.drop j)).e := by unfold M.headL; rw [if_neg hj]
      rw [e2]
      have hlen : (s.drop j).length = s.length - j := List.length_drop
      generalize s.drop j = t at *
      by_cases h0 : (M.hdT t).e = 0
      · rw [if_pos h0, hfl h0]
        obtain ⟨h1, h2, h3, _⟩ := hok h0
        rw [h0] at H
        generalize (M.hdT t).off = f at *
        generalize (M.hdT t).n = n at *
        generalize decide (192 ≤ (t.headD 0).toNat) = b at *
        have hadd : wrap64 ((j : Int) + (f : Nat)) = (j : Int) + (f : Nat) := by unfold wrap64; omega
        clear hfl hok e2
        go_enter Tryz.func180, Tryz.ntmps180
        go_wp2_with (first | (go_at_call 249; refine (H.out _).mono ?_; rintro e W' ⟨rfl, hb⟩) | (go_at_call 179; refine (HL.out _).mono ?_; rintro e W'' ⟨rfl, rfl⟩))
        exact bodyPost_ret (results_four rfl _ _ _) rfl ⟨by simp, hb⟩
      · rw [if_neg h0]
        generalize (M.hdT t).e = q at *
        have h0' : ¬ ((q : Nat) : Int) = 0 := by omega
        clear hfl hok e2
        go_enter Tryz.func180, Tryz.ntmps180
        go_wp2_with (refine (H.out _).mono ?_; rintro e W' ⟨rfl, hb⟩)
        exact bodyPost_ret (results_four rfl _ _ _) rfl ⟨rfl, hb⟩

end Go.Proofs.YtihiacbhdcahkaaGreatDoor
namespace Go.Proofs.YtihiacbhdcahkaaGreatDoor
open Go Go.RowKit

/-- How the body of a round may be left. -/
def lvPost {α : Type} (On : α → Prop) (B : Nat) (T : Nat → Prop) (I : List α → World → Prop) (Ix : α → World → Prop) (xs : List α) (x : α) (W : World) : Exit → Act → World → Prop
  | .normal, _, W' => On x ∧ KeepsFrom B W W' ∧ (∀ b, T b → W'.heap[b]? = W.heap[b]?) ∧ I xs W'
  | .ret, _, W' => ¬ On x ∧ KeepsFrom B W W' ∧ Ix x W'
  | _, _, _ => False

theorem range_lv {α : Type} {P : Program} {n : Nat} {g : Operand} {ps : Array Tmp} {assign body : Code} {Q : Exit → Act → World → Prop} {a : Act} {w : World} (h1 : 1 ≤ n)
    {gf : Nat} {lb : Array Value} (hg : a.eval g = .func (.func gf) #[] lb) (eg : ∀ args w, (callFunc gf args).run P w = .ok (.enter gf args) w)
    {encs : α → Array Value} (hps : ∀ x, (encs x).size = ps.size) (I : List α → World → Prop) (hI : OwnFrom w.heap.size I) (Ix : α → World → Prop) (hIx : OwnFrom w.heap.size Ix)
    (T : Nat → Prop) (hT : ∀ b, T b → b < w.heap.size) (S : List α → Prop) (Sx On : α → Prop)
    (G : List α → α → World → World → Prop)
    (hseq : ∀ (l : Nat) (J : List α → World → Prop) (Jx : α → World → Prop) (W : World), w.heap.size ≤ W.heap.size → (∀ b, T b → W.heap[b]? = w.heap[b]?) →
      (∀ pre A B, J pre A → A.grownBy B none → J pre B) →
      (∀ pre x A B, J pre A → A.grownBy B none → G pre x A B → YieldAt Fence.wide (n - 1 - 1) P l (encs x) B fun e W' =>
        (e = .returned (.bool true) ∧ On x ∧ J (pre ++ [x]) W' ∧ (∀ b, T b → W'.heap[b]? = B.heap[b]?)) ∨ (e = .returned (.bool false) ∧ ¬ On x ∧ Jx x W')) →
      J [] W → CallsIn Fence.wide (n - 1) P gf (#[.func (.yield l) #[] #[]] ++ lb) W fun e W' => (∃ v, e = .returned v) ∧ ((∃ xs, S xs ∧ J xs W') ∨ ∃ x, Sx x ∧ Jx x W'))
    (h0 : I [] w) (Ax : List α → α → Act → World → Prop) (hAx : ∀ pre x a', OwnFrom w.heap.size fun (_ : Unit) W => Ax pre x a' W)
    (hassign : ∀ (l : Nat) (pre : List α) (x : α) (A B : World) (K : Act → World → Prop), I pre A → A.grownBy B none → G pre x A B → (∀ a' B', KeepsFrom w.heap.size B B' → (∀ b, T b → B'.heap[b]? = B.heap[b]?) → Ax pre x a' B' → K a' B') →
      assign.wpIn (Fence.wide.inRound l) (n - 1 - 1) P (Exit.then K (fun _ _ _ => False)) { tmps := (ps.zip (encs x)).foldl (fun t (p, v) => t.setIfInBounds p v) a.tmps, defers := [] } B)
    (hbody : ∀ (l : Nat) (pre : List α) (x : α) (a' : Act) (B : World), Ax pre x a' B →
      body.wpIn (Fence.wide.inRound l) (n - 1 - 1) P (lvPost On w.heap.size T I Ix (pre ++ [x]) x B) a' B)
    (hdone : ∀ (D : Nat) (xs : List α) (W : World), w.heap.size ≤ D → S xs → I xs W → W.heap[D]? = some (.deferred (some [])) → Q .normal { a with defers := { target := .collected D, args := #[] } :: a.defers } W)
    (hstop : ∀ (D : Nat) (x : α) (W : World), w.heap.size ≤ D → Sx x → Ix x W → W.heap[D]? = some (.deferred (some [])) → Code.ret.wpIn Fence.wide n P Q { a with defers := { target := .collected D, args := #[] } :: a.defers } W) :
    (Code.rangeFunc g ps assign body).wpIn Fence.wide n P Q a w := by
  refine wpIn_rangeFunc ?_
  intro fn hfn
  have hro : Fence.wide.round = none := rfl
  rw [hro]
  obtain ⟨rec, hrec⟩ : ∃ rec : LoopState → Option Code → Loop, rec = fun st pe => { state := st, pending := pe, fn, tmps := a.tmps, params := ps, assign, body, defers := w.heap.size } := ⟨_, rfl⟩
  obtain ⟨W1, hW1⟩ : ∃ W1, (w.alloc (.deferred (some []))).alloc (.loop (rec .ready none)) = W1 := ⟨_, rfl⟩
  have hL1 : W1.heap[w.heap.size + 1]? = some (.loop (rec .ready none)) := by
    rw [← hW1]; have := World.alloc_heap_new (w.alloc (.deferred (some []))) (.loop (rec .ready none)); rwa [World.size_alloc] at this
  have hK1 : W1.heap[w.heap.size]? = some (.deferred (some [])) := by
    rw [← hW1]; exact (Below.heap_alloc _ _ _ (by simp)).trans (World.alloc_heap_new w _)
  have hI1 : I [] W1 := by rw [← hW1]; exact hI.alloc _ (hI.alloc _ h0)
  have hb1 : Below w.heap.size w W1 := by rw [← hW1]; exact ((Below.refl _ w).alloc (Nat.le_refl _) _).alloc (by simp) _
  refine ⟨w.heap.size + 1, [{ target := .collected w.heap.size, args := #[] }], W1, { target := .fn (.func gf) lb, args := #[.func (.yield (w.heap.size + 1)) #[] #[]] }, W1, gf,
    #[.func (.yield (w.heap.size + 1)) #[] #[]] ++ lb, W1, ?_, ?_, fun _ _ => trivial, ?_, fun _ => h1, ?_⟩
  · rw [← hW1, hrec]; exact run_enterLoop_outer _ _ _ _ _
  · simp only [resolve, hg]
    simp [go_sem]
  · simp [invoke, go_sem, eg]
  · refine (hseq (w.heap.size + 1)
      (fun pre W => I pre W ∧ W.heap[w.heap.size + 1]? = some (.loop (rec .ready none)) ∧ W.heap[w.heap.size]? = some (.deferred (some [])))
      (fun x W => Ix x W ∧ W.heap[w.heap.size + 1]? = some (.loop (rec .done (some .ret))) ∧ W.heap[w.heap.size]? = some (.deferred (some [])))
      W1 hb1.size (fun b hb => hb1.block b (hT b hb))
      (fun pre A B hs hg' => ⟨hI pre A B none hs.1 hg' (fun r e => by cases e), (hg'.block _ (Array.getElem?_eq_some_iff.1 hs.2.1).1 (by simp)).trans hs.2.1, (hg'.block _ (Array.getElem?_eq_some_iff.1 hs.2.2).1 (by simp)).trans hs.2.2⟩)
      ?_ ⟨hI1, hL1, hK1⟩).mono ?_
    · rintro pre x A W ⟨hi, hlA, hkA⟩ hgr hgx
      have hl : W.heap[w.heap.size + 1]? = some (.loop (rec .ready none)) := (hgr.block _ (Array.getElem?_eq_some_iff.1 hlA).1 (by simp)).trans hlA
      have hk : W.heap[w.heap.size]? = some (.deferred (some [])) := (hgr.block _ (Array.getElem?_eq_some_iff.1 hkA).1 (by simp)).trans hkA
      have hlt : w.heap.size + 1 < W.heap.size := (Array.getElem?_eq_some_iff.1 hl).1
      have hltA : w.heap.size + 1 < A.heap.size := (Array.getElem?_eq_some_iff.1 hlA).1
      have hy := run_yield (P := P) (args := encs x) hl (by rw [hrec]; exact hps x)
      rw [hrec] at hy
      refine ⟨fn, _, assign, body, hy, roundIn_of_wpIn hfn (hassign _ pre x A W _ hi hgr hgx ?_)⟩
      intro a' W' hk1 hT1 hax
      have hl1 := hk1.same _ _ (by omega) hl rfl
      have hd1 := hk1.same _ _ (Nat.le_refl _) hk rfl
      have hlt1 : w.heap.size + 1 < W'.heap.size := (Array.getElem?_eq_some_iff.1 hl1).1
      refine ⟨_, run_beginRound hl1 (by rw [hrec]), ?_⟩
      have hl2 : (W'.putObj (w.heap.size + 1) (.loop { rec .ready none with state := .busy })).heap[w.heap.size + 1]? = some (.loop { rec .ready none with state := .busy }) := World.putObj_heap_same hlt1
      have hk2 : (W'.putObj (w.heap.size + 1) (.loop { rec .ready none with state := .busy })).heap[w.heap.size]? = some (.deferred (some [])) := (World.putObj_heap_other (by omega)).trans hd1
      refine wpIn_mono (hbody _ pre x a' _ ((hAx pre x a').putObj (s := ()) _ hax (by omega) hl1 rfl)) ?_
      have fin : ∀ (jump : Option Code) (W3 : World), KeepsFrom w.heap.size (W'.putObj (w.heap.size + 1) (.loop { rec .ready none with state := .busy })) W3 →
          (Instr.endRound (w.heap.size + 1) jump).run P W3 = .ok (.bool jump.isNone) (W3.putObj (w.heap.size + 1) (.loop (rec (if jump.isNone then .ready else .done) jump))) ∧
          W3.heap[w.heap.size + 1]? = some (.loop { rec .ready none with state := .busy }) ∧
          (W3.putObj (w.heap.size + 1) (.loop (rec (if jump.isNone then .ready else .done) jump))).heap[w.heap.size + 1]? = some (.loop (rec (if jump.isNone then .ready else .done) jump)) ∧
          (W3.putObj (w.heap.size + 1) (.loop (rec (if jump.isNone then .ready else .done) jump))).heap[w.heap.size]? = some (.deferred (some [])) := fun jump W3 hk3 => by
        have hl3 := hk3.same _ _ (by omega) hl2 rfl
        have := run_endRound (P := P) jump hl3
        rw [hrec] at this ⊢
        exact ⟨this, by rw [hrec] at hl3; exact hl3, World.putObj_heap_same (Array.getElem?_eq_some_iff.1 hl3).1, (World.putObj_heap_other (by omega)).trans (hk3.same _ _ (Nat.le_refl _) hk2 rfl)⟩
      rintro e a3 W3 hp
      cases e with
      | normal =>
        obtain ⟨hon, hk3, hkp3, hi3⟩ := hp
        obtain ⟨hr, hl3, hl4, hk4⟩ := fin none W3 hk3
        refine ⟨_, _, hr, .inl ⟨rfl, hon, ⟨hI.putObj _ hi3 (by omega) hl3 rfl, hl4, hk4⟩, fun b hb => ?_⟩⟩
        have := hT b hb
        rw [World.putObj_heap_other (by omega), hkp3 b hb, World.putObj_heap_other (by omega), hT1 b hb]
      | ret =>
        obtain ⟨hon, hk3, hi3⟩ := hp
        obtain ⟨hr, hl3, hl4, hk4⟩ := fin (some .ret) W3 hk3
        exact ⟨_, _, hr, .inr ⟨rfl, hon, hIx.putObj _ hi3 (by omega) hl3 rfl, hl4, hk4⟩⟩
      | exit id => exact hp.elim
      | goto t => exact hp.elim
      | panic ch => exact hp.elim
      | outgrown => exact hp.elim
    · rintro e W2 ⟨⟨v, rfl⟩, (⟨xs, hS, hi, hl, hk⟩ | ⟨x, hSx, hi, hl, hk⟩)⟩
      · exact ⟨none, _, by have := run_endLoop (P := P) hl (by rw [hrec]; simp); rw [hrec] at this; exact this, hdone _ xs _ (Nat.le_refl _) hS (hI.putObj _ hi (by omega) hl rfl) ((World.putObj_heap_other (by omega)).trans hk)⟩
      · exact ⟨some .ret, _, by have := run_endLoop (P := P) hl (by rw [hrec]; simp); rw [hrec] at this; exact this, hstop _ x _ (Nat.le_refl _) hSx (hIx.putObj _ hi (by omega) hl rfl) ((World.putObj_heap_other (by omega)).trans hk)⟩

/-- What items lead to, where a block that holds no cells is turned. -/
theorem LayS.kept {w W : World} {S : Nat → Prop} {xs : List M.It} {v : Value} (h : LayS w S xs v) {row : Option Nat} (hg : w.grownBy W row) (hr : ∀ r, row = some r → ∃ o : Obj, w.heap[r]? = some o ∧ o.isCells = false) : LayS W S xs v := by
  induction h with
  | nil_ hm => exact .nil_ hm
  | row V hb hc hm c0 c1 c2 _ ih =>
    exact .row V hb hc hm (fun i l d ys e => cell_kept (c0 i l d ys e) hg hr) (fun i l d ys e => cell_kept (c1 i l d ys e) hg hr) (fun i l d ys e => cell_kept (c2 i l d ys e) hg hr) ih
theorem LayS.wider {w : World} {S T : Nat → Prop} {xs : List M.It} {v : Value} (h : LayS w S xs v) (hST : ∀ b, S b → T b) : LayS w T xs v := h.keep fun b hb => ⟨hST b hb, rfl⟩
theorem ItRow.kept {B : Nat} {w W : World} {L : List (M.It × Value)} {v : Value} (h : ItRow B w L v) {row : Option Nat} (hg : w.grownBy W row) (hr : ∀ r, row = some r → ∃ o : Obj, w.heap[r]? = some o ∧ o.isCells = false) : ItRow B W L v := by
  refine ⟨⟨h.own.1, ?_⟩, fun p hp => ((h.kid p hp).kept hg hr).wider fun b ⟨h1, h2, h3⟩ => ⟨h1, Nat.lt_of_lt_of_le h2 hg.size, h3⟩⟩
  rcases h.own.2 with h0 | ⟨g, cap, cur, hv, hB, hgc, h1⟩
  · exact .inl h0
  · refine .inr ⟨g, cap, cur, hv, hB, (hg.block g (Array.getElem?_eq_some_iff.1 hgc).1 (fun e => ?_)).trans hgc, h1⟩
    obtain ⟨o, ho, hc⟩ := hr g e.symm
    rw [hgc] at ho
    cases ho
    cases hc
end Go.Proofs.YtihiacbhdcahkaaGreatDoor
namespace Go.Proofs.YtihiacbhdcahkaaGreatDoor
open Go Go.RowKit

/-- The last item of a row is stored anew. -/
theorem ItRow.last {B : Nat} {w : World} {L : List (M.It × Value)} {z : M.It} {uz : Value} {v : Value} (h : ItRow B w (L ++ [(z, uz)]) v) (l : Bool) (d : List UInt8) (ys : List M.It) (u : Value) (hu : u.oneCell' = true)
    (hk : LayS w (fun b => B ≤ b ∧ b < w.heap.size ∧ some b ≠ v.ownBlock) ys u) :
    ∃ g cap w', v = .slice (some ⟨g, 0, none⟩) (L.length + 1) cap ∧ (storeVar 45 ⟨g, L.length * 3, none⟩ (.agg #[.bool l, .string ⟨d.toArray⟩, u])).run Tryz.prog w = .ok () w' ∧ ItRow B w' (L ++ [(.mk l d ys, u)]) v ∧ w.grownBy w' (some g) ∧ B ≤ g := by
  obtain ⟨hlen, hown⟩ := h.own
  rcases hown with ⟨_, h0⟩ | ⟨g, cap, cur, hv, hB, hg, hc, hm, hcs, htake⟩
  · simp at h0
  · rw [List.length_append, List.length_singleton] at hv hc htake
    obtain ⟨i, hi, hz0, hz1, hz2⟩ := info_parts Tryz.ofItem
    have h1 : ∀ x ∈ ([.bool l, .string ⟨d.toArray⟩, u] : List Value), x.oneCell' = true := by
      intro x hx
      simp only [List.mem_cons, List.not_mem_nil, or_false] at hx
      rcases hx with rfl | rfl | rfl
      · rfl
      · rfl
      · exact hu
    have hst := run_storeCells_at Tryz.prog g (L.length * 3) 45 [.bool l, .string ⟨d.toArray⟩, u] 0 cur w hg (by simp; omega) h1
    simp only [Nat.add_zero, List.length_cons, List.length_nil, Nat.zero_add, Nat.reduceAdd] at hst
    have hbk : v.ownBlock = some g := by rw [hv]; rfl
    obtain ⟨cur', hcur'⟩ : ∃ cur', cur' = (cur.toList.take (L.length * 3) ++ [.bool l, .string ⟨d.toArray⟩, u] ++ cur.toList.drop (L.length * 3 + 3)).toArray := ⟨_, rfl⟩
    rw [← hcur'] at hst
    have hgrow : w.grownBy (w.setRow g cur') (some g) := ⟨rfl, rfl, rfl, by simp, fun k _ hk => setRow_other w g k _ (fun e => hk (by simp [e]))⟩
    have hLl : (L.flatMap c3).length = L.length * 3 := by
      rw [List.flatMap_append, List.length_append] at hlen
      have e3 : ([(z, uz)].flatMap c3).length = 3 := by
        obtain ⟨zl, zd, zs⟩ := z
        rfl
      rw [e3, List.length_append, List.length_singleton] at hlen
      omega
    refine ⟨g, cap, w.setRow g cur', hv, ?_, ⟨⟨?_, .inr ⟨g, cap, cur', ?_, hB, setRow_heap w g cur cur' 45 (0, 0) hg, ?_, hm, ?_, ?_⟩⟩, ?_⟩, hgrow, hB⟩
    · simp [storeVar, Value.cells, hst]
    · rw [List.flatMap_append, List.length_append, hLl, List.length_append, List.length_singleton]
      show _ + 3 = _
      omega
    · rw [List.length_append, List.length_singleton]; exact hv
    · rw [List.length_append, List.length_singleton]; exact hc
    · rw [hcur', List.size_toArray]
      simp only [List.length_append, List.length_take, List.length_drop, List.length_cons, List.length_nil, Array.length_toList]
      omega
    · rw [List.length_append, List.length_singleton, hcur', List.toList_toArray, List.flatMap_append]
      have ht1 : cur.toList.take (L.length * 3) = L.flatMap c3 := by
        have := congrArg (List.take (L.length * 3)) htake
        rw [List.take_take, show min (L.length * 3) ((L.length + 1) * 3) = L.length * 3 by omega, List.flatMap_append, ← hLl, List.take_left] at this
        rw [hLl] at this
        exact this
      rw [ht1]
      have e3 : [((M.It.mk l d ys), u)].flatMap c3 = [.bool l, .string ⟨d.toArray⟩, u] := rfl
      rw [e3, show (L.length + 1) * 3 = (L.flatMap c3 ++ [.bool l, .string ⟨d.toArray⟩, u]).length by rw [List.length_append, hLl]; simp; omega, List.take_left]
    · have hS : ∀ b, (B ≤ b ∧ b < w.heap.size ∧ some b ≠ v.ownBlock) → (B ≤ b ∧ b < (w.setRow g cur').heap.size ∧ some b ≠ v.ownBlock) ∧ (w.setRow g cur').heap[b]? = w.heap[b]? := fun b ⟨k1, k2, k3⟩ =>
        ⟨⟨k1, Nat.lt_of_lt_of_le k2 hgrow.size, k3⟩, hgrow.block b k2 (by rw [← hbk]; exact k3)⟩
      intro p hp
      rcases List.mem_append.1 hp with h2 | h2
      · exact (h.kid p (List.mem_append_left _ h2)).keep hS
      · simp only [List.mem_singleton] at h2
        subst h2
        exact hk.keep hS
end Go.Proofs.YtihiacbhdcahkaaGreatDoor
