/- The reference's word of 32 digits. The reference's Unfixed. The reference's number: of bytes, the lowest ones first. The reference's Of: kinds that hand on. The reference's Of: bools. The reference's Of: unions. The reference's Of, of all kinds. The reference's Get. SszGets: the statement: for every input the call returns true and each argument reads as it did. The listed library tables are tied to the text (the card). Its condition: none beyond the card's own words. -/
import Derived.Test.YtgloapcfmlijlaaGreatDoorK03
import Derived.Test.YtgloapcfmlijlaaGreatDoorW5g
import Derived.Test.YtgloapcfmlijlaaGreatDoorK09
import Derived.Laws.IdiomStrings
import Derived.Test.YtgloapcfmlijlaaGreatDoorK18
import Derived.Test.YtgloapcfmlijlaaGreatDoorK14
import Derived.Laws.BytesArg
import Derived.Test.YtgloapcfmlijlaaGreatDoorK19
import Derived.Test.YtgloapcfmlijlaaGreatDoorK17
import Derived.Test.YtgloapcfmlijlaaGreatDoorK06
import Derived.Test.YtgloapcfmlijlaaGreatDoorK10
import Derived.Test.YtgloapcfmlijlaaGreatDoorCards
import Derived.Test.YtgloapcfmlijlaaGreatDoorTie
import Derived.ProofKit
import Derived.OpenShut
import Derived.ShutString
import Derived.ChangeOld
import Derived.Below
import Derived.LaidMore
import Derived.Lay
import Derived.SevenTiedAt
import Derived.Stop.Joined
namespace Go.Proofs.YtgloapcfmlijlaaGreatDoor
open Go Go.RowKit

/-- What part q holds when k digits have been added. -/
def rpv (d : Nat → Int) (q : Nat) : Nat → Int
  | 0 => 0
  | k + 1 => if k / 8 = q then rpv d q k + d k * ((256 ^ (k % 8) : Nat) : Int) else rpv d q k

theorem pv_same (d : Nat → Int) (q k : Nat) (h : ¬ k / 8 = q) : rpv d q (k + 1) = rpv d q k := by rw [rpv, if_neg h]
theorem pv_step (d : Nat → Int) (q k : Nat) (h : k / 8 = q) : rpv d q (k + 1) = rpv d q k + d k * ((256 ^ (k % 8) : Nat) : Int) := by rw [rpv, if_pos h]
theorem pv_in (d : Nat → Int) (hd : ∀ j, 0 ≤ d j ∧ d j < 256) (q : Nat) : ∀ k, 0 ≤ rpv d q k ∧ rpv d q k < ((256 ^ (if k / 8 = q then k % 8 else if k / 8 < q then 0 else 8) : Nat) : Int)
  | 0 => by
    refine ⟨Int.le_refl _, ?_⟩
    rw [rpv]
    exact Int.ofNat_lt.2 (Nat.pow_pos (by omega))
  | k + 1 => by
    have ih := pv_in d hd q k
    have hk := hd k
    by_cases h : k / 8 = q
    · rw [pv_step d q k h]
      rw [if_pos h] at ih
      have hp : (0 : Int) ≤ ((256 ^ (k % 8) : Nat) : Int) := by omega
      have e1 : d k * ((256 ^ (k % 8) : Nat) : Int) ≤ 255 * ((256 ^ (k % 8) : Nat) : Int) := Int.mul_le_mul_of_nonneg_right (by omega) hp
      have e0 : 0 ≤ d k * ((256 ^ (k % 8) : Nat) : Int) := Int.mul_nonneg hk.1 hp
      have e2 : ((256 ^ (k % 8 + 1) : Nat) : Int) = 256 * ((256 ^ (k % 8) : Nat) : Int) := by rw [Nat.pow_succ]; omega
      refine ⟨by omega, ?_⟩
      by_cases h8 : k % 8 = 7
      · have e3 : ((256 ^ 8 : Nat) : Int) = 256 * ((256 ^ (k % 8) : Nat) : Int) := by rw [h8]; rfl
        rw [if_neg (by omega), if_neg (by omega), e3]
        omega
      · rw [if_pos (by omega), show (k + 1) % 8 = k % 8 + 1 by omega, e2]
        omega
    · rw [pv_same d q k h]
      rw [if_neg h] at ih
      refine ⟨ih.1, Int.lt_of_lt_of_le ih.2 ?_⟩
      have hle : (if k / 8 < q then 0 else 8) ≤ (if (k + 1) / 8 = q then (k + 1) % 8 else if (k + 1) / 8 < q then 0 else 8) := by
        by_cases h1 : k / 8 < q
        · rw [if_pos h1]; omega
        · rw [if_neg h1, if_neg (by omega), if_neg (by omega)]
          exact Nat.le_refl _
      exact Int.ofNat_le.2 (Nat.pow_le_pow_right (by omega) hle)
theorem pv_wrap (d : Nat → Int) (hd : ∀ j, 0 ≤ d j ∧ d j < 256) (q k : Nat) (h : k / 8 = q) : IntKind.u64.wrap (rpv d q k + d k * ((256 ^ (k % 8) : Nat) : Int)) = rpv d q (k + 1) := by
  rw [← pv_step d q k h, IntKind.wrap_u64]
  have hb := pv_in d hd q (k + 1)
  have hle : (256 ^ (if (k + 1) / 8 = q then (k + 1) % 8 else if (k + 1) / 8 < q then 0 else 8) : Nat) ≤ 256 ^ 8 := Nat.pow_le_pow_right (by omega) (by split <;> (try split) <;> omega)
  have h8 : (256 : Nat) ^ 8 = 18446744073709551616 := rfl
  rw [h8] at hle
  omega
theorem dm_wrap (x : Int) (m : Int) (hx : 0 ≤ x ∧ x < 256) (hm : 0 ≤ m ∧ m ≤ 72057594037927936) : IntKind.u64.wrap (x * m) = x * m := by
  rw [IntKind.wrap_u64]
  have e0 : 0 ≤ x * m := Int.mul_nonneg hx.1 hm.1
  have e1 : x * m ≤ 255 * 72057594037927936 := Int.mul_le_mul (by omega) hm.2 hm.1 (by omega)
  omega
theorem d_wrap (x : Int) (hx : 0 ≤ x ∧ x < 256) : IntKind.u64.wrap x = x := by rw [IntKind.wrap_u64]; omega

set_option maxRecDepth 100000 in
set_option maxHeartbeats 16000000 in
theorem of_core (g cap : Nat) (d : Nat → Int) (w : World) (hc : Hid (∀ j, j < 32 → w.cell? ⟨g, j, none⟩ = some (.int .i64 (d j)))) (hg : g < w.heap.size) (hd : Hid (∀ j, 0 ≤ d j ∧ d j < 256)) :
    Calls Tryz.prog 189 #[.slice (some ⟨g, 0, none⟩) 32 cap] w fun e w' => e = .returned (wd (rpv d 0 32) (rpv d 1 32) (rpv d 2 32) (rpv d 3 32)) ∧ Below w.heap.size w w' := by
  go_enter Tryz.func189, Tryz.ntmps189
  go_wp2_with fail
  go_loopw [4] (fun i wr => ∃ k : Nat, k ≤ 32 ∧ i = .int .i64 (k : Int) ∧ C4 wr (w.heap.size + 1) (rpv d 0 k) (rpv d 1 k) (rpv d 2 k) (rpv d 3 k) ∧ C4 wr w.heap.size 0 0 0 0 ∧ Below w.heap.size w wr) (fun i _ => 32 - (intOf i).toNat)
  case atStart =>
    refine ⟨0, by omega, rfl, ⟨?_, ?_, ?_, ?_, ?_, ?_, ?_, ?_⟩, ⟨?_, ?_, ?_, ?_, ?_, ?_, ?_, ?_⟩, ?_⟩
    all_goals first | (simp [go_sem, rpv]; done) | (repeat (first | exact Below.refl _ _ | refine Below.drew ?_ | refine Below.alloc ?_ (by first | omega | (simp; omega) | simp) _ | refine Below.setCell ?_ (by first | omega | (simp; omega) | simp) _))
  case round =>
    obtain ⟨k, hk, rfl, hC, hR, hB⟩ := hrel
    match k, hk, hC with
    | 0, _, hC =>
      have kc := (hB.cell (p := ⟨g, 0, none⟩) hg).trans (hc.out 0 (by omega))
      have hw := d_wrap (d 0) (hd.out 0)
      have hs : IntKind.u64.wrap (rpv d 0 0 + d 0) = rpv d 0 1 := by
        have h := pv_wrap d hd.out 0 0 rfl
        rw [show ((256 ^ (0 % 8) : Nat) : Int) = 1 from rfl, Int.mul_one] at h
        exact h
      obtain ⟨c0, c1, c2, c3, f0, f1, f2, f3⟩ := id hC
      go_wp2_with fail
      go_region
      go_wp2_with fail
      obtain ⟨C, R, B⟩ := C4.step0 (v := rpv d 0 1) hC hR hB
      rw [← pv_same d 1 0 (by decide), ← pv_same d 2 0 (by decide), ← pv_same d 3 0 (by decide)] at C
      refine ⟨⟨1, by omega, rfl, C, R, B⟩, by simp [intOf]⟩
    | 1, _, hC =>
      have kc := (hB.cell (p := ⟨g, 1, none⟩) hg).trans (hc.out 1 (by omega))
      have hw := d_wrap (d 1) (hd.out 1)
      have hm : IntKind.u64.wrap (d 1 * 256) = d 1 * 256 := dm_wrap (d 1) 256 (hd.out 1) (by omega)
      have hs : IntKind.u64.wrap (rpv d 0 1 + d 1 * 256) = rpv d 0 2 := by
        have h := pv_wrap d hd.out 0 1 rfl
        rw [show ((256 ^ (1 % 8) : Nat) : Int) = 256 from rfl] at h
        exact h
      obtain ⟨c0, c1, c2, c3, f0, f1, f2, f3⟩ := id hC
      go_wp2_with fail
      go_region
      go_wp2_with fail
      obtain ⟨C, R, B⟩ := C4.step0 (v := rpv d 0 2) hC hR hB
      rw [← pv_same d 1 1 (by decide), ← pv_same d 2 1 (by decide), ← pv_same d 3 1 (by decide)] at C
      refine ⟨⟨2, by omega, rfl, C, R, B⟩, by simp [intOf]⟩
    | 2, _, hC =>
      have kc := (hB.cell (p := ⟨g, 2, none⟩) hg).trans (hc.out 2 (by omega))
      have hw := d_wrap (d 2) (hd.out 2)
      have hm : IntKind.u64.wrap (d 2 * 65536) = d 2 * 65536 := dm_wrap (d 2) 65536 (hd.out 2) (by omega)
      have hs : IntKind.u64.wrap (rpv d 0 2 + d 2 * 65536) = rpv d 0 3 := by
        have h := pv_wrap d hd.out 0 2 rfl
        rw [show ((256 ^ (2 % 8) : Nat) : Int) = 65536 from rfl] at h
        exact h
      obtain ⟨c0, c1, c2, c3, f0, f1, f2, f3⟩ := id hC
      go_wp2_with fail
      go_region
      go_wp2_with fail
      obtain ⟨C, R, B⟩ := C4.step0 (v := rpv d 0 3) hC hR hB
      rw [← pv_same d 1 2 (by decide), ← pv_same d 2 2 (by decide), ← pv_same d 3 2 (by decide)] at C
      refine ⟨⟨3, by omega, rfl, C, R, B⟩, by simp [intOf]⟩
    | 3, _, hC =>
      have kc := (hB.cell (p := ⟨g, 3, none⟩) hg).trans (hc.out 3 (by omega))
      have hw := d_wrap (d 3) (hd.out 3)
      have hm : IntKind.u64.wrap (d 3 * 16777216) = d 3 * 16777216 := dm_wrap (d 3) 16777216 (hd.out 3) (by omega)
      have hs : IntKind.u64.wrap (rpv d 0 3 + d 3 * 16777216) = rpv d 0 4 := by
        have h := pv_wrap d hd.out 0 3 rfl
        rw [show ((256 ^ (3 % 8) : Nat) : Int) = 16777216 from rfl] at h
        exact h
      obtain ⟨c0, c1, c2, c3, f0, f1, f2, f3⟩ := id hC
      go_wp2_with fail
      go_region
      go_wp2_with fail
      obtain ⟨C, R, B⟩ := C4.step0 (v := rpv d 0 4) hC hR hB
      rw [← pv_same d 1 3 (by decide), ← pv_same d 2 3 (by decide), ← pv_same d 3 3 (by decide)] at C
      refine ⟨⟨4, by omega, rfl, C, R, B⟩, by simp [intOf]⟩
    | 4, _, hC =>
      have kc := (hB.cell (p := ⟨g, 4, none⟩) hg).trans (hc.out 4 (by omega))
      have hw := d_wrap (d 4) (hd.out 4)
      have hm : IntKind.u64.wrap (d 4 * 4294967296) = d 4 * 4294967296 := dm_wrap (d 4) 4294967296 (hd.out 4) (by omega)
      have hs : IntKind.u64.wrap (rpv d 0 4 + d 4 * 4294967296) = rpv d 0 5 := by
        have h := pv_wrap d hd.out 0 4 rfl
        rw [show ((256 ^ (4 % 8) : Nat) : Int) = 4294967296 from rfl] at h
        exact h
      obtain ⟨c0, c1, c2, c3, f0, f1, f2, f3⟩ := id hC
      go_wp2_with fail
      go_region
      go_wp2_with fail
      obtain ⟨C, R, B⟩ := C4.step0 (v := rpv d 0 5) hC hR hB
      rw [← pv_same d 1 4 (by decide), ← pv_same d 2 4 (by decide), ← pv_same d 3 4 (by decide)] at C
      refine ⟨⟨5, by omega, rfl, C, R, B⟩, by simp [intOf]⟩
    | 5, _, hC =>
      have kc := (hB.cell (p := ⟨g, 5, none⟩) hg).trans (hc.out 5 (by omega))
      have hw := d_wrap (d 5) (hd.out 5)
      have hm : IntKind.u64.wrap (d 5 * 1099511627776) = d 5 * 1099511627776 := dm_wrap (d 5) 1099511627776 (hd.out 5) (by omega)
      have hs : IntKind.u64.wrap (rpv d 0 5 + d 5 * 1099511627776) = rpv d 0 6 := by
        have h := pv_wrap d hd.out 0 5 rfl
        rw [show ((256 ^ (5 % 8) : Nat) : Int) = 1099511627776 from rfl] at h
        exact h
      obtain ⟨c0, c1, c2, c3, f0, f1, f2, f3⟩ := id hC
      go_wp2_with fail
      go_region
      go_wp2_with fail
      obtain ⟨C, R, B⟩ := C4.step0 (v := rpv d 0 6) hC hR hB
      rw [← pv_same d 1 5 (by decide), ← pv_same d 2 5 (by decide), ← pv_same d 3 5 (by decide)] at C
      refine ⟨⟨6, by omega, rfl, C, R, B⟩, by simp [intOf]⟩
    | 6, _, hC =>
      have kc := (hB.cell (p := ⟨g, 6, none⟩) hg).trans (hc.out 6 (by omega))
      have hw := d_wrap (d 6) (hd.out 6)
      have hm : IntKind.u64.wrap (d 6 * 281474976710656) = d 6 * 281474976710656 := dm_wrap (d 6) 281474976710656 (hd.out 6) (by omega)
      have hs : IntKind.u64.wrap (rpv d 0 6 + d 6 * 281474976710656) = rpv d 0 7 := by
        have h := pv_wrap d hd.out 0 6 rfl
        rw [show ((256 ^ (6 % 8) : Nat) : Int) = 281474976710656 from rfl] at h
        exact h
      obtain ⟨c0, c1, c2, c3, f0, f1, f2, f3⟩ := id hC
      go_wp2_with fail
      go_region
      go_wp2_with fail
      obtain ⟨C, R, B⟩ := C4.step0 (v := rpv d 0 7) hC hR hB
      rw [← pv_same d 1 6 (by decide), ← pv_same d 2 6 (by decide), ← pv_same d 3 6 (by decide)] at C
      refine ⟨⟨7, by omega, rfl, C, R, B⟩, by simp [intOf]⟩
    | 7, _, hC =>
      have kc := (hB.cell (p := ⟨g, 7, none⟩) hg).trans (hc.out 7 (by omega))
      have hw := d_wrap (d 7) (hd.out 7)
      have hm : IntKind.u64.wrap (d 7 * 72057594037927936) = d 7 * 72057594037927936 := dm_wrap (d 7) 72057594037927936 (hd.out 7) (by omega)
      have hs : IntKind.u64.wrap (rpv d 0 7 + d 7 * 72057594037927936) = rpv d 0 8 := by
        have h := pv_wrap d hd.out 0 7 rfl
        rw [show ((256 ^ (7 % 8) : Nat) : Int) = 72057594037927936 from rfl] at h
        exact h
      obtain ⟨c0, c1, c2, c3, f0, f1, f2, f3⟩ := id hC
      go_wp2_with fail
      go_region
      go_wp2_with fail
      obtain ⟨C, R, B⟩ := C4.step0 (v := rpv d 0 8) hC hR hB
      rw [← pv_same d 1 7 (by decide), ← pv_same d 2 7 (by decide), ← pv_same d 3 7 (by decide)] at C
      refine ⟨⟨8, by omega, rfl, C, R, B⟩, by simp [intOf]⟩
    | 8, _, hC =>
      have kc := (hB.cell (p := ⟨g, 8, none⟩) hg).trans (hc.out 8 (by omega))
      have hw := d_wrap (d 8) (hd.out 8)
      have hs : IntKind.u64.wrap (rpv d 1 8 + d 8) = rpv d 1 9 := by
        have h := pv_wrap d hd.out 1 8 rfl
        rw [show ((256 ^ (8 % 8) : Nat) : Int) = 1 from rfl, Int.mul_one] at h
        exact h
      obtain ⟨c0, c1, c2, c3, f0, f1, f2, f3⟩ := id hC
      go_wp2_with fail
      go_region
      go_wp2_with fail
      obtain ⟨C, R, B⟩ := C4.step1 (v := rpv d 1 9) hC hR hB
      rw [← pv_same d 0 8 (by decide), ← pv_same d 2 8 (by decide), ← pv_same d 3 8 (by decide)] at C
      refine ⟨⟨9, by omega, rfl, C, R, B⟩, by simp [intOf]⟩
    | 9, _, hC =>
      have kc := (hB.cell (p := ⟨g, 9, none⟩) hg).trans (hc.out 9 (by omega))
      have hw := d_wrap (d 9) (hd.out 9)
      have hm : IntKind.u64.wrap (d 9 * 256) = d 9 * 256 := dm_wrap (d 9) 256 (hd.out 9) (by omega)
      have hs : IntKind.u64.wrap (rpv d 1 9 + d 9 * 256) = rpv d 1 10 := by
        have h := pv_wrap d hd.out 1 9 rfl
        rw [show ((256 ^ (9 % 8) : Nat) : Int) = 256 from rfl] at h
        exact h
      obtain ⟨c0, c1, c2, c3, f0, f1, f2, f3⟩ := id hC
      go_wp2_with fail
      go_region
      go_wp2_with fail
      obtain ⟨C, R, B⟩ := C4.step1 (v := rpv d 1 10) hC hR hB
      rw [← pv_same d 0 9 (by decide), ← pv_same d 2 9 (by decide), ← pv_same d 3 9 (by decide)] at C
      refine ⟨⟨10, by omega, rfl, C, R, B⟩, by simp [intOf]⟩
    | 10, _, hC =>
      have kc := (hB.cell (p := ⟨g, 10, none⟩) hg).trans (hc.out 10 (by omega))
      have hw := d_wrap (d 10) (hd.out 10)
      have hm : IntKind.u64.wrap (d 10 * 65536) = d 10 * 65536 := dm_wrap (d 10) 65536 (hd.out 10) (by omega)
      have hs : IntKind.u64.wrap (rpv d 1 10 + d 10 * 65536) = rpv d 1 11 := by
        have h := pv_wrap d hd.out 1 10 rfl
        rw [show ((256 ^ (10 % 8) : Nat) : Int) = 65536 from rfl] at h
        exact h
      obtain ⟨c0, c1, c2, c3, f0, f1, f2, f3⟩ := id hC
      go_wp2_with fail
      go_region
      go_wp2_with fail
      obtain ⟨C, R, B⟩ := C4.step1 (v := rpv d 1 11) hC hR hB
      rw [← pv_same d 0 10 (by decide), ← pv_same d 2 10 (by decide), ← pv_same d 3 10 (by decide)] at C
      refine ⟨⟨11, by omega, rfl, C, R, B⟩, by simp [intOf]⟩
    | 11, _, hC =>
      have kc := (hB.cell (p := ⟨g, 11, none⟩) hg).trans (hc.out 11 (by omega))
      have hw := d_wrap (d 11) (hd.out 11)
      have hm : IntKind.u64.wrap (d 11 * 16777216) = d 11 * 16777216 := dm_wrap (d 11) 16777216 (hd.out 11) (by omega)
      have hs : IntKind.u64.wrap (rpv d 1 11 + d 11 * 16777216) = rpv d 1 12 := by
        have h := pv_wrap d hd.out 1 11 rfl
        rw [show ((256 ^ (11 % 8) : Nat) : Int) = 16777216 from rfl] at h
        exact h
      obtain ⟨c0, c1, c2, c3, f0, f1, f2, f3⟩ := id hC
      go_wp2_with fail
      go_region
      go_wp2_with fail
      obtain ⟨C, R, B⟩ := C4.step1 (v := rpv d 1 12) hC hR hB
      rw [← pv_same d 0 11 (by decide), ← pv_same d 2 11 (by decide), ← pv_same d 3 11 (by decide)] at C
      refine ⟨⟨12, by omega, rfl, C, R, B⟩, by simp [intOf]⟩
    | 12, _, hC =>
      have kc := (hB.cell (p := ⟨g, 12, none⟩) hg).trans (hc.out 12 (by omega))
      have hw := d_wrap (d 12) (hd.out 12)
      have hm : IntKind.u64.wrap (d 12 * 4294967296) = d 12 * 4294967296 := dm_wrap (d 12) 4294967296 (hd.out 12) (by omega)
      have hs : IntKind.u64.wrap (rpv d 1 12 + d 12 * 4294967296) = rpv d 1 13 := by
        have h := pv_wrap d hd.out 1 12 rfl
        rw [show ((256 ^ (12 % 8) : Nat) : Int) = 4294967296 from rfl] at h
        exact h
      obtain ⟨c0, c1, c2, c3, f0, f1, f2, f3⟩ := id hC
      go_wp2_with fail
      go_region
      go_wp2_with fail
      obtain ⟨C, R, B⟩ := C4.step1 (v := rpv d 1 13) hC hR hB
      rw [← pv_same d 0 12 (by decide), ← pv_same d 2 12 (by decide), ← pv_same d 3 12 (by decide)] at C
      refine ⟨⟨13, by omega, rfl, C, R, B⟩, by simp [intOf]⟩
    | 13, _, hC =>
      have kc := (hB.cell (p := ⟨g, 13, none⟩) hg).trans (hc.out 13 (by omega))
      have hw := d_wrap (d 13) (hd.out 13)
      have hm : IntKind.u64.wrap (d 13 * 1099511627776) = d 13 * 1099511627776 := dm_wrap (d 13) 1099511627776 (hd.out 13) (by omega)
      have hs : IntKind.u64.wrap (rpv d 1 13 + d 13 * 1099511627776) = rpv d 1 14 := by
        have h := pv_wrap d hd.out 1 13 rfl
        rw [show ((256 ^ (13 % 8) : Nat) : Int) = 1099511627776 from rfl] at h
        exact h
      obtain ⟨c0, c1, c2, c3, f0, f1, f2, f3⟩ := id hC
      go_wp2_with fail
      go_region
      go_wp2_with fail
      obtain ⟨C, R, B⟩ := C4.step1 (v := rpv d 1 14) hC hR hB
      rw [← pv_same d 0 13 (by decide), ← pv_same d 2 13 (by decide), ← pv_same d 3 13 (by decide)] at C
      refine ⟨⟨14, by omega, rfl, C, R, B⟩, by simp [intOf]⟩
    | 14, _, hC =>
      have kc := (hB.cell (p := ⟨g, 14, none⟩) hg).trans (hc.out 14 (by omega))
      have hw := d_wrap (d 14) (hd.out 14)
      have hm : IntKind.u64.wrap (d 14 * 281474976710656) = d 14 * 281474976710656 := dm_wrap (d 14) 281474976710656 (hd.out 14) (by omega)
      have hs : IntKind.u64.wrap (rpv d 1 14 + d 14 * 281474976710656) = rpv d 1 15 := by
        have h := pv_wrap d hd.out 1 14 rfl
        rw [show ((256 ^ (14 % 8) : Nat) : Int) = 281474976710656 from rfl] at h
        exact h
      obtain ⟨c0, c1, c2, c3, f0, f1, f2, f3⟩ := id hC
      go_wp2_with fail
      go_region
      go_wp2_with fail
      obtain ⟨C, R, B⟩ := C4.step1 (v := rpv d 1 15) hC hR hB
      rw [← pv_same d 0 14 (by decide), ← pv_same d 2 14 (by decide), ← pv_same d 3 14 (by decide)] at C
      refine ⟨⟨15, by omega, rfl, C, R, B⟩, by simp [intOf]⟩
    | 15, _, hC =>
      have kc := (hB.cell (p := ⟨g, 15, none⟩) hg).trans (hc.out 15 (by omega))
      have hw := d_wrap (d 15) (hd.out 15)
      have hm : IntKind.u64.wrap (d 15 * 72057594037927936) = d 15 * 72057594037927936 := dm_wrap (d 15) 72057594037927936 (hd.out 15) (by omega)
      have hs : IntKind.u64.wrap (rpv d 1 15 + d 15 * 72057594037927936) = rpv d 1 16 := by
        have h := pv_wrap d hd.out 1 15 rfl
        rw [show ((256 ^ (15 % 8) : Nat) : Int) = 72057594037927936 from rfl] at h
        exact h
      obtain ⟨c0, c1, c2, c3, f0, f1, f2, f3⟩ := id hC
      go_wp2_with fail
      go_region
      go_wp2_with fail
      obtain ⟨C, R, B⟩ := C4.step1 (v := rpv d 1 16) hC hR hB
      rw [← pv_same d 0 15 (by decide), ← pv_same d 2 15 (by decide), ← pv_same d 3 15 (by decide)] at C
      refine ⟨⟨16, by omega, rfl, C, R, B⟩, by simp [intOf]⟩
    | 16, _, hC =>
      have kc := (hB.cell (p := ⟨g, 16, none⟩) hg).trans (hc.out 16 (by omega))
      have hw := d_wrap (d 16) (hd.out 16)
      have hs : IntKind.u64.wrap (rpv d 2 16 + d 16) = rpv d 2 17 := by
        have h := pv_wrap d hd.out 2 16 rfl
        rw [show ((256 ^ (16 % 8) : Nat) : Int) = 1 from rfl, Int.mul_one] at h
        exact h
      obtain ⟨c0, c1, c2, c3, f0, f1, f2, f3⟩ := id hC
      go_wp2_with fail
      go_region
      go_wp2_with fail
      obtain ⟨C, R, B⟩ := C4.step2 (v := rpv d 2 17) hC hR hB
      rw [← pv_same d 0 16 (by decide), ← pv_same d 1 16 (by decide), ← pv_same d 3 16 (by decide)] at C
      refine ⟨⟨17, by omega, rfl, C, R, B⟩, by simp [intOf]⟩
    | 17, _, hC =>
      have kc := (hB.cell (p := ⟨g, 17, none⟩) hg).trans (hc.out 17 (by omega))
      have hw := d_wrap (d 17) (hd.out 17)
      have hm : IntKind.u64.wrap (d 17 * 256) = d 17 * 256 := dm_wrap (d 17) 256 (hd.out 17) (by omega)
      have hs : IntKind.u64.wrap (rpv d 2 17 + d 17 * 256) = rpv d 2 18 := by
        have h := pv_wrap d hd.out 2 17 rfl
        rw [show ((256 ^ (17 % 8) : Nat) : Int) = 256 from rfl] at h
        exact h
      obtain ⟨c0, c1, c2, c3, f0, f1, f2, f3⟩ := id hC
      go_wp2_with fail
      go_region
      go_wp2_with fail
      obtain ⟨C, R, B⟩ := C4.step2 (v := rpv d 2 18) hC hR hB
      rw [← pv_same d 0 17 (by decide), ← pv_same d 1 17 (by decide), ← pv_same d 3 17 (by decide)] at C
      refine ⟨⟨18, by omega, rfl, C, R, B⟩, by simp [intOf]⟩
    | 18, _, hC =>
      have kc := (hB.cell (p := ⟨g, 18, none⟩) hg).trans (hc.out 18 (by omega))
      have hw := d_wrap (d 18) (hd.out 18)
      have hm : IntKind.u64.wrap (d 18 * 65536) = d 18 * 65536 := dm_wrap (d 18) 65536 (hd.out 18) (by omega)
      have hs : IntKind.u64.wrap (rpv d 2 18 + d 18 * 65536) = rpv d 2 19 := by
        have h := pv_wrap d hd.out 2 18 rfl
        rw [show ((256 ^ (18 % 8) : Nat) : Int) = 65536 from rfl] at h
        exact h
      obtain ⟨c0, c1, c2, c3, f0, f1, f2, f3⟩ := id hC
      go_wp2_with fail
      go_region
      go_wp2_with fail
      obtain ⟨C, R, B⟩ := C4.step2 (v := rpv d 2 19) hC hR hB
      rw [← pv_same d 0 18 (by decide), ← pv_same d 1 18 (by decide), ← pv_same d 3 18 (by decide)] at C
      refine ⟨⟨19, by omega, rfl, C, R, B⟩, by simp [intOf]⟩
    | 19, _, hC =>
      have kc := (hB.cell (p := ⟨g, 19, none⟩) hg).trans (hc.out 19 (by omega))
      have hw := d_wrap (d 19) (hd.out 19)
      have hm : IntKind.u64.wrap (d 19 * 16777216) = d 19 * 16777216 := dm_wrap (d 19) 16777216 (hd.out 19) (by omega)
      have hs : IntKind.u64.wrap (rpv d 2 19 + d 19 * 16777216) = rpv d 2 20 := by
        have h := pv_wrap d hd.out 2 19 rfl
        rw [show ((256 ^ (19 % 8) : Nat) : Int) = 16777216 from rfl] at h
        exact h
      obtain ⟨c0, c1, c2, c3, f0, f1, f2, f3⟩ := id hC
      go_wp2_with fail
      go_region
      go_wp2_with fail
      obtain ⟨C, R, B⟩ := C4.step2 (v := rpv d 2 20) hC hR hB
      rw [← pv_same d 0 19 (by decide), ← pv_same d 1 19 (by decide), ← pv_same d 3 19 (by decide)] at C
      refine ⟨⟨20, by omega, rfl, C, R, B⟩, by simp [intOf]⟩
    | 20, _, hC =>
      have kc := (hB.cell (p := ⟨g, 20, none⟩) hg).trans (hc.out 20 (by omega))
      have hw := d_wrap (d 20) (hd.out 20)
      have hm : IntKind.u64.wrap (d 20 * 4294967296) = d 20 * 4294967296 := dm_wrap (d 20) 4294967296 (hd.out 20) (by omega)
      have hs : IntKind.u64.wrap (rpv d 2 20 + d 20 * 4294967296) = rpv d 2 21 := by
        have h := pv_wrap d hd.out 2 20 rfl
        rw [show ((256 ^ (20 % 8) : Nat) : Int) = 4294967296 from rfl] at h
        exact h
      obtain ⟨c0, c1, c2, c3, f0, f1, f2, f3⟩ := id hC
      go_wp2_with fail
      go_region
      go_wp2_with fail
      obtain ⟨C, R, B⟩ := C4.step2 (v := rpv d 2 21) hC hR hB
      rw [← pv_same d 0 20 (by decide), ← pv_same d 1 20 (by decide), ← pv_same d 3 20 (by decide)] at C
      refine ⟨⟨21, by omega, rfl, C, R, B⟩, by simp [intOf]⟩
    | 21, _, hC =>
      have kc := (hB.cell (p := ⟨g, 21, none⟩) hg).trans (hc.out 21 (by omega))
      have hw := d_wrap (d 21) (hd.out 21)
      have hm : IntKind.u64.wrap (d 21 * 1099511627776) = d 21 * 1099511627776 := dm_wrap (d 21) 1099511627776 (hd.out 21) (by omega)
      have hs : IntKind.u64.wrap (rpv d 2 21 + d 21 * 1099511627776) = rpv d 2 22 := by
        have h := pv_wrap d hd.out 2 21 rfl
        rw [show ((256 ^ (21 % 8) : Nat) : Int) = 1099511627776 from rfl] at h
        exact h
      obtain ⟨c0, c1, c2, c3, f0, f1, f2, f3⟩ := id hC
      go_wp2_with fail
      go_region
      go_wp2_with fail
      obtain ⟨C, R, B⟩ := C4.step2 (v := rpv d 2 22) hC hR hB
      rw [← pv_same d 0 21 (by decide), ← pv_same d 1 21 (by decide), ← pv_same d 3 21 (by decide)] at C
      refine ⟨⟨22, by omega, rfl, C, R, B⟩, by simp [intOf]⟩
    | 22, _, hC =>
      have kc := (hB.cell (p := ⟨g, 22, none⟩) hg).trans (hc.out 22 (by omega))
      have hw := d_wrap (d 22) (hd.out 22)
      have hm : IntKind.u64.wrap (d 22 * 281474976710656) = d 22 * 281474976710656 := dm_wrap (d 22) 281474976710656 (hd.out 22) (by omega)
      have hs : IntKind.u64.wrap (rpv d 2 22 + d 22 * 281474976710656) = rpv d 2 23 := by
        have h := pv_wrap d hd.out 2 22 rfl
        rw [show ((256 ^ (22 % 8) : Nat) : Int) = 281474976710656 from rfl] at h
        exact h
      obtain ⟨c0, c1, c2, c3, f0, f1, f2, f3⟩ := id hC
      go_wp2_with fail
      go_region
      go_wp2_with fail
      obtain ⟨C, R, B⟩ := C4.step2 (v := rpv d 2 23) hC hR hB
      rw [← pv_same d 0 22 (by decide), ← pv_same d 1 22 (by decide), ← pv_same d 3 22 (by decide)] at C
      refine ⟨⟨23, by omega, rfl, C, R, B⟩, by simp [intOf]⟩
    | 23, _, hC =>
      have kc := (hB.cell (p := ⟨g, 23, none⟩) hg).trans (hc.out 23 (by omega))
      have hw := d_wrap (d 23) (hd.out 23)
      have hm : IntKind.u64.wrap (d 23 * 72057594037927936) = d 23 * 72057594037927936 := dm_wrap (d 23) 72057594037927936 (hd.out 23) (by omega)
      have hs : IntKind.u64.wrap (rpv d 2 23 + d 23 * 72057594037927936) = rpv d 2 24 := by
        have h := pv_wrap d hd.out 2 23 rfl
        rw [show ((256 ^ (23 % 8) : Nat) : Int) = 72057594037927936 from rfl] at h
        exact h
      obtain ⟨c0, c1, c2, c3, f0, f1, f2, f3⟩ := id hC
      go_wp2_with fail
      go_region
      go_wp2_with fail
      obtain ⟨C, R, B⟩ := C4.step2 (v := rpv d 2 24) hC hR hB
      rw [← pv_same d 0 23 (by decide), ← pv_same d 1 23 (by decide), ← pv_same d 3 23 (by decide)] at C
      refine ⟨⟨24, by omega, rfl, C, R, B⟩, by simp [intOf]⟩
    | 24, _, hC =>
      have kc := (hB.cell (p := ⟨g, 24, none⟩) hg).trans (hc.out 24 (by omega))
      have hw := d_wrap (d 24) (hd.out 24)
      have hs : IntKind.u64.wrap (rpv d 3 24 + d 24) = rpv d 3 25 := by
        have h := pv_wrap d hd.out 3 24 rfl
        rw [show ((256 ^ (24 % 8) : Nat) : Int) = 1 from rfl, Int.mul_one] at h
        exact h
      obtain ⟨c0, c1, c2, c3, f0, f1, f2, f3⟩ := id hC
      go_wp2_with fail
      go_region
      go_wp2_with fail
      obtain ⟨C, R, B⟩ := C4.step3 (v := rpv d 3 25) hC hR hB
      rw [← pv_same d 0 24 (by decide), ← pv_same d 1 24 (by decide), ← pv_same d 2 24 (by decide)] at C
      refine ⟨⟨25, by omega, rfl, C, R, B⟩, by simp [intOf]⟩
    | 25, _, hC =>
      have kc := (hB.cell (p := ⟨g, 25, none⟩) hg).trans (hc.out 25 (by omega))
      have hw := d_wrap (d 25) (hd.out 25)
      have hm : IntKind.u64.wrap (d 25 * 256) = d 25 * 256 := dm_wrap (d 25) 256 (hd.out 25) (by omega)
      have hs : IntKind.u64.wrap (rpv d 3 25 + d 25 * 256) = rpv d 3 26 := by
        have h := pv_wrap d hd.out 3 25 rfl
        rw [show ((256 ^ (25 % 8) : Nat) : Int) = 256 from rfl] at h
        exact h
      obtain ⟨c0, c1, c2, c3, f0, f1, f2, f3⟩ := id hC
      go_wp2_with fail
      go_region
      go_wp2_with fail
      obtain ⟨C, R, B⟩ := C4.step3 (v := rpv d 3 26) hC hR hB
      rw [← pv_same d 0 25 (by decide), ← pv_same d 1 25 (by decide), ← pv_same d 2 25 (by decide)] at C
      refine ⟨⟨26, by omega, rfl, C, R, B⟩, by simp [intOf]⟩
    | 26, _, hC =>
      have kc := (hB.cell (p := ⟨g, 26, none⟩) hg).trans (hc.out 26 (by omega))
      have hw := d_wrap (d 26) (hd.out 26)
      have hm : IntKind.u64.wrap (d 26 * 65536) = d 26 * 65536 := dm_wrap (d 26) 65536 (hd.out 26) (by omega)
      have hs : IntKind.u64.wrap (rpv d 3 26 + d 26 * 65536) = rpv d 3 27 := by
        have h := pv_wrap d hd.out 3 26 rfl
        rw [show ((256 ^ (26 % 8) : Nat) : Int) = 65536 from rfl] at h
        exact h
      obtain ⟨c0, c1, c2, c3, f0, f1, f2, f3⟩ := id hC
      go_wp2_with fail
      go_region
      go_wp2_with fail
      obtain ⟨C, R, B⟩ := C4.step3 (v := rpv d 3 27) hC hR hB
      rw [← pv_same d 0 26 (by decide), ← pv_same d 1 26 (by decide), ← pv_same d 2 26 (by decide)] at C
      refine ⟨⟨27, by omega, rfl, C, R, B⟩, by simp [intOf]⟩
    | 27, _, hC =>
      have kc := (hB.cell (p := ⟨g, 27, none⟩) hg).trans (hc.out 27 (by omega))
      have hw := d_wrap (d 27) (hd.out 27)
      have hm : IntKind.u64.wrap (d 27 * 16777216) = d 27 * 16777216 := dm_wrap (d 27) 16777216 (hd.out 27) (by omega)
      have hs : IntKind.u64.wrap (rpv d 3 27 + d 27 * 16777216) = rpv d 3 28 := by
        have h := pv_wrap d hd.out 3 27 rfl
        rw [show ((256 ^ (27 % 8) : Nat) : Int) = 16777216 from rfl] at h
        exact h
      obtain ⟨c0, c1, c2, c3, f0, f1, f2, f3⟩ := id hC
      go_wp2_with fail
      go_region
      go_wp2_with fail
      obtain ⟨C, R, B⟩ := C4.step3 (v := rpv d 3 28) hC hR hB
      rw [← pv_same d 0 27 (by decide), ← pv_same d 1 27 (by decide), ← pv_same d 2 27 (by decide)] at C
      refine ⟨⟨28, by omega, rfl, C, R, B⟩, by simp [intOf]⟩
    | 28, _, hC =>
      have kc := (hB.cell (p := ⟨g, 28, none⟩) hg).trans (hc.out 28 (by omega))
      have hw := d_wrap (d 28) (hd.out 28)
      have hm : IntKind.u64.wrap (d 28 * 4294967296) = d 28 * 4294967296 := dm_wrap (d 28) 4294967296 (hd.out 28) (by omega)
      have hs : IntKind.u64.wrap (rpv d 3 28 + d 28 * 4294967296) = rpv d 3 29 := by
        have h := pv_wrap d hd.out 3 28 rfl
        rw [show ((256 ^ (28 % 8) : Nat) : Int) = 4294967296 from rfl] at h
        exact h
      obtain ⟨c0, c1, c2, c3, f0, f1, f2, f3⟩ := id hC
      go_wp2_with fail
      go_region
      go_wp2_with fail
      obtain ⟨C, R, B⟩ := C4.step3 (v := rpv d 3 29) hC hR hB
      rw [← pv_same d 0 28 (by decide), ← pv_same d 1 28 (by decide), ← pv_same d 2 28 (by decide)] at C
      refine ⟨⟨29, by omega, rfl, C, R, B⟩, by simp [intOf]⟩
    | 29, _, hC =>
      have kc := (hB.cell (p := ⟨g, 29, none⟩) hg).trans (hc.out 29 (by omega))
      have hw := d_wrap (d 29) (hd.out 29)
      have hm : IntKind.u64.wrap (d 29 * 1099511627776) = d 29 * 1099511627776 := dm_wrap (d 29) 1099511627776 (hd.out 29) (by omega)
      have hs : IntKind.u64.wrap (rpv d 3 29 + d 29 * 1099511627776) = rpv d 3 30 := by
        have h := pv_wrap d hd.out 3 29 rfl
        rw [show ((256 ^ (29 % 8) : Nat) : Int) = 1099511627776 from rfl] at h
        exact h
      obtain ⟨c0, c1, c2, c3, f0, f1, f2, f3⟩ := id hC
      go_wp2_with fail
      go_region
      go_wp2_with fail
      obtain ⟨C, R, B⟩ := C4.step3 (v := rpv d 3 30) hC hR hB
      rw [← pv_same d 0 29 (by decide), ← pv_same d 1 29 (by decide), ← pv_same d 2 29 (by decide)] at C
      refine ⟨⟨30, by omega, rfl, C, R, B⟩, by simp [intOf]⟩
    | 30, _, hC =>
      have kc := (hB.cell (p := ⟨g, 30, none⟩) hg).trans (hc.out 30 (by omega))
      have hw := d_wrap (d 30) (hd.out 30)
      have hm : IntKind.u64.wrap (d 30 * 281474976710656) = d 30 * 281474976710656 := dm_wrap (d 30) 281474976710656 (hd.out 30) (by omega)
      have hs : IntKind.u64.wrap (rpv d 3 30 + d 30 * 281474976710656) = rpv d 3 31 := by
        have h := pv_wrap d hd.out 3 30 rfl
        rw [show ((256 ^ (30 % 8) : Nat) : Int) = 281474976710656 from rfl] at h
        exact h
      obtain ⟨c0, c1, c2, c3, f0, f1, f2, f3⟩ := id hC
      go_wp2_with fail
      go_region
      go_wp2_with fail
      obtain ⟨C, R, B⟩ := C4.step3 (v := rpv d 3 31) hC hR hB
      rw [← pv_same d 0 30 (by decide), ← pv_same d 1 30 (by decide), ← pv_same d 2 30 (by decide)] at C
      refine ⟨⟨31, by omega, rfl, C, R, B⟩, by simp [intOf]⟩
    | 31, _, hC =>
      have kc := (hB.cell (p := ⟨g, 31, none⟩) hg).trans (hc.out 31 (by omega))
      have hw := d_wrap (d 31) (hd.out 31)
      have hm : IntKind.u64.wrap (d 31 * 72057594037927936) = d 31 * 72057594037927936 := dm_wrap (d 31) 72057594037927936 (hd.out 31) (by omega)
      have hs : IntKind.u64.wrap (rpv d 3 31 + d 31 * 72057594037927936) = rpv d 3 32 := by
        have h := pv_wrap d hd.out 3 31 rfl
        rw [show ((256 ^ (31 % 8) : Nat) : Int) = 72057594037927936 from rfl] at h
        exact h
      obtain ⟨c0, c1, c2, c3, f0, f1, f2, f3⟩ := id hC
      go_wp2_with fail
      go_region
      go_wp2_with fail
      obtain ⟨C, R, B⟩ := C4.step3 (v := rpv d 3 32) hC hR hB
      rw [← pv_same d 0 31 (by decide), ← pv_same d 1 31 (by decide), ← pv_same d 2 31 (by decide)] at C
      refine ⟨⟨32, by omega, rfl, C, R, B⟩, by simp [intOf]⟩
    | 32, _, hC =>
      obtain ⟨c0, c1, c2, c3, f0, f1, f2, f3⟩ := hC
      obtain ⟨r0, r1, r2, r3, g0, g1, g2, g3⟩ := hR
      go_wp2_with fail
      refine bodyPost_ret (v := wd (rpv d 0 32) (rpv d 1 32) (rpv d 2 32) (rpv d 3 32)) (by simp [results, Tryz.results189, go_sem, r0, r1, r2, r3]) rfl ⟨rfl, ?_⟩
      refine Below.setCell (Below.setCell (Below.setCell (Below.setCell hB (by first | omega | (simp; omega) | simp) _) (by first | omega | (simp; omega) | simp) _) (by first | omega | (simp; omega) | simp) _) (by first | omega | (simp; omega) | simp) _
    | k + 33, h, _ => exact absurd h (by omega)
end Go.Proofs.YtgloapcfmlijlaaGreatDoor
namespace Go.Proofs.YtgloapcfmlijlaaGreatDoor
open Go Go.RowKit

theorem pv_zero (d : Nat → Int) (q : Nat) : ∀ k, k ≤ 8 * q → rpv d q k = 0
  | 0, _ => rfl
  | k + 1, h => by rw [pv_same d q k (by omega), pv_zero d q k (by omega)]
theorem pv_part (N q : Nat) : ∀ r, r ≤ 8 → rpv (fun j => ((N / 256 ^ j % 256 : Nat) : Int)) q (8 * q + r) = ((N / 256 ^ (8 * q) % 256 ^ r : Nat) : Int)
  | 0, _ => by rw [Nat.add_zero, pv_zero _ _ _ (Nat.le_refl _), Nat.pow_zero, Nat.mod_one]; rfl
  | r + 1, h => by
    rw [← Nat.add_assoc, pv_step _ q (8 * q + r) (by omega), pv_part N q r (by omega), show (8 * q + r) % 8 = r by omega, Nat.mod_pow_succ, Nat.pow_add, ← Nat.div_div_eq_div_mul]
    rw [Int.natCast_add, Int.natCast_mul, Int.mul_comm]
theorem pv_late (d : Nat → Int) (q : Nat) : ∀ k, rpv d q (8 * q + 8 + k) = rpv d q (8 * q + 8)
  | 0 => rfl
  | k + 1 => by rw [← Nat.add_assoc, pv_same d q _ (by omega), pv_late d q k]
theorem pv_pt (N q : Nat) (hq : q < 4) : rpv (fun j => ((N / 256 ^ j % 256 : Nat) : Int)) q 32 = M.pt q N := by
  have e : 32 = 8 * q + 8 + (24 - 8 * q) := by omega
  rw [e, pv_late, pv_part N q 8 (by omega)]
  unfold M.pt
  rw [show (18446744073709551616 : Nat) ^ q = 256 ^ (8 * q) by rw [Nat.pow_mul]]

theorem rof_any (N g cap : Nat) (w : World) (hc : ∀ j, j < 32 → w.cell? ⟨g, j, none⟩ = some (.int .i64 ((N / 256 ^ j % 256 : Nat) : Int))) (hg : g < w.heap.size) :
    Calls Tryz.prog 189 #[.slice (some ⟨g, 0, none⟩) 32 cap] w fun e w' => e = .returned (wn N) ∧ Below w.heap.size w w' := by
  have h := of_core g cap (fun j => ((N / 256 ^ j % 256 : Nat) : Int)) w hc hg (fun j => ⟨by omega, by omega⟩)
  rw [pv_pt N 0 (by omega), pv_pt N 1 (by omega), pv_pt N 2 (by omega), pv_pt N 3 (by omega)] at h
  exact h

/-- The digits, the lowest ones first, k of them. -/
def low (N : Nat) (k : Nat) : List Int := (List.range k).map fun t => ((N / 256 ^ t % 256 : Nat) : Int)
theorem low_succ (N k : Nat) : low N (k + 1) = low N k ++ [((N / 256 ^ k % 256 : Nat) : Int)] := by simp [low, List.range_succ]
theorem low_length (N k : Nat) : (low N k).length = k := by simp [low]
theorem low_get (N k j : Nat) (h : j < k) : (low N k).getD j 0 = ((N / 256 ^ j % 256 : Nat) : Int) := by simp [low, h]

theorem be_get (k : Nat) : ∀ (N j : Nat), j < k → (M.be k N)[k - 1 - j]? = some (UInt8.ofNat (N / 256 ^ j % 256)) := by
  induction k with
  | zero => intro N j h; omega
  | succ k ih =>
    intro N j h
    rw [M.be]
    cases j with
    | zero => simp [M.be_length]
    | succ j =>
      rw [List.getElem?_append_left (by rw [M.be_length]; omega), show k + 1 - 1 - (j + 1) = k - 1 - j by omega, ih (N / 256) j (by omega), Nat.div_div_eq_div_mul, Nat.pow_succ, Nat.mul_comm]

theorem byte64 (c : UInt8) : wrap64 (c.toNat : Int) = (c.toNat : Int) := by
  have := c.toNat_lt
  unfold wrap64
  omega
theorem World.lt_of_cell {W : World} {b o : Nat} {v : Value} (h : W.cell? ⟨b, o, none⟩ = some v) : b < W.heap.size := by
  rcases Nat.lt_or_ge b W.heap.size with hl | hl
  · exact hl
  · rw [World.cell?, Array.getElem?_eq_none hl] at h
    cases h
theorem C4.lt0 {W : World} {b : Nat} {a0 a1 a2 a3 : Int} (h : C4 W b a0 a1 a2 a3) : b < W.heap.size := World.lt_of_cell h.c0
theorem C4.belowN {W W' : World} {b B : Nat} {a0 a1 a2 a3 : Int} (h : C4 W b a0 a1 a2 a3) (hb : Below B W W') (hl : b < B) : C4 W' b a0 a1 a2 a3 :=
  ⟨(hb.cell (p := ⟨b, 0, none⟩) hl).trans h.c0, (hb.cell (p := ⟨b, 1, none⟩) hl).trans h.c1, (hb.cell (p := ⟨b, 2, none⟩) hl).trans h.c2, (hb.cell (p := ⟨b, 3, none⟩) hl).trans h.c3,
   (hb.frozen (p := ⟨b, 0, none⟩) hl).trans h.f0, (hb.frozen (p := ⟨b, 1, none⟩) hl).trans h.f1, (hb.frozen (p := ⟨b, 2, none⟩) hl).trans h.f2, (hb.frozen (p := ⟨b, 3, none⟩) hl).trans h.f3⟩

theorem Tryz.infoI : (Tryz.prog.info? 3).map (fun i => (i.zero, i.size, i.bytes)) = some (some (.int .i64 0), 1, 8) := by kernel_rfl

set_option maxRecDepth 100000 in
set_option maxHeartbeats 4000000 in
theorem runfixed_core (l : List UInt8) (N : Nat) (w : World) (h32 : l.length = 32) (hd : Hid (∀ j (hj : j < 32), ((l[31 - j]'(by omega)).toNat : Int) = ((N / 256 ^ j % 256 : Nat) : Int))) :
    Calls Tryz.prog 157 #[.string ⟨l.toArray⟩] w fun e w' => e = .returned (.tuple #[wn N, .int .i64 0]) ∧ Below w.heap.size w w' := by
  obtain ⟨i0, hi, hz0, hz1, hz2⟩ := info_parts Tryz.infoI
  go_enter Tryz.func157, Tryz.ntmps157
  go_wp2_with fail
  go_loopw [4, 5] (fun v i wr => ∃ k : Nat, k ≤ 32 ∧ i = .int .i64 (31 - (k : Int)) ∧ wr.ownsRow (w.heap.size + 1) 3 1 v k ((low N k).map (Value.int .i64)) ∧ C4 wr w.heap.size 0 0 0 0 ∧ Below w.heap.size w wr)
    (fun _ i _ => (intOf i + 1).toNat)
  case atStart =>
    refine ⟨0, by omega, rfl, World.ownsRow_nil _ _ _ _, ⟨?_, ?_, ?_, ?_, ?_, ?_, ?_, ?_⟩, (Below.refl _ _).alloc (Nat.le_refl _) _⟩
    all_goals simp [go_sem]
  case round =>
    obtain ⟨k, hk, rfl, hown, H, LW⟩ := hrel
    by_cases hlt : k < 32
    · have hp : (0 : Int) ≤ 31 - (k : Int) := by omega
      have hp2 : (31 : Int) - (k : Int) < 32 := by omega
      have hz : wrap64 (((⟨l.toArray⟩ : ByteArray)[31 - k]'(by simp [ByteArray.size]; omega)).toNat : Int) = ((N / 256 ^ k % 256 : Nat) : Int) := by
        rw [← hd.out k hlt]
        exact byte64 _
      generalize hzz : ((N / 256 ^ k % 256 : Nat) : Int) = z at hz
      have HZ := Lib.hid hzz
      clear hzz
      have hsz := LW.size
      go_wp2_with (at_builtin; refine wpList_append_own _ rfl _ _ 137 rfl (w.heap.size + 1) 3 i0 (.int .i64 0) 1 8 Tryz.underlying137 hi hz0 hz1 hz2 rfl (by decide) _ _ _ rfl (hown.alloc _) ⟨wr.heap.size, 0, none⟩ 1 1 [.int .i64 z] rfl rfl (cell_one_new _ _ _) (by simp [Value.oneCell']) (by unfold maxLen; omega) (by omega) (by simp; omega) ?_; intro v' w2 hown' hgrow _)
      have hown2 : w2.ownsRow (w.heap.size + 1) 3 1 v' (k + 1) ((low N (k + 1)).map (Value.int .i64)) := by
        rw [low_succ, HZ.out, List.map_append]
        exact hown'
      have hbel : Below (w.heap.size + 1) wr w2 := by
        exact ((Below.refl _ wr).alloc (by have := H.lt0; omega) _).grown hgrow (by have := H.lt0; simp; omega) (fun q e => (hown.lt q e).1)
      replace H := H.belowN hbel (by omega)
      replace LW := LW.trans (hbel.mono (by omega))
      clear hown hown' hgrow hbel hz
      go_wp2_with fail
      refine ⟨⟨k + 1, by omega, by congr 1; omega, hown2, H, LW⟩, by simp [intOf]; omega⟩
    · obtain rfl : k = 32 := by omega
      have hlt := fun q e => hown.lt q e
      obtain ⟨g, cap, rfl, hcells⟩ := row_cells hown (by omega)
      have hg := (hlt g rfl).2
      obtain ⟨r0, r1, r2, r3, g0, g1, g2, g3⟩ := H
      clear hown hlt
      go_wp2_with fail
      refine (rof_any N g cap _ (fun j hj => by rw [hcells j (by rw [low_length]; exact hj), low_get N 32 j hj]) hg).mono ?_
      rintro e w2 ⟨rfl, hb⟩
      have lr : w.heap.size < wr.heap.size := World.lt_of_cell r0
      obtain ⟨hce, hfr⟩ := bcell hb
      replace LW := LW.trans (hb.mono LW.size)
      clear hb hcells
      go_wp2_with fail
      refine bodyPost_ret (v := .tuple #[wn N, .int .i64 0]) (by simp [results, Tryz.results157, go_sem, hce, lr, r0, r1, r2, r3]) rfl ⟨rfl, ?_⟩
      refine Below.setCell (Below.setCell (Below.setCell (Below.setCell LW (by first | omega | (simp; omega) | simp) _) (by first | omega | (simp; omega) | simp) _) (by first | omega | (simp; omega) | simp) _) (by first | omega | (simp; omega) | simp) _

theorem runfixed_any (l : List UInt8) (w : World) (h : l.length = 32) :
    Calls Tryz.prog 157 #[.string ⟨l.toArray⟩] w fun e w' => e = .returned (.tuple #[wn (M.dg l), .int .i64 0]) ∧ Below w.heap.size w w' := by
  refine runfixed_core l (M.dg l) w h ?_
  intro j hj
  have hb := be_get 32 (M.dg l) j hj
  have e : M.be 32 (M.dg l) = l := M.f32_dg h
  rw [e, show 32 - 1 - j = 31 - j by omega, List.getElem?_eq_getElem (by omega)] at hb
  rw [Option.some.inj hb]
  simp

end Go.Proofs.YtgloapcfmlijlaaGreatDoor
namespace Go.Proofs.YtgloapcfmlijlaaGreatDoor
open Go Go.RowKit

set_option maxRecDepth 100000 in
set_option maxHeartbeats 4000000 in
theorem znumber_any (s : List UInt8) (w : World) (h : s.length ≤ 32) :
    Calls Tryz.prog 76 #[.string ⟨s.toArray⟩] w fun e w' => e = .returned (wn (M.led s)) ∧ Below w.heap.size w w' := by
  obtain ⟨i0, hi, hz0, hz1, hz2⟩ := info_parts Tryz.infoU8
  obtain ⟨P, hP⟩ : ∃ P, s ++ List.replicate (32 - s.length) 0 = P := ⟨_, rfl⟩
  have hPl : P.length = 32 := by rw [← hP]; simp; omega
  obtain ⟨L, hL⟩ : ∃ L, P.reverse = L := ⟨_, rfl⟩
  have hLl : L.length = 32 := by rw [← hL, List.length_reverse, hPl]
  have hdg : M.dg L = M.led s := by rw [← hL, M.dg_rev, ← hP, M.led_zeros]
  have hin : Hid (∀ k (hk : k < s.length), L[31 - k]? = some (s[k])) := fun k hk => by
    rw [← hL, List.getElem?_reverse (by omega), hPl, show 32 - 1 - (31 - k) = k by omega, ← hP, List.getElem?_append_left hk, List.getElem?_eq_getElem hk]
  have hout : Hid (∀ k, s.length ≤ k → k < 32 → L[31 - k]? = some 0) := fun k h1 h2 => by
    rw [← hL, List.getElem?_reverse (by omega), hPl, show 32 - 1 - (31 - k) = k by omega, ← hP, List.getElem?_append_right h1, List.getElem?_replicate, if_pos (by omega)]
  have HU := Lib.hid (fun W => runfixed_any L W hLl)
  rw [hdg] at HU
  have HLl := Lib.hid hLl
  clear hP hPl hL hdg hLl
  generalize M.led s = q at *
  go_enter Tryz.func76, Tryz.ntmps76
  go_wp2_with fail
  have hsz0 : (w.alloc (.cells #[.int .u64 0, .int .u64 0, .int .u64 0, .int .u64 0] 29)).heap.size = w.heap.size + 1 := by simp
  obtain ⟨w0, hw0⟩ : ∃ w0, w.alloc (.cells #[.int .u64 0, .int .u64 0, .int .u64 0, .int .u64 0] 29) = w0 := ⟨_, rfl⟩
  have hb0 : Below w.heap.size w w0 := by rw [← hw0]; exact (Below.refl _ _).alloc (Nat.le_refl _) _
  have hr0 : w0.heap[w.heap.size]? = some (.cells #[.int .u64 0, .int .u64 0, .int .u64 0, .int .u64 0] 29 (0, 0)) := by rw [← hw0]; exact World.alloc_heap_new _ _
  rw [hw0] at hsz0
  try rw [hw0]
  clear hw0
  go_loopw [3, 4] (fun v i wr => ∃ j : Nat, j ≤ 32 ∧ i = .int .i64 ((j : Int) - 1) ∧ wr.ownsRow (w.heap.size + 1) 5 1 v (32 - j) (bc (L.take (32 - j))) ∧ Below w0.heap.size w0 wr)
    (fun _ i _ => (RowKit.intOf i + 1).toNat)
  case atStart => exact ⟨32, by omega, by simp, World.ownsRow_nil _ _ _ _, Below.refl _ _⟩
  case round =>
    obtain ⟨j, hj, rfl, hown, LW⟩ := hrel
    have hsz := LW.size
    cases j with
    | zero =>
      rw [show (((0 : Nat) : Int) - 1) = -1 by omega]
      rw [Nat.sub_zero] at hown
      have htk : L.take 32 = L := List.take_of_length_le (by rw [HLl.out]; exact Nat.le_refl _)
      rw [htk] at hown
      rcases id hown.2 with ⟨_, h0⟩ | ⟨g, cap, cur, rfl, hgB, hgc, _, _, _, _⟩
      · exact absurd h0 (by decide)
      have hcv := run_convert_bytes_back wr 48 9 5 ⟨g, 0, none⟩ cap L Tryz.underlying48 Tryz.underlying5 Tryz.underlying9 (fun j hj => World.ownsRow.cells (g := g) hown rfl j _ (by simp [bc, hj]))
      rw [HLl.out] at hcv
      clear hown htk hgc
      go_wp2_with fail
      refine (HU.out _).mono ?_
      rintro e w1 ⟨rfl, hb1⟩
      have hb0w := hb0.trans (LW.mono hb0.size)
      have hbw1 : Below w.heap.size w w1 := hb0w.trans (Below.mono hb1 hb0w.size)
      have hr1 := (Below.block hb1 w.heap.size (by omega)).trans ((LW.block w.heap.size (by omega)).trans hr0)
      have hbw5 := hbw1.alloc hbw1.size (.cells #[.int .u64 (M.pt 0 q), .int .u64 (M.pt 1 q), .int .u64 (M.pt 2 q), .int .u64 (M.pt 3 q)] 29)
      have hr5 := (Below.heap_alloc w1 (.cells #[.int .u64 (M.pt 0 q), .int .u64 (M.pt 1 q), .int .u64 (M.pt 2 q), .int .u64 (M.pt 3 q)] 29) w.heap.size (Array.getElem?_eq_some_iff.1 hr1).1).trans hr1
      obtain ⟨⟨_, i0'⟩, ⟨_, i1'⟩, ⟨_, i2'⟩, ⟨_, i3'⟩, f0, f1, f2, f3⟩ := cells_w4 hr5
      go_wp2_with fail
      exact word_post rfl w _ _ q _ (by omega) hbw5 _ _ _ _ hr5 _ rfl fun Z hZ => ⟨rfl, hZ⟩
    | succ k =>
      have hk3 : k < 32 := by omega
      obtain ⟨z, c, hz, hzc, hor⟩ : ∃ (z : Int) (c : UInt8), L[31 - k]? = some c ∧ (c.toNat : Int) = z ∧ ((∃ hk : k < s.length, (((⟨s.toArray⟩ : ByteArray)[k]'(by simpa [ByteArray.size] using hk)).toNat : Int) = z) ∨ (¬ k < s.length ∧ z = 0)) := by
        by_cases hk : k < s.length
        · exact ⟨_, s[k], hin.out k hk, rfl, .inl ⟨hk, rfl⟩⟩
        · exact ⟨_, 0, hout.out k (by omega) hk3, rfl, .inr ⟨hk, rfl⟩⟩
      have hapd : Hid (bc (L.take (32 - (k + 1))) ++ [.int .u8 z] = bc (L.take (32 - k))) := by
        show _ = _
        rw [show 32 - k = (32 - (k + 1)) + 1 by omega, List.take_add_one, show 32 - (k + 1) = 31 - k by omega, hz]
        simp [bc, ← hzc]
      have HZC := Lib.hid hzc
      clear hz hzc
      rw [show (((k + 1 : Nat) : Int) - 1) = (k : Int) by omega]
      have hzr : Hid (k ≤ 31) := by show k ≤ 31; omega
      rcases hor with ⟨hk, hez⟩ | ⟨hk, rfl⟩
      · go_wp2_with (at_builtin; refine wpList_append_own _ rfl _ _ 48 rfl (w.heap.size + 1) 5 i0 (.int .u8 0) 1 1 Tryz.underlying48 hi hz0 hz1 hz2 rfl (by decide) _ _ _ rfl (hown.alloc _) ⟨wr.heap.size, 0, none⟩ 1 1 [.int .u8 z] rfl rfl (cell_one_new _ _ _) (by simp [Value.oneCell']) (by unfold maxLen; omega) (by omega) (by simp; omega) ?_; intro v' w2 hown' hgrow _)
        have hown2 : w2.ownsRow (w.heap.size + 1) 5 1 v' (32 - k) (bc (L.take (32 - k))) := by
          rw [← hapd.out, show 32 - k = 32 - (k + 1) + 1 by omega]
          exact hown'
        have hbel : Below w0.heap.size wr w2 := ((Below.refl _ wr).alloc (by omega) _).grown hgrow (by simp; omega) (fun q e => by have := (hown.lt q e).1; omega)
        clear hown hown' hgrow
        go_wp2_with fail
        exact ⟨⟨k, by omega, by first | rfl | simp, hown2, LW.trans hbel⟩, by simp [RowKit.intOf]⟩
      · go_wp2_with (at_builtin; refine wpList_append_own _ rfl _ _ 48 rfl (w.heap.size + 1) 5 i0 (.int .u8 0) 1 1 Tryz.underlying48 hi hz0 hz1 hz2 rfl (by decide) _ _ _ rfl (hown.alloc _) ⟨wr.heap.size, 0, none⟩ 1 1 [.int .u8 0] rfl rfl (cell_one_new _ _ _) (by simp [Value.oneCell']) (by unfold maxLen; omega) (by omega) (by simp; omega) ?_; intro v' w2 hown' hgrow _)
        have hown2 : w2.ownsRow (w.heap.size + 1) 5 1 v' (32 - k) (bc (L.take (32 - k))) := by
          rw [← hapd.out, show 32 - k = 32 - (k + 1) + 1 by omega]
          exact hown'
        have hbel : Below w0.heap.size wr w2 := ((Below.refl _ wr).alloc (by omega) _).grown hgrow (by simp; omega) (fun q e => by have := (hown.lt q e).1; omega)
        clear hown hown' hgrow
        go_wp2_with fail
        exact ⟨⟨k, by omega, by first | rfl | simp, hown2, LW.trans hbel⟩, by simp [RowKit.intOf]⟩
end Go.Proofs.YtgloapcfmlijlaaGreatDoor
namespace Go.Proofs.YtgloapcfmlijlaaGreatDoor
open Go Go.RowKit

set_option maxRecDepth 100000 in
set_option maxHeartbeats 8000000 in
theorem zof_row (k n : Int) (ts : List M.Ty) (a : Option Addr) (cap : Nat) (s : List UInt8) (w : World) (T : M.Va × Nat) (h1 : k ≠ 1) (h2 : k ≠ 2) (h5 : k ≠ 5) (h6 : k ≠ 6) (h8 : k ≠ 8) (hL : LayT w w.heap.size ts (.slice a ts.length cap))
    (hrow : Hid (wdT (.mk k n ts) = s.length ∨ M.fixedT (.mk k n ts) = false → ∀ W, Below w.heap.size w W → Calls Tryz.prog 79 #[tv k n (.slice a ts.length cap), .string ⟨s.toArray⟩] W (GotR W T))) (_hl : s.length ≤ 8000) :
    Calls Tryz.prog 35 #[tv k n (.slice a ts.length cap), .string ⟨s.toArray⟩] w (GotR w (if M.fixedT (.mk k n ts) = true then (if s.length ≠ wdT (.mk k n ts) then (M.noV, 2) else T) else T)) := by
  obtain ⟨w0, hw0⟩ : ∃ w0, (w.alloc (.cells #[.int .i64 k, .int .i64 n, .slice a ts.length cap] 24)).alloc (.cells #[.int .u64 0, .int .u64 0, .int .u64 0, .int .u64 0, .slice none 0 0, .slice none 0 0, .int .i64 0, .int .i64 0] 59) = w0 := ⟨_, rfl⟩
  have hb0 : Below w.heap.size w w0 := by rw [← hw0]; (repeat (first | exact Below.refl _ _ | refine Below.drew ?_ | refine Below.alloc ?_ (by first | omega | (simp; omega) | simp) _ | refine Below.setCell ?_ (by first | omega | (simp; omega) | simp) _))
  have hz0 : w0.heap.size = w.heap.size + 2 := by rw [← hw0]; simp
  have hr0 : w0.heap[w.heap.size + 1]? = some (.cells #[.int .u64 0, .int .u64 0, .int .u64 0, .int .u64 0, .slice none 0 0, .slice none 0 0, .int .i64 0, .int .i64 0] 59 (0, 0)) := by
    rw [← hw0]
    have := World.alloc_heap_new (w.alloc (.cells #[.int .i64 k, .int .i64 n, .slice a ts.length cap] 24)) (.cells #[.int .u64 0, .int .u64 0, .int .u64 0, .int .u64 0, .slice none 0 0, .slice none 0 0, .int .i64 0, .int .i64 0] 59)
    rwa [World.size_alloc] at this
  have hB0 : BoxT w0 w.heap.size k n (.slice a ts.length cap) := by rw [← hw0]; exact ⟨by simp [go_sem], by simp [go_sem], by simp [go_sem]⟩
  have HFX := Lib.hid (fun W (h : Below w.heap.size w W) => tfixed_any k n ts a cap W ((hL.from_ h).mono h.size))
  have HSZ := Lib.hid (fun W (h : Below w.heap.size w W) => tsize_any k n ts a cap W ((hL.from_ h).mono h.size))
  have hwd : M.fixedT (.mk k n ts) = true → wdT (.mk k n ts) = M.sizeT (.mk k n ts) := fun h => by unfold wdT; rw [if_pos h]
  generalize hfx : M.fixedT (.mk k n ts) = fx at *
  generalize M.sizeT (.mk k n ts) = sz at *
  generalize wdT (.mk k n ts) = wd at *
  obtain ⟨R, hR⟩ : ∃ R, (if fx = true then (if s.length ≠ wd then (M.noV, 2) else T) else T) = R := ⟨_, rfl⟩
  rw [hR]
  have HR := Lib.hid hR
  have t0 := hB0.c0
  have t1 := hB0.c1
  have t2 := hB0.c2
  have HW := Lib.hid hw0
  rw [← HW.out] at t0 t1 t2
  clear hw0 hR hL hfx
  go_enter Tryz.func35, Tryz.ntmps35
  go_wp2_with fail
  rw [HW.out]
  refine (HFX.out w0 hb0).mono ?_
  rintro e w1 ⟨rfl, hb1⟩
  rw [HW.out] at t0 t1 t2
  have hbw1 := hb0.trans (hb1.mono hb0.size)
  have hB1 := hB0.from_ hb1 (by omega)
  have hr1 := (hb1.block _ (by omega)).trans hr0
  clear t0 t1 t2
  have t0 := hB1.c0
  have t1 := hB1.c1
  have t2 := hB1.c2
  have hz1 := hb1.size
  cases fx with
  | true =>
    replace HR : Hid ((if s.length ≠ wd then (M.noV, 2) else T) = R) := HR.out
    obtain rfl := hwd rfl
    go_wp2_with fail
    refine (HSZ.out w1 hbw1).mono ?_
    rintro e w2 ⟨rfl, hb2⟩
    have hbw2 := hbw1.trans (hb2.mono hbw1.size)
    have hB2 := hB1.from_ hb2 (by omega)
    have hr2 := (hb2.block _ (by omega)).trans hr1
    have hz2 := hb2.size
    clear t0 t1 t2
    have t0 := hB2.c0
    have t1 := hB2.c1
    have t2 := hB2.c2
    by_cases hsz : s.length = wd
    case neg =>
      have hsz' : ¬ (s.length : Int) = wd := by omega
      obtain ⟨⟨o0, c0⟩, ⟨o1, c1⟩, ⟨o2, c2'⟩, ⟨o3, c3⟩, ⟨o4, c4⟩, ⟨o5, c5⟩, ⟨o6, c6⟩, ⟨o7, c7'⟩, f0, f1, f2, f3, f4, f5, f6, f7⟩ := cells_w8 hr2
      go_wp2_with fail
      refine got_post0 (fn := Tryz.f35) rfl w w2 _ _ _ _ 2 _ (by omega) hbw2 _ _ _ _ _ _ _ _ hr2 _ rfl ?_
      intro Z hZ _ _
      rw [← HR.out, if_pos hsz]
      exact gotR_none w 2 hZ
    have hsz' : (s.length : Int) = wd := by omega
    have HRT : Hid (T = R) := by have := HR.out; rw [if_neg (by omega)] at this; exact Lib.hid this
    have HCL := Lib.hid (hrow.out (.inl hsz.symm) w2 hbw2)
    clear hsz
    go_wp2_with fail
    refine HCL.out.mono ?_
    rintro e w3 ⟨⟨N7, bs7, us7, p7, ab7, cb7, au7, cu7, hr7, rfl, hV7⟩, hb3⟩
    have hr3 := (hb3.block _ (by omega)).trans hr2
    have hbw3 := hbw2.trans (hb3.mono hbw2.size)
    obtain ⟨⟨o0, c0⟩, ⟨o1, c1⟩, ⟨o2, c2'⟩, ⟨o3, c3⟩, ⟨o4, c4⟩, ⟨o5, c5⟩, ⟨o6, c6⟩, ⟨o7, c7'⟩, f0, f1, f2, f3, f4, f5, f6, f7⟩ := cells_w8 hr3
    go_wp2_with fail
    refine got_post (fn := Tryz.f35) rfl w w3 _ N7 _ _ p7 _ _ (by omega) hbw3 _ _ _ _ _ _ _ _ hr3 _ rfl ?_
    intro Z hZ hzz hkz
    rw [← HRT.out]
    exact ⟨⟨N7, bs7, us7, p7, ab7, cb7, au7, cu7, hr7, rfl, (hV7.agree (Agree.blocks fun b h1 h2 => hkz b (by omega))).mono (by omega) (by omega)⟩, hZ⟩
  | false =>
    have HRT : Hid (T = R) := by have := HR.out; rw [if_neg (by decide)] at this; exact Lib.hid this
    have HCL := Lib.hid (hrow.out (.inr rfl) w1 hbw1)
    go_wp2_with fail
    refine HCL.out.mono ?_
    rintro e w3 ⟨⟨N7, bs7, us7, p7, ab7, cb7, au7, cu7, hr7, rfl, hV7⟩, hb3⟩
    have hr3 := (hb3.block _ (by omega)).trans hr1
    have hbw3 := hbw1.trans (hb3.mono hbw1.size)
    obtain ⟨⟨o0, c0⟩, ⟨o1, c1⟩, ⟨o2, c2'⟩, ⟨o3, c3⟩, ⟨o4, c4⟩, ⟨o5, c5⟩, ⟨o6, c6⟩, ⟨o7, c7'⟩, f0, f1, f2, f3, f4, f5, f6, f7⟩ := cells_w8 hr3
    go_wp2_with fail
    refine got_post (fn := Tryz.f35) rfl w w3 _ N7 _ _ p7 _ _ (by omega) hbw3 _ _ _ _ _ _ _ _ hr3 _ rfl ?_
    intro Z hZ hzz hkz
    rw [← HRT.out]
    exact ⟨⟨N7, bs7, us7, p7, ab7, cb7, au7, cu7, hr7, rfl, (hV7.agree (Agree.blocks fun b h1 h2 => hkz b (by omega))).mono (by omega) (by omega)⟩, hZ⟩
set_option maxRecDepth 100000 in
set_option maxHeartbeats 8000000 in
theorem zof_5 (n : Int) (ts : List M.Ty) (a : Option Addr) (cap : Nat) (s : List UInt8) (w : World) (T : M.Va × Nat)  (hL : LayT w w.heap.size ts (.slice a ts.length cap))
    (hrow : Hid (wdT (.mk 5 n ts) = s.length ∨ M.fixedT (.mk 5 n ts) = false → ∀ W, Below w.heap.size w W → Calls Tryz.prog 77 #[tv 5 n (.slice a ts.length cap), .string ⟨s.toArray⟩] W (GotR W T))) (_hl : s.length ≤ 8000) :
    Calls Tryz.prog 35 #[tv 5 n (.slice a ts.length cap), .string ⟨s.toArray⟩] w (GotR w (if M.fixedT (.mk 5 n ts) = true then (if s.length ≠ wdT (.mk 5 n ts) then (M.noV, 2) else T) else T)) := by
  obtain ⟨w0, hw0⟩ : ∃ w0, (w.alloc (.cells #[.int .i64 5, .int .i64 n, .slice a ts.length cap] 24)).alloc (.cells #[.int .u64 0, .int .u64 0, .int .u64 0, .int .u64 0, .slice none 0 0, .slice none 0 0, .int .i64 0, .int .i64 0] 59) = w0 := ⟨_, rfl⟩
  have hb0 : Below w.heap.size w w0 := by rw [← hw0]; (repeat (first | exact Below.refl _ _ | refine Below.drew ?_ | refine Below.alloc ?_ (by first | omega | (simp; omega) | simp) _ | refine Below.setCell ?_ (by first | omega | (simp; omega) | simp) _))
  have hz0 : w0.heap.size = w.heap.size + 2 := by rw [← hw0]; simp
  have hr0 : w0.heap[w.heap.size + 1]? = some (.cells #[.int .u64 0, .int .u64 0, .int .u64 0, .int .u64 0, .slice none 0 0, .slice none 0 0, .int .i64 0, .int .i64 0] 59 (0, 0)) := by
    rw [← hw0]
    have := World.alloc_heap_new (w.alloc (.cells #[.int .i64 5, .int .i64 n, .slice a ts.length cap] 24)) (.cells #[.int .u64 0, .int .u64 0, .int .u64 0, .int .u64 0, .slice none 0 0, .slice none 0 0, .int .i64 0, .int .i64 0] 59)
    rwa [World.size_alloc] at this
  have hB0 : BoxT w0 w.heap.size 5 n (.slice a ts.length cap) := by rw [← hw0]; exact ⟨by simp [go_sem], by simp [go_sem], by simp [go_sem]⟩
  have HFX := Lib.hid (fun W (h : Below w.heap.size w W) => tfixed_any 5 n ts a cap W ((hL.from_ h).mono h.size))
  have HSZ := Lib.hid (fun W (h : Below w.heap.size w W) => tsize_any 5 n ts a cap W ((hL.from_ h).mono h.size))
  have hwd : M.fixedT (.mk 5 n ts) = true → wdT (.mk 5 n ts) = M.sizeT (.mk 5 n ts) := fun h => by unfold wdT; rw [if_pos h]
  generalize hfx : M.fixedT (.mk 5 n ts) = fx at *
  generalize M.sizeT (.mk 5 n ts) = sz at *
  generalize wdT (.mk 5 n ts) = wd at *
  obtain ⟨R, hR⟩ : ∃ R, (if fx = true then (if s.length ≠ wd then (M.noV, 2) else T) else T) = R := ⟨_, rfl⟩
  rw [hR]
  have HR := Lib.hid hR
  have t0 := hB0.c0
  have t1 := hB0.c1
  have t2 := hB0.c2
  have HW := Lib.hid hw0
  rw [← HW.out] at t0 t1 t2
  clear hw0 hR hL hfx
  go_enter Tryz.func35, Tryz.ntmps35
  go_wp2_with fail
  rw [HW.out]
  refine (HFX.out w0 hb0).mono ?_
  rintro e w1 ⟨rfl, hb1⟩
  rw [HW.out] at t0 t1 t2
  have hbw1 := hb0.trans (hb1.mono hb0.size)
  have hB1 := hB0.from_ hb1 (by omega)
  have hr1 := (hb1.block _ (by omega)).trans hr0
  clear t0 t1 t2
  have t0 := hB1.c0
  have t1 := hB1.c1
  have t2 := hB1.c2
  have hz1 := hb1.size
  cases fx with
  | true =>
    replace HR : Hid ((if s.length ≠ wd then (M.noV, 2) else T) = R) := HR.out
    obtain rfl := hwd rfl
    go_wp2_with fail
    refine (HSZ.out w1 hbw1).mono ?_
    rintro e w2 ⟨rfl, hb2⟩
    have hbw2 := hbw1.trans (hb2.mono hbw1.size)
    have hB2 := hB1.from_ hb2 (by omega)
    have hr2 := (hb2.block _ (by omega)).trans hr1
    have hz2 := hb2.size
    clear t0 t1 t2
    have t0 := hB2.c0
    have t1 := hB2.c1
    have t2 := hB2.c2
    by_cases hsz : s.length = wd
    case neg =>
      have hsz' : ¬ (s.length : Int) = wd := by omega
      obtain ⟨⟨o0, c0⟩, ⟨o1, c1⟩, ⟨o2, c2'⟩, ⟨o3, c3⟩, ⟨o4, c4⟩, ⟨o5, c5⟩, ⟨o6, c6⟩, ⟨o7, c7'⟩, f0, f1, f2, f3, f4, f5, f6, f7⟩ := cells_w8 hr2
      go_wp2_with fail
      refine got_post0 (fn := Tryz.f35) rfl w w2 _ _ _ _ 2 _ (by omega) hbw2 _ _ _ _ _ _ _ _ hr2 _ rfl ?_
      intro Z hZ _ _
      rw [← HR.out, if_pos hsz]
      exact gotR_none w 2 hZ
    have hsz' : (s.length : Int) = wd := by omega
    have HRT : Hid (T = R) := by have := HR.out; rw [if_neg (by omega)] at this; exact Lib.hid this
    have HCL := Lib.hid (hrow.out (.inl hsz.symm) w2 hbw2)
    clear hsz
    go_wp2_with fail
    refine HCL.out.mono ?_
    rintro e w3 ⟨⟨N7, bs7, us7, p7, ab7, cb7, au7, cu7, hr7, rfl, hV7⟩, hb3⟩
    have hr3 := (hb3.block _ (by omega)).trans hr2
    have hbw3 := hbw2.trans (hb3.mono hbw2.size)
    obtain ⟨⟨o0, c0⟩, ⟨o1, c1⟩, ⟨o2, c2'⟩, ⟨o3, c3⟩, ⟨o4, c4⟩, ⟨o5, c5⟩, ⟨o6, c6⟩, ⟨o7, c7'⟩, f0, f1, f2, f3, f4, f5, f6, f7⟩ := cells_w8 hr3
    go_wp2_with fail
    refine got_post (fn := Tryz.f35) rfl w w3 _ N7 _ _ p7 _ _ (by omega) hbw3 _ _ _ _ _ _ _ _ hr3 _ rfl ?_
    intro Z hZ hzz hkz
    rw [← HRT.out]
    exact ⟨⟨N7, bs7, us7, p7, ab7, cb7, au7, cu7, hr7, rfl, (hV7.agree (Agree.blocks fun b h1 h2 => hkz b (by omega))).mono (by omega) (by omega)⟩, hZ⟩
  | false =>
    have HRT : Hid (T = R) := by have := HR.out; rw [if_neg (by decide)] at this; exact Lib.hid this
    have HCL := Lib.hid (hrow.out (.inr rfl) w1 hbw1)
    go_wp2_with fail
    refine HCL.out.mono ?_
    rintro e w3 ⟨⟨N7, bs7, us7, p7, ab7, cb7, au7, cu7, hr7, rfl, hV7⟩, hb3⟩
    have hr3 := (hb3.block _ (by omega)).trans hr1
    have hbw3 := hbw1.trans (hb3.mono hbw1.size)
    obtain ⟨⟨o0, c0⟩, ⟨o1, c1⟩, ⟨o2, c2'⟩, ⟨o3, c3⟩, ⟨o4, c4⟩, ⟨o5, c5⟩, ⟨o6, c6⟩, ⟨o7, c7'⟩, f0, f1, f2, f3, f4, f5, f6, f7⟩ := cells_w8 hr3
    go_wp2_with fail
    refine got_post (fn := Tryz.f35) rfl w w3 _ N7 _ _ p7 _ _ (by omega) hbw3 _ _ _ _ _ _ _ _ hr3 _ rfl ?_
    intro Z hZ hzz hkz
    rw [← HRT.out]
    exact ⟨⟨N7, bs7, us7, p7, ab7, cb7, au7, cu7, hr7, rfl, (hV7.agree (Agree.blocks fun b h1 h2 => hkz b (by omega))).mono (by omega) (by omega)⟩, hZ⟩
set_option maxRecDepth 100000 in
set_option maxHeartbeats 8000000 in
theorem zof_6 (n : Int) (ts : List M.Ty) (a : Option Addr) (cap : Nat) (s : List UInt8) (w : World) (T : M.Va × Nat)  (hL : LayT w w.heap.size ts (.slice a ts.length cap))
    (hrow : Hid (wdT (.mk 6 n ts) = s.length ∨ M.fixedT (.mk 6 n ts) = false → ∀ W, Below w.heap.size w W → Calls Tryz.prog 78 #[tv 6 n (.slice a ts.length cap), .string ⟨s.toArray⟩] W (GotR W T))) (_hl : s.length ≤ 8000) :
    Calls Tryz.prog 35 #[tv 6 n (.slice a ts.length cap), .string ⟨s.toArray⟩] w (GotR w (if M.fixedT (.mk 6 n ts) = true then (if s.length ≠ wdT (.mk 6 n ts) then (M.noV, 2) else T) else T)) := by
  obtain ⟨w0, hw0⟩ : ∃ w0, (w.alloc (.cells #[.int .i64 6, .int .i64 n, .slice a ts.length cap] 24)).alloc (.cells #[.int .u64 0, .int .u64 0, .int .u64 0, .int .u64 0, .slice none 0 0, .slice none 0 0, .int .i64 0, .int .i64 0] 59) = w0 := ⟨_, rfl⟩
  have hb0 : Below w.heap.size w w0 := by rw [← hw0]; (repeat (first | exact Below.refl _ _ | refine Below.drew ?_ | refine Below.alloc ?_ (by first | omega | (simp; omega) | simp) _ | refine Below.setCell ?_ (by first | omega | (simp; omega) | simp) _))
  have hz0 : w0.heap.size = w.heap.size + 2 := by rw [← hw0]; simp
  have hr0 : w0.heap[w.heap.size + 1]? = some (.cells #[.int .u64 0, .int .u64 0, .int .u64 0, .int .u64 0, .slice none 0 0, .slice none 0 0, .int .i64 0, .int .i64 0] 59 (0, 0)) := by
    rw [← hw0]
    have := World.alloc_heap_new (w.alloc (.cells #[.int .i64 6, .int .i64 n, .slice a ts.length cap] 24)) (.cells #[.int .u64 0, .int .u64 0, .int .u64 0, .int .u64 0, .slice none 0 0, .slice none 0 0, .int .i64 0, .int .i64 0] 59)
    rwa [World.size_alloc] at this
  have hB0 : BoxT w0 w.heap.size 6 n (.slice a ts.length cap) := by rw [← hw0]; exact ⟨by simp [go_sem], by simp [go_sem], by simp [go_sem]⟩
  have HFX := Lib.hid (fun W (h : Below w.heap.size w W) => tfixed_any 6 n ts a cap W ((hL.from_ h).mono h.size))
  have HSZ := Lib.hid (fun W (h : Below w.heap.size w W) => tsize_any 6 n ts a cap W ((hL.from_ h).mono h.size))
  have hwd : M.fixedT (.mk 6 n ts) = true → wdT (.mk 6 n ts) = M.sizeT (.mk 6 n ts) := fun h => by unfold wdT; rw [if_pos h]
  generalize hfx : M.fixedT (.mk 6 n ts) = fx at *
  generalize M.sizeT (.mk 6 n ts) = sz at *
  generalize wdT (.mk 6 n ts) = wd at *
  obtain ⟨R, hR⟩ : ∃ R, (if fx = true then (if s.length ≠ wd then (M.noV, 2) else T) else T) = R := ⟨_, rfl⟩
  rw [hR]
  have HR := Lib.hid hR
  have t0 := hB0.c0
  have t1 := hB0.c1
  have t2 := hB0.c2
  have HW := Lib.hid hw0
  rw [← HW.out] at t0 t1 t2
  clear hw0 hR hL hfx
  go_enter Tryz.func35, Tryz.ntmps35
  go_wp2_with fail
  rw [HW.out]
  refine (HFX.out w0 hb0).mono ?_
  rintro e w1 ⟨rfl, hb1⟩
  rw [HW.out] at t0 t1 t2
  have hbw1 := hb0.trans (hb1.mono hb0.size)
  have hB1 := hB0.from_ hb1 (by omega)
  have hr1 := (hb1.block _ (by omega)).trans hr0
  clear t0 t1 t2
  have t0 := hB1.c0
  have t1 := hB1.c1
  have t2 := hB1.c2
  have hz1 := hb1.size
  cases fx with
  | true =>
    replace HR : Hid ((if s.length ≠ wd then (M.noV, 2) else T) = R) := HR.out
    obtain rfl := hwd rfl
    go_wp2_with fail
    refine (HSZ.out w1 hbw1).mono ?_
    rintro e w2 ⟨rfl, hb2⟩
    have hbw2 := hbw1.trans (hb2.mono hbw1.size)
    have hB2 := hB1.from_ hb2 (by omega)
    have hr2 := (hb2.block _ (by omega)).trans hr1
    have hz2 := hb2.size
    clear t0 t1 t2
    have t0 := hB2.c0
    have t1 := hB2.c1
    have t2 := hB2.c2
    by_cases hsz : s.length = wd
    case neg =>
      have hsz' : ¬ (s.length : Int) = wd := by omega
      obtain ⟨⟨o0, c0⟩, ⟨o1, c1⟩, ⟨o2, c2'⟩, ⟨o3, c3⟩, ⟨o4, c4⟩, ⟨o5, c5⟩, ⟨o6, c6⟩, ⟨o7, c7'⟩, f0, f1, f2, f3, f4, f5, f6, f7⟩ := cells_w8 hr2
      go_wp2_with fail
      refine got_post0 (fn := Tryz.f35) rfl w w2 _ _ _ _ 2 _ (by omega) hbw2 _ _ _ _ _ _ _ _ hr2 _ rfl ?_
      intro Z hZ _ _
      rw [← HR.out, if_pos hsz]
      exact gotR_none w 2 hZ
    have hsz' : (s.length : Int) = wd := by omega
    have HRT : Hid (T = R) := by have := HR.out; rw [if_neg (by omega)] at this; exact Lib.hid this
    have HCL := Lib.hid (hrow.out (.inl hsz.symm) w2 hbw2)
    clear hsz
    go_wp2_with fail
    refine HCL.out.mono ?_
    rintro e w3 ⟨⟨N7, bs7, us7, p7, ab7, cb7, au7, cu7, hr7, rfl, hV7⟩, hb3⟩
    have hr3 := (hb3.block _ (by omega)).trans hr2
    have hbw3 := hbw2.trans (hb3.mono hbw2.size)
    obtain ⟨⟨o0, c0⟩, ⟨o1, c1⟩, ⟨o2, c2'⟩, ⟨o3, c3⟩, ⟨o4, c4⟩, ⟨o5, c5⟩, ⟨o6, c6⟩, ⟨o7, c7'⟩, f0, f1, f2, f3, f4, f5, f6, f7⟩ := cells_w8 hr3
    go_wp2_with fail
    refine got_post (fn := Tryz.f35) rfl w w3 _ N7 _ _ p7 _ _ (by omega) hbw3 _ _ _ _ _ _ _ _ hr3 _ rfl ?_
    intro Z hZ hzz hkz
    rw [← HRT.out]
    exact ⟨⟨N7, bs7, us7, p7, ab7, cb7, au7, cu7, hr7, rfl, (hV7.agree (Agree.blocks fun b h1 h2 => hkz b (by omega))).mono (by omega) (by omega)⟩, hZ⟩
  | false =>
    have HRT : Hid (T = R) := by have := HR.out; rw [if_neg (by decide)] at this; exact Lib.hid this
    have HCL := Lib.hid (hrow.out (.inr rfl) w1 hbw1)
    go_wp2_with fail
    refine HCL.out.mono ?_
    rintro e w3 ⟨⟨N7, bs7, us7, p7, ab7, cb7, au7, cu7, hr7, rfl, hV7⟩, hb3⟩
    have hr3 := (hb3.block _ (by omega)).trans hr1
    have hbw3 := hbw1.trans (hb3.mono hbw1.size)
    obtain ⟨⟨o0, c0⟩, ⟨o1, c1⟩, ⟨o2, c2'⟩, ⟨o3, c3⟩, ⟨o4, c4⟩, ⟨o5, c5⟩, ⟨o6, c6⟩, ⟨o7, c7'⟩, f0, f1, f2, f3, f4, f5, f6, f7⟩ := cells_w8 hr3
    go_wp2_with fail
    refine got_post (fn := Tryz.f35) rfl w w3 _ N7 _ _ p7 _ _ (by omega) hbw3 _ _ _ _ _ _ _ _ hr3 _ rfl ?_
    intro Z hZ hzz hkz
    rw [← HRT.out]
    exact ⟨⟨N7, bs7, us7, p7, ab7, cb7, au7, cu7, hr7, rfl, (hV7.agree (Agree.blocks fun b h1 h2 => hkz b (by omega))).mono (by omega) (by omega)⟩, hZ⟩
set_option maxRecDepth 100000 in
set_option maxHeartbeats 8000000 in
theorem zof_1 (n : Int) (ts : List M.Ty) (a : Option Addr) (cap : Nat) (s : List UInt8) (w : World) (hL : LayT w w.heap.size ts (.slice a ts.length cap)) (hfix : M.fixedT (.mk 1 n ts) = true) (hw : wdT (.mk 1 n ts) ≤ 32) (_hl : s.length ≤ 8000) :
    Calls Tryz.prog 35 #[tv 1 n (.slice a ts.length cap), .string ⟨s.toArray⟩] w (GotR w (if s.length ≠ wdT (.mk 1 n ts) then (M.noV, 2) else (.mk (M.led s) [] [] 0, 0))) := by
  obtain ⟨w0, hw0⟩ : ∃ w0, (w.alloc (.cells #[.int .i64 1, .int .i64 n, .slice a ts.length cap] 24)).alloc (.cells #[.int .u64 0, .int .u64 0, .int .u64 0, .int .u64 0, .slice none 0 0, .slice none 0 0, .int .i64 0, .int .i64 0] 59) = w0 := ⟨_, rfl⟩
  have hb0 : Below w.heap.size w w0 := by rw [← hw0]; (repeat (first | exact Below.refl _ _ | refine Below.drew ?_ | refine Below.alloc ?_ (by first | omega | (simp; omega) | simp) _ | refine Below.setCell ?_ (by first | omega | (simp; omega) | simp) _))
  have hz0 : w0.heap.size = w.heap.size + 2 := by rw [← hw0]; simp
  have hr0 : w0.heap[w.heap.size + 1]? = some (.cells #[.int .u64 0, .int .u64 0, .int .u64 0, .int .u64 0, .slice none 0 0, .slice none 0 0, .int .i64 0, .int .i64 0] 59 (0, 0)) := by
    rw [← hw0]
    have := World.alloc_heap_new (w.alloc (.cells #[.int .i64 1, .int .i64 n, .slice a ts.length cap] 24)) (.cells #[.int .u64 0, .int .u64 0, .int .u64 0, .int .u64 0, .slice none 0 0, .slice none 0 0, .int .i64 0, .int .i64 0] 59)
    rwa [World.size_alloc] at this
  have hB0 : BoxT w0 w.heap.size 1 n (.slice a ts.length cap) := by rw [← hw0]; exact ⟨by simp [go_sem], by simp [go_sem], by simp [go_sem]⟩
  have HFX := Lib.hid (fun W (h : Below w.heap.size w W) => tfixed_any 1 n ts a cap W ((hL.from_ h).mono h.size))
  have HSZ := Lib.hid (fun W (h : Below w.heap.size w W) => tsize_any 1 n ts a cap W ((hL.from_ h).mono h.size))
  have hwd : M.fixedT (.mk 1 n ts) = true → wdT (.mk 1 n ts) = M.sizeT (.mk 1 n ts) := fun h => by unfold wdT; rw [if_pos h]
  generalize hfx : M.fixedT (.mk 1 n ts) = fx at *
  generalize M.sizeT (.mk 1 n ts) = sz at *
  generalize wdT (.mk 1 n ts) = wd at *
  obtain ⟨R, hR⟩ : ∃ R, (if s.length ≠ wd then (M.noV, 2) else (.mk (M.led s) [] [] 0, 0)) = R := ⟨_, rfl⟩
  rw [hR]
  have HR := Lib.hid hR
  have t0 := hB0.c0
  have t1 := hB0.c1
  have t2 := hB0.c2
  have HW := Lib.hid hw0
  rw [← HW.out] at t0 t1 t2
  clear hw0 hR hL
  go_enter Tryz.func35, Tryz.ntmps35
  go_wp2_with fail
  rw [HW.out]
  refine (HFX.out w0 hb0).mono ?_
  rintro e w1 ⟨rfl, hb1⟩
  rw [HW.out] at t0 t1 t2
  have hbw1 := hb0.trans (hb1.mono hb0.size)
  have hB1 := hB0.from_ hb1 (by omega)
  have hr1 := (hb1.block _ (by omega)).trans hr0
  clear t0 t1 t2
  have t0 := hB1.c0
  have t1 := hB1.c1
  have t2 := hB1.c2
  have hz1 := hb1.size
  cases fx with
  | true =>
    obtain rfl := hwd rfl
    go_wp2_with fail
    refine (HSZ.out w1 hbw1).mono ?_
    rintro e w2 ⟨rfl, hb2⟩
    have hbw2 := hbw1.trans (hb2.mono hbw1.size)
    have hB2 := hB1.from_ hb2 (by omega)
    have hr2 := (hb2.block _ (by omega)).trans hr1
    have hz2 := hb2.size
    clear t0 t1 t2
    have t0 := hB2.c0
    have t1 := hB2.c1
    have t2 := hB2.c2
    by_cases hsz : s.length = wd
    case neg =>
      have hsz' : ¬ (s.length : Int) = wd := by omega
      obtain ⟨⟨o0, c0⟩, ⟨o1, c1⟩, ⟨o2, c2'⟩, ⟨o3, c3⟩, ⟨o4, c4⟩, ⟨o5, c5⟩, ⟨o6, c6⟩, ⟨o7, c7'⟩, f0, f1, f2, f3, f4, f5, f6, f7⟩ := cells_w8 hr2
      go_wp2_with fail
      refine got_post0 (fn := Tryz.f35) rfl w w2 _ _ _ _ 2 _ (by omega) hbw2 _ _ _ _ _ _ _ _ hr2 _ rfl ?_
      intro Z hZ _ _
      rw [← HR.out, if_pos hsz]
      exact gotR_none w 2 hZ
    have hsz' : (s.length : Int) = wd := by omega
    have HRT : Hid ((M.Va.mk (M.led s) [] [] 0, 0) = R) := by have := HR.out; rw [if_neg (by omega)] at this; exact Lib.hid this
    have HN := Lib.hid (znumber_any s w2 (by omega))
    have HIn := Lib.hid (show M.In (M.led s) from M.in_pow.2 (Nat.lt_of_lt_of_le (M.led_lt s) (Nat.pow_le_pow_right (by omega) (by omega))))
    clear hsz
    generalize M.led s = q at *
    go_wp2_with fail
    refine HN.out.mono ?_
    rintro e w3 ⟨rfl, hb3⟩
    have hr3 := (hb3.block _ (by omega)).trans hr2
    have hbw3 := hbw2.trans (hb3.mono hbw2.size)
    obtain ⟨⟨o0, c0⟩, ⟨o1, c1⟩, ⟨o2, c2'⟩, ⟨o3, c3⟩, ⟨o4, c4⟩, ⟨o5, c5⟩, ⟨o6, c6⟩, ⟨o7, c7'⟩, f0, f1, f2, f3, f4, f5, f6, f7⟩ := cells_w8 hr3
    go_wp2_with fail
    refine got_post (fn := Tryz.f35) rfl w w3 _ q _ _ 0 0 _ (by omega) hbw3 _ _ _ _ _ _ _ _ hr3 _ rfl ?_
    intro Z hZ hzz hkz
    rw [← HRT.out]
    exact ⟨⟨q, [], [], 0, none, 0, none, 0, rfl, rfl, VlS.num _ _ q HIn.out Z⟩, hZ⟩
  | false => cases hfix
end Go.Proofs.YtgloapcfmlijlaaGreatDoor
namespace Go.Proofs.YtgloapcfmlijlaaGreatDoor
open Go Go.RowKit

set_option maxRecDepth 100000 in
set_option maxHeartbeats 8000000 in
theorem zof_2 (n : Int) (ts : List M.Ty) (a : Option Addr) (cap : Nat) (s : List UInt8) (w : World) (hL : LayT w w.heap.size ts (.slice a ts.length cap)) (hfix : M.fixedT (.mk 2 n ts) = true) (hw : wdT (.mk 2 n ts) = 1) (hl : s.length ≤ 8000) :
    Calls Tryz.prog 35 #[tv 2 n (.slice a ts.length cap), .string ⟨s.toArray⟩] w (GotR w (if s.length ≠ wdT (.mk 2 n ts) then (M.noV, 2) else (if 1 < M.led s then (M.noV, 2) else (.mk (M.led s) [] [] 0, 0)))) := by
  obtain ⟨w0, hw0⟩ : ∃ w0, (w.alloc (.cells #[.int .i64 2, .int .i64 n, .slice a ts.length cap] 24)).alloc (.cells #[.int .u64 0, .int .u64 0, .int .u64 0, .int .u64 0, .slice none 0 0, .slice none 0 0, .int .i64 0, .int .i64 0] 59) = w0 := ⟨_, rfl⟩
  have hb0 : Below w.heap.size w w0 := by rw [← hw0]; (repeat (first | exact Below.refl _ _ | refine Below.drew ?_ | refine Below.alloc ?_ (by first | omega | (simp; omega) | simp) _ | refine Below.setCell ?_ (by first | omega | (simp; omega) | simp) _))
  have hz0 : w0.heap.size = w.heap.size + 2 := by rw [← hw0]; simp
  have hr0 : w0.heap[w.heap.size + 1]? = some (.cells #[.int .u64 0, .int .u64 0, .int .u64 0, .int .u64 0, .slice none 0 0, .slice none 0 0, .int .i64 0, .int .i64 0] 59 (0, 0)) := by
    rw [← hw0]
    have := World.alloc_heap_new (w.alloc (.cells #[.int .i64 2, .int .i64 n, .slice a ts.length cap] 24)) (.cells #[.int .u64 0, .int .u64 0, .int .u64 0, .int .u64 0, .slice none 0 0, .slice none 0 0, .int .i64 0, .int .i64 0] 59)
    rwa [World.size_alloc] at this
  have hB0 : BoxT w0 w.heap.size 2 n (.slice a ts.length cap) := by rw [← hw0]; exact ⟨by simp [go_sem], by simp [go_sem], by simp [go_sem]⟩
  have HFX := Lib.hid (fun W (h : Below w.heap.size w W) => tfixed_any 2 n ts a cap W ((hL.from_ h).mono h.size))
  have HSZ := Lib.hid (fun W (h : Below w.heap.size w W) => tsize_any 2 n ts a cap W ((hL.from_ h).mono h.size))
  have hwd : M.fixedT (.mk 2 n ts) = true → wdT (.mk 2 n ts) = M.sizeT (.mk 2 n ts) := fun h => by unfold wdT; rw [if_pos h]
  generalize hfx : M.fixedT (.mk 2 n ts) = fx at *
  generalize M.sizeT (.mk 2 n ts) = sz at *
  generalize wdT (.mk 2 n ts) = wd at *
  obtain ⟨R, hR⟩ : ∃ R, (if s.length ≠ wd then (M.noV, 2) else (if 1 < M.led s then (M.noV, 2) else (.mk (M.led s) [] [] 0, 0))) = R := ⟨_, rfl⟩
  rw [hR]
  have HR := Lib.hid hR
  have t0 := hB0.c0
  have t1 := hB0.c1
  have t2 := hB0.c2
  have HW := Lib.hid hw0
  rw [← HW.out] at t0 t1 t2
  clear hw0 hR hL
  go_enter Tryz.func35, Tryz.ntmps35
  go_wp2_with fail
  rw [HW.out]
  refine (HFX.out w0 hb0).mono ?_
  rintro e w1 ⟨rfl, hb1⟩
  rw [HW.out] at t0 t1 t2
  have hbw1 := hb0.trans (hb1.mono hb0.size)
  have hB1 := hB0.from_ hb1 (by omega)
  have hr1 := (hb1.block _ (by omega)).trans hr0
  clear t0 t1 t2
  have t0 := hB1.c0
  have t1 := hB1.c1
  have t2 := hB1.c2
  have hz1 := hb1.size
  cases fx with
  | true =>
    obtain rfl := hwd rfl
    go_wp2_with fail
    refine (HSZ.out w1 hbw1).mono ?_
    rintro e w2 ⟨rfl, hb2⟩
    have hbw2 := hbw1.trans (hb2.mono hbw1.size)
    have hB2 := hB1.from_ hb2 (by omega)
    have hr2 := (hb2.block _ (by omega)).trans hr1
    have hz2 := hb2.size
    clear t0 t1 t2
    have t0 := hB2.c0
    have t1 := hB2.c1
    have t2 := hB2.c2
    by_cases hsz : s.length = wd
    case neg =>
      have hsz' : ¬ (s.length : Int) = wd := by omega
      obtain ⟨⟨o0, c0⟩, ⟨o1, c1⟩, ⟨o2, c2'⟩, ⟨o3, c3⟩, ⟨o4, c4⟩, ⟨o5, c5⟩, ⟨o6, c6⟩, ⟨o7, c7'⟩, f0, f1, f2, f3, f4, f5, f6, f7⟩ := cells_w8 hr2
      go_wp2_with fail
      refine got_post0 (fn := Tryz.f35) rfl w w2 _ _ _ _ 2 _ (by omega) hbw2 _ _ _ _ _ _ _ _ hr2 _ rfl ?_
      intro Z hZ _ _
      rw [← HR.out, if_pos hsz]
      exact gotR_none w 2 hZ
    have hsz' : (s.length : Int) = wd := by omega
    have HRT : Hid ((if 1 < M.led s then (M.noV, 2) else (M.Va.mk (M.led s) [] [] 0, 0)) = R) := by have := HR.out; rw [if_neg (by omega)] at this; exact Lib.hid this
    have hS0l : 0 < s.length := by omega
    obtain ⟨c, hc⟩ : ∃ c, s = [c] := List.length_eq_one_iff.1 (by omega)
    obtain ⟨pk, hpk⟩ : ∃ pk, c.toNat = pk := ⟨_, rfl⟩
    have ec : ((⟨s.toArray⟩ : ByteArray)[0]'(by simpa [ByteArray.size] using hS0l)).toNat = pk := by subst hc; exact hpk
    have hled : M.led s = pk := by subst hc; simp [M.led, hpk]
    have hp9 : pk < 256 := by have := c.toNat_lt; omega
    have hsl : s.length ≤ 32 := by omega
    have HN := znumber_any s w2 hsl
    rw [hled] at HN HRT
    have HN := Lib.hid HN
    have HIn := Lib.hid (show M.In pk from M.in_pow.2 (Nat.lt_of_lt_of_le hp9 (by decide)))
    clear hc hpk hled hsl
    by_cases h1c : 1 < pk
    · have hr2' := hr2
      obtain ⟨⟨o0, c0⟩, ⟨o1, c1⟩, ⟨o2, c2'⟩, ⟨o3, c3⟩, ⟨o4, c4⟩, ⟨o5, c5⟩, ⟨o6, c6⟩, ⟨o7, c7'⟩, f0, f1, f2, f3, f4, f5, f6, f7⟩ := cells_w8 hr2
      have h1i : (1 : Int) < (pk : Int) := by omega
      clear hsz
      go_wp2_with fail
      refine got_post0 (fn := Tryz.f35) rfl w w2 _ _ _ _ 2 _ (by omega) hbw2 _ _ _ _ _ _ _ _ hr2' _ rfl ?_
      intro Z hZ _ _
      rw [← HRT.out, if_pos h1c]
      exact gotR_none w 2 hZ
    have h1i : ¬ (1 : Int) < (pk : Int) := by omega
    replace HRT : Hid ((M.Va.mk pk [] [] 0, 0) = R) := by have := HRT.out; rw [if_neg h1c] at this; exact Lib.hid this
    clear hsz
    go_wp2_with fail
    refine HN.out.mono ?_
    rintro e w3 ⟨rfl, hb3⟩
    have hr3 := (hb3.block _ (by omega)).trans hr2
    have hbw3 := hbw2.trans (hb3.mono hbw2.size)
    obtain ⟨⟨o0, c0⟩, ⟨o1, c1⟩, ⟨o2, c2'⟩, ⟨o3, c3⟩, ⟨o4, c4⟩, ⟨o5, c5⟩, ⟨o6, c6⟩, ⟨o7, c7'⟩, f0, f1, f2, f3, f4, f5, f6, f7⟩ := cells_w8 hr3
    go_wp2_with fail
    refine got_post (fn := Tryz.f35) rfl w w3 _ pk _ _ 0 0 _ (by omega) hbw3 _ _ _ _ _ _ _ _ hr3 _ rfl ?_
    intro Z hZ hzz hkz
    rw [← HRT.out]
    exact ⟨⟨pk, [], [], 0, none, 0, none, 0, rfl, rfl, VlS.num _ _ pk HIn.out Z⟩, hZ⟩
  | false => cases hfix
end Go.Proofs.YtgloapcfmlijlaaGreatDoor
namespace Go.Proofs.YtgloapcfmlijlaaGreatDoor
open Go Go.RowKit Go.Lib
attribute [local go_sem] Oper.semAt_some

set_option maxRecDepth 100000 in
set_option maxHeartbeats 8000000 in
theorem zof_8 (z : Nat) (ih : Hid (OfZ z)) (n : Int) (ts : List M.Ty) (a : Option Addr) (cap : Nat) (s : List UInt8) (w : World) (hs : SizeOf.sizeOf ts ≤ z + 1) (hL : LayT w w.heap.size ts (.slice a ts.length cap)) (hf : M.fixedT (.mk 8 n ts) = false) (hall : ∀ t ∈ ts, M.chkT 0 t = 0) (ht : ts.length ≤ 8) (hl : s.length ≤ 8000) :
    Calls Tryz.prog 35 #[tv 8 n (.slice a ts.length cap), .string ⟨s.toArray⟩] w (GotR w (M.oneG ts s)) := by
  obtain ⟨w0, hw0⟩ : ∃ w0, (w.alloc (.cells #[.int .i64 8, .int .i64 n, .slice a ts.length cap] 24)).alloc (.cells #[.int .u64 0, .int .u64 0, .int .u64 0, .int .u64 0, .slice none 0 0, .slice none 0 0, .int .i64 0, .int .i64 0] 59) = w0 := ⟨_, rfl⟩
  have hb0 : Below w.heap.size w w0 := by rw [← hw0]; (repeat (first | exact Below.refl _ _ | refine Below.drew ?_ | refine Below.alloc ?_ (by first | omega | (simp; omega) | simp) _ | refine Below.setCell ?_ (by first | omega | (simp; omega) | simp) _))
  have hz0 : w0.heap.size = w.heap.size + 2 := by rw [← hw0]; simp
  have hr0 : w0.heap[w.heap.size + 1]? = some (.cells #[.int .u64 0, .int .u64 0, .int .u64 0, .int .u64 0, .slice none 0 0, .slice none 0 0, .int .i64 0, .int .i64 0] 59 (0, 0)) := by
    rw [← hw0]
    have := World.alloc_heap_new (w.alloc (.cells #[.int .i64 8, .int .i64 n, .slice a ts.length cap] 24)) (.cells #[.int .u64 0, .int .u64 0, .int .u64 0, .int .u64 0, .slice none 0 0, .slice none 0 0, .int .i64 0, .int .i64 0] 59)
    rwa [World.size_alloc] at this
  have hB0 : BoxT w0 w.heap.size 8 n (.slice a ts.length cap) := by rw [← hw0]; exact ⟨by simp [go_sem], by simp [go_sem], by simp [go_sem]⟩
  have HFX := Lib.hid (fun W (h : Below w.heap.size w W) => tfixed_any 8 n ts a cap W ((hL.from_ h).mono h.size))
  have HFX : Hid (∀ W, Below w.heap.size w W → Calls Tryz.prog 74 #[tv 8 n (.slice a ts.length cap)] W fun e w' => e = .returned (.bool false) ∧ Below W.heap.size W w') := by rw [hf] at HFX; exact HFX
  have t0 := hB0.c0
  have t1 := hB0.c1
  have t2 := hB0.c2
  have HW := Lib.hid hw0
  rw [← HW.out] at t0 t1 t2
  have mixed : Tryz.prog.follows .mixedOrders = true := by kernel_rfl
  cases s with
  | nil =>
    rw [show M.oneG ts [] = (M.noV, 2) from rfl]
    clear hw0 hL
    go_enter Tryz.func35, Tryz.ntmps35
    go_wp2_with fail
    rw [HW.out]
    refine (HFX.out w0 hb0).mono ?_
    rintro e w1 ⟨rfl, hb1⟩
    rw [HW.out] at t0 t1 t2
    have hbw1 := hb0.trans (hb1.mono hb0.size)
    have hB1 := hB0.from_ hb1 (by omega)
    have hr1 := (hb1.block _ (by omega)).trans hr0
    clear t0 t1 t2
    have t0 := hB1.c0
    have hz1 := hb1.size
    have hr1' := hr1
    obtain ⟨⟨o0, c0⟩, ⟨o1, c1⟩, ⟨o2, c2'⟩, ⟨o3, c3⟩, ⟨o4, c4⟩, ⟨o5, c5⟩, ⟨o6, c6⟩, ⟨o7, c7'⟩, f0, f1, f2, f3, f4, f5, f6, f7⟩ := cells_w8 hr1
    go_wp2_with fail
    refine got_post0 (fn := Tryz.f35) rfl w w1 _ _ _ _ 2 _ (by omega) hbw1 _ _ _ _ _ _ _ _ hr1' _ rfl ?_
    intro Z hZ _ _
    exact gotR_none w 2 hZ
  | cons c s =>
    obtain ⟨T, hT⟩ : ∃ T, M.oneG ts (c :: s) = T := ⟨_, rfl⟩
    rw [hT]
    have HT := Lib.hid hT
    clear hT
    have hc := c.toNat_lt
    obtain ⟨pk, hpk⟩ : ∃ pk, c.toNat = pk := ⟨_, rfl⟩
    rw [hpk] at hc
    obtain ⟨S, hS⟩ : ∃ S, c :: s = S := ⟨_, rfl⟩
    have hSl : S.length = s.length + 1 := by rw [← hS]; simp
    have hS0l : 0 < S.length := by omega
    have ec : ((⟨S.toArray⟩ : ByteArray)[0]'(by simpa [ByteArray.size] using hS0l)).toNat = pk := by
      subst hS
      exact hpk
    have he : S.isEmpty = false := by rw [← hS]; rfl
    have hS1 : S.drop 1 = s := by rw [← hS]; rfl
    have hwr : wrap64 (pk : Int) = pk := by unfold wrap64; omega
    rw [hS] at hl
    rw [hS]
    have HSl := Lib.hid hSl
    have HS1 := Lib.hid hS1
    have HPK := Lib.hid hpk
    clear hSl hS1 hpk hS hw0
    go_enter Tryz.func35, Tryz.ntmps35
    go_wp2_with fail
    rw [HW.out]
    refine (HFX.out w0 hb0).mono ?_
    rintro e w1 ⟨rfl, hb1⟩
    rw [HW.out] at t0 t1 t2
    have hbw1 := hb0.trans (hb1.mono hb0.size)
    have hB1 := hB0.from_ hb1 (by omega)
    have hr1 := (hb1.block _ (by omega)).trans hr0
    clear t0 t1 t2
    have t0 := hB1.c0
    have t1 := hB1.c1
    have t2 := hB1.c2
    have hz1 := hb1.size
    by_cases hin : pk < ts.length
    case neg =>
      have hin1 : ¬ (pk : Int) < ts.length := by omega
      have hr1' := hr1
      obtain ⟨⟨o0, c0⟩, ⟨o1, c1⟩, ⟨o2, c2'⟩, ⟨o3, c3⟩, ⟨o4, c4⟩, ⟨o5, c5⟩, ⟨o6, c6⟩, ⟨o7, c7'⟩, f0, f1, f2, f3, f4, f5, f6, f7⟩ := cells_w8 hr1
      have HRT : Hid ((M.noV, 9) = T) := by show _ = _; rw [← HT.out]; unfold M.oneG; simp only; rw [if_pos (by rw [HPK.out]; omega)]
      go_wp2_with fail
      go_region
      have e0 : w1.drew.cell? ⟨w.heap.size + 1, 0, none⟩ = some o0 := c0
      go_wp2_with fail
      have hbw1d : Below w.heap.size w w1.drew := Below.drew hbw1
      have hdr : ∀ (X : World) (p : Addr) (v : Value), (X.setCell p v).drew = X.drew.setCell p v := fun _ _ _ => rfl
      try simp only [hdr]
      refine got_post0 (fn := Tryz.f35) rfl w w1.drew _ _ _ _ 9 _ (by omega) hbw1d _ _ _ _ _ _ _ _ hr1' _ rfl ?_
      intro Z hZ _ _
      rw [← HRT.out]
      exact gotR_none w 9 hZ
    have hin1 : (pk : Int) < ts.length := by omega
    obtain ⟨b, o, k', n', us', ua, uc, rfl, hbn, hxk, e0, e1, e2, hLt⟩ := hL.at_ hin
    have hmem : M.Ty.mk k' n' us' ∈ ts := List.mem_of_getElem? hxk
    have hsx : SizeOf.sizeOf us' ≤ z := by have := List.sizeOf_lt_of_mem hmem; simp at this; omega
    have hchx : M.chkT 0 (.mk k' n' us') = 0 := hall _ hmem
    have HC : Hid (∀ X, Below w1.heap.size w1 X → Calls Tryz.prog 35 #[tv k' n' (.slice ua us'.length uc), .string ⟨s.toArray⟩] X (GotR X (M.getV (.mk k' n' us') s))) := fun X h =>
      ih.out k' n' us' ua uc s X hsx ((hLt.from_ (hbw1.trans (h.mono hbw1.size))).mono (hbw1.trans (h.mono hbw1.size)).size) hchx (by have := HSl.out; omega)
    have HTR : Hid (T = if (M.getV (.mk k' n' us') s).2 ≠ 0 then (M.noV, (M.getV (.mk k' n' us') s).2) else (.mk 0 [] [(M.getV (.mk k' n' us') s).1] (pk : Int), 0)) := by
      show _ = _
      rw [← HT.out]
      unfold M.oneG
      simp only
      rw [if_neg (by rw [HPK.out]; omega), HPK.out, hxk]
      rfl
    have HGD : Hid ((M.getV (.mk k' n' us') s).2 ≠ 0 → (M.getV (.mk k' n' us') s).1 = M.noV) := by
      have : Gd (M.getV (.mk k' n' us') s) := get_none
      exact this
    have g0 := (hbw1.cell (p := ⟨b, o + pk * 3, none⟩) hbn).trans e0
    have g1 := (hbw1.cell (p := ⟨b, o + pk * 3 + 1, none⟩) hbn).trans e1
    have g2 := (hbw1.cell (p := ⟨b, o + pk * 3 + 2, none⟩) hbn).trans e2
    have hbn0 : b < w1.heap.size := by omega
    have hw0l : w.heap.size < w1.heap.size := by omega
    generalize hrr : M.getV (.mk k' n' us') s = r at *
    obtain ⟨v7, q7⟩ := r
    have hsl : ∀ Y : World, (Instr.slice 9 (.string ⟨S.toArray⟩) (some (.int .i64 1)) none none).run Tryz.prog Y = .ok (.string ⟨s.toArray⟩) Y := fun Y => by
      go_simp
      rw [if_pos (by omega), cutS, List.take_of_length_le (Nat.le_refl _), HS1.out]
    have HZ0 := Lib.hid hz0
    have HHALL := Lib.hid hall
    clear hmem hsx hchx hLt hL hxk e0 e1 e2 HT hf hrr hr0 hz0 hall
    go_wp2_with fail
    go_region
    go_wp2_with fail
    refine wp_region_held (S := fun Y => Below w1.heap.size w1 Y) mixed ?_
    have hS0 : Below w1.heap.size w1 w1.drew.drew := Below.drew (Below.drew (Below.refl _ _))
    rw [show Array.replicate (Array.size _) false = #[false, false, false, false, false, false, false, false, false, false, false, false] from rfl, show Array.size (α := Oper) _ = 12 from rfl]
    refine wpAnyH_take (i := 0) (v := .pointer (some ⟨w.heap.size, 2, none⟩)) rfl (by kernel_rfl) (by kernel_rfl) (by kernel_rfl) (fun _ _ _ h => h) (Or.inl ⟨by rfl, ?_⟩) hS0 ?_
    · intro Y hY
      skip
      go_simp
    simp only [Act.put, List.getElem_toArray, List.getElem_cons_zero, List.setIfInBounds_toArray, List.set_cons_zero, List.set_cons_succ]
    refine wpAnyH_take (i := 1) (v := .slice (some ⟨b, o, none⟩) ts.length cap) rfl (by kernel_rfl) (by kernel_rfl) (by kernel_rfl) (fun _ _ _ h => h) (Or.inl ⟨by rfl, ?_⟩) hS0 ?_
    · intro Y hY
      have y2 := (hY.cell (p := ⟨w.heap.size, 2, none⟩) hw0l).trans t2
      go_simp
    simp only [Act.put, List.getElem_toArray, List.getElem_cons_succ, List.getElem_cons_zero, List.setIfInBounds_toArray, List.set_cons_zero, List.set_cons_succ]
    refine wpAnyH_take (i := 2) (v := .string ⟨S.toArray⟩) rfl (by kernel_rfl) (by kernel_rfl) (by kernel_rfl) (fun _ _ _ h => h) (Or.inl ⟨by rfl, ?_⟩) hS0 ?_
    · intro Y hY
      skip
      go_simp
    simp only [Act.put, List.getElem_toArray, List.getElem_cons_succ, List.getElem_cons_zero, List.setIfInBounds_toArray, List.set_cons_zero, List.set_cons_succ]
    refine wpAnyH_take (i := 3) (v := .int .u8 (pk : Nat)) rfl (by kernel_rfl) (by kernel_rfl) (by kernel_rfl) (fun _ _ _ h => h) (Or.inl ⟨by rfl, ?_⟩) hS0 ?_
    · intro Y hY
      skip
      go_simp
    simp only [Act.put, List.getElem_toArray, List.getElem_cons_succ, List.getElem_cons_zero, List.setIfInBounds_toArray, List.set_cons_zero, List.set_cons_succ]
    refine wpAnyH_take (i := 4) (v := .int .i64 (pk : Nat)) rfl (by kernel_rfl) (by kernel_rfl) (by kernel_rfl) (fun _ _ _ h => h) (Or.inl ⟨by rfl, ?_⟩) hS0 ?_
    · intro Y hY
      go_simp
      rw [IntKind.wrap_i64]
      omega
    simp only [Act.put, List.getElem_toArray, List.getElem_cons_succ, List.getElem_cons_zero, List.setIfInBounds_toArray, List.set_cons_zero, List.set_cons_succ]
    refine wpAnyH_take (i := 5) (v := .pointer (some ⟨b, o + pk * 3, none⟩)) rfl (by kernel_rfl) (by kernel_rfl) (by kernel_rfl) (fun _ _ _ h => h) (Or.inl ⟨by rfl, ?_⟩) hS0 ?_
    · intro Y hY
      skip
      go_simp
    simp only [Act.put, List.getElem_toArray, List.getElem_cons_succ, List.getElem_cons_zero, List.setIfInBounds_toArray, List.set_cons_zero, List.set_cons_succ]
    refine wpAnyH_take (i := 6) (v := tv k' n' (.slice ua us'.length uc)) rfl (by kernel_rfl) (by kernel_rfl) (by kernel_rfl) (fun _ _ _ h => h) (Or.inl ⟨by rfl, ?_⟩) hS0 ?_
    · intro Y hY
      have f0 := (hY.cell (p := ⟨b, o + pk * 3, none⟩) hbn0).trans g0; have f1 := (hY.cell (p := ⟨b, o + pk * 3 + 1, none⟩) hbn0).trans g1; have f2 := (hY.cell (p := ⟨b, o + pk * 3 + 2, none⟩) hbn0).trans g2
      go_simp
    simp only [Act.put, List.getElem_toArray, List.getElem_cons_succ, List.getElem_cons_zero, List.setIfInBounds_toArray, List.set_cons_zero, List.set_cons_succ]
    refine wpAnyH_take (i := 7) (v := .string ⟨S.toArray⟩) rfl (by kernel_rfl) (by kernel_rfl) (by kernel_rfl) (fun _ _ _ h => h) (Or.inl ⟨by rfl, ?_⟩) hS0 ?_
    · intro Y hY
      skip
      go_simp
    simp only [Act.put, List.getElem_toArray, List.getElem_cons_succ, List.getElem_cons_zero, List.setIfInBounds_toArray, List.set_cons_zero, List.set_cons_succ]
    refine wpAnyH_take (i := 8) (v := .string ⟨s.toArray⟩) rfl (by kernel_rfl) (by kernel_rfl) (by kernel_rfl) (fun _ _ _ h => h) (Or.inl ⟨by rfl, ?_⟩) hS0 ?_
    · intro Y hY
      skip
      go_simp
    simp only [Act.put, List.getElem_toArray, List.getElem_cons_succ, List.getElem_cons_zero, List.setIfInBounds_toArray, List.set_cons_zero, List.set_cons_succ]
    refine wpAnyH_ready (rs := [9, 10]) (by kernel_rfl) (by simp) ?_
    refine AllReadyH.cons rfl (fun K hK => ?rA) (AllReadyH.cons rfl (fun K hK => ?rB) AllReadyH.nil)
    case' rA =>
      go_simp
      refine (HC.out _ hS0).mono ?_
      rintro e w7 ⟨⟨N7, bs7, us7, p7, ab7, cb7, au7, cu7, hr7, rfl, hV7⟩, hb7⟩
      obtain rfl : v7 = .mk N7 bs7 us7 p7 := hr7
      have hS7 : Below w1.heap.size w1 w7 := hS0.trans (Below.mono hb7 (Nat.le_refl _))
      try go_wp2_with fail
      refine hK.out _ _ hS7 (fun _ => ?_)
      clear hK K
      simp only [List.setIfInBounds_toArray, List.set_cons_zero, List.set_cons_succ]
      refine wpAnyH_ready (rs := [10]) (by kernel_rfl) (by simp) ?_
      refine AllReadyH.cons rfl (fun K hK => ?_) AllReadyH.nil
      go_simp
      obtain ⟨w8, hw8⟩ : ∃ w8, w7.alloc (.cells #[.int .u64 0, .int .u64 0, .int .u64 0, .int .u64 0, .slice none 0 0, .slice none 0 0, .int .i64 0, .int .i64 0] 59) = w8 := ⟨_, rfl⟩
      obtain ⟨g, hg⟩ : ∃ g, w7.heap.size = g := ⟨_, rfl⟩
      have hb8 : Below w7.heap.size w7 w8 := by rw [← hw8]; exact (Below.refl _ _).alloc (Nat.le_refl _) _
      have hS8 : Below w1.heap.size w1 w8 := hS7.trans (hb8.mono hS7.size)
      have hr8 : w8.heap[g]? = some (.cells #[.int .u64 0, .int .u64 0, .int .u64 0, .int .u64 0, .slice none 0 0, .slice none 0 0, .int .i64 0, .int .i64 0] 59 (0, 0)) := by rw [← hw8, ← hg]; exact World.alloc_heap_new _ _
      have hV8 := hV7.agree (Agree.below hb8)
      have hg1 : w1.heap.size ≤ g := by have := hS7.size; omega
      obtain ⟨lo8, hlo8e⟩ : ∃ lo8, w1.drew.drew.heap.size = lo8 := ⟨_, rfl⟩
      have hlo8 : w1.heap.size ≤ lo8 := by rw [← hlo8e]; exact Nat.le_refl _
      rw [hlo8e] at hV8
      have hgl : g < lo8 ∨ w7.heap.size ≤ g := .inr (by omega)
      have hz8 : w7.heap.size ≤ w8.heap.size := hb8.size
      rw [hw8, hg]
      rw [hg] at hV8 hgl hz8
      refine hK.out _ _ hS8 (fun _ => ?_)
      clear hK K hw8 hb8 hV7 hlo8e hb7 hS7 hg
      simp only [List.setIfInBounds_toArray, List.set_cons_zero, List.set_cons_succ]
      skip
    case' rB =>
      go_simp
      obtain ⟨wA, hwA⟩ : ∃ wA, w1.drew.drew.alloc (.cells #[.int .u64 0, .int .u64 0, .int .u64 0, .int .u64 0, .slice none 0 0, .slice none 0 0, .int .i64 0, .int .i64 0] 59) = wA := ⟨_, rfl⟩
      obtain ⟨g, hg⟩ : ∃ g, w1.heap.size = g := ⟨_, rfl⟩
      have hbA : Below w1.heap.size w1 wA := by rw [← hwA]; exact hS0.alloc (Nat.le_refl _) _
      have hzA : wA.heap.size = g + 1 := by rw [← hwA, ← hg]; simp
      have hrA : wA.heap[g]? = some (.cells #[.int .u64 0, .int .u64 0, .int .u64 0, .int .u64 0, .slice none 0 0, .slice none 0 0, .int .i64 0, .int .i64 0] 59 (0, 0)) := by rw [← hwA, ← hg]; exact World.alloc_heap_new _ _
      have hg1 : w1.heap.size ≤ g := by omega
      have HG := Lib.hid hg
      change K _ (w1.drew.drew.alloc (.cells #[.int .u64 0, .int .u64 0, .int .u64 0, .int .u64 0, .slice none 0 0, .slice none 0 0, .int .i64 0, .int .i64 0] 59))
      rw [hwA]
      rw [HG.out]
      refine hK.out _ wA hbA (fun _ => ?_)
      clear hK K hwA hg
      simp only [List.setIfInBounds_toArray, List.set_cons_zero, List.set_cons_succ]
      refine wpAnyH_ready (rs := [9]) (by kernel_rfl) (by simp) ?_
      refine AllReadyH.cons rfl (fun K hK => ?_) AllReadyH.nil
      go_simp
      refine (HC.out _ hbA).mono ?_
      rintro e w8 ⟨⟨N7, bs7, us7, p7, ab7, cb7, au7, cu7, hr7, rfl, hV8⟩, hb7⟩
      obtain rfl : v7 = .mk N7 bs7 us7 p7 := hr7
      have hS8 : Below w1.heap.size w1 w8 := hbA.trans (Below.mono hb7 hbA.size)
      have hr8 : w8.heap[g]? = some (.cells #[.int .u64 0, .int .u64 0, .int .u64 0, .int .u64 0, .slice none 0 0, .slice none 0 0, .int .i64 0, .int .i64 0] 59 (0, 0)) := (hb7.block _ (by omega)).trans hrA
      obtain ⟨lo8, hlo8e⟩ : ∃ lo8, wA.heap.size = lo8 := ⟨_, rfl⟩
      have hlo8 : w1.heap.size ≤ lo8 := by have := HG.out; omega
      rw [hlo8e] at hV8
      have hgl : g < lo8 ∨ w8.heap.size ≤ g := .inl (by omega)
      have hz8 : w8.heap.size ≤ w8.heap.size := Nat.le_refl _
      try go_wp2_with fail
      refine hK.out _ _ hS8 (fun _ => ?_)
      clear hK K hbA hzA hrA hb7 hlo8e
      simp only [List.setIfInBounds_toArray, List.set_cons_zero, List.set_cons_succ]
      skip
    all_goals
      obtain ⟨⟨j0, i0⟩, ⟨j1, i1⟩, ⟨j2, i2⟩, ⟨j3, i3⟩, ⟨j4, i4⟩, ⟨j5, i5⟩, ⟨j6, i6⟩, ⟨j7, i7⟩, f0, f1, f2, f3, f4, f5, f6, f7⟩ := cells_w8 hr8
      refine wpAnyH_ready (rs := [11]) (by kernel_rfl) (by simp) ?_
      refine AllReadyH.cons rfl (fun K hK => ?_) AllReadyH.nil
      go_simp
      rw [set_w8 hr8]
      obtain ⟨w9, hw9⟩ : ∃ w9, w8.setRow g #[.int .u64 (M.pt 0 N7), .int .u64 (M.pt 1 N7), .int .u64 (M.pt 2 N7), .int .u64 (M.pt 3 N7), .slice ab7 bs7.length cb7, .slice au7 us7.length cu7, .int .i64 p7, .int .i64 (q7 : Nat)] = w9 := ⟨_, rfl⟩
      have hS9 : Below w1.heap.size w1 w9 := by rw [← hw9]; exact below_setRow hS8 hg1 _
      have hr9 : w9.heap[g]? = some (.cells #[.int .u64 (M.pt 0 N7), .int .u64 (M.pt 1 N7), .int .u64 (M.pt 2 N7), .int .u64 (M.pt 3 N7), .slice ab7 bs7.length cb7, .slice au7 us7.length cu7, .int .i64 p7, .int .i64 (q7 : Nat)] 59 (0, 0)) := by rw [← hw9]; exact setRow_heap _ _ _ _ _ _ hr8
      have hV9 : VlS w1.heap.size w9.heap.size N7 bs7 us7 ab7 cb7 au7 cu7 w9 := by rw [← hw9]; exact (hV8.agree (Agree.blocks fun b h1 h2 => setRow_other _ _ _ _ (by rcases hgl with h | h <;> omega))).mono hlo8 (by first | (simp; done) | (simp; omega))
      rw [hw9]
      refine hK.out _ _ hS9 (fun _ => ?_)
      clear hK K
      simp only [List.setIfInBounds_toArray, List.set_cons_zero, List.set_cons_succ]
      refine wpAnyH_done (by kernel_rfl) ?_ _
      clear hw9 i0 i1 i2 i3 i4 i5 i6 i7 f0 f1 f2 f3 f4 f5 f6 f7
      have hbw9 : Below w.heap.size w w9 := hbw1.trans (hS9.mono hbw1.size)
      have hr19 := (hS9.block _ (show w.heap.size + 1 < w1.heap.size by have := HZ0.out; omega)).trans hr1
      have u0 : w9.cell? ⟨g, 0, none⟩ = some (.int .u64 (M.pt 0 N7)) := by simp [World.cell?, hr9]
      have u1 : w9.cell? ⟨g, 1, none⟩ = some (.int .u64 (M.pt 1 N7)) := by simp [World.cell?, hr9]
      have u2 : w9.cell? ⟨g, 2, none⟩ = some (.int .u64 (M.pt 2 N7)) := by simp [World.cell?, hr9]
      have u3 : w9.cell? ⟨g, 3, none⟩ = some (.int .u64 (M.pt 3 N7)) := by simp [World.cell?, hr9]
      have u4 : w9.cell? ⟨g, 4, none⟩ = some (.slice ab7 bs7.length cb7) := by simp [World.cell?, hr9]
      have u5 : w9.cell? ⟨g, 5, none⟩ = some (.slice au7 us7.length cu7) := by simp [World.cell?, hr9]
      have u6 : w9.cell? ⟨g, 6, none⟩ = some (.int .i64 p7) := by simp [World.cell?, hr9]
      have u7 : w9.cell? ⟨g, 7, none⟩ = some (.int .i64 (q7 : Nat)) := by simp [World.cell?, hr9]
      have HV9 := Lib.hid hV9
      have hs9 := hS9.size
      clear t0 t1 t2 g0 g1 g2 hV9 hV8 hr8 hS8 hS0
      by_cases hq7 : q7 = 0
      case neg =>
        have hq7' : ¬ (q7 : Int) = 0 := by omega
        have hr19' := hr19
        obtain ⟨⟨o0, c0⟩, ⟨o1, c1⟩, ⟨o2, c2'⟩, ⟨o3, c3⟩, ⟨o4, c4⟩, ⟨o5, c5⟩, ⟨o6, c6⟩, ⟨o7, c7'⟩, f0, f1, f2, f3, f4, f5, f6, f7⟩ := cells_w8 hr19
        have HRT : Hid ((M.noV, q7) = T) := by show _ = _; rw [HTR.out, if_pos hq7]
        have HN := HGD.out hq7
        obtain ⟨rfl, rfl, rfl, rfl⟩ : N7 = 0 ∧ bs7 = [] ∧ us7 = [] ∧ p7 = 0 := by cases HN; exact ⟨rfl, rfl, rfl, rfl⟩
        go_wp2_with fail
        refine got_post (fn := Tryz.f35) rfl w w9 _ 0 _ _ 0 q7 _ (by omega) hbw9 _ _ _ _ _ _ _ _ hr19' _ rfl ?_
        intro Z hZ hzz hkz
        rw [← HRT.out]
        have hz0 := HZ0.out
        exact ⟨⟨0, [], [], 0, ab7, cb7, au7, cu7, rfl, rfl, (HV9.out.agree (Agree.blocks fun b h1 h2 => hkz b (by omega))).mono (by omega) (by omega)⟩, hZ⟩
      subst hq7
      have HRT : Hid ((.mk 0 [] [M.Va.mk N7 bs7 us7 p7] (pk : Int), 0) = T) := by show _ = _; rw [HTR.out, if_neg (by simp)]
      have hgl9 : g < w9.heap.size := (Array.getElem?_eq_some_iff.1 hr9).1
      have hz0 := HZ0.out
      have hgn : g ≠ w.heap.size + 1 := by omega
      have HGL := Lib.hid hgl9
      go_wp2_with fail
      refine wp_region_held (S := fun Y => Gr w9 Y (fun b => b = w.heap.size + 1)) mixed ?_
      have hG0 : (fun Y => Gr w9 Y (fun b => b = w.heap.size + 1)) { w9 with drawn := w9.drawn + 1 } := Gr.drew (Gr.refl _ _)
      rw [show Array.replicate (Array.size _) false = #[false, false, false, false, false, false, false, false, false] from rfl, show Array.size (α := Oper) _ = 9 from rfl]
      refine wpAnyH_take (i := 0) (v := .string ⟨S.toArray⟩) rfl (by kernel_rfl) (by kernel_rfl) (by kernel_rfl) (fun _ _ _ h => h) (Or.inl ⟨by rfl, ?_⟩) hG0 ?_
      · intro Y hY
        skip
        go_simp
      simp only [Act.put, List.getElem_toArray, List.getElem_cons_zero, List.setIfInBounds_toArray, List.set_cons_zero, List.set_cons_succ]
      refine wpAnyH_take (i := 1) (v := .int .u8 (pk : Nat)) rfl (by kernel_rfl) (by kernel_rfl) (by kernel_rfl) (fun _ _ _ h => h) (Or.inl ⟨by rfl, ?_⟩) hG0 ?_
      · intro Y hY
        skip
        go_simp
      simp only [Act.put, List.getElem_toArray, List.getElem_cons_succ, List.getElem_cons_zero, List.setIfInBounds_toArray, List.set_cons_zero, List.set_cons_succ]
      refine wpAnyH_take (i := 2) (v := .int .i64 (pk : Nat)) rfl (by kernel_rfl) (by kernel_rfl) (by kernel_rfl) (fun _ _ _ h => h) (Or.inl ⟨by rfl, ?_⟩) hG0 ?_
      · intro Y hY
        skip
        go_simp
        rw [IntKind.wrap_i64]
        omega
      simp only [Act.put, List.getElem_toArray, List.getElem_cons_succ, List.getElem_cons_zero, List.setIfInBounds_toArray, List.set_cons_zero, List.set_cons_succ]
      refine wpAnyH_take (i := 3) (v := .pointer (some ⟨g, 0, none⟩)) rfl (by kernel_rfl) (by kernel_rfl) (by kernel_rfl) (fun _ _ _ h => h) (Or.inl ⟨by rfl, ?_⟩) hG0 ?_
      · intro Y hY
        skip
        go_simp
      simp only [Act.put, List.getElem_toArray, List.getElem_cons_succ, List.getElem_cons_zero, List.setIfInBounds_toArray, List.set_cons_zero, List.set_cons_succ]
      refine wpAnyH_take (i := 4) (v := vv N7 (.slice ab7 bs7.length cb7) (.slice au7 us7.length cu7) p7) rfl (by kernel_rfl) (by kernel_rfl) (by kernel_rfl) (fun _ _ _ h => h) (Or.inl ⟨by rfl, ?_⟩) hG0 ?_
      · intro Y hY
        have y0 := (hY.cell (p := ⟨g, 0, none⟩) hgl9 hgn).trans u0; have y1 := (hY.cell (p := ⟨g, 1, none⟩) hgl9 hgn).trans u1; have y2 := (hY.cell (p := ⟨g, 2, none⟩) hgl9 hgn).trans u2; have y3 := (hY.cell (p := ⟨g, 3, none⟩) hgl9 hgn).trans u3; have y4 := (hY.cell (p := ⟨g, 4, none⟩) hgl9 hgn).trans u4; have y5 := (hY.cell (p := ⟨g, 5, none⟩) hgl9 hgn).trans u5; have y6 := (hY.cell (p := ⟨g, 6, none⟩) hgl9 hgn).trans u6; have y7 := (hY.cell (p := ⟨g, 7, none⟩) hgl9 hgn).trans u7
        go_simp
      simp only [Act.put, List.getElem_toArray, List.getElem_cons_succ, List.getElem_cons_zero, List.setIfInBounds_toArray, List.set_cons_zero, List.set_cons_succ]
      refine wpAnyH_ready (rs := [5]) (by kernel_rfl) (by simp) ?_
      refine AllReadyH.cons rfl (fun K hK => ?_) AllReadyH.nil
      rw [if_pos (by rfl)]
      refine wp_build_val (.tmp 75) _ _ _ _ _ _ _ rfl rfl ?_
      obtain ⟨wB, hwB⟩ : ∃ wB, ({ w9 with drawn := w9.drawn + 1 } : World).alloc (.cells #[.int .u64 (M.pt 0 N7), .int .u64 (M.pt 1 N7), .int .u64 (M.pt 2 N7), .int .u64 (M.pt 3 N7), .slice ab7 bs7.length cb7, .slice au7 us7.length cu7, .int .i64 p7] 33) = wB := ⟨_, rfl⟩
      have hbB : Below w9.heap.size w9 wB := by rw [← hwB]; exact (Below.drew (Below.refl _ _)).alloc (Nat.le_refl _) _
      have hCB : Cells7 wB w9.heap.size 0 N7 (.slice ab7 bs7.length cb7) (.slice au7 us7.length cu7) p7 := by rw [← hwB]; exact Cells7.new _ N7 _ _ p7 _
      have hzB : wB.heap.size = w9.heap.size + 1 := by rw [← hwB]; simp
      have HCB := Lib.hid hCB
      have HZB := Lib.hid hzB
      have hGB : Gr w9 wB (fun b => b = w.heap.size + 1) := (Gr.refl w9 _).below hbB
      have hrB := (hbB.block _ (show w.heap.size + 1 < w9.heap.size by omega)).trans hr19
      have hbwB : Below w.heap.size w wB := hbw9.trans (hbB.mono hbw9.size)
      change K _ (World.alloc _ _)
      rw [show (World.alloc _ (.cells #[.int .u64 (M.pt 0 N7), .int .u64 (M.pt 1 N7), .int .u64 (M.pt 2 N7), .int .u64 (M.pt 3 N7), .slice ab7 bs7.length cb7, .slice au7 us7.length cu7, .int .i64 p7] 33) : World) = wB from hwB]
      clear hwB hCB hzB
      refine hK.out _ _ hGB (fun _ => ?_)
      clear hK K
      simp only [Act.put, List.getElem_toArray, List.getElem_cons_succ, List.getElem_cons_zero, List.setIfInBounds_toArray, List.set_cons_zero, List.set_cons_succ]
      refine wpAnyH_take (i := 6) (v := .agg #[.int .u64 0, .int .u64 0, .int .u64 0, .int .u64 0, .slice none 0 0, .slice (some ⟨w9.heap.size, 0, none⟩) 1 1, .int .i64 (pk : Nat)]) rfl (by kernel_rfl) (by kernel_rfl) (by kernel_rfl) (fun _ _ _ h => h) (Or.inl ⟨by rfl, ?_⟩) hGB ?_
      · intro Y hY
        skip
        go_simp
      simp only [Act.put, List.getElem_toArray, List.getElem_cons_succ, List.getElem_cons_zero, List.setIfInBounds_toArray, List.set_cons_zero, List.set_cons_succ]
      refine wpAnyH_take (i := 7) (v := .agg #[.int .u64 0, .int .u64 0, .int .u64 0, .int .u64 0, .slice none 0 0, .slice (some ⟨w9.heap.size, 0, none⟩) 1 1, .int .i64 (pk : Nat), .int .i64 0]) rfl (by kernel_rfl) (by kernel_rfl) (by kernel_rfl) (fun _ _ _ h => h) (Or.inl ⟨by rfl, ?_⟩) hGB ?_
      · intro Y hY
        skip
        go_simp
      simp only [Act.put, List.getElem_toArray, List.getElem_cons_succ, List.getElem_cons_zero, List.setIfInBounds_toArray, List.set_cons_zero, List.set_cons_succ]
      have hrB' := hrB
      obtain ⟨⟨o0, c0⟩, ⟨o1, c1⟩, ⟨o2, c2'⟩, ⟨o3, c3⟩, ⟨o4, c4⟩, ⟨o5, c5⟩, ⟨o6, c6⟩, ⟨o7, c7'⟩, f0, f1, f2, f3, f4, f5, f6, f7⟩ := cells_w8 hrB
      clear u0 u1 u2 u3 u4 u5 u6 u7
      refine wpAnyH_ready (rs := [8]) (by kernel_rfl) (by simp) ?_
      refine AllReadyH.cons rfl (fun K hK => ?_) AllReadyH.nil
      go_simp
      refine hK.out _ _ ((((((((hGB.set _ _ (.inr rfl)).set _ _ (.inr rfl)).set _ _ (.inr rfl)).set _ _ (.inr rfl)).set _ _ (.inr rfl)).set _ _ (.inr rfl)).set _ _ (.inr rfl)).set _ _ (.inr rfl)) (fun _ => ?_)
      clear hK K
      simp only [List.setIfInBounds_toArray, List.set_cons_zero, List.set_cons_succ]
      refine wpAnyH_done (by kernel_rfl) ?_ _
      go_wp2_with fail
      refine got_post0 (fn := Tryz.f35) rfl w wB _ _ _ _ 0 _ (by omega) hbwB _ _ _ _ _ _ _ _ hrB' _ rfl ?_
      intro Z hZ hzz hkz
      rw [← HRT.out]
      refine ⟨⟨0, [], [M.Va.mk N7 bs7 us7 p7], pk, none, 0, some ⟨w9.heap.size, 0, none⟩, 1, rfl, rfl, ?_⟩, hZ⟩
      have hzB := HZB.out
      have hC := (HCB.out).block (hkz w9.heap.size (by omega))
      refine VlS.row (by omega) (by omega) (by simp) (by decide) fun i N2 bs2 vs2 q hi => ?_
      cases i with
      | succ i => simp at hi
      | zero =>
        have e : M.Va.mk N7 bs7 us7 p7 = .mk N2 bs2 vs2 q := by simpa using hi
        cases e
        exact ⟨ab7, cb7, au7, cu7, hC, (HV9.out.agree (Agree.trans (.below hbB) (.blocks fun b h1 _ => hkz b (by omega)))).mono (by omega) (by omega)⟩
end Go.Proofs.YtgloapcfmlijlaaGreatDoor
namespace Go.Proofs.YtgloapcfmlijlaaGreatDoor
open Go Go.RowKit Go.Lib

theorem itE_leq {f : Bool} {wd : Nat} {n : Int} {s : List UInt8} (h1 : 1 ≤ n) : ((itE f wd n s).1 : Int) ≤ n := by
  unfold itE
  repeat' split
  all_goals (simp only; omega)
theorem of_step (z : Nat) (ih : Hid (OfZ z)) : OfZ (z + 1) := by
  intro k n ts a cap s w hs hL hc0 hl
  obtain ⟨⟨hk1, hk8⟩, hform, _, hck⟩ := M.chkT_ok.1 hc0
  have hall : ∀ t ∈ ts, M.chkT 0 t = 0 := fun t ht => M.chkT_in hc0 ht
  have hLW : ∀ W, Below w.heap.size w W → LayT W W.heap.size ts (.slice a ts.length cap) := fun W h => (hL.from_ h).mono h.size
  rw [getV_eq hc0]
  by_cases k1 : k = 1
  · subst k1
    obtain ⟨rfl, hn⟩ : ts = [] ∧ (1 ≤ n ∧ n ≤ 32) := by
      unfold M.formT at hform
      simp at hform
      exact ⟨hform.1, by omega⟩
    have hf : M.fixedT (.mk 1 n []) = true := by rw [M.fixedT_parts hc0 (by omega)]; rfl
    have hw : wdT (.mk 1 n []) ≤ 32 := by unfold wdT; rw [if_pos hf, M.sizeT_fix hf, M.szT, if_pos rfl]; omega
    have := zof_1 n [] a cap s w hL hf hw hl
    rw [hf, if_pos rfl]
    exact this
  by_cases k2 : k = 2
  · subst k2
    obtain rfl : ts = [] := by
      unfold M.formT at hform
      simp at hform
      exact hform.1
    have hf : M.fixedT (.mk 2 n []) = true := by rw [M.fixedT_parts hc0 (by omega)]; rfl
    have hw : wdT (.mk 2 n []) = 1 := by unfold wdT; rw [if_pos hf, M.sizeT_fix hf, M.szT, if_neg (by decide), if_pos rfl]
    have := zof_2 n [] a cap s w hL hf hw hl
    rw [hf, if_pos rfl]
    exact this
  by_cases k5 : k = 5
  · subst k5
    obtain ⟨rfl, hn⟩ : ts = [] ∧ (1 ≤ n ∧ n ≤ 512) := by
      unfold M.formT at hform
      simp at hform
      exact ⟨hform.1.1, by omega⟩
    obtain ⟨m, rfl⟩ : ∃ m : Nat, n = (m : Int) := ⟨n.toNat, by omega⟩
    have hf : M.fixedT (.mk 5 (m : Int) []) = true := by rw [M.fixedT_parts hc0 (by omega)]; rfl
    have hw : wdT (.mk 5 (m : Int) []) = (m + 7) / 8 := by unfold wdT; rw [if_pos hf, M.sizeT_fix hf, M.szT, if_neg (by decide), if_neg (by decide), if_pos rfl, Int.toNat_natCast]
    refine zof_5 (m : Int) [] a cap s w (M.getR 5 (m : Int) [] s) hL (Lib.hid fun h W hW => ?_) hl
    rcases h with h | h
    · exact zbits_any 5 m _ s W hl (by rw [hw] at h; omega) (by omega)
    · rw [hf] at h; cases h
  by_cases k6 : k = 6
  · subst k6
    obtain ⟨rfl, hn⟩ : ts = [] ∧ (1 ≤ n ∧ n ≤ 512) := by
      unfold M.formT at hform
      simp at hform
      exact ⟨hform.1.1, by omega⟩
    obtain ⟨m, rfl⟩ : ∃ m : Nat, n = (m : Int) := ⟨n.toNat, by omega⟩
    refine zof_6 (m : Int) [] a cap s w (M.getR 6 (m : Int) [] s) hL (Lib.hid fun _ W hW => ?_) hl
    have := zbitlist_any 6 m (.slice a ([] : List M.Ty).length cap) s W hl (by omega)
    rw [to_end] at this
    exact this
  by_cases k8 : k = 8
  · subst k8
    have ht : ts.length ≤ 8 := by
      unfold M.formT at hform
      simp at hform
      omega
    have hf : M.fixedT (.mk 8 n ts) = false := M.fixedT_kind (by simp)
    have := zof_8 z ih n ts a cap s w hs hL hf hall ht hl
    rw [hf, if_neg (by decide)]
    rw [show M.getR 8 n ts s = M.oneG ts s from M.one_get ts s]
    exact this
  by_cases k7 : k = 7
  · subst k7
    have ht : ts.length ≤ 16 := by
      unfold M.formT at hform
      simp at hform
      omega
    have hR : M.getR 7 n ts s = M.rowG ts ts.length s := M.row_7 hall n s
    rw [hR]
    refine zof_row 7 n ts a cap s w (M.rowG ts ts.length s) (by decide) (by decide) (by decide) (by decide) (by decide) hL (Lib.hid fun _ W hW => ?_) hl
    have := zrow_any z ih 7 n ts a cap s W ts.length 0 hs (hLW W hW) hc0 (by decide) (fun h => absurd rfl h) (Lib.hid fun X _ => zitems_7 n ts a cap s X) (fun _ => ⟨by omega, fun i hi => .inl ⟨rfl, hi⟩⟩) hl
    rw [if_neg (by simp)] at this
    exact this
  have hk34 : k = 3 ∨ k = 4 := by omega
  obtain ⟨⟨t, rfl⟩, hn⟩ : (∃ t, ts = [t]) ∧ (1 ≤ n ∧ n ≤ 512) := by
    unfold M.formT at hform
    rw [if_neg k1, if_neg k2, if_pos hk34] at hform
    simp at hform
    exact ⟨List.length_eq_one_iff.1 hform.1.1, by omega⟩
  have ht0 := hall t (by simp)
  by_cases k3 : k = 3
  · subst k3
    have hR : M.getR 3 n [t] s = M.rowG [t] n.toNat s := by
      show M.rowOf 3 n _ _ s = _
      rw [M.row_one ht0 (by decide)]
      rfl
    rw [hR]
    obtain ⟨m, rfl⟩ : ∃ m : Nat, n = (m : Int) := ⟨n.toNat, by omega⟩
    rw [Int.toNat_natCast]
    refine zof_row 3 (m : Int) [t] a cap s w (M.rowG [t] m s) (by decide) (by decide) (by decide) (by decide) (by decide) hL (Lib.hid fun _ W hW => ?_) hl
    have := zrow_any z ih 3 (m : Int) [t] a cap s W m 0 hs (hLW W hW) hc0 (by decide) (fun _ => rfl) (Lib.hid fun X _ => zitems_3 (m : Int) _ s X) (fun _ => ⟨by omega, fun i hi => .inr (.inr ⟨by decide, by decide, by simp⟩)⟩) hl
    rw [if_neg (by simp)] at this
    exact this
  · obtain rfl : k = 4 := by omega
    have hR : M.getR 4 n [t] s = if (itE (M.fixedT t) (wdT t) n s).2 ≠ 0 then (M.noV, (itE (M.fixedT t) (wdT t) n s).2) else M.rowG [t] (itE (M.fixedT t) (wdT t) n s).1 s := by
      show M.rowOf 4 n _ _ s = _
      rw [M.row_one ht0 (by decide), itE_many ht0]
    rw [hR]
    refine zof_row 4 n [t] a cap s w _ (by decide) (by decide) (by decide) (by decide) (by decide) hL (Lib.hid fun _ W hW => ?_) hl
    exact zrow_any z ih 4 n [t] a cap s W _ _ hs (hLW W hW) hc0 (by decide) (fun _ => rfl) (Lib.hid fun X hX => zitems_4 n t a cap s X ((hL.from_ (hW.trans (hX.mono hW.size))).mono (hW.trans (hX.mono hW.size)).size) ht0 hl)
      (fun _ => ⟨by have := itE_leq (f := M.fixedT t) (wd := wdT t) (s := s) hn.1; omega, fun i hi => .inr (.inr ⟨by decide, by decide, by simp⟩)⟩) hl
theorem of_z : ∀ z, OfZ z
  | 0 => by intro k n ts a cap s w hs; cases ts <;> simp at hs
  | z + 1 => of_step z (Lib.hid (of_z z))
/-- The reference's reading, of any type that is one. -/
theorem zof_any (k n : Int) (ts : List M.Ty) (a : Option Addr) (cap : Nat) (s : List UInt8) (w : World) (hL : LayT w w.heap.size ts (.slice a ts.length cap)) (hc : M.chkT 0 (.mk k n ts) = 0) (hl : s.length ≤ 8000) :
    Calls Tryz.prog 35 #[tv k n (.slice a ts.length cap), .string ⟨s.toArray⟩] w (GotR w (M.getV (.mk k n ts) s)) := of_z _ k n ts a cap s w (Nat.le_refl _) hL hc hl
end Go.Proofs.YtgloapcfmlijlaaGreatDoor
namespace Go.Proofs.YtgloapcfmlijlaaGreatDoor
open Go Go.RowKit Go.Lib
attribute [local go_sem] Oper.semAt_some

set_option maxRecDepth 100000 in
set_option maxHeartbeats 4000000 in
theorem zget_any : RGetOk := by
  intro k n ts a cap s w hL _h1 hl
  obtain ⟨w0, hw0⟩ : ∃ w0, (w.alloc (.cells #[.int .i64 k, .int .i64 n, .slice a ts.length cap] 24)).alloc (.cells #[.int .u64 0, .int .u64 0, .int .u64 0, .int .u64 0, .slice none 0 0, .slice none 0 0, .int .i64 0] 33) = w0 := ⟨_, rfl⟩
  have hb0 : Below w.heap.size w w0 := by rw [← hw0]; (repeat (first | exact Below.refl _ _ | refine Below.drew ?_ | refine Below.alloc ?_ (by first | omega | (simp; omega) | simp) _ | refine Below.setCell ?_ (by first | omega | (simp; omega) | simp) _))
  have hz0 : w0.heap.size = w.heap.size + 2 := by rw [← hw0]; simp
  have hr0 : w0.heap[w.heap.size + 1]? = some (.cells #[.int .u64 0, .int .u64 0, .int .u64 0, .int .u64 0, .slice none 0 0, .slice none 0 0, .int .i64 0] 33 (0, 0)) := by
    rw [← hw0]
    have := World.alloc_heap_new (w.alloc (.cells #[.int .i64 k, .int .i64 n, .slice a ts.length cap] 24)) (.cells #[.int .u64 0, .int .u64 0, .int .u64 0, .int .u64 0, .slice none 0 0, .slice none 0 0, .int .i64 0] 33)
    rwa [World.size_alloc] at this
  have hB0 : BoxT w0 w.heap.size k n (.slice a ts.length cap) := by rw [← hw0]; exact ⟨by simp [go_sem], by simp [go_sem], by simp [go_sem]⟩
  have HW := Lib.hid hw0
  have HL0 := Lib.hid ((hL.from_ hb0).mono hb0.size)
  have HF := Lib.hid (tcheck_any k n ts a cap w0 HL0.out)
  have t0 := hB0.c0
  have t1 := hB0.c1
  have t2 := hB0.c2
  rw [← HW.out] at t0 t1 t2
  have HG : Hid (M.getT (.mk k n ts) s = if M.chkT 0 (.mk k n ts) ≠ 0 then (M.noV, M.chkT 0 (.mk k n ts)) else if 65536 < s.length then (M.noV, 5) else M.getV (.mk k n ts) s) := rfl
  obtain ⟨T, hT⟩ : ∃ T, M.getT (.mk k n ts) s = T := ⟨_, rfl⟩
  rw [hT] at HG ⊢
  obtain ⟨q, hq⟩ : ∃ q, M.chkT 0 (.mk k n ts) = q := ⟨_, rfl⟩
  rw [hq] at HF HG
  have HQ := Lib.hid hq
  clear hw0 hL hT hq
  go_enter Tryz.func13, Tryz.ntmps13
  go_wp2_with fail
  rw [HW.out]
  refine HF.out.mono ?_
  rintro e w1 ⟨rfl, hb1⟩
  rw [HW.out] at t0 t1 t2
  have hz1 := hb1.size
  have hr1 := (hb1.block (w.heap.size + 1) (by omega)).trans hr0
  have hbw1 : Below w.heap.size w w1 := hb0.trans (hb1.mono hb0.size)
  by_cases hq0 : q = 0
  case neg =>
    obtain rfl : T = (M.noV, q) := by rw [HG.out, if_pos hq0]
    have hq1 : ¬ (q : Int) = 0 := by omega
    obtain ⟨⟨_, i0⟩, ⟨_, i1⟩, ⟨_, i2⟩, ⟨_, i3⟩, ⟨_, i4⟩, ⟨_, i5⟩, ⟨_, i6⟩, f0, f1, f2, f3, f4, f5, f6⟩ := cells_w7 hr1
    go_wp2_with fail
    exact val_post2_0 rfl w w1 _ q (w.heap.size + 1) (by omega) hbw1 _ _ _ _ _ _ _ hr1 _ rfl rfl fun Z hZ => ⟨gotP_none q Z, hZ⟩
  subst hq0
  have hG2 : Hid (T = if 65536 < s.length then (M.noV, 5) else M.getV (.mk k n ts) s) := by
    show _ = _
    rw [HG.out, if_neg (by decide)]
  have hB1 := hB0.from_ hb1 (by omega)
  clear HG t0 t1 t2
  have t0 := hB1.c0
  have t1 := hB1.c1
  have t2 := hB1.c2
  by_cases hlg : 65536 < s.length
  · obtain rfl : T = (M.noV, 5) := by rw [hG2.out, if_pos hlg]
    obtain ⟨⟨_, i0⟩, ⟨_, i1⟩, ⟨_, i2⟩, ⟨_, i3⟩, ⟨_, i4⟩, ⟨_, i5⟩, ⟨_, i6⟩, f0, f1, f2, f3, f4, f5, f6⟩ := cells_w7 hr1
    have hlg' : (65536 : Int) < s.length := by omega
    go_wp2_with fail
    exact val_post2_0 rfl w w1 _ 5 (w.heap.size + 1) (by omega) hbw1 _ _ _ _ _ _ _ hr1 _ rfl rfl fun Z hZ => ⟨gotP_none 5 Z, hZ⟩
  have hl8 : s.length ≤ 8000 := by omega
  obtain rfl : T = M.getV (.mk k n ts) s := by rw [hG2.out, if_neg hlg]
  have hlg' : ¬ (65536 : Int) < s.length := by omega
  have HOF := Lib.hid (zof_any k n ts a cap s w1 ((HL0.out.from_ hb1).mono hb1.size) HQ.out hl8)
  obtain ⟨r, hr⟩ : ∃ r, M.getV (.mk k n ts) s = r := ⟨_, rfl⟩
  rw [hr] at HOF
  have HR := Lib.hid hr
  clear hr
  clear hl hlg hG2
  go_wp2_with fail
  refine HOF.out.mono ?_
  rintro e w2 ⟨⟨N7, bs7, us7, p7, ab7, cb7, au7, cu7, hr7, rfl, hV7⟩, hb2⟩
  obtain ⟨v7, q7⟩ := r
  obtain rfl : v7 = .mk N7 bs7 us7 p7 := hr7
  obtain ⟨w3, hw3⟩ : ∃ w3, w2.alloc (.cells #[.int .u64 (M.pt 0 N7), .int .u64 (M.pt 1 N7), .int .u64 (M.pt 2 N7), .int .u64 (M.pt 3 N7), .slice ab7 bs7.length cb7, .slice au7 us7.length cu7, .int .i64 p7, .int .i64 (q7 : Nat)] 59) = w3 := ⟨_, rfl⟩
  have hz3 : w3.heap.size = w2.heap.size + 1 := by rw [← hw3]; simp
  have hb3 : Below w2.heap.size w2 w3 := by rw [← hw3]; exact (Below.refl _ _).alloc (Nat.le_refl _) _
  have hz2 := hb2.size
  have hbw3 := hbw1.trans (Below.mono (hb2.trans (hb3.mono hb2.size)) hbw1.size)
  have d3 : w3.heap[w2.heap.size]? = some (.cells #[.int .u64 (M.pt 0 N7), .int .u64 (M.pt 1 N7), .int .u64 (M.pt 2 N7), .int .u64 (M.pt 3 N7), .slice ab7 bs7.length cb7, .slice au7 us7.length cu7, .int .i64 p7, .int .i64 (q7 : Nat)] 59 (0, 0)) := by rw [← hw3]; exact World.alloc_heap_new _ _
  have hr3 := (hb3.block (w.heap.size + 1) (by omega)).trans ((hb2.block (w.heap.size + 1) (by omega)).trans hr1)
  have hV3 := hV7.agree (Agree.below hb3)
  have HV3 := Lib.hid hV3
  have HW3 := Lib.hid hw3
  have e0 : w3.cell? ⟨w2.heap.size, 0, none⟩ = some (.int .u64 (M.pt 0 N7)) := by simp [World.cell?, d3]
  have e1 : w3.cell? ⟨w2.heap.size, 1, none⟩ = some (.int .u64 (M.pt 1 N7)) := by simp [World.cell?, d3]
  have e2 : w3.cell? ⟨w2.heap.size, 2, none⟩ = some (.int .u64 (M.pt 2 N7)) := by simp [World.cell?, d3]
  have e3 : w3.cell? ⟨w2.heap.size, 3, none⟩ = some (.int .u64 (M.pt 3 N7)) := by simp [World.cell?, d3]
  have e4 : w3.cell? ⟨w2.heap.size, 4, none⟩ = some (.slice ab7 bs7.length cb7) := by simp [World.cell?, d3]
  have e5 : w3.cell? ⟨w2.heap.size, 5, none⟩ = some (.slice au7 us7.length cu7) := by simp [World.cell?, d3]
  have e6 : w3.cell? ⟨w2.heap.size, 6, none⟩ = some (.int .i64 p7) := by simp [World.cell?, d3]
  have e7 : w3.cell? ⟨w2.heap.size, 7, none⟩ = some (.int .i64 (q7 : Nat)) := by simp [World.cell?, d3]
  obtain ⟨⟨_, i0⟩, ⟨_, i1⟩, ⟨_, i2⟩, ⟨_, i3⟩, ⟨_, i4⟩, ⟨_, i5⟩, ⟨_, i6⟩, f0, f1, f2, f3, f4, f5, f6⟩ := cells_w7 hr3
  clear hw3 t0 t1 t2 hV3 hV7
  go_wp2_with fail
  rw [HW3.out]
  have mixed : Tryz.prog.follows .mixedOrders = true := by kernel_rfl
  have hgn : w2.heap.size ≠ w.heap.size + 1 := by omega
  have hgl : w2.heap.size < w3.heap.size := by omega
  go_region
  go_wp2_with fail
  have hdr : ∀ (X : World) (p : Addr) (v : Value), (X.setCell p v).drew = X.drew.setCell p v := fun _ _ _ => rfl
  simp only [hdr]
  have hzd : w3.drew.heap.size = w3.heap.size := rfl
  refine val_post2 rfl w w3.drew _ N7 _ _ p7 q7 (w.heap.size + 1) (by omega) (Below.drew hbw3) _ _ _ _ _ _ _ hr3 _ rfl rfl fun Z hZ hz hk => ⟨?_, hZ⟩
  rw [HR.out]
  exact ⟨N7, bs7, us7, p7, ab7, cb7, au7, cu7, rfl, rfl, ((HV3.out.agree (.blocks fun b h1 _ => hk b (by omega))).mono (Nat.le_refl _) (by omega)).vl⟩
end Go.Proofs.YtgloapcfmlijlaaGreatDoor
namespace Go.Proofs.YtgloapcfmlijlaaGreatDoor
open Go.ChangeShapes Go.WideShapes Go.ChangeAt Go.RowKit
open Go.ChangeMaps (open_string shut_string)

namespace SszGets
theorem own : ownKnob Tryz.prog.godebug = none := by kernel_rfl
theorem laidOut : laidOutB Tryz.prog = true := by kernel_rfl

set_option maxRecDepth 100000 in
theorem lifted (os : Os) (started : os.Started) (H : Type) (enc : TypeId × Value → H) :
    ReturnsInHanded {} Tryz.checked os 3 .any (fun w args => (Rows.sszGetsSpec.pre enc Tryz.prog Tryz.f3 Rows.sszGetsRow.domain false w args ∧ laidMetH Tryz.prog Rows.sszGetsRow.laid w) ∧ sizedMet enc Tryz.prog Tryz.f3 (OpenSpec.ofChange Rows.sszGetsSpec) false w args)
      (Rows.sszGetsSpec.post enc Tryz.prog Tryz.f3 false true false false) := by
  refine returnsInHanded_of_change_and (C := Tryz.checked) (X := fun w _ => laidMetH Tryz.prog Rows.sszGetsRow.laid w) (fun _ _ _ hh h => h.of_heap hh) own started (by kernel_rfl) Tryz.func3
    (ChangeSpec.witness_shaped (enc := enc) (C := Tryz.checked) (os := os) (X := fun w _ => laidMetH Tryz.prog Rows.sszGetsRow.laid w) false (World.laidAll Tryz.prog os Rows.sszGetsRow.laid) #[.agg #[.int .i64 0, .int .i64 0, .slice none 0 0], .string ⟨#[]⟩] 8 (World.laidAll_os _ _ _)
      (World.shaped_of_ZipB (by kernel_rfl) (by kernel_rfl)) (by kernel_rfl) (by kernel_rfl) (by kernel_rfl)
      (by rw [MakeChecks.laidMetH_plain _ _ _ (by kernel_rfl)]; exact laidMet_laidAll _ (by kernel_rfl) (by kernel_rfl))) ?_
  intro W base args ds gs before hval0 hW _ _ _ _
  have hval : ∀ (j : Nat) t v, Tryz.f3.params[j]? = some t → args[j]? = some v → Value.okWide Tryz.prog W .any base t v := hval0
  have hW' := hW
  obtain ⟨p, q, hA0, hV, rfl, hfz, hnd⟩ := hW
  have hA : DataW.TrodAll enc Tryz.prog W 0 (fun _ => true) true Tryz.f3.params.toList args.toList ds p := hA0
  rw [Tryz.params3] at hA hval
  obtain ⟨v0, vs0, d0, ds0, p0, q0, hargs, rfl, rfl, h0, r0⟩ := trodAll_cons hA
  obtain ⟨v1, vs1, d1, ds1, p1, q1, rfl, rfl, rfl, h1, r1⟩ := trodAll_cons r0
  obtain ⟨rfl, rfl, rfl⟩ := trodAll_nil r1
  obtain rfl : args = #[v0, v1] := by cases args; simp_all
  obtain ⟨rfl, rfl⟩ := trodVars_none hV
  have k0 := h0
  have lt0 : ∀ x ∈ p0, x.block < W.heap.size := by obtain ⟨m, hm⟩ := k0; exact DataW.trod_lt m _ _ _ hm
  have k1 := h1
  have lt1 : ∀ x ∈ p1, x.block < W.heap.size := by obtain ⟨m, hm⟩ := k1; exact DataW.trod_lt m _ _ _ hm
  obtain ⟨k0_, n0, ts0, at0, ct0, rfl, hT0⟩ := open_type (hval 0 24 v0 rfl rfl) h0
  obtain ⟨s1, rfl, _, _, w1⟩ := open_string Tryz.underlying9 (hval 1 9 v1 rfl rfl) h1
  clear hA0 hval0
  refine (zgets_law (Lib.hid z_works) (Lib.hid ssz_ok) (Lib.hid zget_any) k0_ n0 ts0 at0 ct0 s1.data.toList W hT0 (by simpa using w1)).mono fun e W' ⟨he, bel⟩ => ?_
  subst he
  exact ⟨_, rfl, _, _, _, [], _, [], hW', trodAll_mk1 (shut_bool Tryz.underlying4 _), (trodAll_cons_mk (Below.trod laidOut (by kernel_rfl) (of_decide_eq_true (by kernel_rfl)) k0 bel lt0) (trodAll_cons_mk (Below.trod laidOut (by kernel_rfl) (of_decide_eq_true (by kernel_rfl)) k1 bel lt1) trodAll_mk0)), rfl, bel.frame _, fun h => by cases h⟩

theorem over : Rows.sszGetsRow.holds Tryz.pinned (OpenSpec.ofChange Rows.sszGetsSpec) :=
  OpenClaim.holds_of_wide 3 Tryz.f3 rfl rfl rfl rfl rfl rfl rfl ⟨rfl, rfl, rfl, rfl, rfl⟩ rfl rfl rfl rfl rfl (by kernel_rfl) Tryz.func3 (by kernel_rfl)
    (of_decide_eq_true (by kernel_rfl)) (by unfold Func.isWrapper; first | (rw [if_pos (by decide +kernel)]; kernel_rfl) | (rw [if_neg (by decide +kernel)]; exact ⟨rfl, rfl⟩))
    (fun os started H enc _ => lifted os started H enc)
end SszGets

theorem sszGets_card : Rows.SszGetsCardSaid :=
  Claim7.holds_tied_plain_at .later [] [.data, .pinned] true Rows.sszGetsCard.stood.harness true
    SszGets.over (fun _ h => by cases h) (by kernel_rfl) (fun _ h => by cases h) sszGets_row_tie rfl ⟨rfl, rfl⟩ (by kernel_rfl) rfl
    (fun f fn hf hfn => by
      obtain rfl : f = 3 := Option.some.inj ((show Tryz.prog.funcNamed "rescript/rescriptlaw08.SszGets" = some 3 by kernel_rfl).symm.trans hf) |>.symm
      obtain rfl : fn = Tryz.f3 := (Option.some.inj (Tryz.func3.symm.trans hfn)).symm
      exact ⟨by kernel_rfl, fun j t ht => by
        rw [Tryz.params3] at ht
        have hm : t ∈ [24, 9] := by simpa using Array.mem_of_getElem? ht
        have hall : ([24, 9].all fun u => !Tryz.prog.wantsStandIn u) = true := by kernel_rfl
        exact (show Tryz.prog.wantsStandIn t = false by simpa using List.all_eq_true.1 hall t hm)⟩)
    (by kernel_rfl)
#print axioms sszGets_card
end Go.Proofs.YtgloapcfmlijlaaGreatDoor
