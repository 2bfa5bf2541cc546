/- The reference's word of 32 digits. -/
import Derived.Test.YtcnngpmganhjoaaDoorR2
import Derived.Test.YtcnngpmganhjoaaDoorW5
namespace Go.Proofs.YtcnngpmganhjoaaDoor
open Go Go.RowKit

/-- What part q holds when k digits have been added. -/
def pv (d : Nat → Int) (q : Nat) : Nat → Int
  | 0 => 0
  | k + 1 => if k / 8 = q then pv d q k + d k * ((256 ^ (k % 8) : Nat) : Int) else pv d q k

theorem pv_same (d : Nat → Int) (q k : Nat) (h : ¬ k / 8 = q) : pv d q (k + 1) = pv d q k := by rw [pv, if_neg h]
theorem pv_step (d : Nat → Int) (q k : Nat) (h : k / 8 = q) : pv d q (k + 1) = pv d q k + d k * ((256 ^ (k % 8) : Nat) : Int) := by rw [pv, if_pos h]
theorem pv_in (d : Nat → Int) (hd : ∀ j, 0 ≤ d j ∧ d j < 256) (q : Nat) : ∀ k, 0 ≤ pv d q k ∧ pv d q k < ((256 ^ (if k / 8 = q then k % 8 else if k / 8 < q then 0 else 8) : Nat) : Int)
  | 0 => by
    refine ⟨Int.le_refl _, ?_⟩
    rw [pv]
    exact Int.ofNat_lt.2 (Nat.pow_pos (by omega))
  | k + 1 => by
    have ih := pv_in d hd q k
    have hk := hd k
    by_cases h : k / 8 = q
    · rw [pv_step d q k h]
      rw [if_pos h] at ih
      have hp : (0 : Int) ≤ ((256 ^ (k % 8) : Nat) : Int) := by omega
      have e1 : d k * ((256 ^ (k % 8) : Nat) : Int) ≤ 255 * ((256 ^ (k % 8) : Nat) : Int) := Int.mul_le_mul_of_nonneg_right (by omega) hp
      have e0 : 0 ≤ d k * ((256 ^ (k % 8) : Nat) : Int) := Int.mul_nonneg hk.1 hp
      have e2 : ((256 ^ (k % 8 + 1) : Nat) : Int) = 256 * ((256 ^ (k % 8) : Nat) : Int) := by rw [Nat.pow_succ]; omega
      refine ⟨by omega, ?_⟩
      by_cases h8 : k % 8 = 7
      · have e3 : ((256 ^ 8 : Nat) : Int) = 256 * ((256 ^ (k % 8) : Nat) : Int) := by rw [h8]; rfl
        rw [if_neg (by omega), if_neg (by omega), e3]
        omega
      · rw [if_pos (by omega), show (k + 1) % 8 = k % 8 + 1 by omega, e2]
        omega
    · rw [pv_same d q k h]
      rw [if_neg h] at ih
      refine ⟨ih.1, Int.lt_of_lt_of_le ih.2 ?_⟩
      have hle : (if k / 8 < q then 0 else 8) ≤ (if (k + 1) / 8 = q then (k + 1) % 8 else if (k + 1) / 8 < q then 0 else 8) := by
        by_cases h1 : k / 8 < q
        · rw [if_pos h1]; omega
        · rw [if_neg h1, if_neg (by omega), if_neg (by omega)]
          exact Nat.le_refl _
      exact Int.ofNat_le.2 (Nat.pow_le_pow_right (by omega) hle)
theorem pv_wrap (d : Nat → Int) (hd : ∀ j, 0 ≤ d j ∧ d j < 256) (q k : Nat) (h : k / 8 = q) : IntKind.u64.wrap (pv d q k + d k * ((256 ^ (k % 8) : Nat) : Int)) = pv d q (k + 1) := by
  rw [← pv_step d q k h, IntKind.wrap_u64]
  have hb := pv_in d hd q (k + 1)
  have hle : (256 ^ (if (k + 1) / 8 = q then (k + 1) % 8 else if (k + 1) / 8 < q then 0 else 8) : Nat) ≤ 256 ^ 8 := Nat.pow_le_pow_right (by omega) (by split <;> (try split) <;> omega)
  have h8 : (256 : Nat) ^ 8 = 18446744073709551616 := rfl
  rw [h8] at hle
  omega
theorem dm_wrap (x : Int) (m : Int) (hx : 0 ≤ x ∧ x < 256) (hm : 0 ≤ m ∧ m ≤ 72057594037927936) : IntKind.u64.wrap (x * m) = x * m := by
  rw [IntKind.wrap_u64]
  have e0 : 0 ≤ x * m := Int.mul_nonneg hx.1 hm.1
  have e1 : x * m ≤ 255 * 72057594037927936 := Int.mul_le_mul (by omega) hm.2 hm.1 (by omega)
  omega
theorem d_wrap (x : Int) (hx : 0 ≤ x ∧ x < 256) : IntKind.u64.wrap x = x := by rw [IntKind.wrap_u64]; omega

set_option maxRecDepth 100000 in
set_option maxHeartbeats 16000000 in
theorem of_core (g cap : Nat) (d : Nat → Int) (w : World) (hc : Hid (∀ j, j < 32 → w.cell? ⟨g, j, none⟩ = some (.int .i64 (d j)))) (hg : g < w.heap.size) (hd : Hid (∀ j, 0 ≤ d j ∧ d j < 256)) :
    Calls Tryd.prog 30 #[.slice (some ⟨g, 0, none⟩) 32 cap] w fun e w' => e = .returned (wd (pv d 0 32) (pv d 1 32) (pv d 2 32) (pv d 3 32)) ∧ Below w.heap.size w w' := by
  go_enter Tryd.func30, Tryd.ntmps30
  go_wp2_with fail
  go_loopw [4] (fun i wr => ∃ k : Nat, k ≤ 32 ∧ i = .int .i64 (k : Int) ∧ C4 wr (w.heap.size + 1) (pv d 0 k) (pv d 1 k) (pv d 2 k) (pv d 3 k) ∧ C4 wr w.heap.size 0 0 0 0 ∧ Below w.heap.size w wr) (fun i _ => 32 - (intOf i).toNat)
  case atStart =>
    refine ⟨0, by omega, rfl, ⟨?_, ?_, ?_, ?_, ?_, ?_, ?_, ?_⟩, ⟨?_, ?_, ?_, ?_, ?_, ?_, ?_, ?_⟩, ?_⟩
    all_goals first | (simp [go_sem, pv]; done) | (repeat (first | exact Below.refl _ _ | refine Below.drew ?_ | refine Below.alloc ?_ (by first | omega | (simp; omega) | simp) _ | refine Below.setCell ?_ (by first | omega | (simp; omega) | simp) _))
  case round =>
    obtain ⟨k, hk, rfl, hC, hR, hB⟩ := hrel
    match k, hk, hC with
    | 0, _, hC =>
      have kc := (hB.cell (p := ⟨g, 0, none⟩) hg).trans (hc.out 0 (by omega))
      have hw := d_wrap (d 0) (hd.out 0)
      have hs : IntKind.u64.wrap (pv d 0 0 + d 0) = pv d 0 1 := by
        have h := pv_wrap d hd.out 0 0 rfl
        rw [show ((256 ^ (0 % 8) : Nat) : Int) = 1 from rfl, Int.mul_one] at h
        exact h
      obtain ⟨c0, c1, c2, c3, f0, f1, f2, f3⟩ := id hC
      go_wp2_with fail
      go_region
      go_wp2_with fail
      obtain ⟨C, R, B⟩ := C4.step0 (v := pv d 0 1) hC hR hB
      rw [← pv_same d 1 0 (by decide), ← pv_same d 2 0 (by decide), ← pv_same d 3 0 (by decide)] at C
      refine ⟨⟨1, by omega, rfl, C, R, B⟩, by simp [intOf]⟩
    | 1, _, hC =>
      have kc := (hB.cell (p := ⟨g, 1, none⟩) hg).trans (hc.out 1 (by omega))
      have hw := d_wrap (d 1) (hd.out 1)
      have hm : IntKind.u64.wrap (d 1 * 256) = d 1 * 256 := dm_wrap (d 1) 256 (hd.out 1) (by omega)
      have hs : IntKind.u64.wrap (pv d 0 1 + d 1 * 256) = pv d 0 2 := by
        have h := pv_wrap d hd.out 0 1 rfl
        rw [show ((256 ^ (1 % 8) : Nat) : Int) = 256 from rfl] at h
        exact h
      obtain ⟨c0, c1, c2, c3, f0, f1, f2, f3⟩ := id hC
      go_wp2_with fail
      go_region
      go_wp2_with fail
      obtain ⟨C, R, B⟩ := C4.step0 (v := pv d 0 2) hC hR hB
      rw [← pv_same d 1 1 (by decide), ← pv_same d 2 1 (by decide), ← pv_same d 3 1 (by decide)] at C
      refine ⟨⟨2, by omega, rfl, C, R, B⟩, by simp [intOf]⟩
    | 2, _, hC =>
      have kc := (hB.cell (p := ⟨g, 2, none⟩) hg).trans (hc.out 2 (by omega))
      have hw := d_wrap (d 2) (hd.out 2)
      have hm : IntKind.u64.wrap (d 2 * 65536) = d 2 * 65536 := dm_wrap (d 2) 65536 (hd.out 2) (by omega)
      have hs : IntKind.u64.wrap (pv d 0 2 + d 2 * 65536) = pv d 0 3 := by
        have h := pv_wrap d hd.out 0 2 rfl
        rw [show ((256 ^ (2 % 8) : Nat) : Int) = 65536 from rfl] at h
        exact h
      obtain ⟨c0, c1, c2, c3, f0, f1, f2, f3⟩ := id hC
      go_wp2_with fail
      go_region
      go_wp2_with fail
      obtain ⟨C, R, B⟩ := C4.step0 (v := pv d 0 3) hC hR hB
      rw [← pv_same d 1 2 (by decide), ← pv_same d 2 2 (by decide), ← pv_same d 3 2 (by decide)] at C
      refine ⟨⟨3, by omega, rfl, C, R, B⟩, by simp [intOf]⟩
    | 3, _, hC =>
      have kc := (hB.cell (p := ⟨g, 3, none⟩) hg).trans (hc.out 3 (by omega))
      have hw := d_wrap (d 3) (hd.out 3)
      have hm : IntKind.u64.wrap (d 3 * 16777216) = d 3 * 16777216 := dm_wrap (d 3) 16777216 (hd.out 3) (by omega)
      have hs : IntKind.u64.wrap (pv d 0 3 + d 3 * 16777216) = pv d 0 4 := by
        have h := pv_wrap d hd.out 0 3 rfl
        rw [show ((256 ^ (3 % 8) : Nat) : Int) = 16777216 from rfl] at h
        exact h
      obtain ⟨c0, c1, c2, c3, f0, f1, f2, f3⟩ := id hC
      go_wp2_with fail
      go_region
      go_wp2_with fail
      obtain ⟨C, R, B⟩ := C4.step0 (v := pv d 0 4) hC hR hB
      rw [← pv_same d 1 3 (by decide), ← pv_same d 2 3 (by decide), ← pv_same d 3 3 (by decide)] at C
      refine ⟨⟨4, by omega, rfl, C, R, B⟩, by simp [intOf]⟩
    | 4, _, hC =>
      have kc := (hB.cell (p := ⟨g, 4, none⟩) hg).trans (hc.out 4 (by omega))
      have hw := d_wrap (d 4) (hd.out 4)
      have hm : IntKind.u64.wrap (d 4 * 4294967296) = d 4 * 4294967296 := dm_wrap (d 4) 4294967296 (hd.out 4) (by omega)
      have hs : IntKind.u64.wrap (pv d 0 4 + d 4 * 4294967296) = pv d 0 5 := by
        have h := pv_wrap d hd.out 0 4 rfl
        rw [show ((256 ^ (4 % 8) : Nat) : Int) = 4294967296 from rfl] at h
        exact h
      obtain ⟨c0, c1, c2, c3, f0, f1, f2, f3⟩ := id hC
      go_wp2_with fail
      go_region
      go_wp2_with fail
      obtain ⟨C, R, B⟩ := C4.step0 (v := pv d 0 5) hC hR hB
      rw [← pv_same d 1 4 (by decide), ← pv_same d 2 4 (by decide), ← pv_same d 3 4 (by decide)] at C
      refine ⟨⟨5, by omega, rfl, C, R, B⟩, by simp [intOf]⟩
    | 5, _, hC =>
      have kc := (hB.cell (p := ⟨g, 5, none⟩) hg).trans (hc.out 5 (by omega))
      have hw := d_wrap (d 5) (hd.out 5)
      have hm : IntKind.u64.wrap (d 5 * 1099511627776) = d 5 * 1099511627776 := dm_wrap (d 5) 1099511627776 (hd.out 5) (by omega)
      have hs : IntKind.u64.wrap (pv d 0 5 + d 5 * 1099511627776) = pv d 0 6 := by
        have h := pv_wrap d hd.out 0 5 rfl
        rw [show ((256 ^ (5 % 8) : Nat) : Int) = 1099511627776 from rfl] at h
        exact h
      obtain ⟨c0, c1, c2, c3, f0, f1, f2, f3⟩ := id hC
      go_wp2_with fail
      go_region
      go_wp2_with fail
      obtain ⟨C, R, B⟩ := C4.step0 (v := pv d 0 6) hC hR hB
      rw [← pv_same d 1 5 (by decide), ← pv_same d 2 5 (by decide), ← pv_same d 3 5 (by decide)] at C
      refine ⟨⟨6, by omega, rfl, C, R, B⟩, by simp [intOf]⟩
    | 6, _, hC =>
      have kc := (hB.cell (p := ⟨g, 6, none⟩) hg).trans (hc.out 6 (by omega))
      have hw := d_wrap (d 6) (hd.out 6)
      have hm : IntKind.u64.wrap (d 6 * 281474976710656) = d 6 * 281474976710656 := dm_wrap (d 6) 281474976710656 (hd.out 6) (by omega)
      have hs : IntKind.u64.wrap (pv d 0 6 + d 6 * 281474976710656) = pv d 0 7 := by
        have h := pv_wrap d hd.out 0 6 rfl
        rw [show ((256 ^ (6 % 8) : Nat) : Int) = 281474976710656 from rfl] at h
        exact h
      obtain ⟨c0, c1, c2, c3, f0, f1, f2, f3⟩ := id hC
      go_wp2_with fail
      go_region
      go_wp2_with fail
      obtain ⟨C, R, B⟩ := C4.step0 (v := pv d 0 7) hC hR hB
      rw [← pv_same d 1 6 (by decide), ← pv_same d 2 6 (by decide), ← pv_same d 3 6 (by decide)] at C
      refine ⟨⟨7, by omega, rfl, C, R, B⟩, by simp [intOf]⟩
    | 7, _, hC =>
      have kc := (hB.cell (p := ⟨g, 7, none⟩) hg).trans (hc.out 7 (by omega))
      have hw := d_wrap (d 7) (hd.out 7)
      have hm : IntKind.u64.wrap (d 7 * 72057594037927936) = d 7 * 72057594037927936 := dm_wrap (d 7) 72057594037927936 (hd.out 7) (by omega)
      have hs : IntKind.u64.wrap (pv d 0 7 + d 7 * 72057594037927936) = pv d 0 8 := by
        have h := pv_wrap d hd.out 0 7 rfl
        rw [show ((256 ^ (7 % 8) : Nat) : Int) = 72057594037927936 from rfl] at h
        exact h
      obtain ⟨c0, c1, c2, c3, f0, f1, f2, f3⟩ := id hC
      go_wp2_with fail
      go_region
      go_wp2_with fail
      obtain ⟨C, R, B⟩ := C4.step0 (v := pv d 0 8) hC hR hB
      rw [← pv_same d 1 7 (by decide), ← pv_same d 2 7 (by decide), ← pv_same d 3 7 (by decide)] at C
      refine ⟨⟨8, by omega, rfl, C, R, B⟩, by simp [intOf]⟩
    | 8, _, hC =>
      have kc := (hB.cell (p := ⟨g, 8, none⟩) hg).trans (hc.out 8 (by omega))
      have hw := d_wrap (d 8) (hd.out 8)
      have hs : IntKind.u64.wrap (pv d 1 8 + d 8) = pv d 1 9 := by
        have h := pv_wrap d hd.out 1 8 rfl
        rw [show ((256 ^ (8 % 8) : Nat) : Int) = 1 from rfl, Int.mul_one] at h
        exact h
      obtain ⟨c0, c1, c2, c3, f0, f1, f2, f3⟩ := id hC
      go_wp2_with fail
      go_region
      go_wp2_with fail
      obtain ⟨C, R, B⟩ := C4.step1 (v := pv d 1 9) hC hR hB
      rw [← pv_same d 0 8 (by decide), ← pv_same d 2 8 (by decide), ← pv_same d 3 8 (by decide)] at C
      refine ⟨⟨9, by omega, rfl, C, R, B⟩, by simp [intOf]⟩
    | 9, _, hC =>
      have kc := (hB.cell (p := ⟨g, 9, none⟩) hg).trans (hc.out 9 (by omega))
      have hw := d_wrap (d 9) (hd.out 9)
      have hm : IntKind.u64.wrap (d 9 * 256) = d 9 * 256 := dm_wrap (d 9) 256 (hd.out 9) (by omega)
      have hs : IntKind.u64.wrap (pv d 1 9 + d 9 * 256) = pv d 1 10 := by
        have h := pv_wrap d hd.out 1 9 rfl
        rw [show ((256 ^ (9 % 8) : Nat) : Int) = 256 from rfl] at h
        exact h
      obtain ⟨c0, c1, c2, c3, f0, f1, f2, f3⟩ := id hC
      go_wp2_with fail
      go_region
      go_wp2_with fail
      obtain ⟨C, R, B⟩ := C4.step1 (v := pv d 1 10) hC hR hB
      rw [← pv_same d 0 9 (by decide), ← pv_same d 2 9 (by decide), ← pv_same d 3 9 (by decide)] at C
      refine ⟨⟨10, by omega, rfl, C, R, B⟩, by simp [intOf]⟩
    | 10, _, hC =>
      have kc := (hB.cell (p := ⟨g, 10, none⟩) hg).trans (hc.out 10 (by omega))
      have hw := d_wrap (d 10) (hd.out 10)
      have hm : IntKind.u64.wrap (d 10 * 65536) = d 10 * 65536 := dm_wrap (d 10) 65536 (hd.out 10) (by omega)
      have hs : IntKind.u64.wrap (pv d 1 10 + d 10 * 65536) = pv d 1 11 := by
        have h := pv_wrap d hd.out 1 10 rfl
        rw [show ((256 ^ (10 % 8) : Nat) : Int) = 65536 from rfl] at h
        exact h
      obtain ⟨c0, c1, c2, c3, f0, f1, f2, f3⟩ := id hC
      go_wp2_with fail
      go_region
      go_wp2_with fail
      obtain ⟨C, R, B⟩ := C4.step1 (v := pv d 1 11) hC hR hB
      rw [← pv_same d 0 10 (by decide), ← pv_same d 2 10 (by decide), ← pv_same d 3 10 (by decide)] at C
      refine ⟨⟨11, by omega, rfl, C, R, B⟩, by simp [intOf]⟩
    | 11, _, hC =>
      have kc := (hB.cell (p := ⟨g, 11, none⟩) hg).trans (hc.out 11 (by omega))
      have hw := d_wrap (d 11) (hd.out 11)
      have hm : IntKind.u64.wrap (d 11 * 16777216) = d 11 * 16777216 := dm_wrap (d 11) 16777216 (hd.out 11) (by omega)
      have hs : IntKind.u64.wrap (pv d 1 11 + d 11 * 16777216) = pv d 1 12 := by
        have h := pv_wrap d hd.out 1 11 rfl
        rw [show ((256 ^ (11 % 8) : Nat) : Int) = 16777216 from rfl] at h
        exact h
      obtain ⟨c0, c1, c2, c3, f0, f1, f2, f3⟩ := id hC
      go_wp2_with fail
      go_region
      go_wp2_with fail
      obtain ⟨C, R, B⟩ := C4.step1 (v := pv d 1 12) hC hR hB
      rw [← pv_same d 0 11 (by decide), ← pv_same d 2 11 (by decide), ← pv_same d 3 11 (by decide)] at C
      refine ⟨⟨12, by omega, rfl, C, R, B⟩, by simp [intOf]⟩
    | 12, _, hC =>
      have kc := (hB.cell (p := ⟨g, 12, none⟩) hg).trans (hc.out 12 (by omega))
      have hw := d_wrap (d 12) (hd.out 12)
      have hm : IntKind.u64.wrap (d 12 * 4294967296) = d 12 * 4294967296 := dm_wrap (d 12) 4294967296 (hd.out 12) (by omega)
      have hs : IntKind.u64.wrap (pv d 1 12 + d 12 * 4294967296) = pv d 1 13 := by
        have h := pv_wrap d hd.out 1 12 rfl
        rw [show ((256 ^ (12 % 8) : Nat) : Int) = 4294967296 from rfl] at h
        exact h
      obtain ⟨c0, c1, c2, c3, f0, f1, f2, f3⟩ := id hC
      go_wp2_with fail
      go_region
      go_wp2_with fail
      obtain ⟨C, R, B⟩ := C4.step1 (v := pv d 1 13) hC hR hB
      rw [← pv_same d 0 12 (by decide), ← pv_same d 2 12 (by decide), ← pv_same d 3 12 (by decide)] at C
      refine ⟨⟨13, by omega, rfl, C, R, B⟩, by simp [intOf]⟩
    | 13, _, hC =>
      have kc := (hB.cell (p := ⟨g, 13, none⟩) hg).trans (hc.out 13 (by omega))
      have hw := d_wrap (d 13) (hd.out 13)
      have hm : IntKind.u64.wrap (d 13 * 1099511627776) = d 13 * 1099511627776 := dm_wrap (d 13) 1099511627776 (hd.out 13) (by omega)
      have hs : IntKind.u64.wrap (pv d 1 13 + d 13 * 1099511627776) = pv d 1 14 := by
        have h := pv_wrap d hd.out 1 13 rfl
        rw [show ((256 ^ (13 % 8) : Nat) : Int) = 1099511627776 from rfl] at h
        exact h
      obtain ⟨c0, c1, c2, c3, f0, f1, f2, f3⟩ := id hC
      go_wp2_with fail
      go_region
      go_wp2_with fail
      obtain ⟨C, R, B⟩ := C4.step1 (v := pv d 1 14) hC hR hB
      rw [← pv_same d 0 13 (by decide), ← pv_same d 2 13 (by decide), ← pv_same d 3 13 (by decide)] at C
      refine ⟨⟨14, by omega, rfl, C, R, B⟩, by simp [intOf]⟩
    | 14, _, hC =>
      have kc := (hB.cell (p := ⟨g, 14, none⟩) hg).trans (hc.out 14 (by omega))
      have hw := d_wrap (d 14) (hd.out 14)
      have hm : IntKind.u64.wrap (d 14 * 281474976710656) = d 14 * 281474976710656 := dm_wrap (d 14) 281474976710656 (hd.out 14) (by omega)
      have hs : IntKind.u64.wrap (pv d 1 14 + d 14 * 281474976710656) = pv d 1 15 := by
        have h := pv_wrap d hd.out 1 14 rfl
        rw [show ((256 ^ (14 % 8) : Nat) : Int) = 281474976710656 from rfl] at h
        exact h
      obtain ⟨c0, c1, c2, c3, f0, f1, f2, f3⟩ := id hC
      go_wp2_with fail
      go_region
      go_wp2_with fail
      obtain ⟨C, R, B⟩ := C4.step1 (v := pv d 1 15) hC hR hB
      rw [← pv_same d 0 14 (by decide), ← pv_same d 2 14 (by decide), ← pv_same d 3 14 (by decide)] at C
      refine ⟨⟨15, by omega, rfl, C, R, B⟩, by simp [intOf]⟩
    | 15, _, hC =>
      have kc := (hB.cell (p := ⟨g, 15, none⟩) hg).trans (hc.out 15 (by omega))
      have hw := d_wrap (d 15) (hd.out 15)
      have hm : IntKind.u64.wrap (d 15 * 72057594037927936) = d 15 * 72057594037927936 := dm_wrap (d 15) 72057594037927936 (hd.out 15) (by omega)
      have hs : IntKind.u64.wrap (pv d 1 15 + d 15 * 72057594037927936) = pv d 1 16 := by
        have h := pv_wrap d hd.out 1 15 rfl
        rw [show ((256 ^ (15 % 8) : Nat) : Int) = 72057594037927936 from rfl] at h
        exact h
      obtain ⟨c0, c1, c2, c3, f0, f1, f2, f3⟩ := id hC
      go_wp2_with fail
      go_region
      go_wp2_with fail
      obtain ⟨C, R, B⟩ := C4.step1 (v := pv d 1 16) hC hR hB
      rw [← pv_same d 0 15 (by decide), ← pv_same d 2 15 (by decide), ← pv_same d 3 15 (by decide)] at C
      refine ⟨⟨16, by omega, rfl, C, R, B⟩, by simp [intOf]⟩
    | 16, _, hC =>
      have kc := (hB.cell (p := ⟨g, 16, none⟩) hg).trans (hc.out 16 (by omega))
      have hw := d_wrap (d 16) (hd.out 16)
      have hs : IntKind.u64.wrap (pv d 2 16 + d 16) = pv d 2 17 := by
        have h := pv_wrap d hd.out 2 16 rfl
        rw [show ((256 ^ (16 % 8) : Nat) : Int) = 1 from rfl, Int.mul_one] at h
        exact h
      obtain ⟨c0, c1, c2, c3, f0, f1, f2, f3⟩ := id hC
      go_wp2_with fail
      go_region
      go_wp2_with fail
      obtain ⟨C, R, B⟩ := C4.step2 (v := pv d 2 17) hC hR hB
      rw [← pv_same d 0 16 (by decide), ← pv_same d 1 16 (by decide), ← pv_same d 3 16 (by decide)] at C
      refine ⟨⟨17, by omega, rfl, C, R, B⟩, by simp [intOf]⟩
    | 17, _, hC =>
      have kc := (hB.cell (p := ⟨g, 17, none⟩) hg).trans (hc.out 17 (by omega))
      have hw := d_wrap (d 17) (hd.out 17)
      have hm : IntKind.u64.wrap (d 17 * 256) = d 17 * 256 := dm_wrap (d 17) 256 (hd.out 17) (by omega)
      have hs : IntKind.u64.wrap (pv d 2 17 + d 17 * 256) = pv d 2 18 := by
        have h := pv_wrap d hd.out 2 17 rfl
        rw [show ((256 ^ (17 % 8) : Nat) : Int) = 256 from rfl] at h
        exact h
      obtain ⟨c0, c1, c2, c3, f0, f1, f2, f3⟩ := id hC
      go_wp2_with fail
      go_region
      go_wp2_with fail
      obtain ⟨C, R, B⟩ := C4.step2 (v := pv d 2 18) hC hR hB
      rw [← pv_same d 0 17 (by decide), ← pv_same d 1 17 (by decide), ← pv_same d 3 17 (by decide)] at C
      refine ⟨⟨18, by omega, rfl, C, R, B⟩, by simp [intOf]⟩
    | 18, _, hC =>
      have kc := (hB.cell (p := ⟨g, 18, none⟩) hg).trans (hc.out 18 (by omega))
      have hw := d_wrap (d 18) (hd.out 18)
      have hm : IntKind.u64.wrap (d 18 * 65536) = d 18 * 65536 := dm_wrap (d 18) 65536 (hd.out 18) (by omega)
      have hs : IntKind.u64.wrap (pv d 2 18 + d 18 * 65536) = pv d 2 19 := by
        have h := pv_wrap d hd.out 2 18 rfl
        rw [show ((256 ^ (18 % 8) : Nat) : Int) = 65536 from rfl] at h
        exact h
      obtain ⟨c0, c1, c2, c3, f0, f1, f2, f3⟩ := id hC
      go_wp2_with fail
      go_region
      go_wp2_with fail
      obtain ⟨C, R, B⟩ := C4.step2 (v := pv d 2 19) hC hR hB
      rw [← pv_same d 0 18 (by decide), ← pv_same d 1 18 (by decide), ← pv_same d 3 18 (by decide)] at C
      refine ⟨⟨19, by omega, rfl, C, R, B⟩, by simp [intOf]⟩
    | 19, _, hC =>
      have kc := (hB.cell (p := ⟨g, 19, none⟩) hg).trans (hc.out 19 (by omega))
      have hw := d_wrap (d 19) (hd.out 19)
      have hm : IntKind.u64.wrap (d 19 * 16777216) = d 19 * 16777216 := dm_wrap (d 19) 16777216 (hd.out 19) (by omega)
      have hs : IntKind.u64.wrap (pv d 2 19 + d 19 * 16777216) = pv d 2 20 := by
        have h := pv_wrap d hd.out 2 19 rfl
        rw [show ((256 ^ (19 % 8) : Nat) : Int) = 16777216 from rfl] at h
        exact h
      obtain ⟨c0, c1, c2, c3, f0, f1, f2, f3⟩ := id hC
      go_wp2_with fail
      go_region
      go_wp2_with fail
      obtain ⟨C, R, B⟩ := C4.step2 (v := pv d 2 20) hC hR hB
      rw [← pv_same d 0 19 (by decide), ← pv_same d 1 19 (by decide), ← pv_same d 3 19 (by decide)] at C
      refine ⟨⟨20, by omega, rfl, C, R, B⟩, by simp [intOf]⟩
    | 20, _, hC =>
      have kc := (hB.cell (p := ⟨g, 20, none⟩) hg).trans (hc.out 20 (by omega))
      have hw := d_wrap (d 20) (hd.out 20)
      have hm : IntKind.u64.wrap (d 20 * 4294967296) = d 20 * 4294967296 := dm_wrap (d 20) 4294967296 (hd.out 20) (by omega)
      have hs : IntKind.u64.wrap (pv d 2 20 + d 20 * 4294967296) = pv d 2 21 := by
        have h := pv_wrap d hd.out 2 20 rfl
        rw [show ((256 ^ (20 % 8) : Nat) : Int) = 4294967296 from rfl] at h
        exact h
      obtain ⟨c0, c1, c2, c3, f0, f1, f2, f3⟩ := id hC
      go_wp2_with fail
      go_region
      go_wp2_with fail
      obtain ⟨C, R, B⟩ := C4.step2 (v := pv d 2 21) hC hR hB
      rw [← pv_same d 0 20 (by decide), ← pv_same d 1 20 (by decide), ← pv_same d 3 20 (by decide)] at C
      refine ⟨⟨21, by omega, rfl, C, R, B⟩, by simp [intOf]⟩
    | 21, _, hC =>
      have kc := (hB.cell (p := ⟨g, 21, none⟩) hg).trans (hc.out 21 (by omega))
      have hw := d_wrap (d 21) (hd.out 21)
      have hm : IntKind.u64.wrap (d 21 * 1099511627776) = d 21 * 1099511627776 := dm_wrap (d 21) 1099511627776 (hd.out 21) (by omega)
      have hs : IntKind.u64.wrap (pv d 2 21 + d 21 * 1099511627776) = pv d 2 22 := by
        have h := pv_wrap d hd.out 2 21 rfl
        rw [show ((256 ^ (21 % 8) : Nat) : Int) = 1099511627776 from rfl] at h
        exact h
      obtain ⟨c0, c1, c2, c3, f0, f1, f2, f3⟩ := id hC
      go_wp2_with fail
      go_region
      go_wp2_with fail
      obtain ⟨C, R, B⟩ := C4.step2 (v := pv d 2 22) hC hR hB
      rw [← pv_same d 0 21 (by decide), ← pv_same d 1 21 (by decide), ← pv_same d 3 21 (by decide)] at C
      refine ⟨⟨22, by omega, rfl, C, R, B⟩, by simp [intOf]⟩
    | 22, _, hC =>
      have kc := (hB.cell (p := ⟨g, 22, none⟩) hg).trans (hc.out 22 (by omega))
      have hw := d_wrap (d 22) (hd.out 22)
      have hm : IntKind.u64.wrap (d 22 * 281474976710656) = d 22 * 281474976710656 := dm_wrap (d 22) 281474976710656 (hd.out 22) (by omega)
      have hs : IntKind.u64.wrap (pv d 2 22 + d 22 * 281474976710656) = pv d 2 23 := by
        have h := pv_wrap d hd.out 2 22 rfl
        rw [show ((256 ^ (22 % 8) : Nat) : Int) = 281474976710656 from rfl] at h
        exact h
      obtain ⟨c0, c1, c2, c3, f0, f1, f2, f3⟩ := id hC
      go_wp2_with fail
      go_region
      go_wp2_with fail
      obtain ⟨C, R, B⟩ := C4.step2 (v := pv d 2 23) hC hR hB
      rw [← pv_same d 0 22 (by decide), ← pv_same d 1 22 (by decide), ← pv_same d 3 22 (by decide)] at C
      refine ⟨⟨23, by omega, rfl, C, R, B⟩, by simp [intOf]⟩
    | 23, _, hC =>
      have kc := (hB.cell (p := ⟨g, 23, none⟩) hg).trans (hc.out 23 (by omega))
      have hw := d_wrap (d 23) (hd.out 23)
      have hm : IntKind.u64.wrap (d 23 * 72057594037927936) = d 23 * 72057594037927936 := dm_wrap (d 23) 72057594037927936 (hd.out 23) (by omega)
      have hs : IntKind.u64.wrap (pv d 2 23 + d 23 * 72057594037927936) = pv d 2 24 := by
        have h := pv_wrap d hd.out 2 23 rfl
        rw [show ((256 ^ (23 % 8) : Nat) : Int) = 72057594037927936 from rfl] at h
        exact h
      obtain ⟨c0, c1, c2, c3, f0, f1, f2, f3⟩ := id hC
      go_wp2_with fail
      go_region
      go_wp2_with fail
      obtain ⟨C, R, B⟩ := C4.step2 (v := pv d 2 24) hC hR hB
      rw [← pv_same d 0 23 (by decide), ← pv_same d 1 23 (by decide), ← pv_same d 3 23 (by decide)] at C
      refine ⟨⟨24, by omega, rfl, C, R, B⟩, by simp [intOf]⟩
    | 24, _, hC =>
      have kc := (hB.cell (p := ⟨g, 24, none⟩) hg).trans (hc.out 24 (by omega))
      have hw := d_wrap (d 24) (hd.out 24)
      have hs : IntKind.u64.wrap (pv d 3 24 + d 24) = pv d 3 25 := by
        have h := pv_wrap d hd.out 3 24 rfl
        rw [show ((256 ^ (24 % 8) : Nat) : Int) = 1 from rfl, Int.mul_one] at h
        exact h
      obtain ⟨c0, c1, c2, c3, f0, f1, f2, f3⟩ := id hC
      go_wp2_with fail
      go_region
      go_wp2_with fail
      obtain ⟨C, R, B⟩ := C4.step3 (v := pv d 3 25) hC hR hB
      rw [← pv_same d 0 24 (by decide), ← pv_same d 1 24 (by decide), ← pv_same d 2 24 (by decide)] at C
      refine ⟨⟨25, by omega, rfl, C, R, B⟩, by simp [intOf]⟩
    | 25, _, hC =>
      have kc := (hB.cell (p := ⟨g, 25, none⟩) hg).trans (hc.out 25 (by omega))
      have hw := d_wrap (d 25) (hd.out 25)
      have hm : IntKind.u64.wrap (d 25 * 256) = d 25 * 256 := dm_wrap (d 25) 256 (hd.out 25) (by omega)
      have hs : IntKind.u64.wrap (pv d 3 25 + d 25 * 256) = pv d 3 26 := by
        have h := pv_wrap d hd.out 3 25 rfl
        rw [show ((256 ^ (25 % 8) : Nat) : Int) = 256 from rfl] at h
        exact h
      obtain ⟨c0, c1, c2, c3, f0, f1, f2, f3⟩ := id hC
      go_wp2_with fail
      go_region
      go_wp2_with fail
      obtain ⟨C, R, B⟩ := C4.step3 (v := pv d 3 26) hC hR hB
      rw [← pv_same d 0 25 (by decide), ← pv_same d 1 25 (by decide), ← pv_same d 2 25 (by decide)] at C
      refine ⟨⟨26, by omega, rfl, C, R, B⟩, by simp [intOf]⟩
    | 26, _, hC =>
      have kc := (hB.cell (p := ⟨g, 26, none⟩) hg).trans (hc.out 26 (by omega))
      have hw := d_wrap (d 26) (hd.out 26)
      have hm : IntKind.u64.wrap (d 26 * 65536) = d 26 * 65536 := dm_wrap (d 26) 65536 (hd.out 26) (by omega)
      have hs : IntKind.u64.wrap (pv d 3 26 + d 26 * 65536) = pv d 3 27 := by
        have h := pv_wrap d hd.out 3 26 rfl
        rw [show ((256 ^ (26 % 8) : Nat) : Int) = 65536 from rfl] at h
        exact h
      obtain ⟨c0, c1, c2, c3, f0, f1, f2, f3⟩ := id hC
      go_wp2_with fail
      go_region
      go_wp2_with fail
      obtain ⟨C, R, B⟩ := C4.step3 (v := pv d 3 27) hC hR hB
      rw [← pv_same d 0 26 (by decide), ← pv_same d 1 26 (by decide), ← pv_same d 2 26 (by decide)] at C
      refine ⟨⟨27, by omega, rfl, C, R, B⟩, by simp [intOf]⟩
    | 27, _, hC =>
      have kc := (hB.cell (p := ⟨g, 27, none⟩) hg).trans (hc.out 27 (by omega))
      have hw := d_wrap (d 27) (hd.out 27)
      have hm : IntKind.u64.wrap (d 27 * 16777216) = d 27 * 16777216 := dm_wrap (d 27) 16777216 (hd.out 27) (by omega)
      have hs : IntKind.u64.wrap (pv d 3 27 + d 27 * 16777216) = pv d 3 28 := by
        have h := pv_wrap d hd.out 3 27 rfl
        rw [show ((256 ^ (27 % 8) : Nat) : Int) = 16777216 from rfl] at h
        exact h
      obtain ⟨c0, c1, c2, c3, f0, f1, f2, f3⟩ := id hC
      go_wp2_with fail
      go_region
      go_wp2_with fail
      obtain ⟨C, R, B⟩ := C4.step3 (v := pv d 3 28) hC hR hB
      rw [← pv_same d 0 27 (by decide), ← pv_same d 1 27 (by decide), ← pv_same d 2 27 (by decide)] at C
      refine ⟨⟨28, by omega, rfl, C, R, B⟩, by simp [intOf]⟩
    | 28, _, hC =>
      have kc := (hB.cell (p := ⟨g, 28, none⟩) hg).trans (hc.out 28 (by omega))
      have hw := d_wrap (d 28) (hd.out 28)
      have hm : IntKind.u64.wrap (d 28 * 4294967296) = d 28 * 4294967296 := dm_wrap (d 28) 4294967296 (hd.out 28) (by omega)
      have hs : IntKind.u64.wrap (pv d 3 28 + d 28 * 4294967296) = pv d 3 29 := by
        have h := pv_wrap d hd.out 3 28 rfl
        rw [show ((256 ^ (28 % 8) : Nat) : Int) = 4294967296 from rfl] at h
        exact h
      obtain ⟨c0, c1, c2, c3, f0, f1, f2, f3⟩ := id hC
      go_wp2_with fail
      go_region
      go_wp2_with fail
      obtain ⟨C, R, B⟩ := C4.step3 (v := pv d 3 29) hC hR hB
      rw [← pv_same d 0 28 (by decide), ← pv_same d 1 28 (by decide), ← pv_same d 2 28 (by decide)] at C
      refine ⟨⟨29, by omega, rfl, C, R, B⟩, by simp [intOf]⟩
    | 29, _, hC =>
      have kc := (hB.cell (p := ⟨g, 29, none⟩) hg).trans (hc.out 29 (by omega))
      have hw := d_wrap (d 29) (hd.out 29)
      have hm : IntKind.u64.wrap (d 29 * 1099511627776) = d 29 * 1099511627776 := dm_wrap (d 29) 1099511627776 (hd.out 29) (by omega)
      have hs : IntKind.u64.wrap (pv d 3 29 + d 29 * 1099511627776) = pv d 3 30 := by
        have h := pv_wrap d hd.out 3 29 rfl
        rw [show ((256 ^ (29 % 8) : Nat) : Int) = 1099511627776 from rfl] at h
        exact h
      obtain ⟨c0, c1, c2, c3, f0, f1, f2, f3⟩ := id hC
      go_wp2_with fail
      go_region
      go_wp2_with fail
      obtain ⟨C, R, B⟩ := C4.step3 (v := pv d 3 30) hC hR hB
      rw [← pv_same d 0 29 (by decide), ← pv_same d 1 29 (by decide), ← pv_same d 2 29 (by decide)] at C
      refine ⟨⟨30, by omega, rfl, C, R, B⟩, by simp [intOf]⟩
    | 30, _, hC =>
      have kc := (hB.cell (p := ⟨g, 30, none⟩) hg).trans (hc.out 30 (by omega))
      have hw := d_wrap (d 30) (hd.out 30)
      have hm : IntKind.u64.wrap (d 30 * 281474976710656) = d 30 * 281474976710656 := dm_wrap (d 30) 281474976710656 (hd.out 30) (by omega)
      have hs : IntKind.u64.wrap (pv d 3 30 + d 30 * 281474976710656) = pv d 3 31 := by
        have h := pv_wrap d hd.out 3 30 rfl
        rw [show ((256 ^ (30 % 8) : Nat) : Int) = 281474976710656 from rfl] at h
        exact h
      obtain ⟨c0, c1, c2, c3, f0, f1, f2, f3⟩ := id hC
      go_wp2_with fail
      go_region
      go_wp2_with fail
      obtain ⟨C, R, B⟩ := C4.step3 (v := pv d 3 31) hC hR hB
      rw [← pv_same d 0 30 (by decide), ← pv_same d 1 30 (by decide), ← pv_same d 2 30 (by decide)] at C
      refine ⟨⟨31, by omega, rfl, C, R, B⟩, by simp [intOf]⟩
    | 31, _, hC =>
      have kc := (hB.cell (p := ⟨g, 31, none⟩) hg).trans (hc.out 31 (by omega))
      have hw := d_wrap (d 31) (hd.out 31)
      have hm : IntKind.u64.wrap (d 31 * 72057594037927936) = d 31 * 72057594037927936 := dm_wrap (d 31) 72057594037927936 (hd.out 31) (by omega)
      have hs : IntKind.u64.wrap (pv d 3 31 + d 31 * 72057594037927936) = pv d 3 32 := by
        have h := pv_wrap d hd.out 3 31 rfl
        rw [show ((256 ^ (31 % 8) : Nat) : Int) = 72057594037927936 from rfl] at h
        exact h
      obtain ⟨c0, c1, c2, c3, f0, f1, f2, f3⟩ := id hC
      go_wp2_with fail
      go_region
      go_wp2_with fail
      obtain ⟨C, R, B⟩ := C4.step3 (v := pv d 3 32) hC hR hB
      rw [← pv_same d 0 31 (by decide), ← pv_same d 1 31 (by decide), ← pv_same d 2 31 (by decide)] at C
      refine ⟨⟨32, by omega, rfl, C, R, B⟩, by simp [intOf]⟩
    | 32, _, hC =>
      obtain ⟨c0, c1, c2, c3, f0, f1, f2, f3⟩ := hC
      obtain ⟨r0, r1, r2, r3, g0, g1, g2, g3⟩ := hR
      go_wp2_with fail
      refine bodyPost_ret (v := wd (pv d 0 32) (pv d 1 32) (pv d 2 32) (pv d 3 32)) (by simp [results, Tryd.results30, go_sem, r0, r1, r2, r3]) rfl ⟨rfl, ?_⟩
      refine Below.setCell (Below.setCell (Below.setCell (Below.setCell hB (by first | omega | (simp; omega) | simp) _) (by first | omega | (simp; omega) | simp) _) (by first | omega | (simp; omega) | simp) _) (by first | omega | (simp; omega) | simp) _
    | k + 33, h, _ => exact absurd h (by omega)
end Go.Proofs.YtcnngpmganhjoaaDoor
