/- The reference's mix and turn. -/
import Derived.Test.YtdfcfpbofomdcaaDoorQ4
import Derived.StillTailTactics
namespace Go.Proofs.YtdfcfpbofomdcaaDoor
open Go Go.RowKit

/-- The lanes below k by f, the others as they were. -/
def upto (f : Nat → Nat) (a : List Nat) (k : Nat) : List Nat := M.lanesOf fun i => if i < k then f i else M.gl a i
theorem upto_length (f : Nat → Nat) (a : List Nat) (k : Nat) : (upto f a k).length = 25 := M.of_length _
theorem upto_zero (f : Nat → Nat) {a : List Nat} (ha : a.length = 25) : upto f a 0 = a :=
  M.lanes_ext (M.of_length _) ha fun i hi => by unfold upto; rw [M.gl_of _ hi]; simp
theorem upto_all (f : Nat → Nat) (a : List Nat) : upto f a 25 = M.lanesOf f :=
  M.lanes_ext (M.of_length _) (M.of_length _) fun i hi => by unfold upto; rw [M.gl_of _ hi, M.gl_of _ hi, if_pos hi]
theorem upto_at (f : Nat → Nat) (a : List Nat) {k i : Nat} (hk : k ≤ i) (hi : i < 25) : M.gl (upto f a k) i = M.gl a i := by
  unfold upto; rw [M.gl_of _ hi, if_neg (by omega)]
theorem upto_succ (f : Nat → Nat) (a : List Nat) {k : Nat} (hk : k < 25) : (upto f a k).set k (f k) = upto f a (k + 1) := by
  refine M.lanes_ext (by rw [List.length_set, upto_length]) (M.of_length _) fun i hi => ?_
  rw [gl_set i (by rw [upto_length]; exact hk)]
  unfold upto
  rw [M.gl_of _ hi, M.gl_of _ hi]
  by_cases h : i = k
  · subst h; rw [if_pos rfl, if_pos (by omega)]
  · rw [if_neg h]
    by_cases h2 : i < k
    · rw [if_pos h2, if_pos (by omega)]
    · rw [if_neg h2, if_neg (by omega)]

/-- The columns, when k lanes have gone in. -/
def colP (a : List Nat) (k : Nat) : List Nat := (List.range k).foldl (fun c i => c.set (i % 5) (M.gl c (i % 5) ^^^ M.gl a i)) z5
theorem colP_succ (a : List Nat) (k : Nat) : colP a (k + 1) = (colP a k).set (k % 5) (M.gl (colP a k) (k % 5) ^^^ M.gl a k) := by simp [colP, List.range_succ]
theorem colP_length (a : List Nat) (k : Nat) : (colP a k).length = 5 := by
  induction k with
  | zero => rfl
  | succ k ih => rw [colP_succ, List.length_set, ih]
theorem colP_lt {a : List Nat} (ha : M.Lanes a) (k : Nat) : ∀ x, M.gl (colP a k) x < 18446744073709551616 := by
  induction k with
  | zero => intro x; have : ∀ x, M.gl z5 x = 0 := fun x => by unfold M.gl z5; rw [List.getD_eq_getElem?_getD, List.getElem?_replicate]; split <;> simp
            rw [show colP a 0 = z5 from rfl, this]; omega
  | succ k ih =>
    intro x
    rw [colP_succ, gl_set _ (by rw [colP_length]; omega)]
    by_cases h : x = k % 5
    · rw [if_pos h]; exact M.xor_lt64 (ih _) (ha.2 _)
    · rw [if_neg h]; exact ih x
theorem colP_all (a : List Nat) {x : Nat} (hx : x < 5) : M.gl (colP a 25) x = M.col a x := by
  have h0 : M.gl (colP a 25) 0 = 0 ^^^ M.gl a 0 ^^^ M.gl a 5 ^^^ M.gl a 10 ^^^ M.gl a 15 ^^^ M.gl a 20 := by kernel_rfl
  have h1 : M.gl (colP a 25) 1 = 0 ^^^ M.gl a 1 ^^^ M.gl a 6 ^^^ M.gl a 11 ^^^ M.gl a 16 ^^^ M.gl a 21 := by kernel_rfl
  have h2 : M.gl (colP a 25) 2 = 0 ^^^ M.gl a 2 ^^^ M.gl a 7 ^^^ M.gl a 12 ^^^ M.gl a 17 ^^^ M.gl a 22 := by kernel_rfl
  have h3 : M.gl (colP a 25) 3 = 0 ^^^ M.gl a 3 ^^^ M.gl a 8 ^^^ M.gl a 13 ^^^ M.gl a 18 ^^^ M.gl a 23 := by kernel_rfl
  have h4 : M.gl (colP a 25) 4 = 0 ^^^ M.gl a 4 ^^^ M.gl a 9 ^^^ M.gl a 14 ^^^ M.gl a 19 ^^^ M.gl a 24 := by kernel_rfl
  have : x = 0 ∨ x = 1 ∨ x = 2 ∨ x = 3 ∨ x = 4 := by omega
  rcases this with rfl | rfl | rfl | rfl | rfl
  · rw [h0, Nat.zero_xor]; rfl
  · rw [h1, Nat.zero_xor]; rfl
  · rw [h2, Nat.zero_xor]; rfl
  · rw [h3, Nat.zero_xor]; rfl
  · rw [h4, Nat.zero_xor]; rfl
def mixF (a : List Nat) (i : Nat) : Nat := M.gl a i ^^^ M.col a ((i % 5 + 4) % 5) ^^^ M.rotN (M.col a ((i % 5 + 1) % 5)) 1

set_option maxRecDepth 100000 in
set_option maxHeartbeats 4000000 in
theorem rmix (a : List Nat) (w : World) (ha : M.Lanes a) :
    Calls Tryd.prog 17 #[st a] w fun e w' => e = .returned (st (M.mixL a)) ∧ Below w.heap.size w w' := by
  have HA := Lib.hid ha
  clear ha
  have mixed : Tryd.prog.follows .mixedOrders = true := by kernel_rfl
  go_enter Tryd.func17, Tryd.ntmps17
  go_wp2_with fail
  go_loopw [4] (fun i wr => ∃ k : Nat, k ≤ 25 ∧ i = .int .i64 (k : Int) ∧ Rw wr w.heap.size 23 a ∧ Rw wr (w.heap.size + 1) 23 z25 ∧ Rw wr (w.heap.size + 1 + 1) 45 (colP a k) ∧ Below w.heap.size w wr)
    (fun i _ => 25 - (intOf i).toNat)
  case atStart =>
    rw [lv_zero, lv_zero5]
    refine ⟨0, by omega, rfl, ((Rw.new _ _ _).alloc _).alloc _, (Rw.at_ _ _ _ (by simp)).alloc _, Rw.at_ _ _ _ (by simp), ?_⟩
    (repeat (first | exact Below.refl _ _ | refine Below.drew ?_ | refine Below.alloc ?_ (by first | omega | (simp; omega) | simp) _ | refine Below.setCell ?_ (by first | omega | (simp; omega) | simp) _))
  case round =>
    obtain ⟨k, hk, rfl, hA, hR, hC, hW⟩ := hrel
    by_cases hlt : k < 25
    · obtain ⟨c, hc⟩ : ∃ c, c = k % 5 := ⟨_, rfl⟩
      have t0 : (c : Int) < 5 := by omega
      have ca := hA.cell (i := k) (by rw [HA.out.1]; exact hlt)
      have cc := hC.cell (i := c) (by rw [colP_length]; omega)
      have fc := hC.frozen c
      have hx := bits_xor_u64_nat _ _ (colP_lt HA.out k c) (HA.out.2 k)
      have tm : ((k : Int)).tmod 5 = (c : Int) := by rw [Int.tmod_eq_emod_of_nonneg (by omega)]; omega
      have HC := Lib.hid hc
      clear hc
      go_wp2_with fail
      go_still_tail 11, mixed
      change wpList _ _ _ _ _ wr.drew
      go_wp2_with fail
      go_roundw
      case rel => exact ⟨k + 1, by omega, by go_num, hA.drew.far (by simp; omega) _, hR.drew.far (by simp) _, by rw [colP_succ, ← HC.out]; exact hC.drew.set_ _ _, hW.drew.setCell (by simp; omega) _⟩
      case measure => simp [intOf]; omega
    · obtain rfl : k = 25 := by omega
      clear hlt hk
      rw [show ((25 : Nat) : Int) = 25 from rfl]
      go_wp2_with fail
      go_loopw [5] (fun i wq => ∃ k : Nat, k ≤ 25 ∧ i = .int .i64 (k : Int) ∧ Rw wq w.heap.size 23 (upto (mixF a) a k) ∧ Rw wq (w.heap.size + 1) 23 z25 ∧ Rw wq (w.heap.size + 1 + 1) 45 (colP a 25) ∧ Below w.heap.size w wq)
        (fun i _ => 25 - (intOf i).toNat)
      case atStart => exact ⟨0, by omega, rfl, by rw [upto_zero _ HA.out.1]; exact hA, hR, hC, hW⟩
      case round =>
        clear hA hR hC hW
        obtain ⟨k, hk, rfl, hA, hR, hC, hW⟩ := hrel
        by_cases hlt : k < 25
        · obtain ⟨c, hc⟩ : ∃ c, c = k % 5 := ⟨_, rfl⟩
          obtain ⟨d, hd⟩ : ∃ d, d = (c + 4) % 5 := ⟨_, rfl⟩
          obtain ⟨e, he⟩ : ∃ e, e = (c + 1) % 5 := ⟨_, rfl⟩
          have t0 : (c : Int) < 5 := by omega
          have td : (d : Int) < 5 := by omega
          have te : (e : Int) < 5 := by omega
          have hm : (k : Int) % 5 = (c : Int) := by omega
          have w4 : IntKind.i64.wrap ((c : Int) + 4) = (c : Int) + 4 := IntWalk.i64_in _ (by omega)
          have w1 : IntKind.i64.wrap ((c : Int) + 1) = (c : Int) + 1 := IntWalk.i64_in _ (by omega)
          have md : ((c : Int) + 4).tmod 5 = (d : Int) := by rw [Int.tmod_eq_emod_of_nonneg (by omega)]; omega
          have me : ((c : Int) + 1).tmod 5 = (e : Int) := by rw [Int.tmod_eq_emod_of_nonneg (by omega)]; omega
          have ca := hA.cell (i := k) (by rw [upto_length]; exact hlt)
          rw [upto_at _ _ (Nat.le_refl k) hlt] at ca
          have fa := hA.frozen k
          have cd := hC.cell (i := d) (by rw [colP_length]; omega)
          have ce := hC.cell (i := e) (by rw [colP_length]; omega)
          rw [colP_all _ (by omega)] at cd ce
          have x1 := bits_xor_u64_nat _ _ (HA.out.2 k) (M.col_lt HA.out d)
          have x2 := bits_xor_u64_nat _ _ (M.xor_lt64 (HA.out.2 k) (M.col_lt HA.out d)) (M.rot_lt (M.col a e) 1)
          have L := Lib.hid (M.col_lt HA.out e)
          have HC : Hid (M.gl a k ^^^ M.col a d ^^^ M.rotN (M.col a e) 1 = mixF a k) := by
            show _ = mixF a k
            unfold mixF
            rw [hd, he, hc]
          clear hc hd he
          go_wp2_with fail
          go_still_tail 18, mixed
          still_call ((rrot _ 1 _ L.out (by omega)).mono (fun _ _ h => ⟨h.1, h.2.symm⟩))
          repeat still_step
          refine wpStill_nil ?_
          change wpList _ _ _ _ _ wr.drew
          go_wp2_with fail
          go_roundw
          case rel =>
            rw [HC.out]
            refine ⟨k + 1, by omega, by go_num, ?_, ?_, ?_, ?_⟩
            · rw [← upto_succ _ _ hlt]; exact (hA.set_ _ _).drew
            · exact (hR.far (by simp) _).drew
            · exact (hC.far (by simp; omega) _).drew
            · exact (hW.setCell (by simp) _).drew
          case measure => simp [intOf]; omega
        · obtain rfl : k = 25 := by omega
          rw [upto_all] at hA
          replace hA : Rw wr w.heap.size 23 (M.mixL a) := hA
          go_wp2_with (first | (refine wpList_load_st rfl _ _ rfl _ rfl _ _ 25 22 hA Tryd.array25 Tryd.size25 (M.of_length _) ?_) | (refine wpList_store_st rfl _ _ _ rfl _ _ rfl rfl _ _ 25 hR Tryd.size25 (M.of_length _) z25_length ?_))
          exact bodyPost_ret (v := st (M.mixL a)) (res_row rfl _ _ _ _ _ rfl (hR.row _) (M.of_length _)) rfl ⟨rfl, below_setRow hW (by omega) _⟩
end Go.Proofs.YtdfcfpbofomdcaaDoor
