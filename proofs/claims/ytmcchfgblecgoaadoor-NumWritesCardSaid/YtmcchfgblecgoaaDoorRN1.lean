/- The reference's Be, Le and Var of numbers of 64 bits. -/
import Derived.Test.YtmcchfgblecgoaaDoorR2
import Derived.Test.YtmcchfgblecgoaaDoorKS
import Derived.Test.YtmcchfgblecgoaaDoorM4
namespace Go.Proofs.YtmcchfgblecgoaaDoor
open Go Go.RowKit

theorem rnbe_any (N : Nat) (w : World) (h : N < 18446744073709551616) :
    Calls Tryd.prog 8 #[.int .u64 N] w fun e w' => e = .returned (.string ⟨(M.tr (M.f32 N)).toArray⟩) ∧ Below w.heap.size w w' := by
  have hb := fun w => rbytes_core N w
  rw [wn_small N h] at hb
  have HB := Lib.hid hb
  clear hb
  go_enter Tryd.func8, Tryd.ntmps8
  go_wp2_with fail
  refine (HB.out _).mono ?_
  rintro e w1 ⟨rfl, hb1⟩
  go_wp2_with fail
  go_ret
  exact ⟨rfl, hb1⟩

/-- The bytes that have come, the lowest ones first. -/
def lo8 (N k : Nat) : List Int := (List.range k).map fun t => ((N / 256 ^ t % 256 : Nat) : Int)
theorem lo8_succ (N k : Nat) : lo8 N (k + 1) = lo8 N k ++ [((N / 256 ^ k % 256 : Nat) : Int)] := by simp [lo8, List.range_succ]
theorem lo8_length (N k : Nat) : (lo8 N k).length = k := by simp [lo8]
theorem lo8_bytes (k N : Nat) : (lo8 N k).map (fun n => UInt8.ofNat n.toNat) = M.le k N := by
  apply List.ext_getElem
  · simp [M.le_length, lo8_length]
  · intro i h1 h2
    have hi : i < k := by simpa [lo8_length] using h1
    have e := M.le_get k N i hi
    rw [List.getD_eq_getElem?_getD, List.getElem?_eq_getElem h2, Option.getD_some] at e
    rw [e]
    simp only [lo8, List.getElem_map, List.getElem_range, Int.toNat_natCast]

set_option maxRecDepth 100000 in
set_option maxHeartbeats 2000000 in
theorem rle_ok (N k : Nat) (w : World) (hN : N < 18446744073709551616) (hk1 : 1 ≤ k) (hk8 : k ≤ 8) (hl : (M.tr (M.f32 N)).length ≤ k) :
    Calls Tryd.prog 10 #[.int .u64 N, .int .i64 k] w fun e w' => e = .returned (.tuple #[.string ⟨(M.le k N).toArray⟩, .int .i64 0]) ∧ Below w.heap.size w w' := by
  obtain ⟨i0, hi, hz0, hz1, hz2⟩ := info_parts Tryd.infoU8
  have hbe := fun w => rnbe_any N w hN
  obtain ⟨lb, hlb⟩ : ∃ lb, M.tr (M.f32 N) = lb := ⟨_, rfl⟩
  rw [hlb] at hl hbe
  clear hlb
  have hd1 : decide (k < lb.length) = false := by simp; omega
  have hd2 : decide ((k : Int) < 1) = false := by simp; omega
  have hd3 : decide ((8 : Int) < k) = false := by simp; omega
  go_enter Tryd.func10, Tryd.ntmps10
  go_wp2_with (go_at_call 8; refine (hbe _).mono ?_; rintro e w1 ⟨rfl, hb1⟩)
  clear hbe
  go_loopw [0, 6, 7] (fun n v i wr => ∃ j : Nat, j ≤ k ∧ i = .int .i64 j ∧ n = .int .u64 ((N / 256 ^ j : Nat) : Int) ∧ wr.ownsRow w.heap.size 5 1 v j ((lo8 N j).map (Value.int .u8)) ∧ Below w.heap.size w wr)
    (fun _ _ i _ => k - (intOf i).toNat)
  case atStart => exact ⟨0, by omega, rfl, by simp, World.ownsRow_nil _ _ _ _, hb1⟩
  case round =>
    obtain ⟨j, hj, rfl, rfl, hown, LW⟩ := hrel
    obtain ⟨n, hn⟩ : ∃ n, N / 256 ^ j = n := ⟨_, rfl⟩
    rw [hn]
    have hnl : n < 18446744073709551616 := by rw [← hn]; exact Nat.lt_of_le_of_lt (Nat.div_le_self _ _) hN
    have HN := Lib.hid hn
    clear hn
    by_cases hlt : j < k
    · have hsz := LW.size
      have hx : IntKind.u8.wrap (((n % 256 : Nat) : Int)) = ((n % 256 : Nat) : Int) := by
        simp only [IntKind.wrap, IntKind.bits, IntKind.signed]
        simp
      go_wp2_with (at_builtin; refine wpList_append_own _ rfl _ _ 36 rfl w.heap.size 5 i0 (.int .u8 0) 1 1 Tryd.underlying36 hi hz0 hz1 hz2 rfl (by decide) _ _ _ rfl (hown.alloc _) ⟨wr.heap.size, 0, none⟩ 1 1 [.int .u8 ((n : Int) % 256)] rfl rfl (cell_one_new _ _ _) (by simp [Value.oneCell']) (by unfold maxLen; omega) (by omega) (by simp; omega) ?_; intro v' w2 hown' hgrow _)
      have hown2 : w2.ownsRow w.heap.size 5 1 v' (j + 1) ((lo8 N (j + 1)).map (Value.int .u8)) := by
        rw [lo8_succ, HN.out, List.map_append]
        exact hown'
      have hbel : Below w.heap.size wr w2 := ((Below.refl _ wr).alloc (by omega) _).grown hgrow (by simp; omega) (fun q e => (hown.lt q e).1)
      have hq : ((N / 256 ^ (j + 1) : Nat) : Int) = (n : Int) / 256 := by
        rw [Nat.pow_succ, ← Nat.div_div_eq_div_mul, HN.out]
        rfl
      clear hown hown' hgrow
      exact ⟨⟨j + 1, by omega, by simp, by rw [hq], hown2, LW.trans hbel⟩, by simp [intOf]; omega⟩
    · obtain rfl : j = k := by omega
      obtain ⟨g, cap, rfl, hcells⟩ := row_cells hown (by omega)
      have hr := run_convert_bytes_arg wr 36 5 Tryd.underlying36 Tryd.underlying5 g 0 j cap (lo8 N j) (lo8_length N j) (fun i hi => by rw [Nat.zero_add]; exact hcells i (by rw [lo8_length]; exact hi)) 9 Tryd.underlying9
      clear hown hcells
      have e : strOfNums (lo8 N j) = ⟨(M.le j N).toArray⟩ := by unfold strOfNums; rw [lo8_bytes]
      rw [e] at hr
      clear e
      go_wp2_with fail
      go_ret2
      exact ⟨rfl, LW⟩

set_option maxHeartbeats 1000000 in
theorem rle_arg (N : Nat) (width : Int) (w : World) (h : ¬ (1 ≤ width ∧ width ≤ 8)) :
    Calls Tryd.prog 10 #[.int .u64 N, .int .i64 width] w fun e w' => e = .returned (.tuple #[.string ⟨#[]⟩, .int .i64 1]) ∧ Below w.heap.size w w' := by
  by_cases h1 : width < 1
  · clear h
    go_enter Tryd.func10, Tryd.ntmps10
    go_wp2_with fail
    go_ret2
    exact ⟨rfl, Below.refl _ _⟩
  · have h8 : 8 < width := by omega
    clear h
    go_enter Tryd.func10, Tryd.ntmps10
    go_wp2_with fail
    go_ret2
    exact ⟨rfl, Below.refl _ _⟩

set_option maxHeartbeats 1000000 in
theorem rle_big (N k : Nat) (w : World) (hN : N < 18446744073709551616) (hk1 : 1 ≤ k) (hk8 : k ≤ 8) (hl : k < (M.tr (M.f32 N)).length) :
    Calls Tryd.prog 10 #[.int .u64 N, .int .i64 k] w fun e w' => e = .returned (.tuple #[.string ⟨#[]⟩, .int .i64 1]) ∧ Below w.heap.size w w' := by
  have hbe := fun w => rnbe_any N w hN
  obtain ⟨lb, hlb⟩ : ∃ lb, M.tr (M.f32 N) = lb := ⟨_, rfl⟩
  rw [hlb] at hl hbe
  clear hlb
  go_enter Tryd.func10, Tryd.ntmps10
  go_wp2_with (go_at_call 8; refine (hbe _).mono ?_; rintro e w1 ⟨rfl, hb1⟩)
  go_ret2
  exact ⟨rfl, hb1⟩

theorem rle_any (N : Nat) (width : Int) (w : World) (hN : N < 18446744073709551616) :
    Calls Tryd.prog 10 #[.int .u64 N, .int .i64 width] w fun e w' => e = .returned (.tuple #[.string ⟨(M.lw N width).1.toArray⟩, .int .i64 ((M.lw N width).2 : Nat)]) ∧ Below w.heap.size w w' := by
  by_cases h : 1 ≤ width ∧ width ≤ 8
  · obtain ⟨k, rfl⟩ : ∃ k : Nat, width = k := ⟨width.toNat, by omega⟩
    by_cases hl : (M.tr (M.f32 N)).length ≤ k
    · have e : M.lw N k = (M.le k N, 0) := by
        unfold M.lw
        rw [if_pos ⟨h.1, h.2, by omega⟩, Int.toNat_natCast]
      rw [e]
      exact rle_ok N k w hN (by omega) (by omega) hl
    · have e : M.lw N k = ([], 1) := by
        unfold M.lw
        rw [if_neg (by omega)]
      rw [e]
      exact rle_big N k w hN (by omega) (by omega) (by omega)
  · have e : M.lw N width = ([], 1) := by
      unfold M.lw
      rw [if_neg (by omega)]
    rw [e]
    exact rle_arg N width w h

theorem vr_last (f n : Nat) (h : n < 128) : M.vr f n = [UInt8.ofNat n] := by
  cases f with
  | zero => rfl
  | succ f => unfold M.vr; rw [if_pos h]

set_option maxRecDepth 100000 in
set_option maxHeartbeats 2000000 in
theorem rvar_any (N : Nat) (w : World) (hN : N < 18446744073709551616) :
    Calls Tryd.prog 11 #[.int .u64 N] w fun e w' => e = .returned (.string ⟨(M.vrn N).toArray⟩) ∧ Below w.heap.size w w' := by
  obtain ⟨i0, hi, hz0, hz1, hz2⟩ := info_parts Tryd.infoU8
  go_enter Tryd.func11, Tryd.ntmps11
  go_wp2_with fail
  go_loopw [0, 3] (fun m v wr => ∃ (j n : Nat) (xs : List Int), j ≤ 9 ∧ n < 18446744073709551616 ∧ n < 2 ^ (64 - 7 * j) ∧ m = .int .u64 n ∧ wr.ownsRow w.heap.size 5 1 v j (xs.map (Value.int .u8)) ∧ xs.map (fun n => UInt8.ofNat n.toNat) ++ M.vr (9 - j) n = M.vrn N ∧ Below w.heap.size w wr)
    (fun m _ _ => (intOf m).toNat)
  case atStart => exact ⟨0, N, [], by omega, hN, hN, rfl, World.ownsRow_nil _ _ _ _, rfl, Below.refl _ _⟩
  case round =>
    obtain ⟨j, n, xs, hj, hn, hn2, rfl, hown, hx, LW⟩ := hrel
    have hlen : xs.length = j := by simpa using hown.1
    have HX := Lib.hid hx
    have HL := Lib.hid hlen
    have HN := Lib.hid hn2
    clear hx hlen hn2
    by_cases hlt : n < 128
    · have hsz := LW.size
      go_wp2_with (at_builtin; refine wpList_append_own _ rfl _ _ 36 rfl w.heap.size 5 i0 (.int .u8 0) 1 1 Tryd.underlying36 hi hz0 hz1 hz2 rfl (by decide) _ _ _ rfl (hown.alloc _) ⟨wr.heap.size, 0, none⟩ 1 1 [.int .u8 (n : Int)] rfl rfl (cell_one_new _ _ _) (by simp [Value.oneCell']) (by unfold maxLen; omega) (by omega) (by simp; omega) ?_; intro v' w2 hown' hgrow _; obtain ⟨g, cap, rfl, hcells⟩ := row_cells (xs := xs ++ [(n : Int)]) (by rw [List.map_append]; exact hown') (by omega); have hr := run_convert_bytes_arg w2 36 5 Tryd.underlying36 Tryd.underlying5 g 0 (j + 1) cap (xs ++ [(n : Int)]) (by simp [HL.out]) (fun i hi => by rw [Nat.zero_add]; exact hcells i (by simp [HL.out]; exact hi)) 9 Tryd.underlying9; clear hcells)
      have hbel : Below w.heap.size wr w2 := ((Below.refl _ wr).alloc (by omega) _).grown hgrow (by simp; omega) (fun q e => (hown.lt q e).1)
      have e : strOfNums (xs ++ [(n : Int)]) = ⟨(M.vrn N).toArray⟩ := by
        unfold strOfNums
        rw [← HX.out, vr_last _ n hlt, List.map_append]
        rfl
      go_ret
      exact ⟨by rw [← e]; rfl, LW.trans hbel⟩
    · have hge : 128 ≤ n := by omega
      have hsz := LW.size
      go_wp2_with (at_builtin; refine wpList_append_own _ rfl _ _ 36 rfl w.heap.size 5 i0 (.int .u8 0) 1 1 Tryd.underlying36 hi hz0 hz1 hz2 rfl (by decide) _ _ _ rfl (hown.alloc _) ⟨wr.heap.size, 0, none⟩ 1 1 [.int .u8 ((n : Int) % 128 + 128)] rfl rfl (cell_one_new _ _ _) (by simp [Value.oneCell']) (by unfold maxLen; omega) (by omega) (by simp; omega) ?_; intro v' w2 hown' hgrow _)
      have hown2 : w2.ownsRow w.heap.size 5 1 v' (j + 1) ((xs ++ [(n : Int) % 128 + 128]).map (Value.int .u8)) := by
        rw [List.map_append]
        exact hown'
      have hbel : Below w.heap.size wr w2 := ((Below.refl _ wr).alloc (by omega) _).grown hgrow (by simp; omega) (fun q e => (hown.lt q e).1)
      have hj9 : j < 9 := by
        rcases Nat.lt_or_ge j 9 with h | h
        · exact h
        · obtain rfl : j = 9 := by omega
          have := HN.out
          simp at this
          omega
      refine ⟨⟨j + 1, n / 128, xs ++ [(n : Int) % 128 + 128], by omega, by omega, ?_, by simp, hown2, ?_, LW.trans hbel⟩, ?_⟩
      · have := HN.out
        rw [show 64 - 7 * j = 64 - 7 * (j + 1) + 7 by omega, Nat.pow_add] at this
        exact Nat.div_lt_of_lt_mul (by rw [Nat.mul_comm]; exact this)
      · rw [← HX.out, show 9 - j = (9 - (j + 1)) + 1 by omega, M.vr, if_neg hlt, List.map_append, List.append_assoc]
        congr 1
      · simp only [intOf]
        omega
end Go.Proofs.YtmcchfgblecgoaaDoor
