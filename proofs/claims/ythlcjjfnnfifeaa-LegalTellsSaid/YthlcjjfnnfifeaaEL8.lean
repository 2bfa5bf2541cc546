/- The reference's Range, Legal, Versions, Latest. -/
import Derived.Test.YthlcjjfnnfifeaaEL7
namespace Go.Proofs.Ythlcjjfnnfifeaa
open Go Go.RowKit

theorem M.sp_cases (k v : Int) : (M.spI k v = true ∧ M.span k v = some (M.spF k v, M.spT k v)) ∨ (M.spI k v = false ∧ M.span k v = none) := by
  rw [M.span_sp]
  cases M.spI k v
  · exact .inr ⟨rfl, rfl⟩
  · exact .inl ⟨rfl, rfl⟩

set_option maxRecDepth 100000 in
set_option maxHeartbeats 4000000 in
theorem rrange13_any (k v : Int) (w : World) : Calls Try.prog 9 #[.int .i64 k, .int .i64 v] w fun e w' =>
    e = .returned (.tuple #[.int .i64 (M.rngA k v), .int .i64 (M.rngB k v), .int .i64 (M.rngE k v)]) ∧ Below w.heap.size w w' := by
  have mixed : Try.prog.follows .mixedOrders = true := by kernel_rfl
  have HS := Lib.hid (rspan_any k v)
  unfold sp13 at HS
  unfold M.rngA M.rngB M.rngE
  rcases M.sp_cases k v with ⟨h1, h2⟩ | ⟨h1, h2⟩
  · rw [h2]
    rw [h1] at HS
    clear h1 h2
    generalize M.spF k v = a at *
    generalize M.spT k v = b at *
    go_enter Try.func9, Try.ntmps9
    go_wp2_with fail
    refine (HS.out _).mono ?_
    rintro e w1 ⟨rfl, hb⟩
    go_wp2_with fail
    go_quiet (fail)
    go_wp2_with fail
    go_ret3
    exact ⟨rfl, below_drewN13 (hb.alloc hb.size _) _⟩
  · rw [h2]
    rw [h1] at HS
    clear h1 h2
    generalize M.spF k v = a at *
    generalize M.spT k v = b at *
    go_enter Try.func9, Try.ntmps9
    go_wp2_with fail
    refine (HS.out _).mono ?_
    rintro e w1 ⟨rfl, hb⟩
    go_wp2_with fail
    go_ret3
    exact ⟨rfl, hb.alloc hb.size _⟩

set_option maxRecDepth 100000 in
set_option maxHeartbeats 4000000 in
theorem rlegal13_any (f k v : Int) (w : World) : Calls Try.prog 10 #[.int .i64 f, .int .i64 k, .int .i64 v] w fun e w' =>
    e = .returned (.bool (M.lgl f k v)) ∧ Below w.heap.size w w' := by
  have HS := Lib.hid (rspan_any k v)
  unfold sp13 at HS
  unfold M.lgl
  rcases M.sp_cases k v with ⟨h1, h2⟩ | ⟨h1, h2⟩
  · rw [h2]
    rw [h1] at HS
    clear h1 h2
    generalize M.spF k v = a at *
    generalize M.spT k v = b at *
    dsimp only
    by_cases hf : a ≤ f
    · rw [decide_eq_true hf, Bool.true_and]
      go_enter Try.func10, Try.ntmps10
      go_wp2_with fail
      refine (HS.out _).mono ?_
      rintro e w1 ⟨rfl, hb⟩
      go_wp2_with fail
      go_ret
      exact ⟨rfl, hb.alloc hb.size _⟩
    · rw [decide_eq_false hf, Bool.false_and]
      have hd : decide (a ≤ f) = false := decide_eq_false hf
      go_enter Try.func10, Try.ntmps10
      go_wp2_with fail
      refine (HS.out _).mono ?_
      rintro e w1 ⟨rfl, hb⟩
      go_wp2_with fail
      go_ret
      exact ⟨rfl, hb.alloc hb.size _⟩
  · rw [h2]
    rw [h1] at HS
    clear h1 h2
    generalize M.spF k v = a at *
    generalize M.spT k v = b at *
    go_enter Try.func10, Try.ntmps10
    go_wp2_with fail
    refine (HS.out _).mono ?_
    rintro e w1 ⟨rfl, hb⟩
    go_wp2_with fail
    go_ret
    exact ⟨rfl, hb.alloc hb.size _⟩

/-- Those below a number. -/
def M.versTo (f k : Int) (n : Nat) : List Int := ((List.range n).map fun i : Nat => (i : Int)).filter fun v => M.lgl f k v
theorem M.versTo_succ (f k : Int) (n : Nat) : M.versTo f k (n + 1) = M.versTo f k n ++ if M.lgl f k n then [(n : Int)] else [] := by
  unfold M.versTo
  rw [List.range_succ, List.map_append, List.filter_append]
  congr 1
  cases h : M.lgl f k n <;> simp [h]
theorem M.versTo_len (f k : Int) (n : Nat) : (M.versTo f k n).length ≤ n := by
  have := List.length_filter_le (fun v => M.lgl f k v) ((List.range n).map fun i : Nat => (i : Int))
  simpa [M.versTo] using this
theorem M.versTo_all (f k : Int) : M.versTo f k 127 = M.vers f k := by
  have hlt : ((List.range 127).map fun i : Nat => (i : Int)).Pairwise (· < ·) := by
    rw [List.pairwise_map]
    exact List.pairwise_lt_range.imp fun h => by omega
  refine List.Perm.eq_of_pairwise (le := fun a b => a ≤ b) (fun a b _ _ h1 h2 => by omega) ((hlt.filter _).imp fun h => by omega) ((M.vers_lt f k).imp fun h => by omega) ?_
  refine (List.perm_ext_iff_of_nodup ((hlt.filter _).imp fun h => by omega) (M.vers_nodup f k)).2 fun v => ?_
  rw [M.mem_vers, List.mem_filter]
  refine ⟨fun h => h.2, fun h => ⟨?_, h⟩⟩
  obtain ⟨a, b, hs, _⟩ := M.lgl_span h
  have := M.leg_vers _ (M.span_mem hs)
  simp only [M.versAll, List.mem_cons, List.not_mem_nil, or_false] at this
  rcases this with h1 | h1 | h1 | h1 | h1 <;> (subst h1; decide +kernel)

set_option maxRecDepth 100000 in
set_option maxHeartbeats 4000000 in
theorem rversions13_any (f k : Int) (w : World) :
    Calls Try.prog 13 #[.int .i64 f, .int .i64 k] w fun e w' => ∃ v, e = .returned v ∧ Zs w' w'.heap.size (M.vers f k) v ∧ Below w.heap.size w w' := by
  obtain ⟨i0, hi, hz0, hz1, hz2⟩ := info_parts Try.ofIntk
  rw [← M.versTo_all]
  go_enter Try.func13, Try.ntmps13
  go_wp2_with fail
  go_loopw [5, 6] (fun l i wr => ∃ n : Nat, n ≤ 127 ∧ i = .int .i64 (n : Nat) ∧ OwZ w.heap.size (M.versTo f k n) l wr ∧ Below w.heap.size w wr) (fun _ i _ => 127 - (RowKit.intOf i).toNat)
  case atStart => exact ⟨0, by omega, rfl, World.ownsRow_nil _ _ _ _, Below.refl _ _⟩
  case round =>
    obtain ⟨n, hn, rfl, hown, hW⟩ := hrel
    by_cases h : n < 127
    · have HS := Lib.hid (M.versTo_succ f k n)
      have HLg := Lib.hid (rlegal13_any f k n)
      have hlen := M.versTo_len f k n
      have hz : (n : Int) ≤ 126 := by omega
      obtain ⟨la, lc, rfl⟩ := (OwZ.zs hown).slice
      generalize hxs : M.versTo f k n = xs at *
      clear hxs
      cases hb : M.lgl f k n
      · rw [hb] at HS HLg
        simp only [Bool.false_eq_true, if_false, List.append_nil] at HS
        clear hb
        have HO := Lib.hid hown
        clear hown
        go_wp2_with fail
        refine (HLg.out _).mono ?_
        rintro e w3 ⟨rfl, hb3⟩
        go_wp2_with fail
        exact ⟨⟨n + 1, by omega, by simp, by rw [HS.out]; exact World.ownsRow.kept HO.out (grown_below hb3) (by cases (Value.slice la xs.length lc).ownBlock <;> simp), hW.trans (hb3.mono hW.size)⟩, by simp [RowKit.intOf]; omega⟩
      · rw [hb] at HS HLg
        simp only [if_true] at HS
        clear hb
        have HO := Lib.hid hown
        have HZ := Lib.hid hW.size
        clear hown
        go_wp2_with fail
        refine (HLg.out _).mono ?_
        rintro e w3 ⟨rfl, hb3⟩
        have hO3 : w3.ownsRow w.heap.size 3 1 (.slice la xs.length lc) xs.length (xs.map (Value.int .i64)) := World.ownsRow.kept HO.out (grown_below hb3) (by cases (Value.slice la xs.length lc).ownBlock <;> simp)
        have hlt := hO3.lt
        have B3 := hW.trans (hb3.mono hW.size)
        have HO3 := Lib.hid hO3
        have HLT := Lib.hid hlt
        have HB3 := Lib.hid B3
        clear hO3 hlt hb3 hW B3
        go_wp2_with (at_builtin; refine wpList_append_own _ rfl _ _ 28 rfl w.heap.size 3 i0 (.int .i64 0) 1 8 Try.underlying28 hi hz0 hz1 hz2 rfl (by decide) _ _ _ rfl (World.ownsRow.alloc HO3.out _) ⟨w3.heap.size, 0, none⟩ 1 1 [.int .i64 (n : Nat)] rfl rfl (cell_one_new _ _ _) (by simp [Value.oneCell']) (by unfold maxLen; omega) (by omega) (by have := HB3.out.size; simp; omega) ?_; intro v' w4 hown' hgrow _)
        exact ⟨⟨n + 1, by omega, by simp, by rw [HS.out]; unfold OwZ; rw [List.map_append, List.length_append]; exact hown', (HB3.out.alloc HB3.out.size _).grown hgrow (by have := HB3.out.size; simp; omega) (fun g e => (HLT.out g e).1)⟩, by simp [RowKit.intOf]; omega⟩
    · obtain rfl : n = 127 := by omega
      go_wp2_with fail
      go_ret
      exact ⟨_, rfl, OwZ.zs hown, hW⟩

set_option maxRecDepth 100000 in
set_option maxHeartbeats 4000000 in
theorem rlatest13_any (f k : Int) (w : World) : Calls Try.prog 15 #[.int .i64 f, .int .i64 k] w fun e w' =>
    e = .returned (.tuple #[.int .i64 (M.ltsV f k), .int .i64 (M.ltsE f k)]) ∧ Below w.heap.size w w' := by
  have HV := Lib.hid (rversions13_any f k w)
  unfold M.ltsV M.ltsE
  have h5 := M.vers_len f k
  generalize M.vers f k = xs at *
  by_cases h0 : xs = []
  · subst h0
    simp only [if_pos]
    go_enter Try.func15, Try.ntmps15
    go_wp2_with fail
    refine HV.out.mono ?_
    rintro e w1 ⟨v, rfl, hz, hb⟩
    obtain ⟨va, vc, rfl⟩ := hz.slice
    go_wp2_with fail
    go_ret2
    exact ⟨rfl, hb⟩
  · rw [if_neg h0, if_neg h0]
    have h1 : 1 ≤ xs.length := by cases xs with
      | nil => exact absurd rfl h0
      | cons => simp
    obtain ⟨q, hq⟩ : ∃ q, xs.length = q + 1 := ⟨xs.length - 1, by omega⟩
    rw [show xs.length - 1 = q by omega]
    obtain ⟨y, hy⟩ : ∃ y, xs.getD q 0 = y := ⟨_, rfl⟩
    rw [hy]
    clear h0
    go_enter Try.func15, Try.ntmps15
    go_wp2_with fail
    refine HV.out.mono ?_
    rintro e w1 ⟨v, rfl, hz, hb⟩
    obtain ⟨va, vc, rfl⟩ := hz.slice
    obtain ⟨g, o, rfl, hg, hc⟩ := hz.cells h1
    have c1 := hc q (by omega)
    unfold M.gi at c1
    rw [hy] at c1
    rw [hq]
    clear hc hz h1 hy
    go_wp2_with fail
    go_ret2
    exact ⟨rfl, hb⟩
end Go.Proofs.Ythlcjjfnnfifeaa
