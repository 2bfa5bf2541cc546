/- The reference's bytes of a word: Fixed, Bytes, Small. -/
import Derived.Test.YtmlkccbhdhgoeaaDoorR1g
import Derived.Test.YtmlkccbhdhgoeaaDoorKWg
import Derived.Laws.BytesArg
import Derived.Maps.AppendAt
import Derived.Deep.RegionHeld3
namespace Go.Proofs.YtmlkccbhdhgoeaaDoor
open Go Go.RowKit

/-- What is owned lies where it lay. -/
theorem owned_below {w w' : World} {B e size n : Nat} {v : Value} {xs : List Value} (h : w.ownsRow B e size v n xs) (hb : Below w.heap.size w w') : w'.ownsRow B e size v n xs := by
  obtain ⟨hl, hr⟩ := h
  refine ⟨hl, hr.imp id ?_⟩
  rintro ⟨g, cap, cur, e1, e2, e3, e4⟩
  exact ⟨g, cap, cur, e1, e2, (hb.block g (Array.getElem?_eq_some_iff.1 e3).1).trans e3, e4⟩

/-- The digits, the highest ones first, k of them. -/
def top (N : Nat) (k : Nat) : List Int := (List.range k).map fun t => ((N / 256 ^ (31 - t) % 256 : Nat) : Int)
theorem top_succ (N k : Nat) : top N (k + 1) = top N k ++ [((N / 256 ^ (31 - k) % 256 : Nat) : Int)] := by simp [top, List.range_succ]
theorem top_length (N k : Nat) : (top N k).length = k := by simp [top]

theorem W4.belowN {W W' : World} {b B : Nat} {a0 a1 a2 a3 : Int} (h : W4 W b a0 a1 a2 a3) (hb : Below B W W') (hl : b < B) : W4 W' b a0 a1 a2 a3 :=
  ⟨(hb.cell (p := ⟨b, 0, none⟩) hl).trans h.c0, (hb.cell (p := ⟨b, 1, none⟩) hl).trans h.c1, (hb.cell (p := ⟨b, 2, none⟩) hl).trans h.c2, (hb.cell (p := ⟨b, 3, none⟩) hl).trans h.c3, Nat.lt_of_lt_of_le h.lt hb.size⟩

/-- A row that is owned and not empty: where it lies, and its cells. -/
theorem row_cells {w : World} {B e n : Nat} {v : Value} {q : IntKind} {xs : List Int} (h : w.ownsRow B e 1 v n (xs.map (Value.int q))) (hn : 0 < n) :
    ∃ g cap, v = .slice (some ⟨g, 0, none⟩) n cap ∧ ∀ i, i < xs.length → w.cell? ⟨g, i, none⟩ = some (.int q (xs.getD i 0)) := by
  rcases h.2 with ⟨_, h0⟩ | ⟨g, cap, cur, rfl, _⟩
  · omega
  · refine ⟨g, cap, rfl, fun i hi => ?_⟩
    have := h.cells (g := g) rfl i (.int q (xs.getD i 0)) (by simp [List.getElem?_eq_getElem hi, List.getD])
    by_cases h0 : i = 0
    · subst h0
      simpa [Addr.add] using this
    · simpa [Addr.add, h0] using this

theorem digit_at (N : Nat) (i : Int) (w : World) (h0 : 0 ≤ i) (h1 : i < 32) :
    Calls Tryd.prog 89 #[wn N, .int .i64 i] w fun e w' => e = .returned (.int .i64 ((N / 256 ^ i.toNat % 256 : Nat) : Int)) ∧ Below w.heap.size w w' := by
  obtain ⟨k, rfl⟩ := Int.eq_ofNat_of_zero_le h0
  exact digit_any N k w (by omega)

theorem Tryd.infoU8 : (Tryd.prog.info? 5).map (fun i => (i.zero, i.size, i.bytes)) = some (some (.int .u8 0), 1, 1) := by kernel_rfl

set_option maxRecDepth 100000 in
set_option maxHeartbeats 2000000 in
theorem rfixed_core (N : Nat) (w : World) :
    Calls Tryd.prog 85 #[wn N] w fun e w' => e = .returned (.string (strOfNums (top N 32))) ∧ Below w.heap.size w w' := by
  obtain ⟨i0, hi, hz0, hz1, hz2⟩ := info_parts Tryd.infoU8
  go_enter Tryd.func85, Tryd.ntmps85
  go_wp2_with fail
  go_loopw [3, 4] (fun v i wr => ∃ k : Nat, k ≤ 32 ∧ i = .int .i64 (31 - (k : Int)) ∧ wr.ownsRow (w.heap.size + 1) 5 1 v k ((top N k).map (Value.int .u8)) ∧ W4 wr w.heap.size (M.pt 0 N) (M.pt 1 N) (M.pt 2 N) (M.pt 3 N) ∧ Below w.heap.size w wr)
    (fun _ i _ => (intOf i + 1).toNat)
  case atStart =>
    refine ⟨0, by omega, rfl, World.ownsRow_nil _ _ _ _, W4.new _ _ _ _ _ _, (Below.refl _ _).alloc (Nat.le_refl _) _⟩
  case round =>
    obtain ⟨k, hk, rfl, hown, H, LW⟩ := hrel
    by_cases hlt : k < 32
    · have hp : (0 : Int) ≤ 31 - (k : Int) := by omega
      obtain ⟨p0, p1, p2, p3, lp⟩ := id H
      go_wp2_with fail
      refine (digit_at N _ _ (by omega) (by omega)).mono ?_
      rintro e w1 ⟨rfl, hb⟩
      replace hown := owned_below hown hb
      replace H := H.below hb
      replace LW := LW.trans (hb.mono LW.size)
      have hsz := H.lt
      clear p0 p1 p2 p3 lp hb
      generalize hz : ((N / 256 ^ (31 - (k : Int)).toNat % 256 : Nat) : Int) = z
      have HZ : Hid (z = ((N / 256 ^ (31 - k) % 256 : Nat) : Int)) := by
        show z = _
        rw [← hz, show (31 - (k : Int)).toNat = 31 - k by omega]
      have z0 : 0 ≤ z := by omega
      have z1 : z < 256 := by omega
      clear hz
      go_wp2_with (at_builtin; refine wpList_append_own _ rfl _ _ 88 rfl (w.heap.size + 1) 5 i0 (.int .u8 0) 1 1 Tryd.underlying88 hi hz0 hz1 hz2 rfl (by decide) _ _ _ rfl (hown.alloc _) ⟨w1.heap.size, 0, none⟩ 1 1 [.int .u8 z] rfl rfl (cell_one_new _ _ _) (by simp [Value.oneCell']) (by unfold maxLen; omega) (by omega) (by simp; omega) ?_; intro v' w2 hown' hgrow _)
      have hown2 : w2.ownsRow (w.heap.size + 1) 5 1 v' (k + 1) ((top N (k + 1)).map (Value.int .u8)) := by
        rw [top_succ, ← HZ.out, List.map_append]
        exact hown'
      have hbel : Below (w.heap.size + 1) w1 w2 := by
        exact ((Below.refl _ w1).alloc (by omega) _).grown hgrow (by simp; omega) (fun q e => (hown.lt q e).1)
      replace H := H.belowN hbel (by omega)
      replace LW := LW.trans (hbel.mono (by omega))
      clear hown hown' hgrow hbel
      go_wp2_with fail
      refine ⟨⟨k + 1, by omega, by congr 1; omega, hown2, H, LW⟩, by simp [intOf]; omega⟩
    · obtain rfl : k = 32 := by omega
      obtain ⟨g, cap, rfl, hcells⟩ := row_cells hown (by omega)
      have hr := run_convert_bytes_arg wr 88 5 Tryd.underlying88 Tryd.underlying5 g 0 32 cap (top N 32) (top_length N 32) (fun i hi => by rw [Nat.zero_add]; exact hcells i (by rw [top_length]; exact hi)) 9 Tryd.underlying9
      clear hown hcells H
      go_wp2_with fail
      go_ret
      exact ⟨rfl, LW⟩

theorem top_bytes (N : Nat) : ∀ k, k ≤ 32 → (top N k).map (fun n => UInt8.ofNat n.toNat) = M.be k (N / 256 ^ (32 - k))
  | 0, _ => rfl
  | k + 1, h => by
    rw [top_succ, List.map_append, top_bytes N k (by omega), M.be]
    have e : N / 256 ^ (32 - (k + 1)) / 256 = N / 256 ^ (32 - k) := by
      rw [Nat.div_div_eq_div_mul, ← Nat.pow_succ, show (32 - (k + 1)).succ = 32 - k by omega]
    rw [e]
    simp only [List.map_cons, List.map_nil, Int.toNat_natCast]
    rw [show 32 - (k + 1) = 31 - k by omega]

theorem rfixed_any (N : Nat) (w : World) :
    Calls Tryd.prog 85 #[wn N] w fun e w' => e = .returned (.string ⟨(M.f32 N).toArray⟩) ∧ Below w.heap.size w w' := by
  have h := rfixed_core N w
  have e : strOfNums (top N 32) = ⟨(M.f32 N).toArray⟩ := by
    unfold strOfNums
    rw [top_bytes N 32 (by omega), Nat.sub_self, Nat.pow_zero, Nat.div_one]
    rfl
  rw [e] at h
  exact h

theorem tr_zero (r : List UInt8) : M.tr (0 :: r) = M.tr r := rfl
theorem size_one (c : UInt8) (r : List UInt8) : (⟨r.toArray⟩ : ByteArray).size < (⟨(c :: r).toArray⟩ : ByteArray).size := by simp [ByteArray.size]
theorem cut_one (c : UInt8) (r : List UInt8) : (⟨(c :: r).toArray⟩ : ByteArray).extract 1 (r.length + 1) = ⟨r.toArray⟩ := by
  apply ByteArray.ext
  simp

set_option maxHeartbeats 2000000 in
theorem rbytes_gen (N : Nat) (l0 : List UInt8) (w : World) (hf : Hid (∀ w : World, Calls Tryd.prog 85 #[wn N] w fun e w' => e = .returned (.string ⟨l0.toArray⟩) ∧ Below w.heap.size w w')) :
    Calls Tryd.prog 79 #[wn N] w fun e w' => (∃ l, e = .returned (.string ⟨l.toArray⟩) ∧ M.tr l0 = M.tr l ∧ ∀ c r, l = c :: r → c ≠ 0) ∧ Below w.heap.size w w' := by
  go_enter Tryd.func79, Tryd.ntmps79
  go_wp2_with fail
  refine (hf.out _).mono ?_
  rintro e w1 ⟨rfl, hb⟩
  have LW : Below w.heap.size w w1 := ((Below.refl _ w).alloc (Nat.le_refl _) _).trans (hb.mono (by simp))
  clear hb hf
  go_wp2_with fail
  go_loop [3] (fun v => ∃ l : List UInt8, v = .string ⟨l.toArray⟩ ∧ M.tr l = M.tr l0) (fun v => match v with | .string s => s.size | _ => 0)
  case atStart => exact ⟨l0, rfl, rfl⟩
  case round =>
    obtain ⟨l, rfl, hl⟩ := hrel
    match l, hl with
    | [], hl =>
      go_wp2_with fail
      go_ret
      exact ⟨⟨[], rfl, hl.symm, fun _ _ h => nomatch h⟩, LW⟩
    | c :: r, hl =>
      by_cases hc : c = 0
      · subst hc
        go_wp2_with fail
        rw [cut_one 0 r]
        exact ⟨⟨r, rfl, (tr_zero r).symm.trans hl⟩, size_one 0 r⟩
      · go_wp2_with fail
        · exfalso
          have h : (((c.toNat : Nat) : Int) == 0) = true := by assumption
          exact hc (UInt8.toNat.inj (by simpa using h))
        · go_ret
          exact ⟨⟨c :: r, rfl, hl.symm, fun _ _ h => by cases h; exact hc⟩, LW⟩

theorem rbytes_core (N : Nat) (w : World) :
    Calls Tryd.prog 79 #[wn N] w fun e w' => e = .returned (.string ⟨(M.tr (M.f32 N)).toArray⟩) ∧ Below w.heap.size w w' := by
  refine (rbytes_gen N (M.f32 N) w (rfixed_any N)).mono ?_
  rintro e w' ⟨⟨l, rfl, h1, h2⟩, hb⟩
  have := M.tr_zeros 0 l h2
  rw [h1]
  exact ⟨congrArg (fun l : List UInt8 => Ending.returned (.string ⟨l.toArray⟩)) this.symm, hb⟩
end Go.Proofs.YtmlkccbhdhgoeaaDoor
