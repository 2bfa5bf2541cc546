/- The reference's Unfixed and Parse. -/
import Derived.Test.YtcnngpmganhjoaaDoorR3
import Derived.Test.YtcnngpmganhjoaaDoorW9
import Derived.Laws.IdiomStrings
namespace Go.Proofs.YtcnngpmganhjoaaDoor
open Go Go.RowKit

theorem pv_zero (d : Nat → Int) (q : Nat) : ∀ k, k ≤ 8 * q → pv d q k = 0
  | 0, _ => rfl
  | k + 1, h => by rw [pv_same d q k (by omega), pv_zero d q k (by omega)]
theorem pv_part (N q : Nat) : ∀ r, r ≤ 8 → pv (fun j => ((N / 256 ^ j % 256 : Nat) : Int)) q (8 * q + r) = ((N / 256 ^ (8 * q) % 256 ^ r : Nat) : Int)
  | 0, _ => by rw [Nat.add_zero, pv_zero _ _ _ (Nat.le_refl _), Nat.pow_zero, Nat.mod_one]; rfl
  | r + 1, h => by
    rw [← Nat.add_assoc, pv_step _ q (8 * q + r) (by omega), pv_part N q r (by omega), show (8 * q + r) % 8 = r by omega, Nat.mod_pow_succ, Nat.pow_add, ← Nat.div_div_eq_div_mul]
    rw [Int.natCast_add, Int.natCast_mul, Int.mul_comm]
theorem pv_late (d : Nat → Int) (q : Nat) : ∀ k, pv d q (8 * q + 8 + k) = pv d q (8 * q + 8)
  | 0 => rfl
  | k + 1 => by rw [← Nat.add_assoc, pv_same d q _ (by omega), pv_late d q k]
theorem pv_pt (N q : Nat) (hq : q < 4) : pv (fun j => ((N / 256 ^ j % 256 : Nat) : Int)) q 32 = M.pt q N := by
  have e : 32 = 8 * q + 8 + (24 - 8 * q) := by omega
  rw [e, pv_late, pv_part N q 8 (by omega)]
  unfold M.pt
  rw [show (18446744073709551616 : Nat) ^ q = 256 ^ (8 * q) by rw [Nat.pow_mul]]

theorem rof_any (N g cap : Nat) (w : World) (hc : ∀ j, j < 32 → w.cell? ⟨g, j, none⟩ = some (.int .i64 ((N / 256 ^ j % 256 : Nat) : Int))) (hg : g < w.heap.size) :
    Calls Tryd.prog 30 #[.slice (some ⟨g, 0, none⟩) 32 cap] w fun e w' => e = .returned (wn N) ∧ Below w.heap.size w w' := by
  have h := of_core g cap (fun j => ((N / 256 ^ j % 256 : Nat) : Int)) w hc hg (fun j => ⟨by omega, by omega⟩)
  rw [pv_pt N 0 (by omega), pv_pt N 1 (by omega), pv_pt N 2 (by omega), pv_pt N 3 (by omega)] at h
  exact h

/-- The digits, the lowest ones first, k of them. -/
def low (N : Nat) (k : Nat) : List Int := (List.range k).map fun t => ((N / 256 ^ t % 256 : Nat) : Int)
theorem low_succ (N k : Nat) : low N (k + 1) = low N k ++ [((N / 256 ^ k % 256 : Nat) : Int)] := by simp [low, List.range_succ]
theorem low_length (N k : Nat) : (low N k).length = k := by simp [low]
theorem low_get (N k j : Nat) (h : j < k) : (low N k).getD j 0 = ((N / 256 ^ j % 256 : Nat) : Int) := by simp [low, h]

theorem be_get (k : Nat) : ∀ (N j : Nat), j < k → (M.be k N)[k - 1 - j]? = some (UInt8.ofNat (N / 256 ^ j % 256)) := by
  induction k with
  | zero => intro N j h; omega
  | succ k ih =>
    intro N j h
    rw [M.be]
    cases j with
    | zero => simp [M.be_length]
    | succ j =>
      rw [List.getElem?_append_left (by rw [M.be_length]; omega), show k + 1 - 1 - (j + 1) = k - 1 - j by omega, ih (N / 256) j (by omega), Nat.div_div_eq_div_mul, Nat.pow_succ, Nat.mul_comm]

theorem byte64 (c : UInt8) : wrap64 (c.toNat : Int) = (c.toNat : Int) := by
  have := c.toNat_lt
  unfold wrap64
  omega
theorem World.lt_of_cell {W : World} {b o : Nat} {v : Value} (h : W.cell? ⟨b, o, none⟩ = some v) : b < W.heap.size := by
  rcases Nat.lt_or_ge b W.heap.size with hl | hl
  · exact hl
  · rw [World.cell?, Array.getElem?_eq_none hl] at h
    cases h
theorem C4.lt0 {W : World} {b : Nat} {a0 a1 a2 a3 : Int} (h : C4 W b a0 a1 a2 a3) : b < W.heap.size := World.lt_of_cell h.c0
theorem C4.belowN {W W' : World} {b B : Nat} {a0 a1 a2 a3 : Int} (h : C4 W b a0 a1 a2 a3) (hb : Below B W W') (hl : b < B) : C4 W' b a0 a1 a2 a3 :=
  ⟨(hb.cell (p := ⟨b, 0, none⟩) hl).trans h.c0, (hb.cell (p := ⟨b, 1, none⟩) hl).trans h.c1, (hb.cell (p := ⟨b, 2, none⟩) hl).trans h.c2, (hb.cell (p := ⟨b, 3, none⟩) hl).trans h.c3,
   (hb.frozen (p := ⟨b, 0, none⟩) hl).trans h.f0, (hb.frozen (p := ⟨b, 1, none⟩) hl).trans h.f1, (hb.frozen (p := ⟨b, 2, none⟩) hl).trans h.f2, (hb.frozen (p := ⟨b, 3, none⟩) hl).trans h.f3⟩

theorem Tryd.infoI : (Tryd.prog.info? 3).map (fun i => (i.zero, i.size, i.bytes)) = some (some (.int .i64 0), 1, 8) := by kernel_rfl

set_option maxRecDepth 100000 in
set_option maxHeartbeats 4000000 in
theorem runfixed_core (l : List UInt8) (N : Nat) (w : World) (h32 : l.length = 32) (hd : Hid (∀ j (hj : j < 32), ((l[31 - j]'(by omega)).toNat : Int) = ((N / 256 ^ j % 256 : Nat) : Int))) :
    Calls Tryd.prog 24 #[.string ⟨l.toArray⟩] w fun e w' => e = .returned (.tuple #[wn N, .int .i64 0]) ∧ Below w.heap.size w w' := by
  obtain ⟨i0, hi, hz0, hz1, hz2⟩ := info_parts Tryd.infoI
  go_enter Tryd.func24, Tryd.ntmps24
  go_wp2_with fail
  go_loopw [4, 5] (fun v i wr => ∃ k : Nat, k ≤ 32 ∧ i = .int .i64 (31 - (k : Int)) ∧ wr.ownsRow (w.heap.size + 1) 3 1 v k ((low N k).map (Value.int .i64)) ∧ C4 wr w.heap.size 0 0 0 0 ∧ Below w.heap.size w wr)
    (fun _ i _ => (intOf i + 1).toNat)
  case atStart =>
    refine ⟨0, by omega, rfl, World.ownsRow_nil _ _ _ _, ⟨?_, ?_, ?_, ?_, ?_, ?_, ?_, ?_⟩, (Below.refl _ _).alloc (Nat.le_refl _) _⟩
    all_goals simp [go_sem]
  case round =>
    obtain ⟨k, hk, rfl, hown, H, LW⟩ := hrel
    by_cases hlt : k < 32
    · have hp : (0 : Int) ≤ 31 - (k : Int) := by omega
      have hp2 : (31 : Int) - (k : Int) < 32 := by omega
      have hz : wrap64 (((⟨l.toArray⟩ : ByteArray)[31 - k]'(by simp [ByteArray.size]; omega)).toNat : Int) = ((N / 256 ^ k % 256 : Nat) : Int) := by
        rw [← hd.out k hlt]
        exact byte64 _
      generalize hzz : ((N / 256 ^ k % 256 : Nat) : Int) = z at hz
      have HZ := Lib.hid hzz
      clear hzz
      have hsz := LW.size
      go_wp2_with (at_builtin; refine wpList_append_own _ rfl _ _ 43 rfl (w.heap.size + 1) 3 i0 (.int .i64 0) 1 8 Tryd.underlying43 hi hz0 hz1 hz2 rfl (by decide) _ _ _ rfl (hown.alloc _) ⟨wr.heap.size, 0, none⟩ 1 1 [.int .i64 z] rfl rfl (cell_one_new _ _ _) (by simp [Value.oneCell']) (by unfold maxLen; omega) (by omega) (by simp; omega) ?_; intro v' w2 hown' hgrow _)
      have hown2 : w2.ownsRow (w.heap.size + 1) 3 1 v' (k + 1) ((low N (k + 1)).map (Value.int .i64)) := by
        rw [low_succ, HZ.out, List.map_append]
        exact hown'
      have hbel : Below (w.heap.size + 1) wr w2 := by
        exact ((Below.refl _ wr).alloc (by have := H.lt0; omega) _).grown hgrow (by have := H.lt0; simp; omega) (fun q e => (hown.lt q e).1)
      replace H := H.belowN hbel (by omega)
      replace LW := LW.trans (hbel.mono (by omega))
      clear hown hown' hgrow hbel hz
      go_wp2_with fail
      refine ⟨⟨k + 1, by omega, by congr 1; omega, hown2, H, LW⟩, by simp [intOf]; omega⟩
    · obtain rfl : k = 32 := by omega
      have hlt := fun q e => hown.lt q e
      obtain ⟨g, cap, rfl, hcells⟩ := row_cells hown (by omega)
      have hg := (hlt g rfl).2
      obtain ⟨r0, r1, r2, r3, g0, g1, g2, g3⟩ := H
      clear hown hlt
      go_wp2_with fail
      refine (rof_any N g cap _ (fun j hj => by rw [hcells j (by rw [low_length]; exact hj), low_get N 32 j hj]) hg).mono ?_
      rintro e w2 ⟨rfl, hb⟩
      have lr : w.heap.size < wr.heap.size := World.lt_of_cell r0
      obtain ⟨hce, hfr⟩ := bcell hb
      replace LW := LW.trans (hb.mono LW.size)
      clear hb hcells
      go_wp2_with fail
      refine bodyPost_ret (v := .tuple #[wn N, .int .i64 0]) (by simp [results, Tryd.results24, go_sem, hce, lr, r0, r1, r2, r3]) rfl ⟨rfl, ?_⟩
      refine Below.setCell (Below.setCell (Below.setCell (Below.setCell LW (by first | omega | (simp; omega) | simp) _) (by first | omega | (simp; omega) | simp) _) (by first | omega | (simp; omega) | simp) _) (by first | omega | (simp; omega) | simp) _

theorem runfixed_any (l : List UInt8) (w : World) (h : l.length = 32) :
    Calls Tryd.prog 24 #[.string ⟨l.toArray⟩] w fun e w' => e = .returned (.tuple #[wn (M.dg l), .int .i64 0]) ∧ Below w.heap.size w w' := by
  refine runfixed_core l (M.dg l) w h ?_
  intro j hj
  have hb := be_get 32 (M.dg l) j hj
  have e : M.be 32 (M.dg l) = l := M.f32_dg h
  rw [e, show 32 - 1 - j = 31 - j by omega, List.getElem?_eq_getElem (by omega)] at hb
  rw [Option.some.inj hb]
  simp

theorem runfixed_bad (l : List UInt8) (w : World) (h : ¬ l.length = 32) :
    Calls Tryd.prog 24 #[.string ⟨l.toArray⟩] w fun e w' => e = .returned (.tuple #[wd 0 0 0 0, .int .i64 2]) ∧ Below w.heap.size w w' := by
  have hs : ((l.length : Int) != 32) = true := by rw [bne_iff_ne]; omega
  go_enter Tryd.func24, Tryd.ntmps24
  go_wp2_with fail
  refine bodyPost_ret (v := .tuple #[wd 0 0 0 0, .int .i64 2]) (by simp [results, Tryd.results24, go_sem]) rfl ⟨rfl, ?_⟩
  (repeat (first | exact Below.refl _ _ | refine Below.drew ?_ | refine Below.alloc ?_ (by first | omega | (simp; omega) | simp) _ | refine Below.setCell ?_ (by first | omega | (simp; omega) | simp) _))

theorem rparse_long (l : List UInt8) (w : World) (h : 32 < l.length) :
    Calls Tryd.prog 22 #[.string ⟨l.toArray⟩] w fun e w' => e = .returned (.tuple #[wd 0 0 0 0, .int .i64 5]) ∧ Below w.heap.size w w' := by
  go_enter Tryd.func22, Tryd.ntmps22
  go_wp2_with fail
  refine bodyPost_ret (v := .tuple #[wd 0 0 0 0, .int .i64 5]) (by simp [results, Tryd.results22, go_sem]) rfl ⟨rfl, ?_⟩
  (repeat (first | exact Below.refl _ _ | refine Below.drew ?_ | refine Below.alloc ?_ (by first | omega | (simp; omega) | simp) _ | refine Below.setCell ?_ (by first | omega | (simp; omega) | simp) _))

theorem make_0 : ∀ w : World, (Instr.makeSlice 39 (.int .i64 0) (.int .i64 0)).run Tryd.prog w = .ok (.slice (some ⟨w.heap.size, 0, none⟩) 0 0) (w.alloc (.cells #[] 5)) := fun _ => by kernel_rfl
theorem make_1 : ∀ w : World, (Instr.makeSlice 39 (.int .i64 1) (.int .i64 1)).run Tryd.prog w = .ok (.slice (some ⟨w.heap.size, 0, none⟩) 1 1) (w.alloc (.cells #[.int .u8 0] 5)) := fun _ => by kernel_rfl
theorem make_2 : ∀ w : World, (Instr.makeSlice 39 (.int .i64 2) (.int .i64 2)).run Tryd.prog w = .ok (.slice (some ⟨w.heap.size, 0, none⟩) 2 2) (w.alloc (.cells #[.int .u8 0, .int .u8 0] 5)) := fun _ => by kernel_rfl
theorem make_3 : ∀ w : World, (Instr.makeSlice 39 (.int .i64 3) (.int .i64 3)).run Tryd.prog w = .ok (.slice (some ⟨w.heap.size, 0, none⟩) 3 3) (w.alloc (.cells #[.int .u8 0, .int .u8 0, .int .u8 0] 5)) := fun _ => by kernel_rfl
theorem make_4 : ∀ w : World, (Instr.makeSlice 39 (.int .i64 4) (.int .i64 4)).run Tryd.prog w = .ok (.slice (some ⟨w.heap.size, 0, none⟩) 4 4) (w.alloc (.cells #[.int .u8 0, .int .u8 0, .int .u8 0, .int .u8 0] 5)) := fun _ => by kernel_rfl
theorem make_5 : ∀ w : World, (Instr.makeSlice 39 (.int .i64 5) (.int .i64 5)).run Tryd.prog w = .ok (.slice (some ⟨w.heap.size, 0, none⟩) 5 5) (w.alloc (.cells #[.int .u8 0, .int .u8 0, .int .u8 0, .int .u8 0, .int .u8 0] 5)) := fun _ => by kernel_rfl
theorem make_6 : ∀ w : World, (Instr.makeSlice 39 (.int .i64 6) (.int .i64 6)).run Tryd.prog w = .ok (.slice (some ⟨w.heap.size, 0, none⟩) 6 6) (w.alloc (.cells #[.int .u8 0, .int .u8 0, .int .u8 0, .int .u8 0, .int .u8 0, .int .u8 0] 5)) := fun _ => by kernel_rfl
theorem make_7 : ∀ w : World, (Instr.makeSlice 39 (.int .i64 7) (.int .i64 7)).run Tryd.prog w = .ok (.slice (some ⟨w.heap.size, 0, none⟩) 7 7) (w.alloc (.cells #[.int .u8 0, .int .u8 0, .int .u8 0, .int .u8 0, .int .u8 0, .int .u8 0, .int .u8 0] 5)) := fun _ => by kernel_rfl
theorem make_8 : ∀ w : World, (Instr.makeSlice 39 (.int .i64 8) (.int .i64 8)).run Tryd.prog w = .ok (.slice (some ⟨w.heap.size, 0, none⟩) 8 8) (w.alloc (.cells #[.int .u8 0, .int .u8 0, .int .u8 0, .int .u8 0, .int .u8 0, .int .u8 0, .int .u8 0, .int .u8 0] 5)) := fun _ => by kernel_rfl
theorem make_9 : ∀ w : World, (Instr.makeSlice 39 (.int .i64 9) (.int .i64 9)).run Tryd.prog w = .ok (.slice (some ⟨w.heap.size, 0, none⟩) 9 9) (w.alloc (.cells #[.int .u8 0, .int .u8 0, .int .u8 0, .int .u8 0, .int .u8 0, .int .u8 0, .int .u8 0, .int .u8 0, .int .u8 0] 5)) := fun _ => by kernel_rfl
theorem make_10 : ∀ w : World, (Instr.makeSlice 39 (.int .i64 10) (.int .i64 10)).run Tryd.prog w = .ok (.slice (some ⟨w.heap.size, 0, none⟩) 10 10) (w.alloc (.cells #[.int .u8 0, .int .u8 0, .int .u8 0, .int .u8 0, .int .u8 0, .int .u8 0, .int .u8 0, .int .u8 0, .int .u8 0, .int .u8 0] 5)) := fun _ => by kernel_rfl
theorem make_11 : ∀ w : World, (Instr.makeSlice 39 (.int .i64 11) (.int .i64 11)).run Tryd.prog w = .ok (.slice (some ⟨w.heap.size, 0, none⟩) 11 11) (w.alloc (.cells #[.int .u8 0, .int .u8 0, .int .u8 0, .int .u8 0, .int .u8 0, .int .u8 0, .int .u8 0, .int .u8 0, .int .u8 0, .int .u8 0, .int .u8 0] 5)) := fun _ => by kernel_rfl
theorem make_12 : ∀ w : World, (Instr.makeSlice 39 (.int .i64 12) (.int .i64 12)).run Tryd.prog w = .ok (.slice (some ⟨w.heap.size, 0, none⟩) 12 12) (w.alloc (.cells #[.int .u8 0, .int .u8 0, .int .u8 0, .int .u8 0, .int .u8 0, .int .u8 0, .int .u8 0, .int .u8 0, .int .u8 0, .int .u8 0, .int .u8 0, .int .u8 0] 5)) := fun _ => by kernel_rfl
theorem make_13 : ∀ w : World, (Instr.makeSlice 39 (.int .i64 13) (.int .i64 13)).run Tryd.prog w = .ok (.slice (some ⟨w.heap.size, 0, none⟩) 13 13) (w.alloc (.cells #[.int .u8 0, .int .u8 0, .int .u8 0, .int .u8 0, .int .u8 0, .int .u8 0, .int .u8 0, .int .u8 0, .int .u8 0, .int .u8 0, .int .u8 0, .int .u8 0, .int .u8 0] 5)) := fun _ => by kernel_rfl
theorem make_14 : ∀ w : World, (Instr.makeSlice 39 (.int .i64 14) (.int .i64 14)).run Tryd.prog w = .ok (.slice (some ⟨w.heap.size, 0, none⟩) 14 14) (w.alloc (.cells #[.int .u8 0, .int .u8 0, .int .u8 0, .int .u8 0, .int .u8 0, .int .u8 0, .int .u8 0, .int .u8 0, .int .u8 0, .int .u8 0, .int .u8 0, .int .u8 0, .int .u8 0, .int .u8 0] 5)) := fun _ => by kernel_rfl
theorem make_15 : ∀ w : World, (Instr.makeSlice 39 (.int .i64 15) (.int .i64 15)).run Tryd.prog w = .ok (.slice (some ⟨w.heap.size, 0, none⟩) 15 15) (w.alloc (.cells #[.int .u8 0, .int .u8 0, .int .u8 0, .int .u8 0, .int .u8 0, .int .u8 0, .int .u8 0, .int .u8 0, .int .u8 0, .int .u8 0, .int .u8 0, .int .u8 0, .int .u8 0, .int .u8 0, .int .u8 0] 5)) := fun _ => by kernel_rfl
theorem make_16 : ∀ w : World, (Instr.makeSlice 39 (.int .i64 16) (.int .i64 16)).run Tryd.prog w = .ok (.slice (some ⟨w.heap.size, 0, none⟩) 16 16) (w.alloc (.cells #[.int .u8 0, .int .u8 0, .int .u8 0, .int .u8 0, .int .u8 0, .int .u8 0, .int .u8 0, .int .u8 0, .int .u8 0, .int .u8 0, .int .u8 0, .int .u8 0, .int .u8 0, .int .u8 0, .int .u8 0, .int .u8 0] 5)) := fun _ => by kernel_rfl
theorem make_17 : ∀ w : World, (Instr.makeSlice 39 (.int .i64 17) (.int .i64 17)).run Tryd.prog w = .ok (.slice (some ⟨w.heap.size, 0, none⟩) 17 17) (w.alloc (.cells #[.int .u8 0, .int .u8 0, .int .u8 0, .int .u8 0, .int .u8 0, .int .u8 0, .int .u8 0, .int .u8 0, .int .u8 0, .int .u8 0, .int .u8 0, .int .u8 0, .int .u8 0, .int .u8 0, .int .u8 0, .int .u8 0, .int .u8 0] 5)) := fun _ => by kernel_rfl
theorem make_18 : ∀ w : World, (Instr.makeSlice 39 (.int .i64 18) (.int .i64 18)).run Tryd.prog w = .ok (.slice (some ⟨w.heap.size, 0, none⟩) 18 18) (w.alloc (.cells #[.int .u8 0, .int .u8 0, .int .u8 0, .int .u8 0, .int .u8 0, .int .u8 0, .int .u8 0, .int .u8 0, .int .u8 0, .int .u8 0, .int .u8 0, .int .u8 0, .int .u8 0, .int .u8 0, .int .u8 0, .int .u8 0, .int .u8 0, .int .u8 0] 5)) := fun _ => by kernel_rfl
theorem make_19 : ∀ w : World, (Instr.makeSlice 39 (.int .i64 19) (.int .i64 19)).run Tryd.prog w = .ok (.slice (some ⟨w.heap.size, 0, none⟩) 19 19) (w.alloc (.cells #[.int .u8 0, .int .u8 0, .int .u8 0, .int .u8 0, .int .u8 0, .int .u8 0, .int .u8 0, .int .u8 0, .int .u8 0, .int .u8 0, .int .u8 0, .int .u8 0, .int .u8 0, .int .u8 0, .int .u8 0, .int .u8 0, .int .u8 0, .int .u8 0, .int .u8 0] 5)) := fun _ => by kernel_rfl
theorem make_20 : ∀ w : World, (Instr.makeSlice 39 (.int .i64 20) (.int .i64 20)).run Tryd.prog w = .ok (.slice (some ⟨w.heap.size, 0, none⟩) 20 20) (w.alloc (.cells #[.int .u8 0, .int .u8 0, .int .u8 0, .int .u8 0, .int .u8 0, .int .u8 0, .int .u8 0, .int .u8 0, .int .u8 0, .int .u8 0, .int .u8 0, .int .u8 0, .int .u8 0, .int .u8 0, .int .u8 0, .int .u8 0, .int .u8 0, .int .u8 0, .int .u8 0, .int .u8 0] 5)) := fun _ => by kernel_rfl
theorem make_21 : ∀ w : World, (Instr.makeSlice 39 (.int .i64 21) (.int .i64 21)).run Tryd.prog w = .ok (.slice (some ⟨w.heap.size, 0, none⟩) 21 21) (w.alloc (.cells #[.int .u8 0, .int .u8 0, .int .u8 0, .int .u8 0, .int .u8 0, .int .u8 0, .int .u8 0, .int .u8 0, .int .u8 0, .int .u8 0, .int .u8 0, .int .u8 0, .int .u8 0, .int .u8 0, .int .u8 0, .int .u8 0, .int .u8 0, .int .u8 0, .int .u8 0, .int .u8 0, .int .u8 0] 5)) := fun _ => by kernel_rfl
theorem make_22 : ∀ w : World, (Instr.makeSlice 39 (.int .i64 22) (.int .i64 22)).run Tryd.prog w = .ok (.slice (some ⟨w.heap.size, 0, none⟩) 22 22) (w.alloc (.cells #[.int .u8 0, .int .u8 0, .int .u8 0, .int .u8 0, .int .u8 0, .int .u8 0, .int .u8 0, .int .u8 0, .int .u8 0, .int .u8 0, .int .u8 0, .int .u8 0, .int .u8 0, .int .u8 0, .int .u8 0, .int .u8 0, .int .u8 0, .int .u8 0, .int .u8 0, .int .u8 0, .int .u8 0, .int .u8 0] 5)) := fun _ => by kernel_rfl
theorem make_23 : ∀ w : World, (Instr.makeSlice 39 (.int .i64 23) (.int .i64 23)).run Tryd.prog w = .ok (.slice (some ⟨w.heap.size, 0, none⟩) 23 23) (w.alloc (.cells #[.int .u8 0, .int .u8 0, .int .u8 0, .int .u8 0, .int .u8 0, .int .u8 0, .int .u8 0, .int .u8 0, .int .u8 0, .int .u8 0, .int .u8 0, .int .u8 0, .int .u8 0, .int .u8 0, .int .u8 0, .int .u8 0, .int .u8 0, .int .u8 0, .int .u8 0, .int .u8 0, .int .u8 0, .int .u8 0, .int .u8 0] 5)) := fun _ => by kernel_rfl
theorem make_24 : ∀ w : World, (Instr.makeSlice 39 (.int .i64 24) (.int .i64 24)).run Tryd.prog w = .ok (.slice (some ⟨w.heap.size, 0, none⟩) 24 24) (w.alloc (.cells #[.int .u8 0, .int .u8 0, .int .u8 0, .int .u8 0, .int .u8 0, .int .u8 0, .int .u8 0, .int .u8 0, .int .u8 0, .int .u8 0, .int .u8 0, .int .u8 0, .int .u8 0, .int .u8 0, .int .u8 0, .int .u8 0, .int .u8 0, .int .u8 0, .int .u8 0, .int .u8 0, .int .u8 0, .int .u8 0, .int .u8 0, .int .u8 0] 5)) := fun _ => by kernel_rfl
theorem make_25 : ∀ w : World, (Instr.makeSlice 39 (.int .i64 25) (.int .i64 25)).run Tryd.prog w = .ok (.slice (some ⟨w.heap.size, 0, none⟩) 25 25) (w.alloc (.cells #[.int .u8 0, .int .u8 0, .int .u8 0, .int .u8 0, .int .u8 0, .int .u8 0, .int .u8 0, .int .u8 0, .int .u8 0, .int .u8 0, .int .u8 0, .int .u8 0, .int .u8 0, .int .u8 0, .int .u8 0, .int .u8 0, .int .u8 0, .int .u8 0, .int .u8 0, .int .u8 0, .int .u8 0, .int .u8 0, .int .u8 0, .int .u8 0, .int .u8 0] 5)) := fun _ => by kernel_rfl
theorem make_26 : ∀ w : World, (Instr.makeSlice 39 (.int .i64 26) (.int .i64 26)).run Tryd.prog w = .ok (.slice (some ⟨w.heap.size, 0, none⟩) 26 26) (w.alloc (.cells #[.int .u8 0, .int .u8 0, .int .u8 0, .int .u8 0, .int .u8 0, .int .u8 0, .int .u8 0, .int .u8 0, .int .u8 0, .int .u8 0, .int .u8 0, .int .u8 0, .int .u8 0, .int .u8 0, .int .u8 0, .int .u8 0, .int .u8 0, .int .u8 0, .int .u8 0, .int .u8 0, .int .u8 0, .int .u8 0, .int .u8 0, .int .u8 0, .int .u8 0, .int .u8 0] 5)) := fun _ => by kernel_rfl
theorem make_27 : ∀ w : World, (Instr.makeSlice 39 (.int .i64 27) (.int .i64 27)).run Tryd.prog w = .ok (.slice (some ⟨w.heap.size, 0, none⟩) 27 27) (w.alloc (.cells #[.int .u8 0, .int .u8 0, .int .u8 0, .int .u8 0, .int .u8 0, .int .u8 0, .int .u8 0, .int .u8 0, .int .u8 0, .int .u8 0, .int .u8 0, .int .u8 0, .int .u8 0, .int .u8 0, .int .u8 0, .int .u8 0, .int .u8 0, .int .u8 0, .int .u8 0, .int .u8 0, .int .u8 0, .int .u8 0, .int .u8 0, .int .u8 0, .int .u8 0, .int .u8 0, .int .u8 0] 5)) := fun _ => by kernel_rfl
theorem make_28 : ∀ w : World, (Instr.makeSlice 39 (.int .i64 28) (.int .i64 28)).run Tryd.prog w = .ok (.slice (some ⟨w.heap.size, 0, none⟩) 28 28) (w.alloc (.cells #[.int .u8 0, .int .u8 0, .int .u8 0, .int .u8 0, .int .u8 0, .int .u8 0, .int .u8 0, .int .u8 0, .int .u8 0, .int .u8 0, .int .u8 0, .int .u8 0, .int .u8 0, .int .u8 0, .int .u8 0, .int .u8 0, .int .u8 0, .int .u8 0, .int .u8 0, .int .u8 0, .int .u8 0, .int .u8 0, .int .u8 0, .int .u8 0, .int .u8 0, .int .u8 0, .int .u8 0, .int .u8 0] 5)) := fun _ => by kernel_rfl
theorem make_29 : ∀ w : World, (Instr.makeSlice 39 (.int .i64 29) (.int .i64 29)).run Tryd.prog w = .ok (.slice (some ⟨w.heap.size, 0, none⟩) 29 29) (w.alloc (.cells #[.int .u8 0, .int .u8 0, .int .u8 0, .int .u8 0, .int .u8 0, .int .u8 0, .int .u8 0, .int .u8 0, .int .u8 0, .int .u8 0, .int .u8 0, .int .u8 0, .int .u8 0, .int .u8 0, .int .u8 0, .int .u8 0, .int .u8 0, .int .u8 0, .int .u8 0, .int .u8 0, .int .u8 0, .int .u8 0, .int .u8 0, .int .u8 0, .int .u8 0, .int .u8 0, .int .u8 0, .int .u8 0, .int .u8 0] 5)) := fun _ => by kernel_rfl
theorem make_30 : ∀ w : World, (Instr.makeSlice 39 (.int .i64 30) (.int .i64 30)).run Tryd.prog w = .ok (.slice (some ⟨w.heap.size, 0, none⟩) 30 30) (w.alloc (.cells #[.int .u8 0, .int .u8 0, .int .u8 0, .int .u8 0, .int .u8 0, .int .u8 0, .int .u8 0, .int .u8 0, .int .u8 0, .int .u8 0, .int .u8 0, .int .u8 0, .int .u8 0, .int .u8 0, .int .u8 0, .int .u8 0, .int .u8 0, .int .u8 0, .int .u8 0, .int .u8 0, .int .u8 0, .int .u8 0, .int .u8 0, .int .u8 0, .int .u8 0, .int .u8 0, .int .u8 0, .int .u8 0, .int .u8 0, .int .u8 0] 5)) := fun _ => by kernel_rfl
theorem make_31 : ∀ w : World, (Instr.makeSlice 39 (.int .i64 31) (.int .i64 31)).run Tryd.prog w = .ok (.slice (some ⟨w.heap.size, 0, none⟩) 31 31) (w.alloc (.cells #[.int .u8 0, .int .u8 0, .int .u8 0, .int .u8 0, .int .u8 0, .int .u8 0, .int .u8 0, .int .u8 0, .int .u8 0, .int .u8 0, .int .u8 0, .int .u8 0, .int .u8 0, .int .u8 0, .int .u8 0, .int .u8 0, .int .u8 0, .int .u8 0, .int .u8 0, .int .u8 0, .int .u8 0, .int .u8 0, .int .u8 0, .int .u8 0, .int .u8 0, .int .u8 0, .int .u8 0, .int .u8 0, .int .u8 0, .int .u8 0, .int .u8 0] 5)) := fun _ => by kernel_rfl
theorem make_32 : ∀ w : World, (Instr.makeSlice 39 (.int .i64 32) (.int .i64 32)).run Tryd.prog w = .ok (.slice (some ⟨w.heap.size, 0, none⟩) 32 32) (w.alloc (.cells #[.int .u8 0, .int .u8 0, .int .u8 0, .int .u8 0, .int .u8 0, .int .u8 0, .int .u8 0, .int .u8 0, .int .u8 0, .int .u8 0, .int .u8 0, .int .u8 0, .int .u8 0, .int .u8 0, .int .u8 0, .int .u8 0, .int .u8 0, .int .u8 0, .int .u8 0, .int .u8 0, .int .u8 0, .int .u8 0, .int .u8 0, .int .u8 0, .int .u8 0, .int .u8 0, .int .u8 0, .int .u8 0, .int .u8 0, .int .u8 0, .int .u8 0, .int .u8 0] 5)) := fun _ => by kernel_rfl
theorem make_any (n : Nat) (h : n ≤ 32) (w : World) : (Instr.makeSlice 39 (.int .i64 (n : Int)) (.int .i64 (n : Int))).run Tryd.prog w = .ok (.slice (some ⟨w.heap.size, 0, none⟩) n n) (w.alloc (.cells (List.replicate n (.int .u8 0)).toArray 5)) := by
  have : n = 0 ∨ n = 1 ∨ n = 2 ∨ n = 3 ∨ n = 4 ∨ n = 5 ∨ n = 6 ∨ n = 7 ∨ n = 8 ∨ n = 9 ∨ n = 10 ∨ n = 11 ∨ n = 12 ∨ n = 13 ∨ n = 14 ∨ n = 15 ∨ n = 16 ∨ n = 17 ∨ n = 18 ∨ n = 19 ∨ n = 20 ∨ n = 21 ∨ n = 22 ∨ n = 23 ∨ n = 24 ∨ n = 25 ∨ n = 26 ∨ n = 27 ∨ n = 28 ∨ n = 29 ∨ n = 30 ∨ n = 31 ∨ n = 32 := by omega
  rcases this with rfl | rfl | rfl | rfl | rfl | rfl | rfl | rfl | rfl | rfl | rfl | rfl | rfl | rfl | rfl | rfl | rfl | rfl | rfl | rfl | rfl | rfl | rfl | rfl | rfl | rfl | rfl | rfl | rfl | rfl | rfl | rfl | rfl
  · exact make_0 w
  · exact make_1 w
  · exact make_2 w
  · exact make_3 w
  · exact make_4 w
  · exact make_5 w
  · exact make_6 w
  · exact make_7 w
  · exact make_8 w
  · exact make_9 w
  · exact make_10 w
  · exact make_11 w
  · exact make_12 w
  · exact make_13 w
  · exact make_14 w
  · exact make_15 w
  · exact make_16 w
  · exact make_17 w
  · exact make_18 w
  · exact make_19 w
  · exact make_20 w
  · exact make_21 w
  · exact make_22 w
  · exact make_23 w
  · exact make_24 w
  · exact make_25 w
  · exact make_26 w
  · exact make_27 w
  · exact make_28 w
  · exact make_29 w
  · exact make_30 w
  · exact make_31 w
  · exact make_32 w

theorem zeros_any (n : Nat) (W : World) : (convert 39 9 (.slice (some ⟨W.heap.size, 0, none⟩) n n)).run Tryd.prog (W.alloc (.cells (List.replicate n (.int .u8 0)).toArray 5)) = .ok (.string ⟨(List.replicate n (0 : UInt8)).toArray⟩) (W.alloc (.cells (List.replicate n (.int .u8 0)).toArray 5)) := by
  have h := run_convert_bytes_back (W.alloc (.cells (List.replicate n (.int .u8 0)).toArray 5)) 39 9 5 ⟨W.heap.size, 0, none⟩ n (List.replicate n (0 : UInt8)) Tryd.underlying39 Tryd.underlying5 Tryd.underlying9 (fun j hj => by
    have hj' : j < n := by simpa using hj
    have e : (⟨W.heap.size, 0, none⟩ : Addr).add j = ⟨W.heap.size, j, none⟩ := by unfold Addr.add; split <;> simp_all
    rw [e, World.cell?_alloc_new]
    simp [hj'])
  rw [List.length_replicate] at h
  exact h

theorem head_zero (c : UInt8) (r : List UInt8) (hc : ¬ c = 0) : ((((⟨(c :: r).toArray⟩ : ByteArray)[0]'(by simp [ByteArray.size])).toNat : Int) == 0) = false := by
  rw [beq_eq_false_iff_ne]
  intro h
  apply hc
  apply UInt8.toNat.inj
  have h' : (c.toNat : Int) = 0 := h
  show c.toNat = 0
  omega

theorem rparse_spare (r : List UInt8) (w : World) (h : r.length + 1 ≤ 32) :
    Calls Tryd.prog 22 #[.string ⟨(0 :: r).toArray⟩] w fun e w' => e = .returned (.tuple #[wd 0 0 0 0, .int .i64 8]) ∧ Below w.heap.size w w' := by
  go_enter Tryd.func22, Tryd.ntmps22
  go_wp2_with fail
  refine bodyPost_ret (v := .tuple #[wd 0 0 0 0, .int .i64 8]) (by simp [results, Tryd.results22, go_sem]) rfl ⟨rfl, ?_⟩
  (repeat (first | exact Below.refl _ _ | refine Below.drew ?_ | refine Below.alloc ?_ (by first | omega | (simp; omega) | simp) _ | refine Below.setCell ?_ (by first | omega | (simp; omega) | simp) _))
end Go.Proofs.YtcnngpmganhjoaaDoor
