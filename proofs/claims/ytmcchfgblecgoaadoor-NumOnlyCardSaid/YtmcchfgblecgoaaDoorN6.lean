/- The contract of num.Le: a number's bytes, the lowest ones first. -/
import Derived.Test.YtmcchfgblecgoaaDoorN4
import Derived.Test.YtmcchfgblecgoaaDoorN5
import Derived.Deep.OwnRows
import Derived.Laws.BytesArg
namespace Go.Proofs.YtmcchfgblecgoaaDoor
open Go Go.RowKit Go.Shelf
attribute [local go_sem] Oper.semAt_some

theorem Tryd.infoByte : (Tryd.prog.info? 5).map (fun i => (i.zero, i.size, i.bytes)) = some (some (.int .u8 0), 1, 1) := by kernel_rfl

theorem made_cell (w : World) (z : Value) (k t j : Nat) (h : j < k) : (w.alloc (.cells (madeCells #[z] k) t)).cell? ⟨w.heap.size, j, none⟩ = some z ∧ (w.alloc (.cells (madeCells #[z] k) t)).frozen? ⟨w.heap.size, j, none⟩ = false := by
  refine ⟨?_, by simp [go_sem]⟩
  have : (madeCells #[z] k)[j]? = some z := by
    unfold madeCells
    simp [h, Nat.mod_one]
  simp [go_sem, this]

/-- What lies in memory when m bytes have been put. -/
structure LX (w : World) (h k N m : Nat) (W : World) : Prop where
  box : W.cell? ⟨h + 1, 0, none⟩ = some (.slice (some ⟨h, 0, none⟩) k k)
  fr : ∀ j, j < k → W.frozen? ⟨h, j, none⟩ = false
  lo : ∀ j, j < m → W.cell? ⟨h, j, none⟩ = some (.int .u8 ((digN 8 N j : Nat) : Int))
  hi : ∀ j, m ≤ j → j < k → W.cell? ⟨h, j, none⟩ = some (.int .u8 0)
  cn : W.cell? ⟨h + 2, 0, none⟩ = some (.int .u64 N)
  cs : W.cell? ⟨h + 3, 0, none⟩ = some (.int .i64 8)
  low : Below w.heap.size w W
  ge : h + 4 ≤ W.heap.size
  le : m ≤ k

theorem lx_own {w : World} {h k N B : Nat} (hk : h + 4 ≤ B) (hw : w.heap.size ≤ h) : OwnFrom B (LX w h k N) := by
  intro m W W' row hf hg hr
  have hr' : ∀ r, row = some r → ∃ o : Obj, W.heap[r]? = some o ∧ o.isCells = false := fun r e => (hr r e).2
  have hm := hf.le
  have som : ∀ j, j < k → ∃ u, W.cell? ⟨h, j, none⟩ = some u := fun j hj => by
    rcases Nat.lt_or_ge j m with h1 | h1
    · exact ⟨_, hf.lo j h1⟩
    · exact ⟨_, hf.hi j h1 hj⟩
  refine ⟨cell_kept hf.box hg hr', fun j hj => ?_, fun j hj => cell_kept (hf.lo j hj) hg hr', fun j h1 h2 => cell_kept (hf.hi j h1 h2) hg hr', cell_kept hf.cn hg hr', cell_kept hf.cs hg hr', hf.low.grown hg hf.low.size (fun k e => by have := (hr k e).1; omega), ?_, hm⟩
  · obtain ⟨u, hu⟩ := som j hj
    exact (frozen_kept hu hg hr').trans (hf.fr j hj)
  · have := ((Below.refl 0 W).grown hg (by omega) (fun _ _ => Nat.zero_le _)).size
    have := hf.ge
    omega

theorem lx_step {w W : World} {h k N m : Nat} (hf : LX w h k N m W) (hm : m < k) (hw : w.heap.size ≤ h) : LX w h k N (m + 1) (W.setCell ⟨h, m, none⟩ (.int .u8 ((digN 8 N m : Nat) : Int))) := by
  obtain ⟨box, fr, lo, hi, cn, cs, low, ge, _⟩ := hf
  have hh : h < W.heap.size := by omega
  have hm0 := hi m (Nat.le_refl _) hm
  refine ⟨by simp [go_sem, box], fun j hj => by simp [go_sem, fr j hj], fun j hj => ?_, fun j h1 h2 => ?_, by simp [go_sem, cn], by simp [go_sem, cs], low.setCell (p := ⟨h, m, none⟩) hw _, by simpa using ge, hm⟩
  · by_cases e : j = m
    · subst e
      simp [go_sem, hm0]
    · simp [go_sem, lo j (by omega)]
  · have e : j ≠ m := by omega
    simp [go_sem, hi j (by omega) h2]

theorem le_bytes (k N : Nat) : ((List.range k).map fun j => ((digN 8 N j : Nat) : Int)).map (fun n => UInt8.ofNat n.toNat) = M.le k N := by
  apply List.ext_getElem
  · simp [M.le_length]
  · intro i h1 h2
    have hi : i < k := by simpa using h1
    have e := M.le_get k N i hi
    rw [List.getD_eq_getElem?_getD, List.getElem?_eq_getElem h2, Option.getD_some] at e
    rw [e]
    simp only [List.getElem_map, List.getElem_range, Int.toNat_natCast, digN, Nat.pow_mul]

set_option maxRecDepth 100000 in
set_option maxHeartbeats 4000000 in
theorem le_in (N k : Nat) (w : World) (hN : N < 18446744073709551616) (hk1 : 1 ≤ k) (hk8 : k ≤ 8) (hl : (M.tr (M.f32 N)).length ≤ k) :
    CallsIn Fence.wide 4 Tryd.prog 9 #[.int .u64 N, .int .i64 k] w fun e w' => e = .returned (.tuple #[.string ⟨(M.le k N).toArray⟩, .int .i64 0]) ∧ Below w.heap.size w w' := by
  have hro : Fence.wide.round = none := rfl
  have hsm : N < 256 ^ k := (M.tr_width (in_small N hN)).1 hl
  have hm8 := M.nd8_width hk1 hsm
  have HM := Lib.hid hsm
  have hbe := fun w => callsIn_wide (n := 3).2 (nbe_any N w hN)
  obtain ⟨lb, hlb⟩ : ∃ lb, M.tr (M.f32 N) = lb := ⟨_, rfl⟩
  rw [hlb] at hl hbe
  clear hlb hsm
  have hmk := fun w => run_make_row' (P := Tryd.prog) 36 5 (.int .u8 0) 1 Tryd.underlying36 Tryd.infoByte rfl .i64 .i64 k (by omega) (by omega) w
  refine callsIn_of_wp_marks Tryd.func9 rfl trivial ?_ hro
  simp only [Tryd.ntmps9, List.size_toArray, List.length_cons, List.length_nil, Nat.reduceAdd, Nat.reduceSub, Array.replicate_succ, Array.replicate_zero, List.push_toArray, List.append_toArray, List.nil_append, List.cons_append]
  gi_wp2_with (first | (refine ⟨trivial, ?_⟩; gi_at_call 12; refine (hbe _).mono ?_; rintro e w1 ⟨rfl, hb1⟩) | (refine ⟨trivial, ?_⟩; gi_at_call 18; refine (digits_in _ _ _ _).mono ?_; rintro e w' ⟨rfl, rfl⟩))
  obtain ⟨h, hh⟩ : ∃ h, w1.heap.size = h := ⟨_, rfl⟩
  obtain ⟨W0, hW0⟩ : ∃ W0, ((((w1.alloc (Obj.cells (madeCells #[Value.int IntKind.u8 0] k) 5)).alloc (Obj.cells #[Value.slice (some { block := w1.heap.size, off := 0 }) k k] 36)).alloc (Obj.cells #[Value.int IntKind.u64 ↑N] 22)).alloc (Obj.cells #[Value.int IntKind.i64 8] 3)) = W0 := ⟨_, rfl⟩
  have hX : LX w w1.heap.size k N 0 W0 := by
    have hs := hb1.size
    rw [← hW0]
    refine ⟨by simp [go_sem], fun j hj => ?_, fun j hj => absurd hj (by omega), fun j _ hj => ?_, by simp [go_sem], by simp [go_sem], ?_, by simp, by omega⟩
    · have := (made_cell w1 (.int .u8 0) k 5 j hj).2
      simp [go_sem]
    · have := (made_cell w1 (.int .u8 0) k 5 j hj).1
      simp [go_sem] at this
      simp [go_sem, this]
    · exact (((hb1.alloc (by omega) _).alloc (by simp; omega) _).alloc (by simp; omega) _).alloc (by simp; omega) _
  have hsz : W0.heap.size = w1.heap.size + 4 := by rw [← hW0]; simp
  have hwh : w.heap.size ≤ w1.heap.size := hb1.size
  rw [hW0]
  rw [hh] at hX hsz hwh ⊢
  clear hW0 hh hmk hbe hb1
  have HS := Lib.hid hsz
  refine range_digits (S := 8) (N := N) (s := 8) rfl (.inr rfl) hN (M.nd_pos 8 7 N) (by have := M.nd_le 8 7 N; omega) (M.nd_low 8 7 N) (M.nd8_high hN) (bn := h + 2) (bs := h + 3) rfl rfl (LX w h k N) (lx_own (by omega) hwh) (fun i W hi => ⟨hi.cn, hi.cs⟩) hX
    (fun x t => (((t.setIfInBounds 26 (.int .i64 x)).setIfInBounds 27 (.int .u8 ((digN 8 N x : Nat) : Int))).setIfInBounds 7 (.int .i64 x)).setIfInBounds 8 (.int .u8 ((digN 8 N x : Nat) : Int))) ?assign ?body ?done
  case assign =>
    intro l x W K hK
    clear hsz hX
    simp only [List.setIfInBounds_toArray, List.set_cons_zero, List.set_cons_succ] at hK
    gi_wp2
    exact hK
  case body =>
    intro l i W hi hXi
    replace hi : i < M.nd8 N := hi
    have hik : i < k := by omega
    have hbox := hXi.box
    have hfr := hXi.fr i hik
    have hci := hXi.hi i (Nat.le_refl _) hik
    have HST := Lib.hid (lx_step hXi hik hwh)
    clear hsz hX
    simp only [List.setIfInBounds_toArray, List.set_cons_zero, List.set_cons_succ]
    gi_wp2
    exact ⟨KeepsOthers.setCell _ _ _, HST.out⟩
  case done =>
    intro D W hD hXm hK
    have hall : ∀ j, j < k → W.cell? ⟨h, j, none⟩ = some (.int .u8 ((digN 8 N j : Nat) : Int)) := by
      intro j hj
      rcases Nat.lt_or_ge j (M.nd 8 7 N) with h1 | h1
      · exact hXm.lo j h1
      · rw [hXm.hi j h1 hj]
        have e : N / 2 ^ (8 * j) = 0 := by
          have h2 : 2 ^ (8 * M.nd 8 7 N) ≤ 2 ^ (8 * j) := Nat.pow_le_pow_right (by omega) (by omega)
          have h3 : N / 2 ^ (8 * M.nd 8 7 N) = 0 := M.nd8_high hN
          have h4 : N < 2 ^ (8 * M.nd 8 7 N) := by
            rcases Nat.lt_or_ge N (2 ^ (8 * M.nd 8 7 N)) with h5 | h5
            · exact h5
            · have := Nat.div_pos h5 (Nat.two_pow_pos _)
              omega
          exact Nat.div_eq_of_lt (by omega)
        rw [digN, e]
        rfl
    have hr := run_convert_bytes_arg W 36 5 Tryd.underlying36 Tryd.underlying5 h 0 k k ((List.range k).map fun j => ((digN 8 N j : Nat) : Int)) (by simp) (fun i hi => by rw [Nat.zero_add, hall i hi]; simp [hi]) 9 Tryd.underlying9
    have hbox := hXm.box
    have hlow := hXm.low
    clear hall hsz hX
    gi_wp2
    refine ⟨by simp, .inl ⟨_, _, rfl, run_takeDeferred hK, ?_⟩⟩
    have e : strOfNums ((List.range k).map fun j => ((digN 8 N j : Nat) : Int)) = ⟨(M.le k N).toArray⟩ := by unfold strOfNums; rw [le_bytes]
    refine ⟨_, results_tmp2 rfl _ _ _, ?_, hlow.trans (belowK_b (w := w) (Nat.le_refl _) W D _ _ (by have := HS.out; omega) hK rfl rfl)⟩
    rw [← e]
    rfl

set_option maxHeartbeats 1000000 in
theorem le_arg (N : Nat) (width : Int) (w : World) (h : ¬ (1 ≤ width ∧ width ≤ 8)) :
    Calls Tryd.prog 9 #[.int .u64 N, .int .i64 width] w fun e w' => e = .returned (.tuple #[.string ⟨#[]⟩, .int .i64 1]) ∧ Below w.heap.size w w' := by
  by_cases h1 : width < 1
  · clear h
    go_enter Tryd.func9, Tryd.ntmps9
    go_wp2_with fail
    go_ret2
    exact ⟨rfl, Below.refl _ _⟩
  · have h8 : 8 < width := by omega
    clear h
    go_enter Tryd.func9, Tryd.ntmps9
    go_wp2_with fail
    go_ret2
    exact ⟨rfl, Below.refl _ _⟩

set_option maxHeartbeats 1000000 in
theorem le_big (N k : Nat) (w : World) (hN : N < 18446744073709551616) (hk1 : 1 ≤ k) (hk8 : k ≤ 8) (hl : k < (M.tr (M.f32 N)).length) :
    Calls Tryd.prog 9 #[.int .u64 N, .int .i64 k] w fun e w' => e = .returned (.tuple #[.string ⟨#[]⟩, .int .i64 1]) ∧ Below w.heap.size w w' := by
  have hbe := fun w => nbe_any N w hN
  obtain ⟨lb, hlb⟩ : ∃ lb, M.tr (M.f32 N) = lb := ⟨_, rfl⟩
  rw [hlb] at hl hbe
  clear hlb
  go_enter Tryd.func9, Tryd.ntmps9
  go_wp2_with (go_at_call 12; refine (hbe _).mono ?_; rintro e w1 ⟨rfl, hb1⟩)
  go_ret2
  exact ⟨rfl, hb1⟩

theorem le_any (N : Nat) (width : Int) (w : World) (hN : N < 18446744073709551616) :
    Calls Tryd.prog 9 #[.int .u64 N, .int .i64 width] w fun e w' => e = .returned (.tuple #[.string ⟨(M.lw N width).1.toArray⟩, .int .i64 ((M.lw N width).2 : Nat)]) ∧ Below w.heap.size w w' := by
  by_cases h : 1 ≤ width ∧ width ≤ 8
  · obtain ⟨k, rfl⟩ : ∃ k : Nat, width = k := ⟨width.toNat, by omega⟩
    by_cases hl : (M.tr (M.f32 N)).length ≤ k
    · have e : M.lw N k = (M.le k N, 0) := by
        unfold M.lw
        rw [if_pos ⟨h.1, h.2, by omega⟩, Int.toNat_natCast]
      rw [e]
      exact callsIn_wide.1 (le_in N k w hN (by omega) (by omega) hl)
    · have e : M.lw N k = ([], 1) := by
        unfold M.lw
        rw [if_neg (by omega)]
      rw [e]
      exact le_big N k w hN (by omega) (by omega) (by omega)
  · have e : M.lw N width = ([], 1) := by
      unfold M.lw
      rw [if_neg (by omega)]
    rw [e]
    exact le_arg N width w h
end Go.Proofs.YtmcchfgblecgoaaDoor
