/- The contract of num.Var: a number's digits by 128. -/
import Derived.Test.YtmcchfgblecgoaaDoorN5
import Derived.Test.YtmcchfgblecgoaaDoorR2
import Derived.RangeFuncBox
import Derived.Laws.OwnMore
namespace Go.Proofs.YtmcchfgblecgoaaDoor
open Go Go.RowKit Go.Shelf
attribute [local go_sem] Oper.semAt_some

theorem or128 (d : Nat) (h : d < 128) : bits BinOp.or IntKind.u8 128 (d : Int) = ((d + 128 : Nat) : Int) := by
  have : ∀ d : Fin 128, bits BinOp.or IntKind.u8 128 ((d.val : Nat) : Int) = ((d.val + 128 : Nat) : Int) := by decide
  exact this ⟨d, h⟩

theorem dig7_lt (N j : Nat) : digN 7 N j < 128 := by unfold digN; omega

/-- The digits that have come. -/
def more7 (N i : Nat) : List Int := (List.range i).map fun j => ((digN 7 N j + 128 : Nat) : Int)
theorem more7_succ (N i : Nat) : more7 N (i + 1) = more7 N i ++ [((digN 7 N i + 128 : Nat) : Int)] := by simp [more7, List.range_succ]
theorem more7_length (N i : Nat) : (more7 N i).length = i := by simp [more7]

theorem var_bytes {N p : Nat} (hN : N < 18446744073709551616) (hp : M.nd 7 9 N = p + 1) : (more7 N p ++ [((digN 7 N p : Nat) : Int)]).map (fun n => UInt8.ofNat n.toNat) = M.vrn N := by
  unfold M.vrn
  have hl : (M.vr 9 N).length = p + 1 := by rw [M.vr_length, hp]
  apply List.ext_getElem
  · simp [more7_length, hl]
  · intro i h1 h2
    have hi : i < p + 1 := by rw [← hl]; exact h2
    have e := M.vr_get 9 N i (by rw [hp]; exact hi)
    rw [List.getD_eq_getElem?_getD, List.getElem?_eq_getElem h2, Option.getD_some] at e
    rw [e, hp, List.getElem_map]
    by_cases hip : i = p
    · subst hip
      rw [if_pos rfl]
      have hz : N / 2 ^ (7 * M.nd 7 9 N) = 0 := M.nd7_high hN
      rw [hp, Nat.mul_succ, Nat.pow_add, ← Nat.div_div_eq_div_mul] at hz
      have hs : N / 2 ^ (7 * i) < 128 := by
        rcases Nat.lt_or_ge (N / 2 ^ (7 * i)) 128 with h | h
        · exact h
        · have := Nat.div_pos h (show 0 < 128 by omega)
          have : 0 < N / 2 ^ (7 * i) / 2 ^ 7 := this
          omega
      have e1 : (more7 N i ++ [((digN 7 N i : Nat) : Int)])[i]'(by simp [more7_length]) = ((digN 7 N i : Nat) : Int) := by simp [more7_length]
      rw [e1, Int.toNat_natCast, digN, show (2 : Nat) ^ 7 = 128 from rfl, Nat.mod_eq_of_lt hs]
    · rw [if_neg (by omega), List.getElem_append_left (by rw [more7_length]; omega)]
      have e1 : (more7 N p)[i]'(by rw [more7_length]; omega) = ((digN 7 N i + 128 : Nat) : Int) := by simp [more7]
      rw [e1, Int.toNat_natCast]
      rfl

/-- What lies in memory when i digits have come. -/
structure VX (w : World) (h N i : Nat) (W : World) : Prop where
  row : ∃ v, Boxed W h 36 v ∧ W.ownsRow w.heap.size 5 1 v i ((more7 N i).map (Value.int .u8))
  bn : Boxed W (h + 1) 22 (.int .u64 N)
  bs : Boxed W (h + 2) 3 (.int .i64 7)
  low : Below w.heap.size w W

theorem boxed_kept {W W' : World} {row : Option Nat} {B t : Nat} {v : Value} (h : Boxed W B t v) (hg : W.grownBy W' row) (hr : ∀ r, row = some r → ∃ o : Obj, W.heap[r]? = some o ∧ o.isCells = false) : Boxed W' B t v := by
  refine h.kept hg (fun e => ?_)
  obtain ⟨o, ho, hc⟩ := hr B e.symm
  rw [show W.heap[B]? = _ from h] at ho
  cases ho
  cases hc

theorem vx_own {w : World} {h N B : Nat} (hB : w.heap.size ≤ B) : OwnFrom B (VX w h N) := by
  intro i W W' row hf hg hr
  have hr' : ∀ r, row = some r → ∃ o : Obj, W.heap[r]? = some o ∧ o.isCells = false := fun r e => (hr r e).2
  obtain ⟨v, hv, hrow⟩ := hf.row
  refine ⟨⟨v, boxed_kept hv hg hr', hrow.kept hg ?_⟩, boxed_kept hf.bn hg hr', boxed_kept hf.bs hg hr', hf.low.grown hg hf.low.size (fun k e => by have := (hr k e).1; omega)⟩
  rcases hrow.2 with ⟨rfl, _⟩ | ⟨g, cap, cur, rfl, _, hgb, _⟩
  · exact .inl rfl
  · refine .inr fun e' => ?_
    obtain ⟨o, ho, hc⟩ := hr' g (by simpa [Value.ownBlock] using e'.symm)
    rw [hgb] at ho
    cases ho
    cases hc

theorem boxed_set {W : World} {B B' t : Nat} {v u : Value} (h : Boxed W B t v) (hne : B ≠ B') : Boxed (W.setCell ⟨B', 0, none⟩ u) B t v :=
  h.kept (grownBy_setCell' W B' u) (by simpa using hne)

set_option maxRecDepth 100000 in
set_option maxHeartbeats 4000000 in
theorem var_in (N : Nat) (w : World) (hN : N < 18446744073709551616) :
    CallsIn Fence.wide 4 Tryd.prog 13 #[.int .u64 N] w fun e w' => e = .returned (.string ⟨(M.vrn N).toArray⟩) ∧ Below w.heap.size w w' := by
  have hro : Fence.wide.round = none := rfl
  obtain ⟨i0, hi, hz0, hz1, hz2⟩ := info_parts Tryd.infoU8
  refine callsIn_of_wp_marks Tryd.func13 rfl trivial ?_ hro
  simp only [Tryd.ntmps13, List.size_toArray, List.length_cons, List.length_nil, Nat.reduceAdd, Nat.reduceSub, Array.replicate_succ, Array.replicate_zero, List.push_toArray, List.append_toArray, List.nil_append, List.cons_append]
  gi_wp2_with (refine ⟨trivial, ?_⟩; gi_at_call 18; refine (digits_in _ _ _ _).mono ?_; rintro e w' ⟨rfl, rfl⟩)
  obtain ⟨W0, hW0⟩ : ∃ W0, (((w.alloc (Obj.cells #[.slice none 0 0] 36)).alloc (Obj.cells #[Value.int IntKind.u64 ↑N] 22)).alloc (Obj.cells #[Value.int IntKind.i64 7] 3)) = W0 := ⟨_, rfl⟩
  have hX : VX w w.heap.size N 0 W0 := by
    rw [← hW0]
    refine ⟨⟨.slice none 0 0, ((Boxed.new w _ _).alloc _).alloc _, World.ownsRow_nil _ _ _ _⟩, ?_, ?_, (((Below.refl _ _).alloc (Nat.le_refl _) _).alloc (by simp) _).alloc (by simp; omega) _⟩
    · have := (Boxed.new (w.alloc (Obj.cells #[.slice none 0 0] 36)) 22 (.int .u64 N)).alloc (Obj.cells #[Value.int IntKind.i64 7] 3)
      rwa [World.size_alloc] at this
    · have := Boxed.new ((w.alloc (Obj.cells #[.slice none 0 0] 36)).alloc (Obj.cells #[Value.int IntKind.u64 ↑N] 22)) 3 (.int .i64 7)
      rwa [World.size_alloc, World.size_alloc] at this
  have hsz : W0.heap.size = w.heap.size + 3 := by rw [← hW0]; simp
  rw [hW0]
  clear hW0
  have HS := Lib.hid hsz
  refine range_digits (S := 7) (N := N) (s := 7) rfl (.inl rfl) hN (M.nd_pos 7 9 N) (M.nd_le 7 9 N) (M.nd_low 7 9 N) (M.nd7_high hN) (bn := w.heap.size + 1) (bs := w.heap.size + 2) rfl rfl (VX w w.heap.size N) (vx_own (by omega)) (fun i W hi => ⟨hi.bn.cell, hi.bs.cell⟩) hX
    (fun x t => (((t.setIfInBounds 8 (.int .i64 x)).setIfInBounds 9 (.int .u8 ((digN 7 N x : Nat) : Int))).setIfInBounds 5 (.int .u8 ((digN 7 N x : Nat) : Int)))) ?assign ?body ?done
  case assign =>
    intro l x W K hK
    clear hsz hX
    simp only [List.setIfInBounds_toArray, List.set_cons_zero, List.set_cons_succ] at hK
    gi_wp2
    exact hK
  case body =>
    intro l i W him hXi
    have him' : i < 10 := by have := M.nd_le 7 9 N; omega
    clear him hsz hX HS
    obtain ⟨⟨v, hv, hrow⟩, bn, bs, hB⟩ := hXi
    have hor := or128 _ (dig7_lt N i)
    obtain ⟨x, hx⟩ : ∃ x, x = ((digN 7 N i + 128 : Nat) : Int) := ⟨_, rfl⟩
    rw [← hx] at hor
    have HX := Lib.hid hx
    clear hx
    have hvc := hv.cell
    simp only [List.setIfInBounds_toArray, List.set_cons_zero, List.set_cons_succ]
    gi_wp2_with (gi_at_builtin; refine wpListIn_append_own _ rfl _ _ 36 rfl w.heap.size 5 i0 (.int .u8 0) 1 1 Tryd.underlying36 hi hz0 hz1 hz2 rfl (by decide) _ _ _ rfl (hrow.alloc _) ⟨W.heap.size, 0, none⟩ 1 1 [.int .u8 x] rfl rfl (cell_one_new _ _ _) (by simp [Value.oneCell']) (by unfold maxLen; omega) (by omega) (by have := hB.size; simp; omega) ?_; intro v' w1 hown' hgrow _; obtain ⟨g', cap', rfl⟩ := ownsRow_succ hown'; obtain ⟨hv1, hv2, hr2, hk2, hb2⟩ := hv.appended (by decide) hrow hB.size (Nat.le_refl _) hown' hgrow; have hc1 := hv1.cell; have hf1 := hv1.frozen)
    exact ⟨⟨_, hv2, by rw [more7_succ, ← HX.out, List.map_append]; exact hr2⟩, boxed_set ((bn.alloc _).kept hgrow (bn.not_row (by decide) hrow)) (by omega), boxed_set ((bs.alloc _).kept hgrow (bs.not_row (by decide) hrow)) (by omega), hB.trans hb2⟩
  case done =>
    intro D W hD hXm hK
    obtain ⟨p, hp⟩ : ∃ p, M.nd 7 9 N = p + 1 := ⟨M.nd 7 9 N - 1, by have := M.nd_pos 7 9 N; omega⟩
    have hp9 : p ≤ 9 := by have := M.nd_le 7 9 N; omega
    rw [hp] at hXm
    have HP := Lib.hid hp
    clear hp hX hsz
    obtain ⟨⟨v, hv, hrow⟩, bn, bs, hlow⟩ := hXm
    obtain ⟨g, cap, rfl, hcells⟩ := row_cells hrow (by omega)
    have hne : w.heap.size ≠ g := fun e => hv.not_row (by decide) hrow (by rw [e]; rfl)
    have hge : w.heap.size ≤ g := (hrow.lt g rfl).1
    have hlt : g < W.heap.size := (hrow.lt g rfl).2
    have hfz := hrow.frozenAt p
    have hcp := hcells p (by rw [more7_length]; omega)
    have hgp : (more7 N (p + 1)).getD p 0 = ((digN 7 N p + 128 : Nat) : Int) := by
      rw [more7_succ]
      simp [more7_length]
    rw [hgp] at hcp
    have hd7 := dig7_lt N p
    have hsub : IntKind.u8.wrap (((digN 7 N p + 128 : Nat) : Int) - 128) = ((digN 7 N p : Nat) : Int) := by
      rw [show ((digN 7 N p + 128 : Nat) : Int) - 128 = ((digN 7 N p : Nat) : Int) by omega, wrap8_nat, Nat.mod_eq_of_lt (by omega)]
    obtain ⟨y, hy⟩ : ∃ y, ((digN 7 N p + 128 : Nat) : Int) = y := ⟨_, rfl⟩
    obtain ⟨d, hd⟩ : ∃ d, ((digN 7 N p : Nat) : Int) = d := ⟨_, rfl⟩
    rw [hy] at hcp hsub
    rw [hd] at hsub
    have hbox := hv.cell
    have hbox' : (W.setCell ⟨g, p, none⟩ (.int .u8 d)).cell? ⟨w.heap.size, 0, none⟩ = some (.slice (some ⟨g, 0, none⟩) (p + 1) cap) := by
      simp [go_sem, hbox]
    have hr := run_convert_bytes_arg (W.setCell ⟨g, p, none⟩ (.int .u8 d)) 36 5 Tryd.underlying36 Tryd.underlying5 g 0 (p + 1) cap (more7 N p ++ [d]) (by simp [more7_length]) (fun i hi => by
      rw [Nat.zero_add]
      by_cases e : i = p
      · subst e
        simp [go_sem, hcp, more7_length]
      · have h1 := hcells i (by rw [more7_length]; omega)
        rw [more7_succ] at h1
        have h2 : i < (more7 N p).length := by rw [more7_length]; omega
        rw [List.getD_eq_getElem?_getD, List.getElem?_append_left h2] at h1
        rw [List.getD_eq_getElem?_getD, List.getElem?_append_left h2, ← h1]
        simp [go_sem]) 9 Tryd.underlying9
    have HY := Lib.hid hy
    have HD := Lib.hid hd
    clear hcells hgp hy hd hd7 hrow
    gi_wp2
    have hK' := (KeepsOthers.setCell W ⟨g, p, none⟩ (.int .u8 d)).same D _ hK rfl
    refine ⟨by simp, .inl ⟨_, _, rfl, run_takeDeferred hK', ?_⟩⟩
    have e : strOfNums (more7 N p ++ [d]) = ⟨(M.vrn N).toArray⟩ := by unfold strOfNums; rw [← HD.out, var_bytes hN HP.out]
    refine ⟨_, results_tmp rfl _ _ _, ?_, (hlow.setCell (p := ⟨g, p, none⟩) hge _).trans (belowK_b (w := w) (Nat.le_refl _) _ D _ _ (by have := HS.out; omega) hK' rfl rfl)⟩
    rw [← e]
    rfl

theorem var_any (N : Nat) (w : World) (hN : N < 18446744073709551616) :
    Calls Tryd.prog 13 #[.int .u64 N] w fun e w' => e = .returned (.string ⟨(M.vrn N).toArray⟩) ∧ Below w.heap.size w w' :=
  callsIn_wide.1 (var_in N w hN)
end Go.Proofs.YtmcchfgblecgoaaDoor
