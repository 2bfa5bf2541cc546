/- The landed package shape: fixed. -/
import Derived.Test.YtmlkccbhdhgoeaaDoorY8g
namespace Go.Proofs.YtmlkccbhdhgoeaaDoor
open Go Go.RowKit Go.Shelf
attribute [local go_sem] Oper.semAt_some

/-- A type that has as many bytes itself. -/
def OnF (x : El) : Prop := (1 ≤ x.1.2.k ∧ x.1.2.k ≤ 8) ∧ M.isFix x.1 = true
theorem field_kind (a b c d e : Value) (W : World) : (Instr.field 59 (.agg #[a, b, c, d, e]) 1).run Tryd.prog W = .ok b W := by
  simp [Instr.field, run_underlying Tryd.underlying59, part, isAgg, run_underlying Tryd.underlying53, asAgg, Result.andThen]
theorem eq_func (F : Fn) (xa xb : Array Value) (W : World) : (binOp .eql 53 (.func F xa xb) .nilFunc).run Tryd.prog W = .ok (.bool false) W := by
  simp only [binOp, Op.equal]
  rw [show Op.maxDepth = 9999 + 1 from rfl, Op.equalIn]
  simp [run_underlying Tryd.underlying53, Result.andThen]
theorem eq_nil (W : World) : (binOp .eql 53 .nilFunc .nilFunc).run Tryd.prog W = .ok (.bool true) W := by
  simp only [binOp, Op.equal]
  rw [show Op.maxDepth = 9999 + 1 from rfl, Op.equalIn]
  simp [run_underlying Tryd.underlying53, Result.andThen]
theorem size_nil (j : Nat) (hj : j < 8) : (sizeV (j + 1) = .nilFunc ∧ ((j + 1 : Nat) = 4 ∨ (j + 1 : Nat) = 6 ∨ (j + 1 : Nat) = 8)) ∨ ((∃ F, sizeV (j + 1) = .func F #[] #[]) ∧ ¬ ((j + 1 : Nat) = 4 ∨ (j + 1 : Nat) = 6 ∨ (j + 1 : Nat) = 8)) := by
  match j, hj with
  | 0, _ => exact .inr ⟨⟨_, rfl⟩, by decide⟩
  | 1, _ => exact .inr ⟨⟨_, rfl⟩, by decide⟩
  | 2, _ => exact .inr ⟨⟨_, rfl⟩, by decide⟩
  | 3, _ => exact .inl ⟨rfl, by decide⟩
  | 4, _ => exact .inr ⟨⟨_, rfl⟩, by decide⟩
  | 5, _ => exact .inl ⟨rfl, by decide⟩
  | 6, _ => exact .inr ⟨⟨_, rfl⟩, by decide⟩
  | 7, _ => exact .inl ⟨rfl, by decide⟩

set_option maxRecDepth 100000 in
set_option maxHeartbeats 8000000 in
theorem kfixed_any (k n : Int) (xs : List M.Ty) (a : Option Addr) (cap b : Nat) (cs : List Nat) (w : World) (hL : LayT w w.heap.size xs (.slice a xs.length cap)) (hc : M.cntT (.mk k n xs) ≤ 100) (hK : Kinds w w.heap.size b cs) :
    Calls Tryd.prog 27 #[.map (some b), tv k n (.slice a xs.length cap)] w fun e w' => e = .returned (.bool (M.fixedT (.mk k n xs))) ∧ Below w.heap.size w w' := by
  have hro : Fence.wide.round = none := rfl
  obtain ⟨r, hr⟩ : ∃ r, r = M.fixedT (.mk k n xs) := ⟨_, rfl⟩
  rw [← hr]
  refine (callsIn_wide (n := 6)).1 ?_
  refine callsIn_of_wp_marks Tryd.func27 rfl trivial ?_ rfl
  simp only [Tryd.ntmps27, List.size_toArray, List.length_cons, List.length_nil, Nat.reduceAdd, Nat.reduceSub, Array.replicate_succ, Array.replicate_zero, List.push_toArray, List.append_toArray, List.nil_append, List.cons_append]
  have hb0 : ∀ o1 o2 o3, Below w.heap.size w (((w.alloc o1).alloc o2).alloc o3) := fun o1 o2 o3 => (((Below.refl _ w).alloc (Nat.le_refl _) o1).alloc (by simp) o2).alloc (by simp; omega) o3
  have HC := Lib.hid (fun W (h : Below w.heap.size w W) => kcheck_any k n xs a cap b cs W ((hL.from_ h).mono h.size) hc ((hK.from_ h).mono h.size))
  gi_wp2_with fail
  refine ⟨trivial, (callsIn_wide.2 (HC.out _ (hb0 _ _ _))).mono ?_⟩
  rintro e w1 ⟨rfl, hb1⟩
  have hz3 := hb1.size
  simp only [World.size_alloc] at hz3
  have hI0 : Hid (CI w b 4 (.bool false) (w.heap.size + 1) k n (.slice a xs.length cap) w1) := by
    refine ⟨(hb0 _ _ _).trans (hb1.mono (by simp; omega)), (hb1.block w.heap.size (by simp; omega)).trans ?_, (hb1.block (w.heap.size + 2) (by simp)).trans ?_, BoxT.from_ (n := w.heap.size + 3) ?_ (by simpa using hb1) (by omega)⟩
    · exact ((Boxed.new w _ _).alloc _).alloc _
    · have := Boxed.new ((w.alloc (.cells #[.map (some b)] 47)).alloc (.cells #[.int .i64 k, .int .i64 n, .slice a xs.length cap] 24)) 4 (.bool false)
      rw [World.size_alloc, World.size_alloc] at this
      exact this
    · have := BoxT.new (w.alloc (.cells #[.map (some b)] 47)) k n (.slice a xs.length cap) 24
      rw [World.size_alloc] at this
      exact this.from_ ((Below.refl _ _).alloc (Nat.le_refl _) _) (by simp)
  have m0 : w1.cell? ⟨w.heap.size, 0, none⟩ = some (.map (some b)) := hI0.out.m.cell
  have t0 : w1.cell? ⟨w.heap.size + 1, 0, none⟩ = some (.int .i64 k) := hI0.out.t.c0
  have t1 : w1.cell? ⟨w.heap.size + 1, 1, none⟩ = some (.int .i64 n) := hI0.out.t.c1
  have t2 : w1.cell? ⟨w.heap.size + 1, 2, none⟩ = some (.slice a xs.length cap) := hI0.out.t.c2
  have cr : w1.cell? ⟨w.heap.size + 1 + 1, 0, none⟩ = some (.bool false) := hI0.out.r.cell
  have fr : w1.frozen? ⟨w.heap.size + 1 + 1, 0, none⟩ = false := hI0.out.r.frozen
  by_cases hchk : M.chkT 0 (.mk k n xs) = 0
  · rw [hchk]
    have hfx : M.fixedT (.mk k n xs) = M.fixT (.mk k n xs) := by rw [M.fixedT, if_pos hchk]
    rw [hfx] at hr
    have HR := Lib.hid hr
    have HCK := Lib.hid hchk
    clear hr hfx hchk
    gi_wp2_with fail
    refine ⟨trivial, (within_in _ k n (.slice a xs.length cap) _).mono ?_⟩
    rintro e w' ⟨rfl, rfl⟩
    generalize hW1 : w1.alloc (.cells #[.int .i64 k, .int .i64 n, .slice a xs.length cap] 24) = W1
    have hz1 : W1.heap.size = w1.heap.size + 1 := by rw [← hW1]; simp
    have hI1 : CI w b 4 (.bool false) w1.heap.size k n (.slice a xs.length cap) W1 := by
      have h1 := hI0.out.go (W2 := W1) (by rw [← hW1]; exact (Below.refl _ _).alloc (Nat.le_refl _) _)
      exact ⟨h1.below, h1.m, h1.r, by rw [← hW1]; exact BoxT.new _ _ _ _ _⟩
    clear hW1 m0 t0 t1 t2 cr fr hb1
    gi_wp2_with fail
    obtain ⟨A1, hA1⟩ : ∃ A1 : Nat → El → Act, A1 = fun bx x => { tmps := #[.map (some b), tv k n (.slice a xs.length cap), .pointer (some ⟨w.heap.size, 0, none⟩), .pointer (some ⟨w.heap.size + 1, 0, none⟩), .pointer (some ⟨w.heap.size + 1 + 1, 0, none⟩), undef, .pointer (some ⟨bx, 0, none⟩), .map (some b),
      .agg #[.int .i64 k, .int .i64 n, .slice a xs.length cap], .int .i64 0, .bool false, .agg #[.int .i64 k, .int .i64 n, .slice a xs.length cap], .func (.func 76) #[] #[.pointer (some ⟨w1.heap.size, 0, none⟩)], .int .i64 (x.1.1 : Nat), tv x.1.2.k x.1.2.n x.2, undef, undef, undef, undef, undef, undef], defers := [] } := ⟨_, rfl⟩
    have hw1 : w.heap.size ≤ W1.heap.size := by omega
    refine range_lw (gf := 76) (lb := #[.pointer (some ⟨w1.heap.size, 0, none⟩)]) (by omega) rfl (enters_of Tryd.func76 (by kernel_rfl) rfl)
      (encs := encT) (fun x => by obtain ⟨⟨d, ⟨k', n', us⟩⟩, v⟩ := x; rfl) (fun _ W => CI w b 4 (.bool false) w1.heap.size k n (.slice a xs.length cap) W) (CI_own hw1) (fun _ W => Below w.heap.size w W ∧ Boxed W (w.heap.size + 2) 4 (.bool false)) (fun _ _ _ _ h hg hrow => ⟨below_kept h.1 hg (fun r e => Nat.le_trans hw1 (hrow r e).1), boxed_kept' h.2 hg (fun r e => (hrow r e).2)⟩)
      (fun c => c ≠ W1.heap.size + 1) (fun c h => h) (AllOf (.mk k n xs) OnF) (OneOf (.mk k n xs) OnF) OnF
      (fun pre x _ _ => GoodEl w (M.flat 0 (.mk k n xs)) pre x) ?seq hI1 (fun pre x a' B => CAx w b 4 (.bool false) w1.heap.size k n (.slice a xs.length cap) (M.flat 0 (.mk k n xs)) A1 pre x a' B) (fun pre x a' => CAx_own hw1 pre x a') ?assign ?body ?done ?stop
    case seq =>
      intro l J Jx W hzW hJI hJ hY h0
      have HT : TellH w (M.flat 0 (.mk k n xs)) (fun c => c ≠ W1.heap.size + 1) (W1.heap.size + 2) l J Jx OnF :=
        ⟨hJ, fun pre A h => (hJI pre A h).1.below, fun pre A h => (hJI pre A h).2, fun c hc => by omega, fun m pre x A hj hx => yieldAt_any (hY pre x A A hj ⟨rfl, rfl, rfl, Nat.le_refl _, fun _ _ _ => rfl⟩ hx)⟩
      exact within_seq w _ _ l J Jx _ k n xs HT _ a cap hL (by omega) _ W (hJI [] W h0).1.t h0
    case assign =>
      rintro l pre ⟨⟨d, ⟨k', n', us⟩⟩, v⟩ A B K hI hg hG hK'
      obtain ⟨ua, uc, hu, _, _⟩ := hG.1.slice
      replace hu : v = .slice ua us.length uc := hu
      subst hu
      dsimp only [encT]
      have hIB := CI_own (Nat.le_refl w.heap.size) pre _ _ none hI hg (fun r e => by cases e)
      have hzB := hIB.below.size
      have hz3 := (hIB.t.lt')
      have hAX : CAx w b 4 (.bool false) w1.heap.size k n (.slice a xs.length cap) (M.flat 0 (.mk k n xs)) A1 pre ((d, .mk k' n' us), .slice ua us.length uc) (A1 B.heap.size ((d, .mk k' n' us), .slice ua us.length uc)) (B.alloc (.cells #[.int .i64 k', .int .i64 n', .slice ua us.length uc] 24)) :=
        ⟨B.heap.size, k', n', us, rfl, hG, rfl, CI_own (Nat.le_refl w.heap.size) pre _ _ none hIB (World.grownBy_alloc _ _ _) (fun r e => by cases e), BoxT.new _ _ _ _ _, by omega, by simp⟩
      rw [hA1] at hAX
      gi_wp2
      refine hK' _ _ ((KeepsOthers.alloc B _).from _) (fun c hc _ => Below.heap_alloc _ _ _ (by omega)) ?_
      rw [hA1]
      exact hAX
    case body =>
      rintro l pre ⟨⟨d, ⟨k', n', us⟩⟩, v⟩ a' B ⟨bx, k2, n2, us2, hx, hG, rfl, hI, hBx, h4, h5⟩
      cases hx
      replace hBx : BoxT B bx k' n' v := hBx
      have hkr : 1 ≤ k' ∧ k' ≤ 8 := by
        obtain ⟨zs, hzs⟩ := hG.2.2
        have h1 := (M.chk_all (t := .mk k n xs) (d := 0) (by omega)).1 HCK.out (d, .mk k' n' us) (by rw [hzs]; simp)
        replace h1 : (if k' < 1 ∨ 8 < k' then 9 else if M.formT k' n' us.length = false then 2 else if d = 6 then 7 else 0) = 0 := h1
        by_cases h2 : k' < 1 ∨ 8 < k'
        · rw [if_pos h2] at h1; cases h1
        · omega
      rw [hA1]
      dsimp only [M.Ty.k, M.Ty.n]
      have hm := hI.m.cell
      have c0 := hBx.c0
      have c1 := hBx.c1
      have c2 := hBx.c2
      have cr : B.cell? ⟨w.heap.size + 1 + 1, 0, none⟩ = some (.bool false) := hI.r.cell
      have fr : B.frozen? ⟨w.heap.size + 1 + 1, 0, none⟩ = false := hI.r.frozen
      obtain ⟨j, c, hkj, hj, hH, hlk⟩ := hK.at_ k' hkr.1 hkr.2
      replace hlk := hlk false B hI.below
      simp only [ent] at hlk
      have HI := Lib.hid hI
      have hfk := field_kind
      have hq1 := eq_func
      have hq2 := eq_nil
      rcases size_nil j hj with ⟨hs, hj4⟩ | ⟨⟨F, hs⟩, hj4⟩
      · rw [hs] at hlk
        have HO : Hid (¬ OnF ((d, .mk k' n' us), v)) := fun h => by
          have h1 := h.2
          unfold M.isFix at h1
          simp only [M.Ty.k, hkj] at h1
          rcases hj4 with e | e | e <;> rw [e] at h1 <;> simp at h1
        clear hkj hI hj4 hkr
        gi_wp2_with fail
        exact ⟨HO.out, (KeepsOthers.setCell _ _ _).from _, HI.out.below.setCell (p := ⟨w.heap.size + 1 + 1, 0, none⟩) (by simp; omega) _, HI.out.r.set _⟩
      · rw [hs] at hlk
        have HO : Hid (OnF ((d, .mk k' n' us), v)) := ⟨hkr, by
          unfold M.isFix
          simp only [M.Ty.k, hkj]
          simp
          omega⟩
        clear hkj hI hj4 hkr
        gi_wp2_with fail
        exact ⟨HO.out, (KeepsOthers.refl _).from _, fun _ _ _ => rfl, HI.out⟩
    case done =>
      rintro D ys W hD ⟨hys, hon⟩ hI hKd
      have hE : M.fixT (.mk k n xs) = true := by
        rw [M.fixT_flat _ 0, ← hys, List.all_eq_true]
        intro y hy
        obtain ⟨x, hx, rfl⟩ := List.mem_map.1 hy
        exact (hon x hx).2
      have cr : W.cell? ⟨w.heap.size + 1 + 1, 0, none⟩ = some (.bool false) := hI.r.cell
      have fr : W.frozen? ⟨w.heap.size + 1 + 1, 0, none⟩ = false := hI.r.frozen
      rw [hE] at HR
      have HI := Lib.hid hI
      clear hE hI
      gi_wp2
      have hK' := (KeepsOthers.setCell W ⟨w.heap.size + 1 + 1, 0, none⟩ (.bool true)).same D _ hKd rfl
      refine ⟨by simp, .inl ⟨_, _, rfl, run_takeDeferred hK', ?_⟩⟩
      have hc5 := cell_kept (World.cell?_setCell_same' W ⟨w.heap.size + 1 + 1, 0, none⟩ (.bool true) (by rw [cr]; rfl)) (grownBy_putObj' _ D (.deferred none)) (fun r e => by cases e; exact ⟨_, hK', rfl⟩)
      refine ⟨.bool true, ?_, by rw [HR.out], (HI.out.below.setCell (p := ⟨w.heap.size + 1 + 1, 0, none⟩) (by simp; omega) _).trans (belowK_b (w := w) (Nat.le_refl _) _ D _ _ (by omega) hK' rfl rfl)⟩
      simp [results, Tryd.f27, go_sem, hc5]
    case stop =>
      rintro D y W hD ⟨ys, zs, hfl, hon, hoff⟩ ⟨hX, hXr⟩ hKd
      have hE : M.fixT (.mk k n xs) = false := by
        rw [M.fixT_flat _ 0, hfl, List.all_append, List.all_cons]
        have h1 := (M.chk_all (t := .mk k n xs) (d := 0) (by omega)).1 HCK.out y.1 (by rw [hfl]; simp)
        have h2 : M.isFix y.1 = false := by
          cases hy : M.isFix y.1 with
          | false => rfl
          | true =>
            refine absurd ⟨?_, hy⟩ hoff
            obtain ⟨⟨d, ⟨k', n', us⟩⟩, v⟩ := y
            replace h1 : (if k' < 1 ∨ 8 < k' then 9 else if M.formT k' n' us.length = false then 2 else if d = 6 then 7 else 0) = 0 := h1
            by_cases h2 : k' < 1 ∨ 8 < k'
            · rw [if_pos h2] at h1; cases h1
            · show 1 ≤ k' ∧ k' ≤ 8
              omega
        rw [h2]
        simp
      rw [hE] at HR
      clear hE
      have HX := Lib.hid hX
      clear hX
      gi_wp2
      refine ⟨by simp, .inl ⟨_, _, rfl, run_takeDeferred hKd, ?_⟩⟩
      have cr : W.cell? ⟨w.heap.size + 1 + 1, 0, none⟩ = some (.bool false) := hXr.cell
      have hc5 := cell_kept cr (grownBy_putObj' _ D (.deferred none)) (fun r e => by cases e; exact ⟨_, hKd, rfl⟩)
      refine ⟨.bool false, ?_, by rw [HR.out], HX.out.trans (belowK_b (w := w) (Nat.le_refl _) W D _ _ (by omega) hKd rfl rfl)⟩
      simp [results, Tryd.f27, go_sem, hc5]
  · have hfx : M.fixedT (.mk k n xs) = false := by rw [M.fixedT, if_neg hchk]
    rw [hfx] at hr
    have HR := Lib.hid hr
    generalize M.chkT 0 (.mk k n xs) = q at *
    have hq : (((q : Nat) : Int) != 0) = true := by simp; omega
    clear hr hfx hchk
    gi_wp2_with fail
    have hc5 := World.cell?_setCell_same' w1 ⟨w.heap.size + 1 + 1, 0, none⟩ (.bool false) (by rw [cr]; rfl)
    refine ⟨.bool false, ?_, by rw [HR.out], hI0.out.below.setCell (p := ⟨w.heap.size + 1 + 1, 0, none⟩) (by simp; omega) _⟩
    simp [results, Tryd.f27, go_sem, hc5]
end Go.Proofs.YtmlkccbhdhgoeaaDoor
