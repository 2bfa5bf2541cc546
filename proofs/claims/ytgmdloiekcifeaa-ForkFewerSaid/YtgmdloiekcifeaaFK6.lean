/- fork.Ever. -/
import Derived.Test.YtgmdloiekcifeaaFK5
namespace Go.Proofs.Ytgmdloiekcifeaa
open Go Go.RowKit Go.Shelf
attribute [local go_sem] Oper.semAt_some

/-- What a row of whole numbers leads to. -/
inductive Zs (w : World) (n : Nat) : List Int → Value → Prop
  | nil_ {a : Option Addr} {cap : Nat} : Zs w n [] (.slice a 0 cap)
  | row {xs : List Int} {b o cap : Nat} (hb : b < n)
      (c : ∀ i x, xs[i]? = some x → w.cell? ⟨b, o + i, none⟩ = some (.int .i64 x)) : Zs w n xs (.slice (some ⟨b, o, none⟩) xs.length cap)
theorem Zs.slice {w : World} {n : Nat} {xs : List Int} {v : Value} (h : Zs w n xs v) : ∃ a cap, v = .slice a xs.length cap := by
  cases h with
  | nil_ => exact ⟨_, _, rfl⟩
  | row hbn c => exact ⟨_, _, rfl⟩
theorem Zs.from_ {w W : World} {n : Nat} {xs : List Int} {v : Value} (h : Zs w n xs v) (hb : Below n w W) : Zs W n xs v := by
  cases h with
  | nil_ => exact .nil_
  | row hbn c => exact .row hbn fun i s e => (hb.cell (p := ⟨_, _, none⟩) hbn).trans (c i s e)
theorem Zs.mono {w : World} {m n : Nat} {xs : List Int} {v : Value} (h : Zs w m xs v) (hmn : m ≤ n) : Zs w n xs v := by
  cases h with
  | nil_ => exact .nil_
  | row hbn c => exact .row (Nat.lt_of_lt_of_le hbn hmn) c
theorem Zs.cells {w : World} {n : Nat} {xs : List Int} {a : Option Addr} {m cap : Nat} (h : Zs w n xs (.slice a m cap)) (h1 : 1 ≤ xs.length) : ∃ b o, a = some ⟨b, o, none⟩ ∧ b < n ∧ ∀ i, i < xs.length → w.cell? ⟨b, o + i, none⟩ = some (.int .i64 (M.gi xs i)) := by
  cases h with
  | nil_ => simp at h1
  | row hbn c => exact ⟨_, _, rfl, hbn, fun i hi => c i _ (M.gi_some hi)⟩
/-- A row of whole numbers of one's own. -/
def OwZ (B : Nat) (l : List Int) (v : Value) (w : World) : Prop := w.ownsRow B 3 1 v l.length (l.map (Value.int .i64))
theorem OwZ.zs {B : Nat} {l : List Int} {v : Value} {w : World} (h : OwZ B l v w) : Zs w w.heap.size l v := by
  rcases id h.2 with ⟨h0, h1⟩ | ⟨g, cap, cur, rfl, hB, hg, hnc, hcm, hcs, htake⟩
  · obtain rfl := List.eq_nil_of_length_eq_zero h1
    cases h0
    exact .nil_
  · refine .row (Array.getElem?_eq_some_iff.1 hg).1 fun i s e => ?_
    have hi := (List.getElem?_eq_some_iff.1 e).1
    rw [Nat.zero_add, World.ownsRow.cellAt h i (by omega)]
    simp [e]
theorem Try.ofIntk : (Try.prog.info? 3).map (fun i => (i.zero, i.size, i.bytes)) = some (some (.int .i64 0), 1, 8) := by kernel_rfl

/-- What lies in memory when i forks have come. -/
structure EX (w : World) (xs : List Int) (sv : Value) (hs he hf i : Nat) (W : World) : Prop where
  row : ∃ v, Boxed W he 34 v ∧ OwZ w.heap.size (M.evn xs i) v W
  bs : Boxed W hs 24 sv
  bf : Boxed W hf 24 sv
  low : Below w.heap.size w W
theorem boxed_keptk {W W' : World} {row : Option Nat} {B t : Nat} {v : Value} (h : Boxed W B t v) (hg : W.grownBy W' row) (hr : ∀ r, row = some r → ∃ o : Obj, W.heap[r]? = some o ∧ o.isCells = false) : Boxed W' B t v := by
  refine h.kept hg (fun e => ?_)
  obtain ⟨o, ho, hc⟩ := hr B e.symm
  rw [show W.heap[B]? = _ from h] at ho
  cases ho
  cases hc
theorem boxed_setk {W : World} {B B' t : Nat} {v u : Value} (h : Boxed W B t v) (hne : B ≠ B') : Boxed (W.setCell ⟨B', 0, none⟩ u) B t v :=
  h.kept (grownBy_setCell' W B' u) (by simpa using hne)
theorem grown_below {W W' : World} (hb : Below W.heap.size W W') : W.grownBy W' none := ⟨hb.os, hb.tape, hb.output, hb.size, fun i hi _ => hb.block i hi⟩
theorem keeps_belowk {W W' : World} (hb : Below W.heap.size W W') : KeepsOthers W W' := ⟨hb.size, fun k _ hk _ => (hb.block k (Array.getElem?_eq_some_iff.1 hk).1).trans hk⟩
theorem ex_own {w : World} {xs : List Int} {sv : Value} {hs he hf B : Nat} (hB : w.heap.size ≤ B) : OwnFrom B (EX w xs sv hs he hf) := by
  intro i W W' row hh hg hr
  have hr' : ∀ r, row = some r → ∃ o : Obj, W.heap[r]? = some o ∧ o.isCells = false := fun r e => (hr r e).2
  obtain ⟨v, hv, hrow⟩ := hh.row
  refine ⟨⟨v, boxed_keptk hv hg hr', World.ownsRow.kept hrow hg ?_⟩, boxed_keptk hh.bs hg hr', boxed_keptk hh.bf hg hr', hh.low.grown hg hh.low.size (fun k e => by have := (hr k e).1; omega)⟩
  rcases hrow.2 with ⟨rfl, _⟩ | ⟨g, cap, cur, rfl, _, hgb, _⟩
  · exact .inl rfl
  · refine .inr fun e' => ?_
    obtain ⟨o, ho, hc⟩ := hr' g (by simpa [Value.ownBlock] using e'.symm)
    rw [hgb] at ho
    cases ho
    cases hc
theorem EX.below {w : World} {xs : List Int} {sv : Value} {hs he hf i : Nat} {W W' : World} (h : EX w xs sv hs he hf i W) (hb : Below W.heap.size W W') : EX w xs sv hs he hf i W' := by
  obtain ⟨v, hv, hrow⟩ := h.row
  exact ⟨⟨v, hv.kept (grown_below hb) (by simp), World.ownsRow.kept hrow (grown_below hb) (by cases v.ownBlock <;> simp)⟩, h.bs.kept (grown_below hb) (by simp), h.bf.kept (grown_below hb) (by simp), h.low.trans (hb.mono h.low.size)⟩

set_option maxRecDepth 100000 in
set_option maxHeartbeats 8000000 in
theorem ever_in (xs : List Int) (b o cap : Nat) (w : World) (hE : M.chkE xs = 0) (hN : Ns w w.heap.size xs (.slice (some ⟨b, o, none⟩) xs.length cap)) (hb : b < w.heap.size) (hc : ∀ i, i < xs.length → w.cell? ⟨b, o + i, none⟩ = some (.int .u64 (M.gi xs i))) :
    CallsIn Fence.wide 4 Try.prog 15 #[sch (.slice (some ⟨b, o, none⟩) xs.length cap)] w fun e w' => ∃ v, e = .returned v ∧ Zs w' w'.heap.size (M.evn xs xs.length) v ∧ Below w.heap.size w w' := by
  have hro : Fence.wide.round = none := rfl
  obtain ⟨i0, hi, hz0, hz1, hz2⟩ := info_parts Try.ofIntk
  obtain ⟨h1, h6, hs⟩ := M.chkE_zero hE
  have HK := Lib.hid (fun (W : World) (h : Below w.heap.size w W) => fcheck_any xs (some ⟨b, o, none⟩) cap W ((hN.from_ h).mono h.size))
  rw [hE] at HK
  have HG := Lib.hid (fun (W : World) (t : Int) (h : Below w.heap.size w W) => begun_any xs b o cap t W h6 hs (Nat.lt_of_lt_of_le hb h.size) (fun i hi => (h.cell (p := ⟨b, o + i, none⟩) hb).trans (hc i hi)))
  have HC := Lib.hid hc
  have HB := Lib.hid hb
  clear hN hE hs hb hc h1
  refine callsIn_of_wp_marks Try.func15 rfl trivial ?_ hro
  simp only [Try.ntmps15, List.size_toArray, List.length_cons, List.length_nil, Nat.reduceAdd, Nat.reduceSub, Array.replicate_succ, Array.replicate_zero, List.push_toArray, List.append_toArray, List.nil_append, List.cons_append]
  gi_wp2_with (first | (refine ⟨trivial, ?_⟩; gi_at_call 17; refine (callsIn_wide.2 (HK.out _ (by (repeat (first | exact Below.refl _ _ | refine Below.drew ?_ | refine Below.alloc ?_ (by first | omega | (simp; omega) | simp) _ | refine Below.setCell ?_ (by first | omega | (simp; omega) | simp) _))))).mono ?_; rintro e w1 ⟨rfl, hb1⟩; have hB1 : Boxed w1 w.heap.size 24 (.slice (some ⟨b, o, none⟩) xs.length cap) := (Boxed.new w _ _).kept (grown_below hb1) (by simp); have c1 := hB1.cell; have c2 := fun ob => (hB1.alloc ob).cell) | (refine ⟨trivial, ?_⟩; gi_at_call 19; refine (forks_in _ _ (by rfl) _).mono ?_; rintro e w' ⟨rfl, rfl⟩))
  obtain ⟨h, hh⟩ : ∃ h, w1.heap.size = h := ⟨_, rfl⟩
  obtain ⟨W0, hW0⟩ : ∃ W0, ((w1.alloc (Obj.cells #[Value.slice none 0 0] 34)).alloc (Obj.cells #[Value.slice (some { block := b, off := o }) xs.length cap] 24)) = W0 := ⟨_, rfl⟩
  obtain ⟨sv, hsv⟩ : ∃ sv, Value.slice (some ⟨b, o, none⟩) xs.length cap = sv := ⟨_, rfl⟩
  have hwh : w.heap.size + 1 ≤ h := by have := hb1.size; rw [hh] at this; simpa using this
  have hX : EX w xs sv w.heap.size h (h + 1) 0 W0 := by
    rw [← hW0, ← hsv, ← hh]
    refine ⟨⟨.slice none 0 0, (Boxed.new w1 _ _).alloc _, World.ownsRow_nil _ _ _ _⟩, (hB1.alloc _).alloc _, ?_, ?_⟩
    · have := Boxed.new (w1.alloc (Obj.cells #[Value.slice none 0 0] 34)) 24 (.slice (some ⟨b, o, none⟩) xs.length cap)
      rwa [World.size_alloc] at this
    · refine Below.trans ?_ (hb1.mono (by simp)) |>.alloc (by omega) _ |>.alloc (by simp; omega) _
      exact (Below.refl _ w).alloc (Nat.le_refl _) _
  have hsz : W0.heap.size = h + 2 := by rw [← hW0, ← hh]; simp
  rw [hW0]
  rw [hh]
  clear hW0 hB1 c1 c2 hb1
  have HSV := Lib.hid hsv
  have HZ := Lib.hid hsz
  refine range_allk (n := 4) (by omega) rfl (enters_of Try.func23 (by kernel_rfl) rfl) (encs := fun i : Nat => #[.int .i64 (i : Nat), .int .u64 (M.gi xs i)]) (fun _ => rfl) (List.range xs.length)
    (fun pre W => EX w xs sv w.heap.size h (h + 1) pre.length W) (fun pre => ex_own (by omega) pre.length) (fun A B => A = B) (fun _ W => EX w xs sv w.heap.size h (h + 1) xs.length W) (fun _ => ex_own (by omega) xs.length) (fun A B hA e => ⟨e ▸ KeepsOthers.refl _, by rw [← e]; simpa using hA⟩) ?seq hX
    (fun i => { tmps := #[sch sv, Value.pointer (some { block := w.heap.size, off := 0 }), Value.slice none 0 0, Value.pointer (some { block := h, off := 0 }), .int .i64 (i : Nat), .int .u64 (M.gi xs i), Value.agg #[sv], Value.int IntKind.i64 0, Value.bool false, Value.agg #[sv], Value.func (Fn.func 23) #[] #[Value.pointer (some { block := h + 1, off := 0 })], .int .i64 (i : Nat), .int .u64 (M.gi xs i), undef, undef, undef, undef, undef, undef, undef, undef, undef, undef, undef], defers := [] }) ?assign ?body ?done
  case seq =>
    intro l J W hJI hd hY hJ0
    refine (forks_run 2 xs b o cap l (h + 1) h6 J (fun pre W hW => ?_) ?_ W hJ0).mono ?_
    · have hI := hJI pre W hW
      exact ⟨by rw [HSV.out]; exact hI.bf.cell, fun i hi => (hI.low.cell (p := ⟨b, o + i, none⟩) HB.out).trans (HC.out i hi)⟩
    · intro i W1 hi hJ1
      obtain ⟨post, hp⟩ := range_cutk hi
      have := hY _ i post W1 hp hJ1
      rwa [← List.range_succ] at this
    · rintro e W' ⟨hv, hj⟩
      exact ⟨hv, W', hj, rfl⟩
  case assign =>
    intro l i W K hK
    clear hsz hX
    gi_wp2
    exact hK
  case body =>
    intro l pre i post W hx hI
    obtain ⟨p1, p2, p3⟩ := range_partk hx
    subst p2
    rw [List.length_append, List.length_singleton]
    obtain ⟨k, hk⟩ : ∃ k, pre.length = k := ⟨_, rfl⟩
    rw [hk] at hI p3 ⊢
    clear hx p1 hk hsz hX
    have cs := hI.bs.cell
    have HGW := Lib.hid (HG.out W (M.gi xs k) hI.low)
    rw [HSV.out] at HGW
    have HS := Lib.hid (M.evn_succ xs k)
    have hkl := M.evn_len xs k
    generalize M.gi xs k = x at *
    generalize M.beg xs x = r at *
    have hk6 : k < 6 := by omega
    have HI := Lib.hid hI
    by_cases hr : r = k + 1
    · rw [if_pos hr] at HS
      have hq : (((r : Nat) : Int) == (k : Int) + 1) = true := by rw [beq_iff_eq]; omega
      clear hr hI
      gi_wp2_with (first
        | (refine ⟨trivial, ?_⟩; gi_at_call 18; refine (CallsIn.inRound l (callsIn_wide.2 HGW.out)).mono ?_; rintro e w2 ⟨rfl, hb2⟩
           have hI2 := HI.out.below hb2
           have HK2 := Lib.hid (keeps_belowk hb2)
           obtain ⟨⟨v, hv, hrow⟩, bs, bf, hlow⟩ := hI2
           have hvc := hv.cell
           have HROW : Hid (w2.ownsRow w.heap.size 3 1 v (M.evn xs k).length ((M.evn xs k).map (Value.int .i64))) := Lib.hid hrow
           have HV := Lib.hid hv
           have HBS := Lib.hid bs
           have HBF := Lib.hid bf
           have HL := Lib.hid hlow
           clear hrow hv bs bf hlow hb2)
        | (gi_at_builtin; go_loud (refine wpListIn_append_own _ rfl _ _ 34 rfl w.heap.size 3 i0 (.int .i64 0) 1 8 Try.underlying34 hi hz0 hz1 hz2 rfl (by decide) _ _ _ rfl (World.ownsRow.alloc HROW.out _) ⟨w2.heap.size, 0, none⟩ 1 1 [.int .i64 (k : Nat)] rfl rfl (cell_one_new _ _ _) (by simp [Value.oneCell']) (by unfold maxLen; omega) (by omega) (by have := HL.out.size; simp; omega) ?_)
           intro v' w3 hown' hgrow _
           obtain ⟨g', cap', rfl⟩ := ownsRow_succ hown'
           obtain ⟨hv1, hv2, hr2, hk2, hb3⟩ := HV.out.appended (by decide) HROW.out HL.out.size (by omega) hown' hgrow
           have hc1 := hv1.cell
           have hf1 := hv1.frozen))
      exact ⟨HK2.out.trans hk2, ⟨_, hv2, by rw [HS.out]; unfold OwZ; rw [List.map_append, List.length_append]; exact hr2⟩, boxed_setk ((HBS.out.alloc _).kept hgrow (HBS.out.not_row (by decide) HROW.out)) (by omega), boxed_setk ((HBF.out.alloc _).kept hgrow (HBF.out.not_row (by decide) HROW.out)) (by omega), HL.out.trans hb3⟩
    · rw [if_neg hr, List.append_nil] at HS
      have hq : (((r : Nat) : Int) == (k : Int) + 1) = false := by rw [beq_eq_false_iff_ne]; omega
      clear hr hI
      gi_wp2_with (refine ⟨trivial, ?_⟩; gi_at_call 18; refine (CallsIn.inRound l (callsIn_wide.2 HGW.out)).mono ?_; rintro e w2 ⟨rfl, hb2⟩)
      have hI2 := HI.out.below hb2
      exact ⟨keeps_belowk hb2, ⟨by rw [HS.out]; exact hI2.row, hI2.bs, hI2.bf, hI2.low⟩⟩
  case done =>
    intro D W hD hI hK
    obtain ⟨⟨v, hv, hrow⟩, bs, bf, hlow⟩ := hI
    have hvc := hv.cell
    obtain ⟨va, vc, rfl⟩ : ∃ va vc, v = .slice va (M.evn xs xs.length).length vc := by
      obtain ⟨va, vc, h0⟩ := (OwZ.zs hrow).slice
      exact ⟨va, vc, h0⟩
    have HR := Lib.hid hrow
    have HL := Lib.hid hlow
    clear hX hsz hrow hlow bs bf
    gi_wp2
    refine ⟨by simp, .inl ⟨_, _, rfl, run_takeDeferred hK, ?_⟩⟩
    refine ⟨_, results_tmp rfl _ _ _, ⟨.slice va (M.evn xs xs.length).length vc, rfl, OwZ.zs (B := w.heap.size) (ownsRow_putObj HR.out _ hK rfl), HL.out.trans (belowK_b (w := w) (Nat.le_refl _) W D _ _ (by have := HZ.out; omega) hK rfl rfl)⟩⟩
theorem ever_any (xs : List Int) (a : Option Addr) (cap : Nat) (w : World) (hN : Ns w w.heap.size xs (.slice a xs.length cap)) :
    Calls Try.prog 15 #[sch (.slice a xs.length cap)] w fun e w' => ∃ v, e = .returned v ∧ Zs w' w'.heap.size (M.evr xs) v ∧ Below w.heap.size w w' := by
  by_cases hE : M.chkE xs = 0
  · obtain ⟨h1, h6, hs⟩ := M.chkE_zero hE
    obtain ⟨b, o, rfl, hb, hc⟩ := hN.cells h1
    unfold M.evr
    rw [if_pos hE]
    exact callsIn_wide.1 (ever_in xs b o cap w hE hN hb hc)
  · unfold M.evr
    rw [if_neg hE]
    have HK := Lib.hid (fun (W : World) (h : Below w.heap.size w W) => fcheck_any xs a cap W ((hN.from_ h).mono h.size))
    have hne : (M.chkE xs != 0) = true := bne_iff_ne.2 hE
    clear hE hN
    generalize M.chkE xs = c at *
    go_enter Try.func15, Try.ntmps15
    go_wp2_with fail
    refine (HK.out _ (by (repeat (first | exact Below.refl _ _ | refine Below.drew ?_ | refine Below.alloc ?_ (by first | omega | (simp; omega) | simp) _ | refine Below.setCell ?_ (by first | omega | (simp; omega) | simp) _)))).mono ?_
    rintro e w1 ⟨rfl, hb1⟩
    go_wp2_with fail
    go_ret
    exact ⟨_, rfl, .nil_, (Below.alloc (Below.refl _ w) (Nat.le_refl _) _).trans (hb1.mono (by simp))⟩
end Go.Proofs.Ytgmdloiekcifeaa
