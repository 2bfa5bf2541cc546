/- legal.Versions, legal.Latest. -/
import Derived.Test.YthlcjjfnnfifeaaEL5
import Derived.Test.YthlcjjfnnfifeaaSh
import Derived.Sort.OwnSortedInts
namespace Go.Proofs.Ythlcjjfnnfifeaa
open Go Go.RowKit Go.Shelf Go.Sort
attribute [local go_sem] Oper.semAt_some

/-- A row of one's own is sorted in place. -/
theorem sort13 {B : Nat} {ss ts : List Int} {v : Value} {w : World} (h : OwZ B ss v w) (hl : ss.length ≤ 14) (ht : ss.mergeSort (fun x y => decide (x ≤ y)) = ts) :
    Calls Try.prog 20 #[v] w fun e w' => e = .returned (.tuple #[]) ∧ OwZ B ts v w' ∧ w.grownBy w' v.ownBlock := by
  have hlen : ts.length = ss.length := by rw [← ht]; exact List.length_mergeSort ss
  rcases h.2 with ⟨rfl, h0⟩ | ⟨g, cap, cur, rfl, hB, hg, hnc, hcm, hcs, htake⟩
  · obtain rfl := List.eq_nil_of_length_eq_zero h0
    obtain rfl : ts = [] := List.eq_nil_of_length_eq_zero hlen
    refine (sort_none none 0 w).mono ?_
    rintro e w' ⟨rfl, rfl⟩
    exact ⟨rfl, h, ⟨rfl, rfl, rfl, Nat.le_refl _, fun _ _ _ => rfl⟩⟩
  · have htake' : cur.toList.take ss.length = ss.map (Value.int .i64) := by simpa using htake
    refine (sort_ints g 0 cap ss w (holds_of_blockI hg htake') (Array.getElem?_eq_some_iff.1 hg).1 (by omega)).mono ?_
    rintro e w' ⟨rfl, n, os, rfl⟩
    rw [ht]
    refine ⟨rfl, ?_, grownBy_sortedI _⟩
    unfold OwZ
    rw [hlen]
    exact ownsRow_sortedI hlen hB hg hnc hcm hcs

theorem versions13_stops (n : Nat) (f k : Int) (bk bf : Nat) (w : World) (hk : w.cell? ⟨bk, 0, none⟩ = some (.int .i64 k)) (hf : w.cell? ⟨bf, 0, none⟩ = some (.int .i64 f)) :
    SeqStopsK Fence.wide (n + 1) Try.prog 23 #[.pointer (some ⟨bk, 0, none⟩), .pointer (some ⟨bf, 0, none⟩)] (fun x : Int => #[Value.int .i64 x]) (Kp13 bk bf)
      (fun ss => ss.Nodup ∧ ∀ v, v ∈ ss ↔ M.lgl f k v = true) (fun _ => True) 14 w := fun l J Jx W hW hJ _ hY h0 =>
  versions13_run n f k bk bf l J Jx hY W hJ ((hW.cell (p := ⟨bk, 0, none⟩) (World.block_lt_of_cell? _ _ hk)).trans hk) ((hW.cell (p := ⟨bf, 0, none⟩) (World.block_lt_of_cell? _ _ hf)).trans hf) h0

theorem ownsRow_low {w : World} {base base' : Nat} {e : TypeId} {size : Nat} {v : Value} {n : Nat} {xs : List Value} (h : w.ownsRow base e size v n xs) (hb : base' ≤ base) : w.ownsRow base' e size v n xs := by
  refine ⟨h.1, ?_⟩
  rcases h.2 with h0 | ⟨g, cap, cur, hv, hg, rest⟩
  · exact .inl h0
  · exact .inr ⟨g, cap, cur, hv, Nat.le_trans hb hg, rest⟩
theorem row_not_low {w : World} {base : Nat} {e : TypeId} {size : Nat} {v : Value} {n : Nat} {xs : List Value} (h : w.ownsRow base e size v n xs) {b : Nat} (hb : b < base) : some b ≠ v.ownBlock := fun e1 => by
  have := (h.lt b e1.symm).1
  omega
/-- What lies in memory while versions are collected. -/
structure VX (w : World) (f k : Int) (bf bk ba : Nat) (pre : List Int) (W : World) : Prop where
  row : ∃ v, Boxed W ba 28 v ∧ OwZ (w.heap.size + 3) pre v W
  xf : Boxed W bf 3 (.int .i64 f)
  xk : Boxed W bk 3 (.int .i64 k)
  low : Below w.heap.size w W
theorem vx_own {w : World} {f k : Int} {bf bk ba B : Nat} (hB : w.heap.size ≤ B) : OwnFrom B (VX w f k bf bk ba) := by
  intro i W W' row hh hg hr
  have hr' : ∀ r, row = some r → ∃ o : Obj, W.heap[r]? = some o ∧ o.isCells = false := fun r e => (hr r e).2
  obtain ⟨v, hv, hrow⟩ := hh.row
  refine ⟨⟨v, boxed_keptk hv hg hr', World.ownsRow.kept hrow hg ?_⟩, boxed_keptk hh.xf hg hr', boxed_keptk hh.xk hg hr', hh.low.grown hg hh.low.size (fun k e => by have := (hr k e).1; omega)⟩
  rcases hrow.2 with ⟨rfl, _⟩ | ⟨g, cap, cur, rfl, _, hgb, _⟩
  · exact .inl rfl
  · refine .inr fun e' => ?_
    obtain ⟨o, ho, hc⟩ := hr' g (by simpa [Value.ownBlock] using e'.symm)
    rw [hgb] at ho
    cases ho
    cases hc
theorem kp13_b {bk bf : Nat} {w : World} (h1 : bk < w.heap.size) (h2 : bf < w.heap.size) (W : World) (l : Nat) (o o' : Obj) (hl : w.heap.size ≤ l) (h : W.heap[l]? = some o) (hc : o.isCells = false) (hw : o.isWalk = false) : Kp13 bk bf W (W.putObj l o') := by
  refine ⟨KeepsWalks.putObj _ h hw, fun v e => ?_, fun v e => ?_⟩
  · exact ((belowK_b (n₀ := w.heap.size) (w := w) (Nat.le_refl _) W l o o' hl h hc hw).cell (p := ⟨bk, 0, none⟩) h1).trans e
  · exact ((belowK_b (n₀ := w.heap.size) (w := w) (Nat.le_refl _) W l o o' hl h hc hw).cell (p := ⟨bf, 0, none⟩) h2).trans e

set_option maxRecDepth 100000 in
set_option maxHeartbeats 8000000 in
theorem versions13_of (f k : Int) (w : World) :
    CallsIn Fence.wide 4 Try.prog 12 #[.int .i64 f, .int .i64 k] w fun e w' => ∃ v, e = .returned v ∧ Zs w' w'.heap.size (M.vers f k) v ∧ Below w.heap.size w w' := by
  have hro : Fence.wide.round = none := rfl
  obtain ⟨i0, hi, hz0, hz1, hz2⟩ := info_parts Try.ofIntk
  refine callsIn_of_wp_marks Try.func12 rfl trivial ?_ hro
  simp only [Try.ntmps12, List.size_toArray, List.length_cons, List.length_nil, Nat.reduceAdd, Nat.reduceSub, Array.replicate_succ, Array.replicate_zero, List.push_toArray, List.append_toArray, List.nil_append, List.cons_append]
  gi_wp2_with (refine ⟨trivial, ?_⟩; gi_at_call 19; refine (versions13_in _ f k _).mono ?_; rintro e w' ⟨rfl, rfl⟩)
  obtain ⟨h, hh⟩ : ∃ h, w.heap.size = h := ⟨_, rfl⟩
  obtain ⟨W0, hW0⟩ : ∃ W0, (((w.alloc (Obj.cells #[Value.slice none 0 0] 28)).alloc (Obj.cells #[Value.int IntKind.i64 f] 3)).alloc (Obj.cells #[Value.int IntKind.i64 k] 3)) = W0 := ⟨_, rfl⟩
  have hX : VX w f k (h + 1) (h + 2) h [] W0 := by
    rw [← hW0, ← hh]
    refine ⟨⟨.slice none 0 0, ((Boxed.new w _ _).alloc _).alloc _, World.ownsRow_nil _ _ _ _⟩, ?_, ?_, (((Below.refl _ w).alloc (Nat.le_refl _) _).alloc (by simp) _).alloc (by simp; omega) _⟩
    · have := Boxed.new (w.alloc (Obj.cells #[Value.slice none 0 0] 28)) 3 (.int .i64 f)
      rw [World.size_alloc] at this
      exact this.alloc _
    · have := Boxed.new ((w.alloc (Obj.cells #[Value.slice none 0 0] 28)).alloc (Obj.cells #[Value.int IntKind.i64 f] 3)) 3 (.int .i64 k)
      rw [World.size_alloc, World.size_alloc] at this
      exact this
  have hsz : W0.heap.size = h + 3 := by rw [← hW0, ← hh]; simp
  rw [hW0]
  rw [hh]
  have HH := Lib.hid hh
  have HZ := Lib.hid hsz
  clear hW0 hh
  have hst := versions13_stops 2 f k (h + 2) (h + 1) W0 hX.xk.cell hX.xf.cell
  refine wpIn_rangeFunc_ownG (n := 4) hro (by omega) (gf := 23) (lb := #[.pointer (some ⟨h + 2, 0, none⟩), .pointer (some ⟨h + 1, 0, none⟩)]) rfl trivial (enters_of Try.func23 (by kernel_rfl) rfl)
    hst kp13_t (kp13_b (by omega) (by omega)) (Below.refl _ _) (fun _ => rfl) (VX w f k (h + 1) (h + 2) h) (fun _ _ _ => False) (vx_own (by rw [HH.out]; omega)) (fun _ _ _ _ _ hs _ _ => hs) hX
    (fun x => { tmps := #[Value.int IntKind.i64 f, Value.int IntKind.i64 k, undef, undef, Value.slice none 0 0, Value.pointer (some { block := h, off := 0 }), .int .i64 x, Value.int IntKind.i64 f, Value.int IntKind.i64 k,
          Value.func (Fn.func 23) #[] #[Value.pointer (some { block := h + 2, off := 0 }), Value.pointer (some { block := h + 1, off := 0 })], .int .i64 x, undef, undef, undef, undef, undef, undef, undef], defers := [] }) ?assign ?body ?done ?stop
  case assign =>
    intro l x W K hK
    clear hst hX hsz
    gi_wp2
    exact hK
  case body =>
    rintro l pre x W hI hlt
    clear hst hX hsz
    obtain ⟨⟨v, hv, hrow⟩, bf, bk, hlow⟩ := hI
    have hvc := hv.cell
    have HROW : Hid (W.ownsRow (w.heap.size + 3) 3 1 v pre.length (pre.map (Value.int .i64))) := Lib.hid hrow
    have HV := Lib.hid hv
    have HBF := Lib.hid bf
    have HBK := Lib.hid bk
    have HL := Lib.hid hlow
    have HLT := Lib.hid hlt
    have HSZ : Hid (w.heap.size + 3 ≤ W.heap.size) := Lib.hid (by have := World.block_lt_of_cell? _ _ bk.cell; rw [HH.out]; exact this)
    clear hrow hv bf bk hlow hlt
    gi_wp2_with (first
      | (gi_at_builtin; go_loud (refine wpListIn_append_own _ rfl _ _ 28 rfl (w.heap.size + 3) 3 i0 (.int .i64 0) 1 8 Try.underlying28 hi hz0 hz1 hz2 rfl (by decide) _ _ _ rfl (World.ownsRow.alloc HROW.out _) ⟨W.heap.size, 0, none⟩ 1 1 [.int .i64 x] rfl rfl (cell_one_new _ _ _) (by simp [Value.oneCell']) (by have := HLT.out; unfold maxLen; omega) (by have := HLT.out; omega) (by have := HSZ.out; simp; omega) ?_)
         intro v' w3 hown' hgrow _
         obtain ⟨g', cap', rfl⟩ := ownsRow_succ hown'
         obtain ⟨hv1, hv2, hr2, hk2, hb3⟩ := HV.out.appended (by decide) (ownsRow_low HROW.out (Nat.le_add_right _ 3)) HL.out.size (by rw [HH.out]; omega) (ownsRow_low hown' (Nat.le_add_right _ 3)) hgrow
         have hc1 := hv1.cell
         have hf1 := hv1.frozen))
    have nf := row_not_low HROW.out (b := h + 1) (by rw [HH.out]; omega)
    have nk := row_not_low HROW.out (b := h + 2) (by rw [HH.out]; omega)
    have bf3 := boxed_setk ((HBF.out.alloc _).kept hgrow nf) (B' := h) (u := .slice (some ⟨g', 0, none⟩) (pre.length + 1) cap') (by omega)
    have bk3 := boxed_setk ((HBK.out.alloc _).kept hgrow nk) (B' := h) (u := .slice (some ⟨g', 0, none⟩) (pre.length + 1) cap') (by omega)
    refine ⟨hk2.from _, ⟨hk2.walks, ?_, ?_⟩, ⟨⟨_, hv2, by unfold OwZ; rw [List.map_append, List.length_append]; exact hown'.kept (grownBy_setCell' _ h _) (.inr (hv1.not_row (by decide) hown').symm)⟩, bf3, bk3, HL.out.trans hb3⟩⟩
    · intro v2 e2
      rw [HBK.out.cell] at e2
      rw [← e2]
      exact bk3.cell
    · intro v2 e2
      rw [HBF.out.cell] at e2
      rw [← e2]
      exact bf3.cell
  case done =>
    rintro D ss W hD hS hI hK
    obtain ⟨⟨v, hv, hrow⟩, bf, bk, hlow⟩ := hI
    have hvc := hv.cell
    have hl14 : ss.length ≤ 14 := by
      have hp : ss.Perm (M.vers f k) := (List.perm_ext_iff_of_nodup hS.1 (M.vers_nodup f k)).2 fun v => by rw [hS.2 v, M.mem_vers]
      have := M.vers_len f k
      have := hp.length_eq
      omega
    have HS := Lib.hid (sort13 hrow hl14 (M.vers_sort hS.1 hS.2))
    have nb : some h ≠ v.ownBlock := row_not_low hrow (by rw [HH.out]; omega)
    have hD3 : w.heap.size + 3 ≤ D := by rw [HH.out, ← HZ.out]; exact hD
    have nd : some D ≠ v.ownBlock := by
      intro e1
      rcases hrow.2 with ⟨rfl, _⟩ | ⟨g, cap, cur, rfl, _, hgb, _⟩
      · cases e1
      · obtain rfl : D = g := by simpa [Value.ownBlock] using e1
        rw [hK] at hgb
        cases hgb
    have hvl : v.ownBlock = none ∨ ∃ g, v.ownBlock = some g ∧ w.heap.size + 3 ≤ g := by
      cases hb : v.ownBlock with
      | none => exact .inl rfl
      | some g => exact .inr ⟨g, rfl, (hrow.lt g hb).1⟩
    have HL := Lib.hid hlow
    have HV := Lib.hid hv
    have HB := Lib.hid nb
    have HD := Lib.hid nd
    have HVL := Lib.hid hvl
    have HD3 := Lib.hid hD3
    have HKD := Lib.hid hK
    have HDL : Hid (D < W.heap.size) := Lib.hid (Array.getElem?_eq_some_iff.1 hK).1
    clear hX hst hS hrow hlow bf bk hv hl14 nb nd hvl hD3 hsz
    gi_wp2_with (first
      | (refine ⟨trivial, ?_⟩; gi_at_call 20; refine (callsIn_wide.2 HS.out).mono ?_; rintro e w4 ⟨rfl, hz4, hg4⟩
         have hv4 := (HV.out.kept hg4 HB.out).cell
         have HZ4 := Lib.hid hz4
         have HG4 := Lib.hid hg4
         obtain ⟨va, vc, hsl⟩ := (OwZ.zs hz4).slice
         clear hz4 hg4)
      | gi_in)
    have hK4 : w4.heap[D]? = some (.deferred (some [])) := (HG4.out.block D HDL.out HD.out).trans HKD.out
    refine ⟨by simp, .inl ⟨_, _, rfl, run_takeDeferred hK4, ?_⟩⟩
    have hlow4 : Below w.heap.size w w4 := HL.out.grown HG4.out HL.out.size (fun q e => by
      rcases HVL.out with h0 | ⟨g, h0, h1⟩
      · rw [h0] at e; cases e
      · rw [h0] at e; cases e; omega)
    have hz5 := OwZ.zs (B := w.heap.size + 3) (ownsRow_putObj HZ4.out (.deferred none) hK4 rfl)
    rw [hsl] at hz5
    exact ⟨_, results_tmp rfl _ _ _, .slice va (M.vers f k).length vc, rfl, hz5, hlow4.trans (belowK_b (w := w) (Nat.le_refl _) w4 D _ _ (by have := HD3.out; omega) hK4 rfl rfl)⟩
  case stop =>
    rintro D c pre W _ _ h _
    exact h.elim
theorem versions13_any (f k : Int) (w : World) :
    Calls Try.prog 12 #[.int .i64 f, .int .i64 k] w fun e w' => ∃ v, e = .returned v ∧ Zs w' w'.heap.size (M.vers f k) v ∧ Below w.heap.size w w' := callsIn_wide.1 (versions13_of f k w)

set_option maxRecDepth 100000 in
set_option maxHeartbeats 4000000 in
theorem latest13_any (f k : Int) (w : World) : Calls Try.prog 14 #[.int .i64 f, .int .i64 k] w fun e w' =>
    e = .returned (.tuple #[.int .i64 (M.ltsV f k), .int .i64 (M.ltsE f k)]) ∧ Below w.heap.size w w' := by
  have HV := Lib.hid (versions13_any f k w)
  unfold M.ltsV M.ltsE
  have h5 := M.vers_len f k
  generalize M.vers f k = xs at *
  by_cases h0 : xs = []
  · subst h0
    simp only [if_pos]
    go_enter Try.func14, Try.ntmps14
    go_wp2_with fail
    refine HV.out.mono ?_
    rintro e w1 ⟨v, rfl, hz, hb⟩
    obtain ⟨va, vc, rfl⟩ := hz.slice
    go_wp2_with fail
    go_ret2
    exact ⟨rfl, hb⟩
  · rw [if_neg h0, if_neg h0]
    have h1 : 1 ≤ xs.length := by cases xs with
      | nil => exact absurd rfl h0
      | cons => simp
    obtain ⟨q, hq⟩ : ∃ q, xs.length = q + 1 := ⟨xs.length - 1, by omega⟩
    rw [show xs.length - 1 = q by omega]
    obtain ⟨y, hy⟩ : ∃ y, xs.getD q 0 = y := ⟨_, rfl⟩
    rw [hy]
    clear h0
    go_enter Try.func14, Try.ntmps14
    go_wp2_with fail
    refine HV.out.mono ?_
    rintro e w1 ⟨v, rfl, hz, hb⟩
    obtain ⟨va, vc, rfl⟩ := hz.slice
    obtain ⟨g, o, rfl, hg, hc⟩ := hz.cells h1
    have c1 := hc q (by omega)
    unfold M.gi at c1
    rw [hy] at c1
    rw [hq]
    clear hc hz h1 hy
    go_wp2_with fail
    go_ret2
    exact ⟨rfl, hb⟩
end Go.Proofs.Ythlcjjfnnfifeaa
