/- legal.versions: the function that it hands back tells each version that is legal once, in whatever order the map gives. -/
import Derived.Test.YthlcjjfnnfifeaaEL4
import Derived.Test.YthlcjjfnnfifeaaELZ
import Derived.Sort.MapsRangeIn
namespace Go.Proofs.Ythlcjjfnnfifeaa
open Go Go.RowKit Go.Shelf
attribute [local go_sem] Oper.semAt_some

/-- What has come so far. -/
def Col13 (f k : Int) (left : Lit → Bool) (ss : List Int) : Prop := ss.Nodup ∧ ∀ v, v ∈ ss ↔ (M.lgl f k v = true ∧ left (kL k v) = false)
theorem Col13.start {f k : Int} {D : DataW Value} (h : AtD D M.legT) : Col13 f k (Maps.has D) [] := by
  refine ⟨List.nodup_nil, fun v => ?_⟩
  simp
  intro hv
  obtain ⟨a, b, hs, _⟩ := M.lgl_span hv
  have h1 := h.at_ _ (M.span_mem hs)
  dsimp only at h1
  generalize kL k v = kl at h1 ⊢
  exact Maps.has_true_of_atKey h1
theorem lgl_wf {f k v : Int} (h : M.lgl f k v = true) : wfI k ∧ wfI v := by
  obtain ⟨a, b, hs, _⟩ := M.lgl_span h
  exact leg_wf _ (M.span_mem hs)
theorem sameKey_kL {k v k' v' : Int} (hk : wfI k) (hv : wfI v) (hk' : wfI k') (hv' : wfI v') : (kL k v).sameKey (kL k' v') = (decide (k = k') && decide (v = v')) := by
  cases hs : (kL k v).sameKey (kL k' v')
  · by_cases h : k = k' ∧ v = v'
    · obtain ⟨rfl, rfl⟩ := h
      rw [WideAt.sameKey_self (kL_key _ _)] at hs
      cases hs
    · have : (decide (k = k') && decide (v = v')) = false := by
        rw [Bool.and_eq_false_iff]
        by_cases h1 : k = k'
        · exact .inr (decide_eq_false (fun h2 => h ⟨h1, h2⟩))
        · exact .inl (decide_eq_false h1)
      rw [this]
  · obtain ⟨rfl, rfl⟩ := kL_inj hk hv hk' hv' (WideAt.sameKey_eq hs)
    simp
/-- An entry has come that is not told. -/
theorem Col13.skip {f k : Int} {left : Lit → Bool} {ss : List Int} (h : Col13 f k left ss) {k' v' : Int} (hk : wfI k') (hv : wfI v') (hn : ¬ (k' = k ∧ M.lgl f k v' = true)) : Col13 f k (fun z => left z && !z.sameKey (kL k' v')) ss := by
  refine ⟨h.1, fun v => ?_⟩
  rw [h.2 v]
  refine and_congr_right fun hl => ?_
  obtain ⟨w1, w2⟩ := lgl_wf hl
  dsimp only
  rw [sameKey_kL w1 w2 hk hv]
  have : (decide (k = k') && decide (v = v')) = false := by
    rw [Bool.and_eq_false_iff]
    by_cases h1 : k = k'
    · refine .inr (decide_eq_false fun h2 => hn ⟨h1.symm, ?_⟩)
      rw [← h2]; exact hl
    · exact .inl (decide_eq_false h1)
  rw [this]
  simp
/-- An entry has come that is told. -/
theorem Col13.step {f k : Int} {left : Lit → Bool} {ss : List Int} (h : Col13 f k left ss) {v' : Int} (hleft : left (kL k v') = true) (hl : M.lgl f k v' = true) : Col13 f k (fun z => left z && !z.sameKey (kL k v')) (ss ++ [v']) := by
  obtain ⟨w1, w2⟩ := lgl_wf hl
  have hnew : v' ∉ ss := fun hx => by have := ((h.2 v').1 hx).2; rw [hleft] at this; cases this
  refine ⟨List.nodup_append.2 ⟨h.1, by simp, fun a ha b hb => by simp at hb; subst hb; exact fun e => hnew (e ▸ ha)⟩, fun v => ?_⟩
  rw [List.mem_append, List.mem_singleton, h.2 v]
  dsimp only
  by_cases hv : v = v'
  · subst hv
    rw [sameKey_kL w1 w2 w1 w2]
    simp [hl]
  · constructor
    · rintro (⟨h1, h2⟩ | h1)
      · exact ⟨h1, by rw [h2]; rfl⟩
      · exact absurd h1 hv
    · rintro ⟨h1, h2⟩
      obtain ⟨w3, w4⟩ := lgl_wf h1
      rw [sameKey_kL w3 w4 w1 w2] at h2
      simp [hv] at h2
      exact .inl ⟨h1, h2⟩
theorem Col13.all {f k : Int} {left : Lit → Bool} {ss : List Int} (h : Col13 f k left ss) (hl : ∀ kl, left kl = false) : ss.Nodup ∧ ∀ v, v ∈ ss ↔ M.lgl f k v = true :=
  ⟨h.1, fun v => by rw [h.2 v, hl]; simp⟩
/-- What an entry is that comes. -/
theorem AtD.ent {D : DataW Value} (h : AtD D M.legT) {x : Value} {kl : Lit} {y : DataW Value} (hkey : keyOf Try.prog 40 x = some kl) (hat : ∀ zd, D.atKey kl zd = y) :
    ∃ p ∈ M.legT, x = kS p.1 p.2.1 ∧ kl = kL p.1 p.2.1 ∧ y = .held (rV p.2.2) := by
  by_cases hp : ∃ p ∈ M.legT, kl = kL p.1 p.2.1
  · obtain ⟨p, hp, rfl⟩ := hp
    obtain ⟨w1, w2⟩ := leg_wf p hp
    exact ⟨p, hp, fmtKeyed.inj hkey (keyS w1 w2), rfl, (hat .nil).symm.trans (h.at_ p hp .nil)⟩
  · have hn : ∀ p ∈ M.legT, kl ≠ kL p.1 p.2.1 := fun p hm e => hp ⟨p, hm, e⟩
    have h1 := (h.not_ kl .nil hn).symm.trans ((hat .nil).trans (hat (.held undef)).symm |>.trans (h.not_ kl (.held undef) hn))
    cases h1
/-- What a round that goes on keeps. -/
def Kp13 (bk bf : Nat) (A B : World) : Prop := KeepsWalks A B ∧ (∀ v, A.cell? ⟨bk, 0, none⟩ = some v → B.cell? ⟨bk, 0, none⟩ = some v) ∧ (∀ v, A.cell? ⟨bf, 0, none⟩ = some v → B.cell? ⟨bf, 0, none⟩ = some v)
theorem kp13_t {bk bf : Nat} {A B C : World} (h : Kp13 bk bf A B) (k : Kp13 bk bf B C) : Kp13 bk bf A C := ⟨h.1.trans k.1, fun v e => k.2.1 v (h.2.1 v e), fun v e => k.2.2 v (h.2.2 v e)⟩

theorem versions13_in (n : Nat) (f k : Int) (w : World) :
    CallsIn Fence.wide n Try.prog 19 #[.int .i64 f, .int .i64 k] w fun e w' =>
      e = .returned (.func (.func 23) #[] #[.pointer (some ⟨w.heap.size + 1, 0, none⟩), .pointer (some ⟨w.heap.size, 0, none⟩)]) ∧ w' = (w.alloc (.cells #[.int .i64 f] 3)).alloc (.cells #[.int .i64 k] 3) := by
  refine callsIn_of_wp Try.func19 rfl trivial ?_ rfl
  simp only [Try.ntmps19, List.size_toArray, List.length_cons, List.length_nil, Nat.reduceAdd, Nat.reduceSub, Array.replicate_succ, Array.replicate_zero, List.push_toArray, List.append_toArray, List.nil_append, List.cons_append]
  gi_wp2
  go_ret
  exact ⟨rfl, rfl⟩

set_option maxRecDepth 100000 in
set_option maxHeartbeats 4000000 in
theorem versions13_run (n : Nat) (f k : Int) (bk bf l : Nat) (J Jx : List Int → World → Prop)
    (hY : ∀ pre x W, J pre W → pre.length < 14 → YieldAt Fence.wide n Try.prog l #[.int .i64 x] W fun e W' =>
      (e = .returned (.bool true) ∧ J (pre ++ [x]) W' ∧ Kp13 bk bf W W') ∨ (e = .returned (.bool false) ∧ Jx (pre ++ [x]) W'))
    (W : World) (hJ : AbidesFrom W.heap.size J) (hk : W.cell? ⟨bk, 0, none⟩ = some (.int .i64 k)) (hf : W.cell? ⟨bf, 0, none⟩ = some (.int .i64 f)) (h0 : J [] W) :
    CallsIn Fence.wide (n + 1) Try.prog 23 #[.func (.yield l) #[] #[], .pointer (some ⟨bk, 0, none⟩), .pointer (some ⟨bf, 0, none⟩)] W fun e W' => (∃ v, e = .returned v) ∧
      ((∃ ss : List Int, (ss.Nodup ∧ ∀ v, v ∈ ss ↔ M.lgl f k v = true) ∧ J ss W') ∨ (∃ pre : List Int, True ∧ Jx pre W')) := by
  have hro : Fence.wide.round = none := rfl
  have hkb := World.block_lt_of_cell? _ _ hk
  have hfb := World.block_lt_of_cell? _ _ hf
  refine callsIn_of_wp Try.func23 rfl trivial ?_ rfl
  simp only [Try.ntmps23, List.size_toArray, List.length_cons, List.length_nil, Nat.reduceAdd, Nat.reduceSub, Array.replicate_succ, Array.replicate_zero, List.push_toArray, List.append_toArray, List.nil_append, List.cons_append]
  gi_wp2_with (first
    | (refine ⟨trivial, ?_⟩; gi_at_call 17; refine (callsIn_wide.2 (table13_any _)).mono ?_; rintro e w1 ⟨rfl, ⟨D, hT⟩, hb1⟩)
    | (gi_at_range; refine wpListIn_range_own _ rfl _ 37 rfl 40 35 fmtKeyed Try.underlying37 _ W.heap.size 14 _ rfl hT.2 ?_; intro w2 hrg0 hg0 hs0)
    | gi_in)
  go_frame
  have B1 : Below W.heap.size W w2 := hb1.trans ⟨hg0.os, hg0.tape, hg0.output, hg0.size, fun i hi => hg0.block i (Nat.lt_of_lt_of_le hi hb1.size) (by simp)⟩
  have hJ2 : J [] w2 := hJ [] W w2 none h0 (grown_below B1) (fun r e => by cases e)
  have hsz := hb1.size
  have hE : ∀ {x : Value} {kl : Lit} {y : DataW Value}, keyOf Try.prog 40 x = some kl → (∀ zd, D.atKey kl zd = y) → ∃ p ∈ M.legT, x = kS p.1 p.2.1 ∧ kl = kL p.1 p.2.1 ∧ y = .held (rV p.2.2) := fun h1 h2 => hT.1.ent h1 h2
  have hC0 := Col13.start (f := f) (k := k) hT.1
  have hm14 : Maps.size D ≤ 14 := hT.2.size_le
  obtain ⟨r, hr⟩ : ∃ r, w1.heap.size = r := ⟨_, rfl⟩
  rw [hr] at hrg0
  rw [hr]
  have ck2 := (B1.cell (p := ⟨bk, 0, none⟩) hkb).trans hk
  have cf2 := (B1.cell (p := ⟨bf, 0, none⟩) hfb).trans hf
  have hrb : W.heap.size ≤ r := by omega
  clear hg0 hs0 hb1 hT hk hf h0 B1 hsz hr w1
  gi_loopw [4, 5] (fun _ _ wr => ∃ (left : Lit → Bool) (cnt : Nat) (ss : List Int), wr.ranges Try.prog 40 Rv13 W.heap.size r 14 D left cnt ∧ ss.length + cnt ≤ 14 ∧ Col13 f k left ss ∧ J ss wr ∧ wr.cell? ⟨bk, 0, none⟩ = some (.int .i64 k) ∧ wr.cell? ⟨bf, 0, none⟩ = some (.int .i64 f))
    (fun _ _ wr => wr.rangeLeft W.heap.size r)
  case atStart => exact ⟨_, _, [], hrg0, by simpa using hm14, hC0, hJ2, ck2, cf2⟩
  case round =>
    clear hrg0 hC0 hJ2 ck2 cf2 hm14
    obtain ⟨left, cnt, ss, hrg, hcs, hC, hJs, ck, cf⟩ := hrel
    gi_wp2_with (first
      | (gi_at_next; refine wpListIn_next_ranges _ rfl _ rfl 40 fmtKeyed Rv13 id id (fun key kl hk => ⟨key, rfl⟩) (fun v _ _ => ⟨v, rfl⟩) W.heap.size r 14 _ _ _ rfl hrg ?_ ?_)
      | gi_in)
    · intro hc0 hl0
      gi_wp2
      go_end0
      exact ⟨⟨_, rfl⟩, .inl ⟨ss, hC.all hl0, hJs⟩⟩
    · intro x c kl yd yp w2 cnt2 hkey hlk hv hat hrg2 hlt hg2 hs2 hen
      have hcw : ∀ (p : Nat) v, wr.cell? ⟨p, 0, none⟩ = some v → w2.cell? ⟨p, 0, none⟩ = some v := fun p v e => (cell_kept e hg2 (fun q eq => by cases eq; obtain ⟨o, ho, hw⟩ := hrg.iter_walk; exact ⟨o, ho, Obj.not_cells_of_walk hw⟩))
      have ck2 := hcw _ _ ck
      have cf2 := hcw _ _ cf
      have hJ2 : J ss w2 := hJ ss wr w2 (some r) hJs hg2 (fun q e => by cases e; exact ⟨by omega, hrg.iter_walk⟩)
      obtain ⟨⟨k', v', a', b'⟩, hp, rfl, rfl, hyd⟩ := hE hkey hat
      dsimp only at hlk hrg2 hen hp hyd hkey
      have hs14 : ss.length < 14 := by omega
      have hsp : M.span k' v' = some (a', b') := M.span_of _ hp
      obtain ⟨wk, wv⟩ := leg_wf _ hp
      dsimp only at wk wv
      obtain rfl : c = rV (a', b') := by
        simp only [Rv13, Option.some.injEq, Prod.mk.injEq] at hv
        rw [← hv.1] at hyd
        exact DataW.held.inj hyd
      unfold kS rV at *
      dsimp only at *
      have hlg : M.lgl f k' v' = (decide (a' ≤ f) && decide (f ≤ b')) := by unfold M.lgl; rw [hsp]
      have HRG := Lib.hid hrg2
      have HLT := Lib.hid hlt
      have HG2 := Lib.hid hg2
      have HCK := Lib.hid hkey
      have kb2 := World.block_lt_of_cell? _ _ ck2
      have fb2 := World.block_lt_of_cell? _ _ cf2
      have ck3 : ∀ o o' : Obj, ((w2.alloc o).alloc o').cell? ⟨bk, 0, none⟩ = some (.int .i64 k) := fun o o' => by rw [World.cell?_alloc_lt _ _ _ (by rw [World.size_alloc]; exact Nat.lt_succ_of_lt (by assumption)), World.cell?_alloc_lt _ _ _ kb2]; exact ck2
      have cf3 : ∀ o o' : Obj, ((w2.alloc o).alloc o').cell? ⟨bf, 0, none⟩ = some (.int .i64 f) := fun o o' => by rw [World.cell?_alloc_lt _ _ _ (by rw [World.size_alloc]; exact Nat.lt_succ_of_lt (by assumption)), World.cell?_alloc_lt _ _ _ fb2]; exact cf2
      clear hs2 hkey hat hv hyd hcw ck cf hJs hp hsp hrg2 hlt hg2
      obtain ⟨w3, hw3⟩ : ∃ w3, (w2.alloc (.cells #[.int .i64 k', .int .i64 v'] 40)).alloc (.cells #[.int .i64 a', .int .i64 b'] 35) = w3 := ⟨_, rfl⟩
      have hs3 : w3.heap.size = w2.heap.size + 2 := by rw [← hw3]; simp
      have hb3 : Below w2.heap.size w2 w3 := by rw [← hw3]; exact ((Below.refl _ w2).alloc (Nat.le_refl _) _).alloc (by simp) _
      have hrg3 : w3.ranges Try.prog 40 Rv13 W.heap.size r 14 D (fun z => left z && !z.sameKey (kL k' v')) cnt2 := by rw [← hw3]; exact (HRG.out.alloc _).alloc _
      have cm : w3.cell? ⟨w2.heap.size, 1, none⟩ = some (.int .i64 v') := by
        rw [← hw3, World.cell?_alloc_lt _ _ _ (by simp), World.cell?_alloc_at _ _ _ _ (by simp)]; rfl
      have ck4 := ck3 (.cells #[.int .i64 k', .int .i64 v'] 40) (.cells #[.int .i64 a', .int .i64 b'] 35)
      have cf4 := cf3 (.cells #[.int .i64 k', .int .i64 v'] 40) (.cells #[.int .i64 a', .int .i64 b'] 35)
      rw [hw3] at ck4 cf4
      have hJ3 : J ss w3 := hJ ss w2 w3 none hJ2 (grown_below hb3) (fun q e => by cases e)
      have hm3 : w3.rangeLeft W.heap.size r < wr.rangeLeft W.heap.size r := by rw [hrg3.left_eq, hrg.left_eq]; exact HLT.out
      have CK4 := Lib.hid ck4
      have CF4 := Lib.hid cf4
      have CM := Lib.hid cm
      have HS3 := Lib.hid hs3
      have HB3 := Lib.hid hb3
      have HW3 := Lib.hid hw3
      have HM3 := Lib.hid hm3
      have HRG3 := Lib.hid hrg3
      have hlt2 := HLT.out
      have hcnt : ss.length + cnt2 ≤ 14 := by omega
      have hcnt1 : (ss ++ [v']).length + cnt2 ≤ 14 := by rw [List.length_append, List.length_singleton]; omega
      have HC1 := Lib.hid hcnt
      have HC2 := Lib.hid hcnt1
      have HS14 := Lib.hid hs14
      clear ck4 cf4 cm hs3 hb3 hw3 hm3 hrg3 hcnt hcnt1 hlt2 hs14 HRG HG2 HCK hcs
      by_cases hkk : k' = k
      · subst hkk
        have HL := Lib.hid hlg
        by_cases hl : (decide (a' ≤ f) && decide (f ≤ b')) = true
        · rw [hl] at HL
          clear hlg
          gi_wp2_with (first
            | (refine ⟨trivial, ?_⟩; gi_at_call 21; rw [HW3.out]; refine (callsIn_wide.2 (has13_any a' b' f _)).mono ?_; rintro e w4 ⟨rfl, hb4⟩; rw [hl]
               have cv4 := (hb4.cell (p := ⟨w2.heap.size, 1, none⟩) (by rw [HS3.out]; show w2.heap.size < _; omega)).trans CM.out
               have hJ4 := hJ ss w3 w4 none hJ3 (grown_below hb4) (fun q e => by cases e)
               obtain ⟨fn, tmps, assign, body, hy, hR⟩ := hY ss v' w4 hJ4 HS14.out
               have HB4 := Lib.hid hb4
               clear hb4)
            | gi_in)
          refine hR.mono ?_
          clear hR hy
          have hrg4 : w4.ranges Try.prog 40 Rv13 W.heap.size r 14 D (fun z => left z && !z.sameKey (kL k' v')) cnt2 := HRG3.out.kept (grown_below HB4.out) (by simp) (by simp)
          rintro e W3 (⟨rfl, hJ5, hkp⟩ | ⟨rfl, hJx5⟩)
          · gi_wp2
            have hrg5 := hrg4.of_walks hkp.1
            go_roundw
            case rel => exact ⟨_, cnt2, ss ++ [v'], hrg5, HC2.out, hC.step hlk HL.out, hJ5, hkp.2.1 _ ((HB4.out.cell (p := ⟨bk, 0, none⟩) (by rw [HS3.out]; show bk < _; omega)).trans CK4.out), hkp.2.2 _ ((HB4.out.cell (p := ⟨bf, 0, none⟩) (by rw [HS3.out]; show bf < _; omega)).trans CF4.out)⟩
            case measure => rw [hrg5.left_eq, hrg.left_eq]; exact HLT.out
          · gi_wp2
            refine bodyPost_ret (results_none rfl _ _ _) rfl ?_
            exact ⟨⟨_, rfl⟩, .inr ⟨ss ++ [v'], trivial, hJx5⟩⟩
        · rw [Bool.not_eq_true] at hl
          rw [hl] at HL
          clear hlg
          gi_wp2_with (first
            | (refine ⟨trivial, ?_⟩; gi_at_call 21; rw [HW3.out]; refine (callsIn_wide.2 (has13_any a' b' f _)).mono ?_; rintro e w4 ⟨rfl, hb4⟩; rw [hl])
            | gi_in)
          all_goals (refine ⟨fun _ h => (by cases h), ?_⟩)
          all_goals gi_wp2
          all_goals
            go_roundw
            case rel => exact ⟨_, cnt2, ss, HRG3.out.kept (grown_below hb4) (by simp) (by simp), HC1.out, hC.skip wk wv (fun h => by rw [HL.out] at h; cases h.2), hJ ss w3 w4 none hJ3 (grown_below hb4) (fun q e => by cases e), (hb4.cell (p := ⟨bk, 0, none⟩) (by rw [HS3.out]; show bk < _; omega)).trans CK4.out, (hb4.cell (p := ⟨bf, 0, none⟩) (by rw [HS3.out]; show bf < _; omega)).trans CF4.out⟩
            case measure => rw [(HRG3.out.kept (grown_below hb4) (by simp) (by simp)).left_eq, hrg.left_eq]; exact HLT.out
      · have hq : (k' == k) = false := by simp [hkk]
        gi_wp2_with (refine And.intro trivial ?_)
        all_goals (refine ⟨fun _ h => (by cases h), ?_⟩)
        all_goals gi_wp2
        all_goals rw [HW3.out]
        all_goals
          go_roundw
          case rel => exact ⟨_, cnt2, ss, HRG3.out, HC1.out, hC.skip wk wv (fun h => hkk h.1), hJ3, CK4.out, CF4.out⟩
          case measure => exact HM3.out
end Go.Proofs.Ythlcjjfnnfifeaa
