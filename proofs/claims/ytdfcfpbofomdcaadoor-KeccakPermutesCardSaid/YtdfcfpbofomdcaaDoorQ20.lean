/- keccak.Sum. -/
import Derived.Test.YtdfcfpbofomdcaaDoorQ14
import Derived.Test.YtdfcfpbofomdcaaDoorQ15
import Derived.Test.YtdfcfpbofomdcaaDoorQ16
import Derived.Test.YtdfcfpbofomdcaaDoorQ17
import Derived.Test.YtdfcfpbofomdcaaDoorQ18
import Derived.Test.YtdfcfpbofomdcaaDoorQ19
namespace Go.Proofs.YtdfcfpbofomdcaaDoor
open Go Go.RowKit Go.Shelf Go.Lib
attribute [local go_sem] Oper.semAt_some

/-- The state when j blocks of a text have been taken in. -/
def stP (a : List Nat) (t : List UInt8) (j : Nat) : List Nat := (List.range j).foldl (fun a j => M.permL (M.absL a ((t.drop (136 * j)).take 136))) a
theorem stP_succ (a : List Nat) (t : List UInt8) (j : Nat) : stP a t (j + 1) = M.permL (M.absL (stP a t j) ((t.drop (136 * j)).take 136)) := by simp [stP, List.range_succ]
theorem stP_all : ∀ (k : Nat) (a : List Nat) (t : List UInt8), stP a t k = M.blocksL k a t
  | 0, _, _ => rfl
  | k + 1, a, t => by
    rw [M.blocksL, ← stP_all k]
    unfold stP
    rw [List.range_succ_eq_map, List.foldl_cons, List.foldl_map]
    simp only [Nat.mul_zero, List.drop_zero, List.drop_drop]
    congr 1
    funext a j
    rw [show 136 * j.succ = 136 + 136 * j by rw [Nat.mul_succ]; omega]
theorem abs_lanes {a : List Nat} (ha : M.Lanes a) (b : List UInt8) : M.Lanes (M.absL a b) := by rw [← M.absP_all]; exact M.absP_lanes ha b 136
theorem stP_lanes {a : List Nat} (ha : M.Lanes a) (t : List UInt8) : ∀ j, M.Lanes (stP a t j)
  | 0 => ha
  | j + 1 => by rw [stP_succ]; exact M.perm_lanes (abs_lanes (stP_lanes ha t j) _)
theorem z25_lanes : M.Lanes z25 := M.zero_lanes
theorem Tryd.infoU8 : (Tryd.prog.info? 5).map (fun i => (i.zero, i.size, i.bytes)) = some (some (.int .u8 0), 1, 1) := by kernel_rfl

theorem keeps_below {W W' : World} (hb : Below W.heap.size W W') : KeepsOthers W W' := ⟨hb.size, fun k _ hk _ => (hb.block k (Array.getElem?_eq_some_iff.1 hk).1).trans hk⟩
theorem keeps_row {W : World} {b : Nat} {t : TypeId} {a : List Nat} (h : Rw W b t a) (c : Array Value) : KeepsOthers W (W.setRow b c) := ⟨by simp, fun k o hk ho => by
  by_cases hkb : k = b
  · subst hkb
    rw [show W.heap[k]? = _ from h] at hk
    cases hk
    cases ho
  · exact (setRow_other W b k c hkb).trans hk⟩
theorem bs_own {β : Type} (g off : Nat) (b : List UInt8) : Own (fun (_ : β) W => Bs W g off b) := fun _ _ _ _ hs hg hr j hj => cell_kept (hs j hj) hg hr
theorem cell_own {β : Type} (p : Addr) (v : Value) : Own (fun (_ : β) W => W.cell? p = some v) := fun _ _ _ _ hs hg hr => cell_kept hs hg hr
theorem cells_bytes (x : ByteArray) : strCells x = x.data.toList.map fun c : UInt8 => Value.int .u8 (c.toNat : Int) := rfl

set_option maxRecDepth 100000 in
set_option maxHeartbeats 8000000 in
theorem sum_in (b : ByteArray) (w : World) (hs : b.size ≤ 1000) (hT : Tab w) :
    CallsIn Fence.wide 4 Tryd.prog 14 #[.string b] w fun e w' => e = .returned (.string ⟨(M.sumL b.data.toList).toArray⟩) ∧ Below w.heap.size w w' := by
  have HT := Lib.hid hT
  clear hT
  obtain ⟨i0, hi, hz0, hz1, hz2⟩ := info_parts Tryd.infoU8
  have HI := Lib.hid hi
  clear hi
  have hro : Fence.wide.round = none := rfl
  refine callsIn_of_wp_marks Tryd.func14 rfl trivial ?_ hro
  simp only [Tryd.ntmps14, List.size_toArray, List.length_cons, List.length_nil, Nat.reduceAdd, Nat.reduceSub, Array.replicate_succ, Array.replicate_zero, List.push_toArray, List.append_toArray, List.nil_append, List.cons_append]
  obtain ⟨p, hp⟩ : ∃ p : ByteArray, p = ⟨(M.padL b.size).toArray⟩ := ⟨_, rfl⟩
  have hpz : p.size = (M.padL b.size).length := by rw [hp]; exact List.size_toArray
  have hpl : p.size ≤ 136 := by rw [hpz, M.padL_length]; omega
  have hkp : ∀ W, Calls Tryd.prog 12 #[.int .i64 (b.size : Int)] W fun e w' => e = .returned (.tuple #[.string p, .int .i64 0]) ∧ Below W.heap.size W w' := fun W => by rw [hp]; exact kpad b.size W (by omega)
  have HP := Lib.hid hp
  have HPZ := Lib.hid hpz
  clear hp hpz
  gi_wp2_with (first
    | (refine ⟨trivial, ?_⟩; gi_at_call 12; refine (callsIn_wide.2 (hkp _)).mono ?_; rintro e w1 ⟨rfl, hb1⟩)
    | (refine wpListIn_seal _ rfl _ _ 5 _ rfl b rfl Tryd.underlying9 Tryd.underlying38 Tryd.underlying5 (by unfold maxLen; omega) ?_
       intro cap cur w2 hSeal
       have hrow : w2.heap[w1.heap.size + 1]? = some (.cells cur 5 (cur.size, cur.size + 1)) := by simpa using hSeal.row
       have hs1 := hb1.size
       have hs2 : w2.heap.size = w1.heap.size + 1 + 1 := by simpa using hSeal.new
       have hs3 : w.heap.size ≤ w2.heap.size := by omega
       have hs4 : w1.heap.size + 1 ≤ w2.heap.size := by omega
       have HSeal := Lib.hid hSeal
       have HSZ := Lib.hid hs2
       have H63 : b.size + p.size ≤ maxLen := by unfold maxLen; omega
       have H47 : b.size + p.size ≤ 140737488355328 := by omega
       clear hs2 hSeal)
    | (refine wpListIn_append_sealed _ rfl _ _ _ _ rfl (w1.heap.size + 1) 5 i0 Tryd.underlying38 Tryd.underlying9 HI.out hz0 hz1 hz2 (w1.heap.size + 1) b.size cap cur rfl hrow HSeal.out.size HSeal.out.len HSeal.out.max (Nat.le_refl _) p rfl H63 H47 hs4 ?_
       intro g cap' w3 hG
       have HG := Lib.hid hG
       clear hG hrow)
    | (refine ⟨trivial, ?_⟩; gi_at_call 22; refine (chunk_in _ _ _ _ _).mono ?_; rintro e w' ⟨rfl, rfl⟩))
  obtain ⟨t, ht⟩ : ∃ t, t = b.data.toList ++ M.padL b.size := ⟨_, rfl⟩
  have hSeal := HSeal.out
  have hG := HG.out
  have hbl : b.size = b.data.toList.length := by rw [Array.length_toList]; rfl
  have htl : t.length = b.size + p.size := by rw [ht, List.length_append, HPZ.out, hbl]
  have hmul : (b.size + p.size) % 136 = 0 := by rw [HPZ.out]; exact M.padL_mul b.size
  obtain ⟨K, hK⟩ : ∃ K, K = (b.size + p.size) / 136 := ⟨_, rfl⟩
  have hlen : b.size + p.size = 136 * K := by omega
  have hBs : Bs w3 g 0 t := by
    intro j hj
    have hx : (cur.toList.take b.size ++ strCells p)[j]? = some (.int .u8 (((t.getD j 0).toNat : Nat) : Int)) := by
      rw [hSeal.take, cells_bytes, cells_bytes, ← List.map_append, HP.out, ← ht]
      simp [List.getD_eq_getElem?_getD, List.getElem?_eq_getElem hj]
    have := hG.cells j _ hx
    rwa [Nat.zero_add]
  obtain ⟨S, hS⟩ : ∃ S, S = w1.heap.size := ⟨_, rfl⟩
  have hg1 : S + 1 ≤ g := by rw [hS]; exact hG.own
  have hg2 := hG.lt
  have hR1 : Rw (w1.alloc (Obj.cells (lv z25) 23)) S 23 z25 := Rw.at_ _ _ _ hS.symm
  have hR2 : Rw w2 S 23 z25 := hR1.keep hSeal.low
  have hR3 : Rw w3 S 23 z25 := hR2.grown hG.kept (by rw [hS]; simp)
  have hb2 : Below w.heap.size w w2 := (hb1.alloc hs1 (Obj.cells (lv z25) 23)).trans (hSeal.low.mono (by simp; omega))
  have hb3 : Below w.heap.size w w3 := hb2.grown hG.kept hs3 (fun k e => by cases e; omega)
  obtain ⟨W0, hW0⟩ : ∃ W0, (w3.alloc (Obj.cells #[Value.slice (some { block := g, off := 0 }) (b.size + p.size) cap'] 38)).alloc (Obj.cells #[Value.int IntKind.i64 136] 3) = W0 := ⟨_, rfl⟩
  obtain ⟨bx, hbx⟩ : ∃ bx, bx = w3.heap.size := ⟨_, rfl⟩
  have jR : Rw W0 S 23 z25 := by rw [← hW0]; exact (hR3.alloc _).alloc _
  have jW : Below w.heap.size w W0 := by rw [← hW0]; exact (hb3.alloc hb3.size _).alloc (by have := hb3.size; simp; omega) _
  have jB : Bs W0 g 0 t := hBs.below (B := w3.heap.size) (by rw [← hW0]; exact ((Below.refl _ _).alloc (Nat.le_refl _) _).alloc (by simp) _) hg2
  have j1 : W0.cell? ⟨bx, 0, none⟩ = some (.slice (some ⟨g, 0, none⟩) (b.size + p.size) cap') := by rw [← hW0, hbx]; simp [go_sem]
  have j2 : W0.cell? ⟨bx + 1, 0, none⟩ = some (.int .i64 136) := by rw [← hW0, hbx]; simp [go_sem]
  have jsz : W0.heap.size = bx + 2 := by rw [← hW0, hbx]; simp
  have hcap := hG.cap
  have hmax := hG.max
  have hSb : S < bx := by omega
  have hwS : w.heap.size ≤ S := by omega
  have hgb : g < bx := by omega
  rw [hW0, ← hbx, ← hS]
  clear hW0 hbx hBs hR1 hR2 hR3 hb2 hb3 hg2 hSeal hG hs1 hs3 hs4 hb1 hS
  have HK := Lib.hid hlen
  have Htl := Lib.hid htl
  have HT0 := Lib.hid ht
  have HKd := Lib.hid hK
  have Hcap := Lib.hid hcap
  have Hmax := Lib.hid hmax
  have Hbl := Lib.hid hbl
  have hn0 : S ≠ g := by omega
  have hn1 : S ≠ bx := by omega
  have hn2 : S ≠ bx + 1 := by omega
  have Jsz := Lib.hid jsz
  have HSeal0 : True := trivial
  clear hlen htl ht hK hcap hmax hbl hmul hpl hs H63 H47 HI hz0 hz1 hz2 HSeal HG HSZ hkp jsz
  refine range_ax (n := 4) (by omega) (gf := 30) (lb := #[.pointer (some ⟨bx, 0, none⟩), .pointer (some ⟨bx + 1, 0, none⟩)]) rfl (enters_of Tryd.func30 (by kernel_rfl) rfl) (encs := fun j : Nat => #[.slice (some ⟨g, 136 * j, none⟩) 136 136]) (fun _ => rfl) (List.range K)
    (fun pre W => Rw W S 23 (stP z25 t pre.length) ∧ Bs W g 0 t ∧ W.cell? ⟨bx, 0, none⟩ = some (.slice (some ⟨g, 0, none⟩) (b.size + p.size) cap') ∧ W.cell? ⟨bx + 1, 0, none⟩ = some (.int .i64 136) ∧ Below w.heap.size w W ∧ W0.heap.size ≤ W.heap.size)
    ?own ?seq ⟨jR, jB, j1, j2, jW, Nat.le_refl _⟩
    (fun pre j a' W => a' = { tmps := #[Value.string b, undef, Value.string { data := #[] }, Value.string p, Value.int IntKind.i64 0, Value.pointer (some { block := S, off := 0 }), .slice (some ⟨g, 136 * j, none⟩) 136 136, Value.tuple #[Value.string p, Value.int IntKind.i64 0], Value.string b, Value.int IntKind.i64 ↑b.size, Value.tuple #[Value.string p, Value.int IntKind.i64 0], Value.string p, Value.int IntKind.i64 0, Value.string b, Value.slice (some { block := S + 1, off := 0 }) b.size cap, Value.string p, Value.slice (some { block := g, off := 0 }) (b.size + p.size) cap', Value.func (Fn.func 30) #[] #[Value.pointer (some { block := bx, off := 0 }), Value.pointer (some { block := bx + 1, off := 0 })], .slice (some ⟨g, 136 * j, none⟩) 136 136, undef, undef, undef, undef, undef, undef], defers := [] } ∧
      (Rw W S 23 (stP z25 t pre.length) ∧ Bs W g 0 t ∧ W.cell? ⟨bx, 0, none⟩ = some (.slice (some ⟨g, 0, none⟩) (b.size + p.size) cap') ∧ W.cell? ⟨bx + 1, 0, none⟩ = some (.int .i64 136) ∧ Below w.heap.size w W ∧ W0.heap.size ≤ W.heap.size))
    ?ownx ?assign ?body ?done
  case own =>
    exact ((rw_own _ _ (fun pre : List Nat => stP z25 t pre.length)).from _).and (((bs_own _ _ _).from _).and (((cell_own _ _).from _).and (((cell_own _ _).from _).and ((ownFrom_below (Nat.le_refl _) jW.size).and (size_own _ _)))))
  case ownx =>
    rintro pre j a' s A B row ⟨e, h1, h2, h3, h4, h5, h6⟩ hg' hr
    exact ⟨e, ((rw_own _ _ (fun _ : Unit => stP z25 t pre.length)).from W0.heap.size) s A B row h1 hg' hr, ((bs_own (β := Unit) _ _ _).from W0.heap.size) s A B row h2 hg' hr, ((cell_own (β := Unit) _ _).from W0.heap.size) s A B row h3 hg' hr, ((cell_own (β := Unit) _ _).from W0.heap.size) s A B row h4 hg' hr, (ownFrom_below (β := Unit) (Nat.le_refl _) jW.size) s A B row h5 hg' hr, Nat.le_trans h6 hg'.size⟩
  case seq =>
    intro l J W hJI hd hY hJ0
    refine (chunk_run 2 K (b.size + p.size) cap' g HK.out Hcap.out Hmax.out l bx (bx + 1) J (fun pre W h => ⟨(hJI pre W h).2.2.1, (hJI pre W h).2.2.2.1⟩) hd ?_ W hJ0).mono ?_
    · intro j W1 hj hJ1
      obtain ⟨post, hp⟩ := range_cut hj
      have := hY _ j post W1 hp hJ1
      rwa [← List.range_succ] at this
    · rintro e W' ⟨hv, hj⟩
      exact ⟨hv, hj⟩
  case assign =>
    intro l pre j post W Kk hx hI hK
    have hK2 := hK _ W (KeepsOthers.refl _) ⟨rfl, hI⟩
    have HK2 := Lib.hid hK2
    clear hK hK2 hI hx jR jB j1 j2 jW
    gi_wp2
    exact HK2.out
  case body =>
    rintro l pre j post a' W hx ⟨rfl, iR, iB, i1, i2, iW, i0⟩
    obtain ⟨h1, h2, h3⟩ := range_part hx
    subst h2
    rw [List.length_append, List.length_singleton]
    have HL := Lib.hid (stP_lanes z25_lanes t pre.length)
    have HN := Lib.hid (stP_succ z25 t pre.length)
    have hpart := iB.part (136 * pre.length) 136
    have hpl : ((t.drop (136 * pre.length)).take 136).length = 136 := by
      have h4 := Htl.out
      have h5 := HK.out
      rw [List.length_take, List.length_drop]
      omega
    have hgW : g < W.heap.size := by have := Jsz.out; omega
    have hT := HT.out.from iW
    generalize pre.length = j at *
    have hI1 := Lib.hid i1
    have hI2 := Lib.hid i2
    clear jR jB j1 j2 jW h1 h3 hx i1 i2
    generalize stP z25 t j = a at *
    generalize (t.drop (136 * j)).take 136 = blk at *
    have HAb := Lib.hid (abs_lanes HL.out blk)
    have h25 := Lib.hid (M.perm_lanes HAb.out).1
    gi_wp2_with (refine wpListIn_load_st rfl _ _ rfl _ rfl _ _ 25 22 iR Tryd.array25 Tryd.size25 HL.out.1 ?_)
    refine ⟨trivial, ?_⟩
    refine (CallsIn.inRound l (callsIn_wide.2 (ktake a blk g (136 * j) 136 W HL.out hpart hgW hpl))).mono ?_
    rintro e w5 ⟨rfl, hb5⟩
    have hT5 := hT.from hb5
    clear hT hpart
    gi_wp2_with fail
    refine ⟨trivial, ?_⟩
    refine (CallsIn.inRound l (callsIn_wide.2 (kperm _ w5 HAb.out hT5))).mono ?_
    rintro e w6 ⟨rfl, hb6⟩
    have hb : Below W.heap.size W w6 := hb5.trans (hb6.mono hb5.size)
    have hS6 : S < W.heap.size := iR.lt
    replace iR := iR.keep hb
    clear hT5 hb5 hb6
    gi_wp2_with (refine wpListIn_store_st rfl _ _ _ rfl _ _ rfl rfl _ _ 25 iR Tryd.size25 h25.out HL.out.1 ?_)
    have hw6 : Below w.heap.size w w6 := iW.trans (hb.mono iW.size)
    have hq : Below w.heap.size w (w6.setRow S (lv (M.permL (M.absL a blk)))) := below_setRow hw6 hwS _
    have hr : Rw (w6.setRow S (lv (M.permL (M.absL a blk)))) S 23 (M.permL (M.absL a blk)) := iR.row _
    have hbb := (iB.below (B := W.heap.size) hb hgW)
    have hbb2 : Bs (w6.setRow S (lv (M.permL (M.absL a blk)))) g 0 t := fun i hi => (cell_setRow_other w6 S _ ⟨g, 0 + i, none⟩ (by simpa using hn0.symm)).trans (hbb i hi)
    have hs6 := hb.size
    have hbx1 : bx < W.heap.size := by have := Jsz.out; omega
    have hbx2 : bx + 1 < W.heap.size := by have := Jsz.out; omega
    have hc1 : (w6.setRow S (lv (M.permL (M.absL a blk)))).cell? ⟨bx, 0, none⟩ = some (.slice (some ⟨g, 0, none⟩) (b.size + p.size) cap') := (cell_setRow_other w6 S _ ⟨bx, 0, none⟩ (by simpa using hn1.symm)).trans ((hb.cell (p := ⟨bx, 0, none⟩) hbx1).trans hI1.out)
    have hc2 : (w6.setRow S (lv (M.permL (M.absL a blk)))).cell? ⟨bx + 1, 0, none⟩ = some (.int .i64 136) := (cell_setRow_other w6 S _ ⟨bx + 1, 0, none⟩ (by simpa using hn2.symm)).trans ((hb.cell (p := ⟨bx + 1, 0, none⟩) hbx2).trans hI2.out)
    have hko : KeepsOthers W (w6.setRow S (lv (M.permL (M.absL a blk)))) := (keeps_below hb).trans (keeps_row iR _)
    have hsz : W0.heap.size ≤ (w6.setRow S (lv (M.permL (M.absL a blk)))).heap.size := by simp; omega
    rw [← HN.out] at hr hko hq hbb2 hc1 hc2 hsz ⊢
    exact ⟨hko, hr, hbb2, hc1, hc2, hq, by simpa using hsz⟩
  case done =>
    intro D W hD hI hK
    obtain ⟨iR, iB, i1, i2, iW, i0⟩ := hI
    rw [List.length_range, stP_all] at iR
    have hLs := stP_lanes z25_lanes t K
    rw [stP_all] at hLs
    have HLs := Lib.hid hLs
    have HS : Hid (M.sumL b.data.toList = M.outL (M.blocksL K z25 t)) := by
      show _ = _
      unfold M.sumL
      rw [← Hbl.out, ← HPZ.out, ← HKd.out, ← HT0.out]
      rfl
    have hwW := jW.size
    clear jR jB j1 j2 jW i1 i2 iB hLs
    generalize M.blocksL K z25 t = a at *
    gi_wp2_with (first | (refine wpListIn_load_st rfl _ _ rfl _ rfl _ _ 25 22 iR Tryd.array25 Tryd.size25 HLs.out.1 ?_) | (refine ⟨trivial, ?_⟩; gi_at_call 24; refine (callsIn_wide.2 (kfirst a W HLs.out)).mono ?_; rintro e w7 ⟨rfl, hb7⟩))
    have hK2 : w7.heap[D]? = some (.deferred (some [])) := (hb7.block D (Array.getElem?_eq_some_iff.1 hK).1).trans hK
    refine ⟨by simp, .inl ⟨_, _, rfl, run_takeDeferred hK2, ?_⟩⟩
    rw [HS.out]
    exact ⟨_, results_tmp rfl _ _ _, rfl, (iW.trans (hb7.mono iW.size)).trans (belowK_b (w := w) (Nat.le_refl _) _ D _ _ (by omega) hK2 rfl rfl)⟩
end Go.Proofs.YtdfcfpbofomdcaaDoor
