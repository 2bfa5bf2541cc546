/- keccak.Sum. The landed package merkle: the sums of each two. strings.Clone: the same bytes. The landed package merkle: the root of chunks; a root, and a number. The landed package merkle: bytes, cut into chunks. The landed package merkle: chunks; bytes in chunks, summed up. The landed package merkle: the table of roots: a map of functions. Plain: roots, kind by kind. The landed package ssz: put, Put. The landed package merkle: bytes in chunks, summed up; the bytes of a value; bits. -/
import Derived.Test.YtgloapcfmlijlaaGreatDoorH15
import Derived.Test.YtgloapcfmlijlaaGreatDoorQ19g
import Derived.Test.YtgloapcfmlijlaaGreatDoorH11
import Derived.Test.YtgloapcfmlijlaaGreatDoorH13
import Derived.Test.YtgloapcfmlijlaaGreatDoorH14
import Derived.Test.YtgloapcfmlijlaaGreatDoorH02
import Derived.Lib.BufferWrite
import Derived.Lib.UnsafeStr
import Derived.Lib.Hide
import Derived.Laws.MakeOwn
import Derived.Test.YtgloapcfmlijlaaGreatDoorH12
import Derived.Test.YtgloapcfmlijlaaGreatDoorH07
import Derived.Test.YtgloapcfmlijlaaGreatDoorH10
import Derived.Laws.BytesArg
namespace Go.Proofs.YtgloapcfmlijlaaGreatDoor
open Go Go.RowKit Go.Shelf Go.Lib
attribute [local go_sem] Oper.semAt_some

/-- The state when j blocks of a text have been taken in. -/
def stP (a : List Nat) (t : List UInt8) (j : Nat) : List Nat := (List.range j).foldl (fun a j => M.permL (M.absL a ((t.drop (136 * j)).take 136))) a
theorem stP_succ (a : List Nat) (t : List UInt8) (j : Nat) : stP a t (j + 1) = M.permL (M.absL (stP a t j) ((t.drop (136 * j)).take 136)) := by simp [stP, List.range_succ]
theorem stP_all : ∀ (k : Nat) (a : List Nat) (t : List UInt8), stP a t k = M.blocksL k a t
  | 0, _, _ => rfl
  | k + 1, a, t => by
    rw [M.blocksL, ← stP_all k]
    unfold stP
    rw [List.range_succ_eq_map, List.foldl_cons, List.foldl_map]
    simp only [Nat.mul_zero, List.drop_zero, List.drop_drop]
    congr 1
    funext a j
    rw [show 136 * j.succ = 136 + 136 * j by rw [Nat.mul_succ]; omega]
theorem abs_lanes {a : List Nat} (ha : M.Lanes a) (b : List UInt8) : M.Lanes (M.absL a b) := by rw [← M.absP_all]; exact M.absP_lanes ha b 136
theorem stP_lanes {a : List Nat} (ha : M.Lanes a) (t : List UInt8) : ∀ j, M.Lanes (stP a t j)
  | 0 => ha
  | j + 1 => by rw [stP_succ]; exact M.perm_lanes (abs_lanes (stP_lanes ha t j) _)
theorem z25_lanes : M.Lanes z25 := M.zero_lanes
theorem Tryz.infoU8q : (Tryz.prog.info? 5).map (fun i => (i.zero, i.size, i.bytes)) = some (some (.int .u8 0), 1, 1) := by kernel_rfl

theorem keeps_below {W W' : World} (hb : Below W.heap.size W W') : KeepsOthers W W' := ⟨hb.size, fun k _ hk _ => (hb.block k (Array.getElem?_eq_some_iff.1 hk).1).trans hk⟩
theorem keeps_row {W : World} {b : Nat} {t : TypeId} {a : List Nat} (h : Rw W b t a) (c : Array Value) : KeepsOthers W (W.setRow b c) := ⟨by simp, fun k o hk ho => by
  by_cases hkb : k = b
  · subst hkb
    rw [show W.heap[k]? = _ from h] at hk
    cases hk
    cases ho
  · exact (setRow_other W b k c hkb).trans hk⟩
theorem bs_own {β : Type} (g off : Nat) (b : List UInt8) : Own (fun (_ : β) W => Bs W g off b) := fun _ _ _ _ hs hg hr j hj => cell_kept (hs j hj) hg hr
theorem cell_own {β : Type} (p : Addr) (v : Value) : Own (fun (_ : β) W => W.cell? p = some v) := fun _ _ _ _ hs hg hr => cell_kept hs hg hr
theorem cells_bytes (x : ByteArray) : strCells x = x.data.toList.map fun c : UInt8 => Value.int .u8 (c.toNat : Int) := rfl

set_option maxRecDepth 100000 in
set_option maxHeartbeats 8000000 in
theorem sum_in (b : ByteArray) (w : World) (hs : b.size ≤ 1000) (hT : Tab w) :
    CallsIn Fence.wide 4 Tryz.prog 23 #[.string b] w fun e w' => e = .returned (.string ⟨(M.sumL b.data.toList).toArray⟩) ∧ Below w.heap.size w w' := by
  have HT := Lib.hid hT
  clear hT
  obtain ⟨i0, hi, hz0, hz1, hz2⟩ := info_parts Tryz.infoU8q
  have HI := Lib.hid hi
  clear hi
  have hro : Fence.wide.round = none := rfl
  refine callsIn_of_wp_marks Tryz.func23 rfl trivial ?_ hro
  simp only [Tryz.ntmps23, List.size_toArray, List.length_cons, List.length_nil, Nat.reduceAdd, Nat.reduceSub, Array.replicate_succ, Array.replicate_zero, List.push_toArray, List.append_toArray, List.nil_append, List.cons_append]
  obtain ⟨p, hp⟩ : ∃ p : ByteArray, p = ⟨(M.padL b.size).toArray⟩ := ⟨_, rfl⟩
  have hpz : p.size = (M.padL b.size).length := by rw [hp]; exact List.size_toArray
  have hpl : p.size ≤ 136 := by rw [hpz, M.padL_length]; omega
  have hkp : ∀ W, Calls Tryz.prog 48 #[.int .i64 (b.size : Int)] W fun e w' => e = .returned (.tuple #[.string p, .int .i64 0]) ∧ Below W.heap.size W w' := fun W => by rw [hp]; exact kpad b.size W (by omega)
  have HP := Lib.hid hp
  have HPZ := Lib.hid hpz
  clear hp hpz
  gi_wp2_with (first
    | (refine ⟨trivial, ?_⟩; gi_at_call 48; refine (callsIn_wide.2 (hkp _)).mono ?_; rintro e w1 ⟨rfl, hb1⟩)
    | (refine wpListIn_seal _ rfl _ _ 5 _ rfl b rfl Tryz.underlying9 Tryz.underlying48 Tryz.underlying5 (by unfold maxLen; omega) ?_
       intro cap cur w2 hSeal
       have hrow : w2.heap[w1.heap.size + 1]? = some (.cells cur 5 (cur.size, cur.size + 1)) := by simpa using hSeal.row
       have hs1 := hb1.size
       have hs2 : w2.heap.size = w1.heap.size + 1 + 1 := by simpa using hSeal.new
       have hs3 : w.heap.size ≤ w2.heap.size := by omega
       have hs4 : w1.heap.size + 1 ≤ w2.heap.size := by omega
       have HSeal := Lib.hid hSeal
       have HSZ := Lib.hid hs2
       have H63 : b.size + p.size ≤ maxLen := by unfold maxLen; omega
       have H47 : b.size + p.size ≤ 140737488355328 := by omega
       clear hs2 hSeal)
    | (refine wpListIn_append_sealed _ rfl _ _ _ _ rfl (w1.heap.size + 1) 5 i0 Tryz.underlying48 Tryz.underlying9 HI.out hz0 hz1 hz2 (w1.heap.size + 1) b.size cap cur rfl hrow HSeal.out.size HSeal.out.len HSeal.out.max (Nat.le_refl _) p rfl H63 H47 hs4 ?_
       intro g cap' w3 hG
       have HG := Lib.hid hG
       clear hG hrow)
    | (refine ⟨trivial, ?_⟩; gi_at_call 49; refine (chunk_in _ _ _ _ _).mono ?_; rintro e w' ⟨rfl, rfl⟩))
  obtain ⟨t, ht⟩ : ∃ t, t = b.data.toList ++ M.padL b.size := ⟨_, rfl⟩
  have hSeal := HSeal.out
  have hG := HG.out
  have hbl : b.size = b.data.toList.length := by rw [Array.length_toList]; rfl
  have htl : t.length = b.size + p.size := by rw [ht, List.length_append, HPZ.out, hbl]
  have hmul : (b.size + p.size) % 136 = 0 := by rw [HPZ.out]; exact M.padL_mul b.size
  obtain ⟨K, hK⟩ : ∃ K, K = (b.size + p.size) / 136 := ⟨_, rfl⟩
  have hlen : b.size + p.size = 136 * K := by omega
  have hBs : Bs w3 g 0 t := by
    intro j hj
    have hx : (cur.toList.take b.size ++ strCells p)[j]? = some (.int .u8 (((t.getD j 0).toNat : Nat) : Int)) := by
      rw [hSeal.take, cells_bytes, cells_bytes, ← List.map_append, HP.out, ← ht]
      simp [List.getD_eq_getElem?_getD, List.getElem?_eq_getElem hj]
    have := hG.cells j _ hx
    rwa [Nat.zero_add]
  obtain ⟨S, hS⟩ : ∃ S, S = w1.heap.size := ⟨_, rfl⟩
  have hg1 : S + 1 ≤ g := by rw [hS]; exact hG.own
  have hg2 := hG.lt
  have hR1 : Rw (w1.alloc (Obj.cells (lv z25) 70)) S 70 z25 := Rw.at_ _ _ _ hS.symm
  have hR2 : Rw w2 S 70 z25 := hR1.keep hSeal.low
  have hR3 : Rw w3 S 70 z25 := hR2.grown hG.kept (by rw [hS]; simp)
  have hb2 : Below w.heap.size w w2 := (hb1.alloc hs1 (Obj.cells (lv z25) 70)).trans (hSeal.low.mono (by simp; omega))
  have hb3 : Below w.heap.size w w3 := hb2.grown hG.kept hs3 (fun k e => by cases e; omega)
  obtain ⟨W0, hW0⟩ : ∃ W0, (w3.alloc (Obj.cells #[Value.slice (some { block := g, off := 0 }) (b.size + p.size) cap'] 48)).alloc (Obj.cells #[Value.int IntKind.i64 136] 3) = W0 := ⟨_, rfl⟩
  obtain ⟨bx, hbx⟩ : ∃ bx, bx = w3.heap.size := ⟨_, rfl⟩
  have jR : Rw W0 S 70 z25 := by rw [← hW0]; exact (hR3.alloc _).alloc _
  have jW : Below w.heap.size w W0 := by rw [← hW0]; exact (hb3.alloc hb3.size _).alloc (by have := hb3.size; simp; omega) _
  have jB : Bs W0 g 0 t := hBs.below (B := w3.heap.size) (by rw [← hW0]; exact ((Below.refl _ _).alloc (Nat.le_refl _) _).alloc (by simp) _) hg2
  have j1 : W0.cell? ⟨bx, 0, none⟩ = some (.slice (some ⟨g, 0, none⟩) (b.size + p.size) cap') := by rw [← hW0, hbx]; simp [go_sem]
  have j2 : W0.cell? ⟨bx + 1, 0, none⟩ = some (.int .i64 136) := by rw [← hW0, hbx]; simp [go_sem]
  have jsz : W0.heap.size = bx + 2 := by rw [← hW0, hbx]; simp
  have hcap := hG.cap
  have hmax := hG.max
  have hSb : S < bx := by omega
  have hwS : w.heap.size ≤ S := by omega
  have hgb : g < bx := by omega
  rw [hW0, ← hbx, ← hS]
  clear hW0 hbx hBs hR1 hR2 hR3 hb2 hb3 hg2 hSeal hG hs1 hs3 hs4 hb1 hS
  have HK := Lib.hid hlen
  have Htl := Lib.hid htl
  have HT0 := Lib.hid ht
  have HKd := Lib.hid hK
  have Hcap := Lib.hid hcap
  have Hmax := Lib.hid hmax
  have Hbl := Lib.hid hbl
  have hn0 : S ≠ g := by omega
  have hn1 : S ≠ bx := by omega
  have hn2 : S ≠ bx + 1 := by omega
  have Jsz := Lib.hid jsz
  have HSeal0 : True := trivial
  clear hlen htl ht hK hcap hmax hbl hmul hpl hs H63 H47 HI hz0 hz1 hz2 HSeal HG HSZ hkp jsz
  refine range_ax (n := 4) (by omega) (gf := 103) (lb := #[.pointer (some ⟨bx, 0, none⟩), .pointer (some ⟨bx + 1, 0, none⟩)]) rfl (enters_of Tryz.func103 (by kernel_rfl) rfl) (encs := fun j : Nat => #[.slice (some ⟨g, 136 * j, none⟩) 136 136]) (fun _ => rfl) (List.range K)
    (fun pre W => Rw W S 70 (stP z25 t pre.length) ∧ Bs W g 0 t ∧ W.cell? ⟨bx, 0, none⟩ = some (.slice (some ⟨g, 0, none⟩) (b.size + p.size) cap') ∧ W.cell? ⟨bx + 1, 0, none⟩ = some (.int .i64 136) ∧ Below w.heap.size w W ∧ W0.heap.size ≤ W.heap.size)
    ?own ?seq ⟨jR, jB, j1, j2, jW, Nat.le_refl _⟩
    (fun pre j a' W => a' = { tmps := #[Value.string b, undef, Value.string { data := #[] }, Value.string p, Value.int IntKind.i64 0, Value.pointer (some { block := S, off := 0 }), .slice (some ⟨g, 136 * j, none⟩) 136 136, Value.tuple #[Value.string p, Value.int IntKind.i64 0], Value.string b, Value.int IntKind.i64 ↑b.size, Value.tuple #[Value.string p, Value.int IntKind.i64 0], Value.string p, Value.int IntKind.i64 0, Value.string b, Value.slice (some { block := S + 1, off := 0 }) b.size cap, Value.string p, Value.slice (some { block := g, off := 0 }) (b.size + p.size) cap', Value.func (Fn.func 103) #[] #[Value.pointer (some { block := bx, off := 0 }), Value.pointer (some { block := bx + 1, off := 0 })], .slice (some ⟨g, 136 * j, none⟩) 136 136, undef, undef, undef, undef, undef, undef], defers := [] } ∧
      (Rw W S 70 (stP z25 t pre.length) ∧ Bs W g 0 t ∧ W.cell? ⟨bx, 0, none⟩ = some (.slice (some ⟨g, 0, none⟩) (b.size + p.size) cap') ∧ W.cell? ⟨bx + 1, 0, none⟩ = some (.int .i64 136) ∧ Below w.heap.size w W ∧ W0.heap.size ≤ W.heap.size))
    ?ownx ?assign ?body ?done
  case own =>
    exact ((rw_own _ _ (fun pre : List Nat => stP z25 t pre.length)).from _).and (((bs_own _ _ _).from _).and (((cell_own _ _).from _).and (((cell_own _ _).from _).and ((ownFrom_below (Nat.le_refl _) jW.size).and (size_own _ _)))))
  case ownx =>
    rintro pre j a' s A B row ⟨e, h1, h2, h3, h4, h5, h6⟩ hg' hr
    exact ⟨e, ((rw_own _ _ (fun _ : Unit => stP z25 t pre.length)).from W0.heap.size) s A B row h1 hg' hr, ((bs_own (β := Unit) _ _ _).from W0.heap.size) s A B row h2 hg' hr, ((cell_own (β := Unit) _ _).from W0.heap.size) s A B row h3 hg' hr, ((cell_own (β := Unit) _ _).from W0.heap.size) s A B row h4 hg' hr, (ownFrom_below (β := Unit) (Nat.le_refl _) jW.size) s A B row h5 hg' hr, Nat.le_trans h6 hg'.size⟩
  case seq =>
    intro l J W hJI hd hY hJ0
    refine (chunk_run 2 K (b.size + p.size) cap' g HK.out Hcap.out Hmax.out l bx (bx + 1) J (fun pre W h => ⟨(hJI pre W h).2.2.1, (hJI pre W h).2.2.2.1⟩) hd ?_ W hJ0).mono ?_
    · intro j W1 hj hJ1
      obtain ⟨post, hp⟩ := range_cutq hj
      have := hY _ j post W1 hp hJ1
      rwa [← List.range_succ] at this
    · rintro e W' ⟨hv, hj⟩
      exact ⟨hv, hj⟩
  case assign =>
    intro l pre j post W Kk hx hI hK
    have hK2 := hK _ W (KeepsOthers.refl _) ⟨rfl, hI⟩
    have HK2 := Lib.hid hK2
    clear hK hK2 hI hx jR jB j1 j2 jW
    gi_wp2
    exact HK2.out
  case body =>
    rintro l pre j post a' W hx ⟨rfl, iR, iB, i1, i2, iW, i0⟩
    obtain ⟨h1, h2, h3⟩ := range_partq hx
    subst h2
    rw [List.length_append, List.length_singleton]
    have HL := Lib.hid (stP_lanes z25_lanes t pre.length)
    have HN := Lib.hid (stP_succ z25 t pre.length)
    have hpart := iB.part (136 * pre.length) 136
    have hpl : ((t.drop (136 * pre.length)).take 136).length = 136 := by
      have h4 := Htl.out
      have h5 := HK.out
      rw [List.length_take, List.length_drop]
      omega
    have hgW : g < W.heap.size := by have := Jsz.out; omega
    have hT := HT.out.from iW
    generalize pre.length = j at *
    have hI1 := Lib.hid i1
    have hI2 := Lib.hid i2
    clear jR jB j1 j2 jW h1 h3 hx i1 i2
    generalize stP z25 t j = a at *
    generalize (t.drop (136 * j)).take 136 = blk at *
    have HAb := Lib.hid (abs_lanes HL.out blk)
    have h25 := Lib.hid (M.perm_lanes HAb.out).1
    gi_wp2_with (refine wpListIn_load_st rfl _ _ rfl _ rfl _ _ 25 27 iR Tryz.array25 Tryz.size25 HL.out.1 ?_)
    refine ⟨trivial, ?_⟩
    refine (CallsIn.inRound l (callsIn_wide.2 (ktake a blk g (136 * j) 136 W HL.out hpart hgW hpl))).mono ?_
    rintro e w5 ⟨rfl, hb5⟩
    have hT5 := hT.from hb5
    clear hT hpart
    gi_wp2_with fail
    refine ⟨trivial, ?_⟩
    refine (CallsIn.inRound l (callsIn_wide.2 (kperm _ w5 HAb.out hT5))).mono ?_
    rintro e w6 ⟨rfl, hb6⟩
    have hb : Below W.heap.size W w6 := hb5.trans (hb6.mono hb5.size)
    have hS6 : S < W.heap.size := iR.lt
    replace iR := iR.keep hb
    clear hT5 hb5 hb6
    gi_wp2_with (refine wpListIn_store_st rfl _ _ _ rfl _ _ rfl rfl _ _ 25 iR Tryz.size25 h25.out HL.out.1 ?_)
    have hw6 : Below w.heap.size w w6 := iW.trans (hb.mono iW.size)
    have hq : Below w.heap.size w (w6.setRow S (lv (M.permL (M.absL a blk)))) := below_setRow hw6 hwS _
    have hr : Rw (w6.setRow S (lv (M.permL (M.absL a blk)))) S 70 (M.permL (M.absL a blk)) := iR.row _
    have hbb := (iB.below (B := W.heap.size) hb hgW)
    have hbb2 : Bs (w6.setRow S (lv (M.permL (M.absL a blk)))) g 0 t := fun i hi => (cell_setRow_other w6 S _ ⟨g, 0 + i, none⟩ (by simpa using hn0.symm)).trans (hbb i hi)
    have hs6 := hb.size
    have hbx1 : bx < W.heap.size := by have := Jsz.out; omega
    have hbx2 : bx + 1 < W.heap.size := by have := Jsz.out; omega
    have hc1 : (w6.setRow S (lv (M.permL (M.absL a blk)))).cell? ⟨bx, 0, none⟩ = some (.slice (some ⟨g, 0, none⟩) (b.size + p.size) cap') := (cell_setRow_other w6 S _ ⟨bx, 0, none⟩ (by simpa using hn1.symm)).trans ((hb.cell (p := ⟨bx, 0, none⟩) hbx1).trans hI1.out)
    have hc2 : (w6.setRow S (lv (M.permL (M.absL a blk)))).cell? ⟨bx + 1, 0, none⟩ = some (.int .i64 136) := (cell_setRow_other w6 S _ ⟨bx + 1, 0, none⟩ (by simpa using hn2.symm)).trans ((hb.cell (p := ⟨bx + 1, 0, none⟩) hbx2).trans hI2.out)
    have hko : KeepsOthers W (w6.setRow S (lv (M.permL (M.absL a blk)))) := (keeps_below hb).trans (keeps_row iR _)
    have hsz : W0.heap.size ≤ (w6.setRow S (lv (M.permL (M.absL a blk)))).heap.size := by simp; omega
    rw [← HN.out] at hr hko hq hbb2 hc1 hc2 hsz ⊢
    exact ⟨hko, hr, hbb2, hc1, hc2, hq, by simpa using hsz⟩
  case done =>
    intro D W hD hI hK
    obtain ⟨iR, iB, i1, i2, iW, i0⟩ := hI
    rw [List.length_range, stP_all] at iR
    have hLs := stP_lanes z25_lanes t K
    rw [stP_all] at hLs
    have HLs := Lib.hid hLs
    have HS : Hid (M.sumL b.data.toList = M.outL (M.blocksL K z25 t)) := by
      show _ = _
      unfold M.sumL
      rw [← Hbl.out, ← HPZ.out, ← HKd.out, ← HT0.out]
      rfl
    have hwW := jW.size
    clear jR jB j1 j2 jW i1 i2 iB hLs
    generalize M.blocksL K z25 t = a at *
    gi_wp2_with (first | (refine wpListIn_load_st rfl _ _ rfl _ rfl _ _ 25 27 iR Tryz.array25 Tryz.size25 HLs.out.1 ?_) | (refine ⟨trivial, ?_⟩; gi_at_call 52; refine (callsIn_wide.2 (kfirst a W HLs.out)).mono ?_; rintro e w7 ⟨rfl, hb7⟩))
    have hK2 : w7.heap[D]? = some (.deferred (some [])) := (hb7.block D (Array.getElem?_eq_some_iff.1 hK).1).trans hK
    refine ⟨by simp, .inl ⟨_, _, rfl, run_takeDeferred hK2, ?_⟩⟩
    rw [HS.out]
    exact ⟨_, results_tmp rfl _ _ _, rfl, (iW.trans (hb7.mono iW.size)).trans (belowK_b (w := w) (Nat.le_refl _) _ D _ _ (by omega) hK2 rfl rfl)⟩
end Go.Proofs.YtgloapcfmlijlaaGreatDoor
namespace Go.Proofs.YtgloapcfmlijlaaGreatDoor
open Go Go.RowKit Go.Shelf Go.Lib
attribute [local go_sem] Oper.semAt_some

theorem twos_any (a : Option Addr) (n cap : Nat) (z : List UInt8) (w : World) :
    Calls Tryz.prog 163 #[.slice a n cap, .string ⟨z.toArray⟩] w fun e w' =>
      e = .returned (.func (.func 198) #[] #[.pointer (some ⟨w.heap.size, 0, none⟩), .pointer (some ⟨w.heap.size + 1, 0, none⟩)]) ∧ w' = (w.alloc (.cells #[.slice a n cap] 39)).alloc (.cells #[.string ⟨z.toArray⟩] 9) := by
  have hmf : ∀ (fn : Fn) (first cap : Array Value) (w : World), (Instr.makeFunc fn first cap).run Tryz.prog w = .ok (.func fn first cap) w := fun _ _ _ _ => rfl
  go_enter Tryz.func163, Tryz.ntmps163
  go_wp2_with fail
  go_ret
  exact ⟨rfl, rfl⟩

theorem sum_any (s : List UInt8) (w : World) (h : s.length ≤ 1000) (hT : Tab w) : Calls Tryz.prog 23 #[.string ⟨s.toArray⟩] w fun e w' => e = .returned (.string ⟨(M.sumL s).toArray⟩) ∧ Below w.heap.size w w' := by
  have := callsIn_wide.1 (sum_in ⟨s.toArray⟩ w h hT)
  simpa using this
/-- A row of texts of the call's own, in a box. -/
structure RT (A : World) (sb : Nat) (l : List (List UInt8)) (W : World) : Prop where
  gr : Gr A W (fun b => b = sb)
  v : ∃ v, Boxed W sb 39 v ∧ OwS (A.heap.size + 3) l v W
theorem RT.grow {A W W' : World} {sb : Nat} {l : List (List UInt8)} {row : Option Nat} (h : RT A sb l W) (hg : W.grownBy W' row) (hs : sb < A.heap.size) (hr : ∀ j, row = some j → A.heap.size ≤ j ∧ (j < A.heap.size + 3 ∨ ∃ o : Obj, W.heap[j]? = some o ∧ o.isCells = false)) : RT A sb l W' := by
  obtain ⟨v, hB, hO⟩ := h.v
  refine ⟨h.gr.grow hg fun j e => .inl (hr j e).1, v, hB.kept hg fun e => by have := (hr _ e.symm).1; omega, hO.grown hg fun g hgv e => ?_⟩
  rcases (hr g e).2 with h1 | ⟨o, ho, hc⟩
  · have := (hO.lt g hgv).1
    omega
  · exact hO.notCells ho hc (hgv.symm ▸ rfl)
theorem RT.own {A : World} {sb : Nat} (hs : sb < A.heap.size) {f : List Tw → List (List UInt8)} : OwnFrom A.heap.size fun pre W => RT A sb (f pre) W := fun _ _ _ _ h hg hr => h.grow hg hs fun j e => ⟨(hr j e).1, .inr (hr j e).2⟩
theorem RT.app {A W W1 : World} {sb : Nat} {l : List (List UInt8)} {s : List UInt8} {v v' : Value} (hgr : Gr A W (fun b => b = sb)) (hB : Boxed W sb 39 v) (hO : OwS (A.heap.size + 3) l v W) (hs : sb < A.heap.size) (hA : AppS W W1 (A.heap.size + 3) (l ++ [s]) v v') :
    RT A sb (l ++ [s]) (W1.setCell ⟨sb, 0, none⟩ v') ∧ Boxed W1 sb 39 v := by
  have hrow : ∀ k, v.ownBlock = some k → A.heap.size + 3 ≤ k ∧ k < W.heap.size := hO.lt
  have hsz := hgr.size
  have hB1 : Boxed W1 sb 39 v := hB.kept hA.grown (fun e => by have := hrow _ e.symm; omega)
  refine ⟨⟨(hgr.grow hA.grown fun j e => .inl (by have := hrow j e; omega)).set _ _ (.inr rfl), v', hB1.set _, hA.own.grown (grownBy_setCell' W1 sb v') fun g hg e => ?_⟩, hB1⟩
  cases e
  have := (hA.own.lt _ hg).1
  omega

set_option maxRecDepth 100000 in
set_option maxHeartbeats 8000000 in
theorem halved_any (ls : List (List UInt8)) (z : List UInt8) (a : Option Addr) (cap : Nat) (w : World) (hT : Ts w w.heap.size ls (.slice a ls.length cap)) (hl : ls.length ≤ 4000) (h32 : ls.all M.isC = true) (hz : z.length = 32) (hTab : Tab w) :
    Calls Tryz.prog 83 #[.slice a ls.length cap, .string ⟨z.toArray⟩] w fun e w' => (∃ v, e = .returned v ∧ OwS w.heap.size (M.halve z ls) v w') ∧ Below w.heap.size w w' := by
  have mixed : Tryz.prog.follows .mixedOrders = true := by kernel_rfl
  refine calls_of_wpE (n := 6) Tryz.func83 rfl ?_
  simp only [Tryz.ntmps83, List.size_toArray, List.length_cons, List.length_nil, Nat.reduceAdd, Nat.reduceSub, Array.replicate_succ, Array.replicate_zero, List.push_toArray, List.append_toArray, List.nil_append, List.cons_append]
  refine wpE_then (n := 6) ?_
  gi_wp2_with fail
  refine wpE_then (n := 6) ?_
  gi_wp2_with fail
  refine wpE_seq ?_
  refine wpE_then (n := 6) ?_
  gi_wp2_with fail
  refine ⟨trivial, (callsIn_wide.2 (twos_any a ls.length cap z _)).mono ?_⟩
  rintro e w' ⟨rfl, rfl⟩
  gi_wp2_with fail
  obtain ⟨A, hA⟩ : ∃ A, (((w.alloc (.cells #[.slice none 0 0] 39)).alloc (.cells #[.slice a ls.length cap] 39)).alloc (.cells #[.string ⟨z.toArray⟩] 9)) = A := ⟨_, rfl⟩
  rw [hA]
  have hzA : A.heap.size = w.heap.size + 3 := by rw [← hA]; simp
  have hbA : Below w.heap.size w A := by rw [← hA]; (repeat (first | exact Below.refl _ _ | refine Below.drew ?_ | refine Below.alloc ?_ (by first | omega | (simp; omega) | simp) _ | refine Below.setCell ?_ (by first | omega | (simp; omega) | simp) _))
  have hA1 : Boxed A w.heap.size 39 (.slice none 0 0) := by
    rw [← hA]
    exact ((Boxed.new w 39 (.slice none 0 0)).alloc _).alloc _
  have hA2 : Boxed A (w.heap.size + 1) 39 (.slice a ls.length cap) := by
    rw [← hA]
    have := Boxed.new (w.alloc (.cells #[.slice none 0 0] 39)) 39 (.slice a ls.length cap)
    rw [World.size_alloc] at this
    exact this.alloc _
  have hA3 : Boxed A (w.heap.size + 2) 9 (.string ⟨z.toArray⟩) := by
    rw [← hA]
    have := Boxed.new ((w.alloc (.cells #[.slice none 0 0] 39)).alloc (.cells #[.slice a ls.length cap] 39)) 9 (.string ⟨z.toArray⟩)
    rw [World.size_alloc, World.size_alloc] at this
    exact this
  have HP := Lib.hid (fun i x => @M.pairs_all z ls h32 hz i x)
  have HH := Lib.hid (M.halve_pairs z ls)
  clear hA h32 hz
  obtain ⟨f, hf⟩ : ∃ f : List Tw → List (List UInt8), f = fun pre => pre.map fun p => M.sumL (p.1 ++ p.2) := ⟨_, rfl⟩
  have hfs : ∀ pre x, f (pre ++ [x]) = f pre ++ [M.sumL (x.1 ++ x.2)] := fun pre x => by rw [hf]; simp
  have hfl : ∀ pre, (f pre).length = pre.length := fun pre => by rw [hf]; simp
  have hf0 : f [] = [] := by rw [hf]; rfl
  have HHF : Hid (M.halve z ls = f (M.pairsT z ls)) := by show _ = _; rw [HH.out, hf]
  clear hf HH
  refine wpE_block ?_
  obtain ⟨A1, hA1'⟩ : ∃ A1 : Tw → Act, A1 = fun x => { tmps := #[.slice a ls.length cap, .string ⟨z.toArray⟩, undef, undef, .slice none 0 0, .pointer (some ⟨w.heap.size, 0, none⟩), .string ⟨x.1.toArray⟩, .string ⟨x.2.toArray⟩, .slice a ls.length cap, .string ⟨z.toArray⟩, .func (.func 198) #[] #[.pointer (some ⟨w.heap.size + 1, 0, none⟩), .pointer (some ⟨w.heap.size + 1 + 1, 0, none⟩)], .string ⟨x.1.toArray⟩, .string ⟨x.2.toArray⟩, undef, undef, undef, undef, undef, undef, undef, undef], defers := [] } := ⟨_, rfl⟩
  refine range_lx (n := 6) (gf := 198) (lb := #[.pointer (some ⟨w.heap.size + 1, 0, none⟩), .pointer (some ⟨w.heap.size + 1 + 1, 0, none⟩)]) (by omega) rfl (enters_of Tryz.func198 (by kernel_rfl) rfl)
    (encs := encW) (fun x => rfl) (fun pre W => RT A w.heap.size (f pre) W) (RT.own (by omega)) (fun pre X Y h hg => h.grow hg (by omega) fun j e => by cases e; exact ⟨by omega, .inl (by omega)⟩) (fun _ _ => False)
    (fun _ => False) (fun c h => h.elim) (fun xs => xs = M.pairsT z ls) (fun pre x => GoodW z ls pre x) ?seq ⟨Gr.refl _ _, _, hA1, by rw [hf0]; exact OwS.nil _ _⟩ (fun pre x a' W => GoodW z ls pre x ∧ a' = A1 x ∧ A.heap.size + 2 ≤ W.heap.size ∧ RT A w.heap.size (f pre) W) (fun pre x a' => fun _ _ _ _ h hg hr => ⟨h.1, h.2.1, Nat.le_trans h.2.2.1 hg.size, RT.own (f := fun _ => f pre) (by omega) [] _ _ _ h.2.2.2 hg hr⟩) ?assign ?body ?done ?pan
  case seq =>
    intro l J Jp W hzW hJI hJ hY h0
    refine twos_seq w ls z _ l _ _ a cap J Jp (Lib.hid fun pre X h => Gr.low hbA (hJI pre X h).gr (by omega) (fun b e => by omega)) (Lib.hid fun pre X h => (Boxed.ofGr (hJI pre X h).gr hA2 (by omega)).cell) (Lib.hid fun pre X h => (Boxed.ofGr (hJI pre X h).gr hA3 (by omega)).cell) (Lib.hid fun m pre x X h hg => hY m pre x X h hg) _ (Lib.hid hT) hl W h0
  case assign =>
    rintro l pre ⟨x1, x2⟩ X K hI hz hG hK'
    have hAX : GoodW z ls pre (x1, x2) ∧ A1 (x1, x2) = A1 (x1, x2) ∧ A.heap.size + 2 ≤ X.heap.size ∧ RT A w.heap.size (f pre) X := ⟨hG, rfl, hz, hI⟩
    have hkk := hK' _ X (KeepsFrom.refl _ _) (fun _ _ _ => rfl) hAX
    rw [hA1'] at hkk
    dsimp only [encW]
    gi_wp2
    exact hkk
  case body =>
    rintro l pre ⟨x1, x2⟩ a' B ⟨hG, rfl, hz2, hI⟩
    obtain ⟨hl1, hl2⟩ := HP.out _ _ hG.2
    obtain ⟨v, hB, hO⟩ := hI.v
    have hgr := hI.gr
    have hpl : pre.length ≤ 4000 := by have := (List.getElem?_eq_some_iff.1 hG.2).1; rw [M.pairs_length] at this; omega
    have hfp := hfl pre
    have hfx := hfs pre (x1, x2)
    simp only at hl1 hl2 hfx
    have hbB : Below w.heap.size w B := Gr.low hbA hgr (by omega) (fun b e => by omega)
    have hzB := hgr.size
    obtain ⟨i1, hi1, hiz, his, hib⟩ := info_parts Tryz.ofTxt
    have HSUM := Lib.hid (fun X (h : Below B.heap.size B X) => sum_any (x1 ++ x2) X (by simp; omega) (hTab.from (hbB.trans (h.mono hbB.size))))
    have y1 := hB.cell
    have hd0 : Below B.heap.size B B.drew := Below.drew (Below.refl _ _)
    obtain ⟨u, hu⟩ : ∃ u, M.sumL (x1 ++ x2) = u := ⟨_, rfl⟩
    rw [hu] at HSUM hfx
    have HFX := Lib.hid hfx
    have HB := Lib.hid hB
    have HO := Lib.hid hO
    rw [hA1']
    clear hfx hu hI
    gi_wp2_with fail
    refine region_roundH (S := fun _ => True) (by rintro ⟨_, _, h⟩; exact h) mixed (by kernel_rfl) ?_
    have hS0 : (fun _ : World => True) B.drew := trivial
    rw [show Array.replicate (Array.size _) false = #[false, false, false, false, false, false, false, false] from rfl, show Array.size (α := Oper) _ = 8 from rfl]
    refine wpAnyH_take (i := 1) (v := .string ⟨x1.toArray⟩) rfl (by kernel_rfl) (by kernel_rfl) (by kernel_rfl) (fun _ _ _ h => h) (Or.inl ⟨by rfl, ?_⟩) hS0 ?_
    · intro Y hY
      go_simp
    simp only [Act.put, List.getElem_toArray, List.getElem_cons_succ, List.getElem_cons_zero, List.setIfInBounds_toArray, List.set_cons_zero, List.set_cons_succ]
    refine wpAnyH_take (i := 2) (v := .string ⟨x2.toArray⟩) rfl (by kernel_rfl) (by kernel_rfl) (by kernel_rfl) (fun _ _ _ h => h) (Or.inl ⟨by rfl, ?_⟩) hS0 ?_
    · intro Y hY
      go_simp
    simp only [Act.put, List.getElem_toArray, List.getElem_cons_succ, List.getElem_cons_zero, List.setIfInBounds_toArray, List.set_cons_zero, List.set_cons_succ]
    refine wpAnyH_take (i := 3) (v := .string ⟨(x1 ++ x2).toArray⟩) rfl (by kernel_rfl) (by kernel_rfl) (by kernel_rfl) (fun _ _ _ h => h) (Or.inl ⟨by rfl, ?_⟩) hS0 ?_
    · intro Y hY
      go_simp
      apply ByteArray.ext
      simp
    simp only [Act.put, List.getElem_toArray, List.getElem_cons_succ, List.getElem_cons_zero, List.setIfInBounds_toArray, List.set_cons_zero, List.set_cons_succ]
    refine wpAnyH_ready (rs := [0, 4]) (by kernel_rfl) (by simp) ?_
    refine AllReadyH.cons rfl (fun K hK => ?rA) (AllReadyH.cons rfl (fun K hK => ?rB) AllReadyH.nil)
    case' rA =>
      go_simp
      refine hK.out _ _ trivial (fun _ => ?_)
      clear hK K
      simp only [List.setIfInBounds_toArray, List.set_cons_zero]
      refine wpAnyH_ready (rs := [4]) (by kernel_rfl) (by simp) ?_
      refine AllReadyH.cons rfl (fun K hK => ?_) AllReadyH.nil
      go_simp
      refine (HSUM.out _ hd0).mono ?_
      rintro e w5 ⟨rfl, hb5⟩
      try go_wp2_with fail
      refine hK.out _ _ trivial (fun _ => ?_)
      clear hK K
      simp only [List.setIfInBounds_toArray, List.set_cons_zero, List.set_cons_succ]
      refine wpAnyH_ready (rs := [5]) (by kernel_rfl) (by simp) ?_
      refine AllReadyH.cons rfl (fun K hK => ?_) AllReadyH.nil
      rw [if_pos (by rfl)]
      refine wp_build_one 39 9 (.tmp 17) (.string ⟨u.toArray⟩) (.string ⟨#[]⟩) i1 rfl rfl rfl Tryz.underlying39 hi1 hiz his rfl ?_
      refine hK.out _ _ trivial (fun _ => ?_)
      clear hK K
      simp only [Act.put, List.getElem_toArray, List.getElem_cons_succ, List.getElem_cons_zero, List.setIfInBounds_toArray, List.set_cons_zero, List.set_cons_succ]
      skip
    case' rB =>
      go_simp
      refine (HSUM.out _ hd0).mono ?_
      rintro e w5 ⟨rfl, hb5⟩
      try go_wp2_with fail
      refine hK.out _ _ trivial (fun _ => ?_)
      clear hK K
      simp only [List.setIfInBounds_toArray, List.set_cons_zero, List.set_cons_succ]
      have hb5' : Below B.heap.size B w5 := hd0.trans hb5
      have y3 : w5.cell? ⟨w.heap.size, 0, none⟩ = some v := (hb5'.cell (p := ⟨w.heap.size, 0, none⟩) HB.out.lt).trans y1
      refine wpAnyH_ready (rs := [0, 5]) (by kernel_rfl) (by simp) ?_
      refine AllReadyH.cons rfl (fun K hK => ?rC) (AllReadyH.cons rfl (fun K hK => ?rD) AllReadyH.nil)
    case' rC =>
      go_simp
      refine hK.out _ _ trivial (fun _ => ?_)
      clear hK K
      simp only [List.setIfInBounds_toArray, List.set_cons_zero]
      refine wpAnyH_ready (rs := [5]) (by kernel_rfl) (by simp) ?_
      refine AllReadyH.cons rfl (fun K hK => ?_) AllReadyH.nil
      rw [if_pos (by rfl)]
      refine wp_build_one 39 9 (.tmp 17) (.string ⟨u.toArray⟩) (.string ⟨#[]⟩) i1 rfl rfl rfl Tryz.underlying39 hi1 hiz his rfl ?_
      refine hK.out _ _ trivial (fun _ => ?_)
      clear hK K
      simp only [Act.put, List.getElem_toArray, List.getElem_cons_succ, List.getElem_cons_zero, List.setIfInBounds_toArray, List.set_cons_zero, List.set_cons_succ]
      skip
    case' rD =>
      rw [if_pos (by rfl)]
      refine wp_build_one 39 9 (.tmp 17) (.string ⟨u.toArray⟩) (.string ⟨#[]⟩) i1 rfl rfl rfl Tryz.underlying39 hi1 hiz his rfl ?_
      refine hK.out _ _ trivial (fun _ => ?_)
      clear hK K
      simp only [Act.put, List.getElem_toArray, List.getElem_cons_succ, List.getElem_cons_zero, List.setIfInBounds_toArray, List.set_cons_zero, List.set_cons_succ]
      refine wpAnyH_ready (rs := [0]) (by kernel_rfl) (by simp) ?_
      refine AllReadyH.cons rfl (fun K hK => ?_) AllReadyH.nil
      have y7 : (w5.alloc (.cells #[.string ⟨u.toArray⟩] 9)).cell? ⟨w.heap.size, 0, none⟩ = some v := (Below.cell ((Below.refl _ w5).alloc (Nat.le_refl _) _) (p := ⟨w.heap.size, 0, none⟩) (by have := HB.out.lt; have := hb5'.size; show w.heap.size < _; omega)).trans y3
      go_simp
      refine hK.out _ _ trivial (fun _ => ?_)
      clear hK K
      simp only [List.setIfInBounds_toArray, List.set_cons_zero]
      skip
    all_goals
      have hb5' : Below B.heap.size B w5 := hd0.trans hb5
      obtain ⟨w6, hw6⟩ : ∃ w6, w5.alloc (.cells #[.string ⟨u.toArray⟩] 9) = w6 := ⟨_, rfl⟩
      have hb56 : Below w5.heap.size w5 w6 := by rw [← hw6]; exact (Below.refl _ _).alloc (Nat.le_refl _) _
      have hz6 : w6.heap.size = w5.heap.size + 1 := by rw [← hw6]; simp
      have hc6 : w6.cell? ⟨w5.heap.size, 0, none⟩ = some (.string ⟨u.toArray⟩) := by rw [← hw6]; simp [go_sem]
      have hb6 : Below B.heap.size B w6 := hb5'.trans (hb56.mono hb5'.size)
      have hgr6 := hgr.below hb6
      have hB6 : Boxed w6 w.heap.size 39 v := (hb6.block _ HB.out.lt).trans HB.out
      have hO6 := HO.out.from_ hb6
      have hs5 := hb5'.size
      rw [hw6]
      clear hw6 y1
      refine wpAnyH_ready (rs := [6]) (by kernel_rfl) (by simp) ?_
      refine AllReadyH.cons rfl (fun K hK => ?_) AllReadyH.nil
      rw [if_pos (by rfl)]
      refine wp_append_txt w6 _ _ rfl (A.heap.size + 3) (f pre) u w5.heap.size v rfl rfl hO6 hc6 (by omega) (by omega) ?_
      intro v' w7 hA7
      obtain ⟨l7, hl7⟩ : ∃ l7, f pre ++ [u] = l7 := ⟨_, rfl⟩
      have hRT := RT.app hgr6 hB6 hO6 (by omega) hA7
      rw [hl7] at hA7 hRT
      obtain ⟨va, vc, hv⟩ := hA7.own.len
      subst hv
      have z7 := hRT.2.cell
      have z8 := hRT.2.frozen
      have HL7 := Lib.hid hl7
      clear hl7
      refine hK.out _ _ trivial (fun _ => ?_)
      clear hK K
      simp only [Act.put, List.getElem_toArray, List.getElem_cons_succ, List.getElem_cons_zero, List.setIfInBounds_toArray, List.set_cons_zero, List.set_cons_succ]
      refine wpAnyH_ready (rs := [7]) (by kernel_rfl) (by simp) ?_
      refine AllReadyH.cons rfl (fun K hK => ?_) AllReadyH.nil
      go_simp
      refine hK.out _ _ trivial (fun _ => ?_)
      clear hK K
      simp only [List.setIfInBounds_toArray, List.set_cons_zero, List.set_cons_succ]
      refine wpAnyH_done (by kernel_rfl) ?_ _
      try gi_wp2_with fail
      refine ⟨((KO_below hb6).trans ((KO_appS hA7 hO6).trans (KeepsOthers.setCell _ _ _))).from _, fun c hc hT => hT.elim, ?_⟩
      show RT A w.heap.size (f (pre ++ [(x1, x2)])) _
      rw [HFX.out, HL7.out]
      exact hRT.1
  case done =>
    rintro D xs W hD rfl hI hKd hzW
    obtain ⟨v, hB, hO⟩ := hI.v
    have hbW : Below w.heap.size w W := Gr.low hbA hI.gr (by omega) (fun b e => by omega)
    have y := hB.cell
    obtain ⟨va, vc, hv⟩ := hO.len
    subst hv
    have hO2 : OwS (A.heap.size + 3) (f (M.pairsT z ls)) (.slice va (f (M.pairsT z ls)).length vc) (W.putObj D (.deferred none)) := hO.grown (grownBy_putObj' W D (.deferred none)) fun g hg e => by
      cases e
      exact hO.notCells hKd rfl hg.symm
    have HO2 := Lib.hid hO2
    have hb1 := belowK_b (w := w) (Nat.le_refl _) W D _ (.deferred none) (by omega) hKd rfl rfl
    have HB1 := Lib.hid (hbW.trans hb1)
    clear hO2 hO hB hb1 hfl hfs
    rw [HHF.out]
    refine wpE_then (n := 6) ?_
    gi_wp2_with fail
    refine WpE.of (n := 6) (wpIn_ret ?_)
    refine ⟨by simp, .inl ⟨_, _, rfl, run_takeDeferred hKd, ?_⟩⟩
    refine ⟨_, ?_, ⟨_, rfl, HO2.out.mono (by omega)⟩, HB1.out⟩
    simp [results, Tryz.f83, go_sem]
  case pan => rintro D ch W _ h _; exact h.elim
end Go.Proofs.YtgloapcfmlijlaaGreatDoor
namespace Go.Proofs.YtgloapcfmlijlaaGreatDoor
open Go Go.RowKit

theorem Tryz.ofByte : (Tryz.prog.info? 5).map (fun i => (i.zero, i.size, i.bytes)) = some (some (.int .u8 0), 1, 1) := by kernel_rfl

set_option maxRecDepth 100000 in
set_option maxHeartbeats 4000000 in
theorem lite_any (d : List UInt8) (w : World) (hd : d.length ≤ 281474976710656) : Calls Tryz.prog 81 #[.string ⟨d.toArray⟩] w fun e w' => e = .returned (.string ⟨d.toArray⟩) ∧ Below w.heap.size w w' := by
  have hz : (⟨d.toArray⟩ : ByteArray).size = d.length := rfl
  by_cases h0 : d.length = 0
  · obtain rfl := List.eq_nil_of_length_eq_zero h0
    go_enter Tryz.func81, Tryz.ntmps81
    go_wp2_with fail
    go_ret
    exact ⟨rfl, Below.refl _ _⟩
  · obtain ⟨i0, hi, hz0, hz1, hz2⟩ := info_parts Tryz.ofByte
    have hinfo : (Tryz.prog.info? 5).map (·.size) = some 1 := by rw [hi]; simp [hz1]
    have hco : Tryz.prog.cellsOf 5 = 1 := by simp [Program.cellsOf, hi, hz1]
    obtain ⟨m, hm⟩ : ∃ m, m = madeCells (Value.int .u8 0).cells (((d.length : Nat) : Int).toNat * i0.size) := ⟨_, rfl⟩
    have hms : m.size = d.length := by rw [hm, size_madeCells, hz1]; simp
    have hmk : ∀ W : World, (Instr.makeSlice 48 (.int .i64 (d.length : Int)) (.int .i64 (d.length : Int))).run Tryz.prog W = .ok (.slice (some ⟨W.heap.size, 0, none⟩) d.length d.length) (W.alloc (.cells m 5)) := fun W => by
      have h := run_make (P := Tryz.prog) W 48 5 i0 (.int .u8 0) Tryz.underlying48 hi hz0 .i64 .i64 (d.length : Int) (d.length : Int) (by omega) (by omega) (by rw [hz2]; omega) (by omega)
      rw [← hm] at h
      simpa using h
    clear hm
    have hcp := Lib.run_copy_row_string (P := Tryz.prog) (w.alloc (.cells m 5)) 48 9 3 5 w.heap.size 0 d.length d.length ⟨d.toArray⟩ m 5 Tryz.underlying48 hinfo (heap_alloc_new w _) (by rw [hz]; omega) (by rw [hz]; omega)
    obtain ⟨Y, hY⟩ : ∃ Y, Y = (m.toList.take 0 ++ Lib.byteCells (⟨d.toArray⟩ : ByteArray).data.toList ++ m.toList.drop (0 + (⟨d.toArray⟩ : ByteArray).size)).toArray := ⟨_, rfl⟩
    rw [← hY, hz] at hcp
    have hYl : Y.toList = Lib.byteCells d := by
      rw [hY, List.toList_toArray, List.take_zero, List.nil_append, List.drop_of_length_le (by rw [Array.length_toList, hz]; omega), List.append_nil]
    have hYs : Y.size = d.length := by rw [← Array.length_toList, hYl, Lib.byteCells_length]
    have hgY : ((w.alloc (.cells m 5)).setRow w.heap.size Y).heap[w.heap.size]? = some (.cells Y 5 (0, 0)) := setRow_heap _ _ m _ 5 (0, 0) (heap_alloc_new w _)
    have hne : d ≠ [] := fun e => h0 (by rw [e]; rfl)
    have hus := Lib.run_unsafeString_row (P := Tryz.prog) ((w.alloc (.cells m 5)).setRow w.heap.size Y) 141 3 9 5 Tryz.underlying141 hco w.heap.size Y.size (by unfold World.shape?; rw [hgY]) d hne (by omega) (by omega)
      (fun j x hx => Lib.cells_of_row hgY Y.size j _ (by rw [List.take_of_length_le (by rw [Array.length_toList]; exact Nat.le_refl _), hYl]; simp [Lib.byteCells, hx]))
    clear hY
    have hb1 : Below w.heap.size w (w.alloc (.cells m 5)) := (Below.refl _ w).alloc (Nat.le_refl _) _
    have hb2 : Below w.heap.size (w.alloc (.cells m 5)) ((w.alloc (.cells m 5)).setRow w.heap.size Y) := ⟨rfl, rfl, rfl, by simp, fun k hk => setRow_other _ _ _ _ (by omega)⟩
    go_enter Tryz.func81, Tryz.ntmps81
    go_wp2_with fail
    go_ret
    exact ⟨rfl, Lib.below_freeze (hb1.trans hb2) (p := ⟨w.heap.size, 0, none⟩) (Nat.le_refl _) _⟩

set_option maxRecDepth 100000 in
theorem clone_any (d : List UInt8) (w : World) (hd : d.length ≤ 281474976710656) : Calls Tryz.prog 38 #[.string ⟨d.toArray⟩] w fun e w' => e = .returned (.string ⟨d.toArray⟩) ∧ Below w.heap.size w w' := by
  go_enter Tryz.func38, Tryz.ntmps38
  go_wp2_with (refine (lite_any d _ hd).mono ?_; rintro e W' ⟨rfl, hb⟩)
  go_ret
  exact ⟨rfl, hb⟩
end Go.Proofs.YtgloapcfmlijlaaGreatDoor
namespace Go.Proofs.YtgloapcfmlijlaaGreatDoor
open Go Go.RowKit Go.Shelf Go.Lib
attribute [local go_sem] Oper.semAt_some

theorem pow_nine {d : Nat} (h : d ≤ 9) : 2 ^ d ≤ 512 := by
  have : 2 ^ d ≤ 2 ^ 9 := Nat.pow_le_pow_right (by omega) h
  simpa using this
set_option maxRecDepth 100000 in
set_option maxHeartbeats 8000000 in
theorem mtree_any (ls : List (List UInt8)) (m : Nat) (a : Option Addr) (cap : Nat) (w : World) (hT : Ts w w.heap.size ls (.slice a ls.length cap)) (hl : ls.length ≤ 4000) (h32 : ls.all M.isC = true) (hm : m ≤ 512) (hTab : Tab w) :
    Calls Tryz.prog 39 #[.slice a ls.length cap, .int .i64 (m : Nat)] w fun e w' => e = .returned (.string ⟨(M.treeT ls m).toArray⟩) ∧ Below w.heap.size w w' := by
  have HF := Lib.hid (filled_any [] w (by simp))
  rw [show M.fill32 [] = M.z32 by simp [M.fill32, M.z32]] at HF
  obtain ⟨D, hD⟩ : ∃ D, M.dep m = D := ⟨_, rfl⟩
  obtain ⟨T, hTT⟩ : ∃ T, M.treeT ls m = T := ⟨_, rfl⟩
  have hTD : M.treeD D ls M.z32 = T := by rw [← hTT, ← hD]; rfl
  have hD9 : D ≤ 9 := by rw [← hD]; exact M.dep_le m
  have HLT := Lib.hid (fun d => (M.dep_lt (d := d) hm))
  rw [hD] at HLT
  rw [hTT]
  have HTD := Lib.hid hTD
  clear hTD hTT hD
  go_enter Tryz.func39, Tryz.ntmps39
  go_wp2_with fail
  refine HF.out.mono ?_
  rintro e w1 ⟨rfl, hb1⟩
  have HT1 := Lib.hid ((hT.from_ hb1).mono hb1.size)
  have hz : M.z32.length = 32 := M.z32_length
  have HZ := Lib.hid hz
  clear hz
  generalize M.z32 = z at *
  go_wp2_with fail
  go_loopw [0, 5, 6] (fun l0 z0 i wr => ∃ (d : Nat) (l : List (List UInt8)) (a' : Option Addr) (cap' : Nat) (y : List UInt8), d ≤ D ∧ i = .int .i64 ((2 ^ d : Nat) : Int) ∧ l0 = .slice a' l.length cap' ∧ z0 = .string ⟨y.toArray⟩ ∧ y.length = 32 ∧ l.all M.isC = true ∧ l.length ≤ 4000 ∧ M.treeD (D - d) l y = T ∧ Ts wr wr.heap.size l (.slice a' l.length cap') ∧ Below w.heap.size w wr) (fun _ _ i _ => 1024 - (RowKit.intOf i).toNat)
  case atStart => exact ⟨0, ls, a, cap, z, Nat.zero_le _, rfl, rfl, rfl, HZ.out, h32, hl, HTD.out, HT1.out, hb1⟩
  case round =>
    obtain ⟨d, l, a', cap', y, hd, rfl, rfl, rfl, hy, hl32, hl4, hTd, hTw, hbw⟩ := hrel
    have hlt := HLT.out d
    have hp9 := pow_nine (d := d) (by omega)
    obtain ⟨q, hq⟩ : ∃ q, 2 ^ d = q := ⟨_, rfl⟩
    have hq1 : 1 ≤ q := by rw [← hq]; exact Nat.pos_of_ne_zero (by simp)
    rw [hq] at hlt hp9 ⊢
    have HQ := Lib.hid hq
    clear hq
    by_cases hdl : d < D
    · have hqm : (q : Int) < (m : Nat) := by omega
      have HH := Lib.hid (halved_any l y a' cap' wr hTw hl4 hl32 hy (hTab.from hbw))
      have HS := Lib.hid (fun X (h : Below wr.heap.size wr X) => sum_any (y ++ y) X (by simp; omega) (hTab.from (hbw.trans (h.mono hbw.size))))
      have hTd2 : M.treeD (D - (d + 1)) (M.halve y l) (M.sumL (y ++ y)) = T := by
        rw [show D - d = D - (d + 1) + 1 by omega, M.treeD] at hTd
        exact hTd
      have HT2 := Lib.hid hTd2
      have HA := Lib.hid (M.halve_all (z := y) l)
      have HLN := Lib.hid (M.halve_length y l)
      have HSL := Lib.hid (M.sum_length (y ++ y))
      have hyy : (y ++ y).length = 64 := by simp; omega
      obtain ⟨y2, hy2⟩ : ∃ y2, y ++ y = y2 := ⟨_, rfl⟩
      have hcat : (⟨y.toArray⟩ : ByteArray) ++ ⟨y.toArray⟩ = ⟨y2.toArray⟩ := by rw [← hy2]; apply ByteArray.ext; simp
      rw [hy2] at HS HT2 HSL
      clear hTd hTd2 hy2 hyy hTw hl32
      generalize M.halve y l = l2 at *
      generalize M.sumL y2 = y3 at *
      go_wp2_with fail
      refine HH.out.mono ?_
      rintro e w2 ⟨⟨v2, rfl, hO2⟩, hb2⟩
      obtain ⟨va, vc, hv⟩ := hO2.len
      subst hv
      have hT2 := hO2.ts
      clear hO2
      go_wp2_with fail
      first | rw [hcat] | skip
      refine (HS.out _ hb2).mono ?_
      rintro e w3 ⟨rfl, hb3⟩
      have hT3 := Lib.hid ((hT2.from_ hb3).mono hb3.size)
      have hb23 := Lib.hid (hbw.trans ((hb2.trans (hb3.mono hb2.size)).mono hbw.size))
      have hw2 : (q : Int) * 2 = ((2 * q : Nat) : Int) := by omega
      clear hT2 hb2 hb3 hbw
      go_wp2_with fail
      exact ⟨⟨d + 1, l2, va, vc, y3, by omega, by rw [Nat.pow_succ, HQ.out]; congr 1; omega, rfl, rfl, HSL.out, HA.out, by have := HLN.out; omega, HT2.out, hT3.out, hb23.out⟩, by simp [RowKit.intOf]; omega⟩
    · obtain rfl : d = D := by omega
      have hqm : ¬ (q : Int) < (m : Nat) := by omega
      rw [Nat.sub_self, M.treeD] at hTd
      have HBW := Lib.hid hbw
      cases l with
      | nil =>
        obtain rfl : y = T := hTd
        clear hTw hlt hl32 hy hbw
        go_wp2_with fail
        go_ret
        exact ⟨rfl, HBW.out⟩
      | cons x r =>
        obtain rfl : x = T := hTd
        obtain ⟨b, o, s, rfl, hbn, hs, hc⟩ := hTw.at_ (i := 0) (by simp)
        obtain rfl : x = s := by simpa using hs
        rw [Nat.add_zero] at hc
        obtain ⟨n, hn⟩ : ∃ n, (x :: r).length = n := ⟨_, rfl⟩
        have hn1 : 1 ≤ n := by rw [← hn]; simp
        rw [hn]
        have hne : ¬ (n : Int) = 0 := by omega
        have hnl : (0 : Int) < n := by omega
        clear hTw hlt hl32 hy hs hbw hn hl4
        go_wp2_with fail
        go_ret
        exact ⟨rfl, HBW.out⟩
set_option maxRecDepth 100000 in
set_option maxHeartbeats 8000000 in
theorem tree_any (ls : List (List UInt8)) (most : Int) (a : Option Addr) (cap : Nat) (w : World) (hT : Ts w w.heap.size ls (.slice a ls.length cap)) (hTab : Tab w) :
    Calls Tryz.prog 16 #[.slice a ls.length cap, .int .i64 most] w fun e w' => e = .returned (.tuple #[.string ⟨(M.treeE ls most).1.toArray⟩, .int .i64 ((M.treeE ls most).2 : Nat)]) ∧ Below w.heap.size w w' := by
  have HNO : Hid ((most < 1 ∨ 512 < most ∨ most < ls.length ∨ ls.all M.isC = false) → M.treeE ls most = ([], 1)) := fun h => by unfold M.treeE; rw [if_pos h]
  have HYES : Hid (¬ (most < 1 ∨ 512 < most ∨ most < ls.length ∨ ls.all M.isC = false) → M.treeE ls most = (M.treeT ls most.toNat, 0)) := fun h => by unfold M.treeE; rw [if_neg h]
  generalize M.treeE ls most = E at *
  by_cases h1 : most < 1
  · obtain rfl := HNO.out (.inl h1)
    go_enter Tryz.func16, Tryz.ntmps16
    go_wp2_with fail
    go_ret2
    exact ⟨rfl, Below.refl _ _⟩
  by_cases h2 : 512 < most
  · obtain rfl := HNO.out (.inr (.inl h2))
    go_enter Tryz.func16, Tryz.ntmps16
    go_wp2_with fail
    go_ret2
    exact ⟨rfl, Below.refl _ _⟩
  by_cases h3 : most < ls.length
  · obtain rfl := HNO.out (.inr (.inr (.inl h3)))
    go_enter Tryz.func16, Tryz.ntmps16
    go_wp2_with fail
    go_ret2
    exact ⟨rfl, Below.refl _ _⟩
  obtain ⟨m, rfl⟩ : ∃ m : Nat, most = (m : Int) := ⟨most.toNat, by omega⟩
  rw [Int.toNat_natCast] at HYES
  have HC := Lib.hid (containsNo_any ls a cap w hT (by omega))
  cases h4 : ls.all M.isC with
  | false =>
    obtain rfl := HNO.out (.inr (.inr (.inr h4)))
    rw [h4] at HC
    go_enter Tryz.func16, Tryz.ntmps16
    go_wp2_with fail
    refine HC.out.mono ?_
    rintro e X ⟨rfl, hX⟩
    obtain rfl : w = X := hX.symm
    go_wp2_with fail
    go_ret2
    exact ⟨rfl, Below.refl _ _⟩
  | true =>
    obtain rfl := HYES.out (by simp [h4]; omega)
    rw [h4] at HC
    have HTR := Lib.hid (mtree_any ls m a cap w hT (by omega) h4 (by omega) hTab)
    have HTL := Lib.hid (M.treeT_length (l := ls) m h4)
    generalize M.treeT ls m = T at *
    have HCL := Lib.hid (fun X => clone_any T X (by have := HTL.out; omega))
    clear HNO HYES h4 hT
    go_enter Tryz.func16, Tryz.ntmps16
    go_wp2_with fail
    refine HC.out.mono ?_
    rintro e X ⟨rfl, hX⟩
    obtain rfl : w = X := hX.symm
    go_wp2_with fail
    refine HTR.out.mono ?_
    rintro e w2 ⟨rfl, hb2⟩
    go_wp2_with fail
    refine (HCL.out _).mono ?_
    rintro e w3 ⟨rfl, hb3⟩
    go_wp2_with fail
    go_ret2
    exact ⟨rfl, hb2.trans (hb3.mono hb2.size)⟩
theorem lw_eight {n : Nat} (h : n < 18446744073709551616) : M.lw n 8 = (M.le 8 n, 0) := by
  have hl : (M.tr (M.f32 n)).length ≤ 8 := (M.tr_width (k := 8) (by unfold M.In; omega)).2 (by omega)
  unfold M.lw
  rw [if_pos ⟨by decide, by decide, by omega⟩]
  rfl
set_option maxRecDepth 100000 in
set_option maxHeartbeats 4000000 in
theorem mmix_any (root : List UInt8) (n : Nat) (w : World) (hn : n < 18446744073709551616) (hr : root.length = 32) (hTab : Tab w) :
    Calls Tryz.prog 41 #[.string ⟨root.toArray⟩, .int .u64 n] w fun e w' => e = .returned (.string ⟨(M.mixT root n).toArray⟩) ∧ Below w.heap.size w w' := by
  have HL := le_any n 8 w hn
  rw [lw_eight hn] at HL
  have HL := Lib.hid HL
  have hl8 : (M.le 8 n).length = 8 := M.le_length 8 n
  have HF := Lib.hid (fun X => filled_any (M.le 8 n) X (by omega))
  have hf32 : (M.fill32 (M.le 8 n)).length = 32 := M.fill_length (by omega)
  have HS := Lib.hid (fun X (h : Below w.heap.size w X) => sum_any (root ++ M.fill32 (M.le 8 n)) X (by simp; omega) (hTab.from h))
  obtain ⟨T, hT⟩ : ∃ T, M.mixT root n = T := ⟨_, rfl⟩
  have hT' : M.sumL (root ++ M.fill32 (M.le 8 n)) = T := hT
  rw [hT]
  rw [hT'] at HS
  clear hT hT'
  generalize M.fill32 (M.le 8 n) = f at *
  generalize M.le 8 n = l at *
  obtain ⟨y, hy⟩ : ∃ y, root ++ f = y := ⟨_, rfl⟩
  have hcat : (⟨root.toArray⟩ : ByteArray) ++ ⟨f.toArray⟩ = ⟨y.toArray⟩ := by rw [← hy]; apply ByteArray.ext; simp
  rw [hy] at HS
  clear hy
  go_enter Tryz.func41, Tryz.ntmps41
  go_wp2_with fail
  refine HL.out.mono ?_
  rintro e w1 ⟨rfl, hb1⟩
  go_wp2_with fail
  refine (HF.out _).mono ?_
  rintro e w2 ⟨rfl, hb2⟩
  go_wp2_with fail
  first | rw [hcat] | skip
  refine (HS.out _ (hb1.trans (hb2.mono hb1.size))).mono ?_
  rintro e w3 ⟨rfl, hb3⟩
  go_wp2_with fail
  go_ret
  exact ⟨rfl, (hb1.trans (hb2.mono hb1.size)).trans (hb3.mono (hb1.trans (hb2.mono hb1.size)).size)⟩
set_option maxRecDepth 100000 in
set_option maxHeartbeats 4000000 in
theorem mix_any (root : List UInt8) (n : Nat) (w : World) (hn : n < 18446744073709551616) (hTab : Tab w) :
    Calls Tryz.prog 18 #[.string ⟨root.toArray⟩, .int .u64 n] w fun e w' => e = .returned (.tuple #[.string ⟨(M.mixE root n).1.toArray⟩, .int .i64 ((M.mixE root n).2 : Nat)]) ∧ Below w.heap.size w w' := by
  have HC := Lib.hid (noChunk_any root w)
  by_cases h : root.length = 32
  · have HM := Lib.hid (mmix_any root n w hn h hTab)
    rw [show M.mixE root n = (M.mixT root n, 0) by unfold M.mixE; rw [if_neg (by omega)]]
    generalize M.mixT root n = T at *
    rw [show M.isC root = true by simp [M.isC, h]] at HC
    go_enter Tryz.func18, Tryz.ntmps18
    go_wp2_with fail
    refine HC.out.mono ?_
    rintro e X ⟨rfl, hX⟩
    obtain rfl : w = X := hX.symm
    go_wp2_with fail
    refine HM.out.mono ?_
    rintro e w2 ⟨rfl, hb2⟩
    go_wp2_with fail
    go_ret2
    exact ⟨rfl, hb2⟩
  · rw [show M.mixE root n = ([], 1) by unfold M.mixE; rw [if_pos h]]
    rw [show M.isC root = false by simp [M.isC, h]] at HC
    go_enter Tryz.func18, Tryz.ntmps18
    go_wp2_with fail
    refine HC.out.mono ?_
    rintro e X ⟨rfl, hX⟩
    obtain rfl : w = X := hX.symm
    go_wp2_with fail
    go_ret2
    exact ⟨rfl, Below.refl _ _⟩
end Go.Proofs.YtgloapcfmlijlaaGreatDoor
namespace Go.Proofs.YtgloapcfmlijlaaGreatDoor
open Go Go.RowKit Go.Shelf Go.Lib
attribute [local go_sem] Oper.semAt_some

theorem chunk32_any (len cap : Nat) (A : Option Addr) (w : World) :
    Calls Tryz.prog 49 #[.slice A len cap, .int .i64 32] w fun e w' =>
      e = .returned (.func (.func 103) #[] #[.pointer (some ⟨w.heap.size, 0, none⟩), .pointer (some ⟨w.heap.size + 1, 0, none⟩)]) ∧ w' = (w.alloc (.cells #[.slice A len cap] 48)).alloc (.cells #[.int .i64 32] 3) := by
  have hmf : ∀ (fn : Fn) (first cap : Array Value) (w : World), (Instr.makeFunc fn first cap).run Tryz.prog w = .ok (.func fn first cap) w := fun _ _ _ _ => rfl
  go_enter Tryz.func49, Tryz.ntmps49
  go_wp2_with fail
  go_ret
  exact ⟨rfl, rfl⟩
/-- What comes next: a place. -/
def GoodK (K : Nat) (pre : List Nat) (x : Nat) : Prop := pre = List.range pre.length ∧ x = pre.length ∧ x < K
/-- How long a part is. -/
def cwT (len x : Nat) : Nat := if len - 32 * x < 32 then len - 32 * x else 32
def encK (g len : Nat) (x : Nat) : Array Value := #[.slice (some ⟨g, 32 * x, none⟩) (cwT len x) (cwT len x)]

set_option maxRecDepth 100000 in
set_option maxHeartbeats 4000000 in
theorem chunk_seq (T : Nat → Prop) (len cap g : Nat) (hcap : len ≤ cap) (hmax : cap ≤ maxLen) (hl : len ≤ 1000000) (l bs bn : Nat) (J : List Nat → World → Prop) (Jp : List PanicEntry → World → Prop)
    (cs : Hid (∀ pre A, J pre A → A.cell? ⟨bs, 0, none⟩ = some (.slice (some ⟨g, 0, none⟩) len cap))) (cn : Hid (∀ pre A, J pre A → A.cell? ⟨bn, 0, none⟩ = some (.int .i64 32))) (dr : Hid (∀ pre A, J pre A → J pre A.drew))
    (y : Hid (∀ m pre x A, J pre A → GoodK ((len + 31) / 32) pre x → YieldAt Fence.wide m Tryz.prog l (encK g len x) A fun e W' =>
      (e = .returned (.bool true) ∧ J (pre ++ [x]) W' ∧ A.heap.size ≤ W'.heap.size ∧ ∀ b, b < A.heap.size → T b → W'.heap[b]? = A.heap[b]?) ∨ (∃ ch, e = .panicked ch ∧ Jp ch W')))
    (m : Nat) (W : World) (h0 : J [] W) :
    CallsIn Fence.wide m Tryz.prog 103 #[.func (.yield l) #[] #[], .pointer (some ⟨bs, 0, none⟩), .pointer (some ⟨bn, 0, none⟩)] W fun e W' =>
      (∃ v xs, e = .returned v ∧ xs = List.range ((len + 31) / 32) ∧ J xs W') ∨ (∃ ch, e = .panicked ch ∧ Jp ch W') := by
  have hro : Fence.wide.round = none := rfl
  have mixed : Tryz.prog.follows .mixedOrders = true := by kernel_rfl
  unfold maxLen at hmax
  refine callsIn_of_wp Tryz.func103 rfl trivial ?_ rfl
  simp only [Tryz.ntmps103, List.size_toArray, List.length_cons, List.length_nil, Nat.reduceAdd, Nat.reduceSub, Array.replicate_succ, Array.replicate_zero, List.push_toArray, List.append_toArray, List.nil_append, List.cons_append]
  gi_wp2
  gi_loopw [4] (fun i wr => ∃ j q : Nat, j ≤ (len + 31) / 32 ∧ q = 32 * j ∧ i = .int .i64 (q : Nat) ∧ J (List.range j) wr) (fun i _ => len + 32 - (RowKit.intOf i).toNat)
  case atStart => exact ⟨0, 0, Nat.zero_le _, rfl, rfl, h0⟩
  case round =>
    obtain ⟨j, q, hj, hqe, rfl, hJ⟩ := hrel
    have c1 := cs.out _ _ hJ
    have c2 := cn.out _ _ hJ
    have HQ := Lib.hid hqe
    have hq9 : q ≤ len + 31 := by omega
    clear hqe
    by_cases hlt : q < len
    · have hqj : q = 32 * j := HQ.out
      have hjK : j < (len + 31) / 32 := by omega
      have hil : (q : Int) < len := by omega
      have hic : ¬ cap = q := by omega
      have hi1 : (q : Int) ≤ (cap : Int) := by omega
      have hi2 : (q : Int) ≤ (len : Int) := by omega
      have hi3 : (len : Int) ≤ (cap : Int) := by omega
      obtain ⟨fn, tmps, asg, body, hyy, hRR⟩ := y.out (m - 1) (List.range j) j wr.drew (dr.out _ _ hJ) ⟨by simp, by simp, hjK⟩
      have HQJ := Lib.hid hqj
      have hcw : cwT len j = if len - q < 32 then len - q else 32 := by unfold cwT; rw [hqj]
      dsimp only [encK] at hyy
      rw [hcw, ← hqj] at hyy
      have HSN : Hid (List.range j ++ [j] = List.range (j + 1)) := by show _ = _; rw [List.range_succ]
      clear hqj hcw
      obtain ⟨d, hd⟩ : ∃ d, len - q = d := ⟨_, rfl⟩
      have hd1 : (q : Int) + d = len := by omega
      rw [hd] at hyy
      by_cases h32 : d < 32
      · have hd2 : (d : Int) < 32 := by omega
        rw [if_pos h32] at hyy
        gi_wp2
        refine wpIn_wide.2 ?_
        go_still mixed
        rw [show min (32 : Int) (d : Int) = (d : Int) by omega]
        change Exit.then _ _ _ _ wr.drew
        gi_wp2
        refine ⟨fun h => (by cases h), hRR.mono ?_⟩
        rintro e W3 (⟨rfl, hJ3, hz3, hk3⟩ | ⟨ch, rfl, hjp⟩)
        · rw [HSN.out] at hJ3
          have HJ3 := Lib.hid hJ3
          clear hRR hyy c1 c2 hJ hk3
          have c1 := cs.out _ _ hJ3
          have c2 := cn.out _ _ hJ3
          clear hJ3
          gi_wp2
          go_roundw
          case rel => exact ⟨j + 1, q + 32, by omega, by have := HQJ.out; omega, by congr 1, HJ3.out⟩
          case measure => simp [RowKit.intOf]; omega
        · have HJP := Lib.hid hjp
          clear hRR hyy c1 c2 hJ hjp
          gi_wp2_with fail
          exact ⟨rfl, .inr ⟨ch, rfl, HJP.out⟩⟩
      · have hd2 : ¬ (d : Int) < 32 := by omega
        have hi5 : (q : Int) + 32 ≤ len := by omega
        rw [if_neg h32] at hyy
        gi_wp2
        refine wpIn_wide.2 ?_
        go_still mixed
        rw [show min (32 : Int) (d : Int) = (32 : Int) by omega]
        change Exit.then _ _ _ _ wr.drew
        gi_wp2
        refine ⟨fun h => (by cases h), hRR.mono ?_⟩
        rintro e W3 (⟨rfl, hJ3, hz3, hk3⟩ | ⟨ch, rfl, hjp⟩)
        · rw [HSN.out] at hJ3
          have HJ3 := Lib.hid hJ3
          clear hRR hyy c1 c2 hJ hk3
          have c1 := cs.out _ _ hJ3
          have c2 := cn.out _ _ hJ3
          clear hJ3
          gi_wp2
          go_roundw
          case rel => exact ⟨j + 1, q + 32, by omega, by have := HQJ.out; omega, by congr 1, HJ3.out⟩
          case measure => simp [RowKit.intOf]; omega
        · have HJP := Lib.hid hjp
          clear hRR hyy c1 c2 hJ hjp
          gi_wp2_with fail
          exact ⟨rfl, .inr ⟨ch, rfl, HJP.out⟩⟩
    · have hje : j = (len + 31) / 32 := by have := HQ.out; omega
      have hil : ¬ (q : Int) < len := by omega
      rw [hje] at hJ
      have HJ := Lib.hid hJ
      clear hJ
      gi_wp2_with fail
      go_end0
      exact .inl ⟨⟨_, rfl⟩, HJ.out⟩
end Go.Proofs.YtgloapcfmlijlaaGreatDoor
namespace Go.Proofs.YtgloapcfmlijlaaGreatDoor
open Go Go.RowKit Go.Shelf Go.Lib
attribute [local go_sem] Oper.semAt_some

/-- The part of bytes at a place. -/
def partT (s : List UInt8) (x : Nat) : List UInt8 := (s.drop (32 * x)).take 32
theorem part_len (s : List UInt8) (x : Nat) : (partT s x).length = cwT s.length x := by
  unfold partT cwT
  rw [List.length_take, List.length_drop]
  split <;> omega
theorem Bs.convAt {W : World} {g off : Nat} {l : List UInt8} (h : Bs W g off l) {n : Nat} (hn : n = l.length) (cap : Nat) : (convert 48 9 (.slice (some ⟨g, off, none⟩) n cap)).run Tryz.prog W = .ok (.string ⟨l.toArray⟩) W := by
  subst hn
  refine run_convert_bytes_back W 48 9 5 ⟨g, off, none⟩ cap l Tryz.underlying48 Tryz.underlying5 Tryz.underlying9 ?_
  intro j hj
  have := h j hj
  rw [List.getD_eq_getElem?_getD, List.getElem?_eq_getElem hj, Option.getD_some] at this
  by_cases h0 : j = 0
  · subst h0
    simpa [Addr.add] using this
  · simpa [Addr.add, h0] using this
theorem Sealq.bs {w w' : World} {l : List UInt8} {cap : Nat} {cur : Array Value} (h : Sealq w w' 5 ⟨l.toArray⟩ cap cur) : Bs w' w.heap.size 0 l := by
  intro j hj
  have hc := cell_of_row w' w.heap.size (0 + j) cur 5 _ h.row
  rw [hc, Nat.zero_add]
  have ht := h.take
  have hj2 : (cur.toList.take (⟨l.toArray⟩ : ByteArray).size)[j]? = some (.int .u8 (((l.getD j 0).toNat : Nat) : Int)) := by
    rw [ht, cells_bytes]
    simp [List.getD_eq_getElem?_getD, List.getElem?_eq_getElem hj]
  rw [List.getElem?_take] at hj2
  split at hj2
  · simpa using hj2
  · cases hj2

set_option maxRecDepth 100000 in
set_option maxHeartbeats 8000000 in
theorem cut32_any (s : List UInt8) (w : World) (hl : s.length ≤ 100000) :
    Calls Tryz.prog 169 #[.string ⟨s.toArray⟩] w fun e w' => (∃ v, e = .returned v ∧ OwS w.heap.size (M.chunksT s) v w') ∧ Below w.heap.size w w' := by
  have mixed : Tryz.prog.follows .mixedOrders = true := by kernel_rfl
  have hbz : (⟨s.toArray⟩ : ByteArray).size = s.length := rfl
  refine calls_of_wpE (n := 6) Tryz.func169 rfl ?_
  simp only [Tryz.ntmps169, List.size_toArray, List.length_cons, List.length_nil, Nat.reduceAdd, Nat.reduceSub, Array.replicate_succ, Array.replicate_zero, List.push_toArray, List.append_toArray, List.nil_append, List.cons_append]
  refine wpE_then (n := 6) ?_
  gi_wp2_with fail
  refine wpE_then (n := 6) ?_
  gi_wp2_with fail
  refine wpE_seq ?_
  refine wpE_then (n := 6) ?_
  gi_wp2_with (refine wpListIn_seal _ rfl _ _ 5 _ rfl ⟨s.toArray⟩ rfl Tryz.underlying9 Tryz.underlying48 Tryz.underlying5 (by rw [hbz]; unfold maxLen; omega) ?_; intro cap cur w2 hSeal; have HSeal := Lib.hid hSeal; clear hSeal)
  refine ⟨trivial, (callsIn_wide.2 (chunk32_any s.length cap (some ⟨w.heap.size + 1, 0, none⟩) _)).mono ?_⟩
  rintro e w' ⟨rfl, rfl⟩
  gi_wp2_with fail
  obtain ⟨A, hA⟩ : ∃ A, (w2.alloc (.cells #[.slice (some ⟨w.heap.size + 1, 0, none⟩) s.length cap] 48)).alloc (.cells #[.int .i64 32] 3) = A := ⟨_, rfl⟩
  rw [hA]
  have hnew := HSeal.out.new
  rw [World.size_alloc] at hnew
  have hzA : A.heap.size = w.heap.size + 4 := by rw [← hA]; simp; omega
  have hlow := HSeal.out.low
  rw [World.size_alloc] at hlow
  have hb1 : Below w.heap.size w (w.alloc (.cells #[.slice none 0 0] 39)) := (Below.refl _ _).alloc (Nat.le_refl _) _
  have hb2 : Below w.heap.size w w2 := hb1.trans (hlow.mono (by omega))
  have hb2A : Below w2.heap.size w2 A := by rw [← hA]; exact ((Below.refl _ _).alloc (Nat.le_refl _) _).alloc (by simp) _
  have hbA : Below w.heap.size w A := hb2.trans (hb2A.mono hb2.size)
  have hA1 : Boxed A w.heap.size 39 (.slice none 0 0) := (hb2A.block _ (by omega)).trans ((hlow.block _ (by omega)).trans (Boxed.new w 39 (.slice none 0 0)))
  have hA2 : A.cell? ⟨w2.heap.size, 0, none⟩ = some (.slice (some ⟨w.heap.size + 1, 0, none⟩) s.length cap) := by rw [← hA]; simp [go_sem]
  have hA3 : A.cell? ⟨w2.heap.size + 1, 0, none⟩ = some (.int .i64 32) := by rw [← hA]; simp [go_sem]
  have hBs := HSeal.out.bs
  rw [World.size_alloc] at hBs
  have hBA : Bs A (w.heap.size + 1) 0 s := hBs.below hb2A (by omega)
  have hcl := HSeal.out.len
  have hcm := HSeal.out.max
  rw [hbz] at hcl
  obtain ⟨bx, hbx⟩ : ∃ bx, w2.heap.size = bx := ⟨_, rfl⟩
  rw [hbx] at hA2 hA3 hnew ⊢
  have hx1 : w.heap.size + 2 ≤ bx := by omega
  have hx2 : bx ≤ w.heap.size + 2 := by omega
  have HZA := Lib.hid hzA
  have hz1 : w.heap.size + 4 ≤ A.heap.size := by omega
  clear hA hlow hb1 hb2 hb2A hBs hnew hbx hzA
  obtain ⟨f, hf⟩ : ∃ f : List Nat → List (List UInt8), f = fun pre => pre.map fun x => M.fill32 (partT s x) := ⟨_, rfl⟩
  have hfs : ∀ pre x, f (pre ++ [x]) = f pre ++ [M.fill32 (partT s x)] := fun pre x => by rw [hf]; simp
  have hfl : ∀ pre, (f pre).length = pre.length := fun pre => by rw [hf]; simp
  have hf0 : f [] = [] := by rw [hf]; rfl
  have HHF : Hid (M.chunksT s = f (List.range ((s.length + 31) / 32))) := by show _ = _; rw [hf]; rfl
  clear hf
  refine wpE_block ?_
  obtain ⟨A1, hA1'⟩ : ∃ A1 : Nat → Act, A1 = fun x => { tmps := #[.string ⟨s.toArray⟩, undef, .slice none 0 0, .pointer (some ⟨w.heap.size, 0, none⟩), .slice (some ⟨w.heap.size + 1, 32 * x, none⟩) (cwT s.length x) (cwT s.length x), .string ⟨s.toArray⟩, .slice (some ⟨w.heap.size + 1, 0, none⟩) s.length cap, .func (.func 103) #[] #[.pointer (some ⟨bx, 0, none⟩), .pointer (some ⟨bx + 1, 0, none⟩)], .slice (some ⟨w.heap.size + 1, 32 * x, none⟩) (cwT s.length x) (cwT s.length x), undef, undef, undef, undef, undef, undef, undef], defers := [] } := ⟨_, rfl⟩
  refine range_lx (n := 6) (gf := 103) (lb := #[.pointer (some ⟨bx, 0, none⟩), .pointer (some ⟨bx + 1, 0, none⟩)]) (by omega) rfl (enters_of Tryz.func103 (by kernel_rfl) rfl)
    (encs := encK (w.heap.size + 1) s.length) (fun x => rfl) (fun pre W => RT A w.heap.size (f pre) W) (fun _ _ _ _ h hg hr => h.grow hg (by omega) fun j e => ⟨(hr j e).1, .inr (hr j e).2⟩) (fun pre X Y h hg => h.grow hg (by omega) fun j e => by cases e; exact ⟨by omega, .inl (by omega)⟩) (fun _ _ => False)
    (fun _ => False) (fun c h => h.elim) (fun xs => xs = List.range ((s.length + 31) / 32)) (fun pre x => GoodK ((s.length + 31) / 32) pre x) ?seq ⟨Gr.refl _ _, _, hA1, by rw [hf0]; exact OwS.nil _ _⟩ (fun pre x a' W => GoodK ((s.length + 31) / 32) pre x ∧ a' = A1 x ∧ A.heap.size + 2 ≤ W.heap.size ∧ RT A w.heap.size (f pre) W) (fun pre x a' => fun _ _ _ _ h hg hr => ⟨h.1, h.2.1, Nat.le_trans h.2.2.1 hg.size, h.2.2.2.grow hg (by omega) fun j e => ⟨(hr j e).1, .inr (hr j e).2⟩⟩) ?assign ?body ?done ?pan
  case seq =>
    intro l J Jp W hzW hJI hJ hY h0
    refine chunk_seq _ s.length cap (w.heap.size + 1) hcl hcm (by omega) l bx (bx + 1) J Jp (Lib.hid fun pre X h => ((hJI pre X h).gr.cell (p := ⟨bx, 0, none⟩) (by show bx < _; omega) (by show bx ≠ _; omega)).trans hA2) (Lib.hid fun pre X h => ((hJI pre X h).gr.cell (p := ⟨bx + 1, 0, none⟩) (by show bx + 1 < _; omega) (by show bx + 1 ≠ _; omega)).trans hA3) (Lib.hid fun pre X h => hJ pre X _ h ⟨rfl, rfl, rfl, Nat.le_refl _, fun _ _ _ => rfl⟩) (Lib.hid fun m pre x X h hg => hY m pre x X h hg) _ W h0
  case assign =>
    rintro l pre x X K hI hz hG hK'
    have hAX : GoodK ((s.length + 31) / 32) pre x ∧ A1 x = A1 x ∧ A.heap.size + 2 ≤ X.heap.size ∧ RT A w.heap.size (f pre) X := ⟨hG, rfl, hz, hI⟩
    have hkk := hK' _ X (KeepsFrom.refl _ _) (fun _ _ _ => rfl) hAX
    rw [hA1'] at hkk
    dsimp only [encK]
    gi_wp2
    exact hkk
  case body =>
    rintro l pre x a' B ⟨hG, rfl, hz2, hI⟩
    obtain ⟨v, hB, hO⟩ := hI.v
    have hgr := hI.gr
    have hpl : pre.length ≤ 4000 := by have := hG.2.1; have := hG.2.2; omega
    have hfp := hfl pre
    have hfx := hfs pre x
    have hzB := hgr.size
    obtain ⟨i1, hi1, hiz, his, hib⟩ := info_parts Tryz.ofTxt
    have hpt : (partT s x).length ≤ 32 := by unfold partT; rw [List.length_take]; omega
    have HF := Lib.hid (fun X => filled_any (partT s x) X hpt)
    have hpe := part_len s x
    have y1 := hB.cell
    have hBB : Bs B (w.heap.size + 1) 0 s := fun j hj => (hgr.cell (p := ⟨w.heap.size + 1, 0 + j, none⟩) (by show w.heap.size + 1 < _; omega) (by show w.heap.size + 1 ≠ _; omega)).trans (hBA j hj)
    have hd0 : Below B.heap.size B B.drew := Below.drew (Below.refl _ _)
    obtain ⟨u, hu⟩ : ∃ u, M.fill32 (partT s x) = u := ⟨_, rfl⟩
    rw [hu] at HF hfx
    have HFX := Lib.hid hfx
    have HB := Lib.hid hB
    have HO := Lib.hid hO
    have HPE := Lib.hid hpe
    rw [hA1']
    clear hfx hu hI hpe hpt
    gi_wp2_with fail
    refine region_roundH (S := fun Y => Bs Y (w.heap.size + 1) 0 s) (by rintro ⟨_, _, h⟩; exact h) mixed (by kernel_rfl) ?_
    have hS0 : Bs B.drew (w.heap.size + 1) 0 s := hBB
    rw [show Array.replicate (Array.size _) false = #[false, false, false, false, false, false, false] from rfl, show Array.size (α := Oper) _ = 7 from rfl]
    refine wpAnyH_take (i := 1) (v := .slice (some ⟨w.heap.size + 1, 32 * x, none⟩) (cwT s.length x) (cwT s.length x)) rfl (by kernel_rfl) (by kernel_rfl) (by kernel_rfl) (fun _ _ _ h => h) (Or.inl ⟨by rfl, ?_⟩) hS0 ?_
    · intro Y hY
      skip
      go_simp
    simp only [Act.put, List.getElem_toArray, List.getElem_cons_succ, List.getElem_cons_zero, List.setIfInBounds_toArray, List.set_cons_zero, List.set_cons_succ]
    refine wpAnyH_take (i := 2) (v := .string ⟨(partT s x).toArray⟩) rfl (by kernel_rfl) (by kernel_rfl) (by kernel_rfl) (fun _ _ _ h => h) (Or.inl ⟨by rfl, ?_⟩) hS0 ?_
    · intro Y hY
      have ec : ∀ cc, (convert 48 9 (.slice (some ⟨w.heap.size + 1, 32 * x, none⟩) (cwT s.length x) cc)).run Tryz.prog Y = .ok (.string ⟨(partT s x).toArray⟩) Y := fun cc => (Bs.part hY (32 * x) 32).convAt HPE.out.symm cc
      go_simp
    simp only [Act.put, List.getElem_toArray, List.getElem_cons_succ, List.getElem_cons_zero, List.setIfInBounds_toArray, List.set_cons_zero, List.set_cons_succ]
    refine wpAnyH_ready (rs := [0, 3]) (by kernel_rfl) (by simp) ?_
    refine AllReadyH.cons rfl (fun K hK => ?rA) (AllReadyH.cons rfl (fun K hK => ?rB) AllReadyH.nil)
    case' rA =>
      go_simp
      refine hK.out _ _ hS0 (fun _ => ?_)
      clear hK K
      simp only [List.setIfInBounds_toArray, List.set_cons_zero]
      refine wpAnyH_ready (rs := [3]) (by kernel_rfl) (by simp) ?_
      refine AllReadyH.cons rfl (fun K hK => ?_) AllReadyH.nil
      go_simp
      refine (HF.out _).mono ?_
      rintro e w5 ⟨rfl, hb5⟩
      have hS5 : Bs w5 (w.heap.size + 1) 0 s := hS0.below hb5 (by show _ < B.heap.size; omega)
      try go_wp2_with fail
      refine hK.out _ _ hS5 (fun _ => ?_)
      clear hK K
      simp only [List.setIfInBounds_toArray, List.set_cons_zero, List.set_cons_succ]
      refine wpAnyH_ready (rs := [4]) (by kernel_rfl) (by simp) ?_
      refine AllReadyH.cons rfl (fun K hK => ?_) AllReadyH.nil
      rw [if_pos (by rfl)]
      refine wp_build_one 39 9 (.tmp 12) (.string ⟨u.toArray⟩) (.string ⟨#[]⟩) i1 rfl rfl rfl Tryz.underlying39 hi1 hiz his rfl ?_
      have hS6 : Bs (w5.alloc (.cells #[.string ⟨u.toArray⟩] 9)) (w.heap.size + 1) 0 s := hS5.below ((Below.refl _ w5).alloc (Nat.le_refl _) _) (by have := hb5.size; show _ < w5.heap.size; have : B.drew.heap.size = B.heap.size := rfl; omega)
      refine hK.out _ _ hS6 (fun _ => ?_)
      clear hK K
      simp only [Act.put, List.getElem_toArray, List.getElem_cons_succ, List.getElem_cons_zero, List.setIfInBounds_toArray, List.set_cons_zero, List.set_cons_succ]
      skip
    case' rB =>
      go_simp
      refine (HF.out _).mono ?_
      rintro e w5 ⟨rfl, hb5⟩
      have hS5 : Bs w5 (w.heap.size + 1) 0 s := hS0.below hb5 (by show _ < B.heap.size; omega)
      try go_wp2_with fail
      refine hK.out _ _ hS5 (fun _ => ?_)
      clear hK K
      simp only [List.setIfInBounds_toArray, List.set_cons_zero, List.set_cons_succ]
      have hb5' : Below B.heap.size B w5 := hd0.trans hb5
      have y3 : w5.cell? ⟨w.heap.size, 0, none⟩ = some v := (hb5'.cell (p := ⟨w.heap.size, 0, none⟩) HB.out.lt).trans y1
      refine wpAnyH_ready (rs := [0, 4]) (by kernel_rfl) (by simp) ?_
      refine AllReadyH.cons rfl (fun K hK => ?rC) (AllReadyH.cons rfl (fun K hK => ?rD) AllReadyH.nil)
    case' rC =>
      go_simp
      refine hK.out _ _ hS5 (fun _ => ?_)
      clear hK K
      simp only [List.setIfInBounds_toArray, List.set_cons_zero]
      refine wpAnyH_ready (rs := [4]) (by kernel_rfl) (by simp) ?_
      refine AllReadyH.cons rfl (fun K hK => ?_) AllReadyH.nil
      rw [if_pos (by rfl)]
      refine wp_build_one 39 9 (.tmp 12) (.string ⟨u.toArray⟩) (.string ⟨#[]⟩) i1 rfl rfl rfl Tryz.underlying39 hi1 hiz his rfl ?_
      have hS6 : Bs (w5.alloc (.cells #[.string ⟨u.toArray⟩] 9)) (w.heap.size + 1) 0 s := hS5.below ((Below.refl _ w5).alloc (Nat.le_refl _) _) (by have := hb5.size; show _ < w5.heap.size; have : B.drew.heap.size = B.heap.size := rfl; omega)
      refine hK.out _ _ hS6 (fun _ => ?_)
      clear hK K
      simp only [Act.put, List.getElem_toArray, List.getElem_cons_succ, List.getElem_cons_zero, List.setIfInBounds_toArray, List.set_cons_zero, List.set_cons_succ]
      skip
    case' rD =>
      rw [if_pos (by rfl)]
      refine wp_build_one 39 9 (.tmp 12) (.string ⟨u.toArray⟩) (.string ⟨#[]⟩) i1 rfl rfl rfl Tryz.underlying39 hi1 hiz his rfl ?_
      have hS6 : Bs (w5.alloc (.cells #[.string ⟨u.toArray⟩] 9)) (w.heap.size + 1) 0 s := hS5.below ((Below.refl _ w5).alloc (Nat.le_refl _) _) (by have := hb5.size; show _ < w5.heap.size; have : B.drew.heap.size = B.heap.size := rfl; omega)
      refine hK.out _ _ hS6 (fun _ => ?_)
      clear hK K
      simp only [Act.put, List.getElem_toArray, List.getElem_cons_succ, List.getElem_cons_zero, List.setIfInBounds_toArray, List.set_cons_zero, List.set_cons_succ]
      refine wpAnyH_ready (rs := [0]) (by kernel_rfl) (by simp) ?_
      refine AllReadyH.cons rfl (fun K hK => ?_) AllReadyH.nil
      have y7 : (w5.alloc (.cells #[.string ⟨u.toArray⟩] 9)).cell? ⟨w.heap.size, 0, none⟩ = some v := (Below.cell ((Below.refl _ w5).alloc (Nat.le_refl _) _) (p := ⟨w.heap.size, 0, none⟩) (by have := HB.out.lt; have := hb5'.size; show w.heap.size < _; omega)).trans y3
      go_simp
      refine hK.out _ _ hS6 (fun _ => ?_)
      clear hK K
      simp only [List.setIfInBounds_toArray, List.set_cons_zero]
      skip
    all_goals
      have hb5' : Below B.heap.size B w5 := hd0.trans hb5
      obtain ⟨w6, hw6⟩ : ∃ w6, w5.alloc (.cells #[.string ⟨u.toArray⟩] 9) = w6 := ⟨_, rfl⟩
      have hb56 : Below w5.heap.size w5 w6 := by rw [← hw6]; exact (Below.refl _ _).alloc (Nat.le_refl _) _
      have hz6 : w6.heap.size = w5.heap.size + 1 := by rw [← hw6]; simp
      have hc6 : w6.cell? ⟨w5.heap.size, 0, none⟩ = some (.string ⟨u.toArray⟩) := by rw [← hw6]; simp [go_sem]
      have hb6 : Below B.heap.size B w6 := hb5'.trans (hb56.mono hb5'.size)
      have hgr6 := hgr.below hb6
      have hB6 : Boxed w6 w.heap.size 39 v := (hb6.block _ HB.out.lt).trans HB.out
      have hO6 := HO.out.from_ hb6
      have hs5 := hb5'.size
      rw [hw6] at hS6 ⊢
      clear hw6 y1
      refine wpAnyH_ready (rs := [5]) (by kernel_rfl) (by simp) ?_
      refine AllReadyH.cons rfl (fun K hK => ?_) AllReadyH.nil
      rw [if_pos (by rfl)]
      refine wp_append_txt w6 _ _ rfl (A.heap.size + 3) (f pre) u w5.heap.size v rfl rfl hO6 hc6 (by omega) (by omega) ?_
      intro v' w7 hA7
      obtain ⟨l7, hl7⟩ : ∃ l7, f pre ++ [u] = l7 := ⟨_, rfl⟩
      have hRT := RT.app hgr6 hB6 hO6 (by omega) hA7
      rw [hl7] at hA7 hRT
      obtain ⟨va, vc, hv⟩ := hA7.own.len
      subst hv
      have z7 := hRT.2.cell
      have z8 := hRT.2.frozen
      have HL7 := Lib.hid hl7
      clear hl7
      have hS7 : Bs w7 (w.heap.size + 1) 0 s := fun j hj => (World.cell?_of_block (hA7.grown.block (w.heap.size + 1) (by omega) (fun e => by have := (hO6.lt _ e.symm).1; omega))).trans (hS6 j hj)
      refine hK.out _ _ hS7 (fun _ => ?_)
      clear hK K
      simp only [Act.put, List.getElem_toArray, List.getElem_cons_succ, List.getElem_cons_zero, List.setIfInBounds_toArray, List.set_cons_zero, List.set_cons_succ]
      refine wpAnyH_ready (rs := [6]) (by kernel_rfl) (by simp) ?_
      refine AllReadyH.cons rfl (fun K hK => ?_) AllReadyH.nil
      go_simp
      have hS8 : Bs (w7.setCell ⟨w.heap.size, 0, none⟩ (.slice va l7.length vc)) (w.heap.size + 1) 0 s := fun j hj => (World.cell?_of_block (Below.heap_setCell _ _ _ _ (by show w.heap.size + 1 ≠ w.heap.size; omega))).trans (hS7 j hj)
      refine hK.out _ _ hS8 (fun _ => ?_)
      clear hK K
      simp only [List.setIfInBounds_toArray, List.set_cons_zero, List.set_cons_succ]
      refine wpAnyH_done (by kernel_rfl) ?_ _
      try gi_wp2_with fail
      refine ⟨((KO_below hb6).trans ((KO_appS hA7 hO6).trans (KeepsOthers.setCell _ _ _))).from _, fun c hc hT => hT.elim, ?_⟩
      show RT A w.heap.size (f (pre ++ [x])) _
      rw [HFX.out, HL7.out]
      exact hRT.1
  case done =>
    rintro D xs W hD rfl hI hKd hzW
    obtain ⟨v, hB, hO⟩ := hI.v
    have hbW : Below w.heap.size w W := Gr.low hbA hI.gr (by omega) (fun b e => by omega)
    have y := hB.cell
    obtain ⟨va, vc, hv⟩ := hO.len
    subst hv
    have hO2 : OwS (A.heap.size + 3) (f (List.range ((s.length + 31) / 32))) (.slice va (f (List.range ((s.length + 31) / 32))).length vc) (W.putObj D (.deferred none)) := hO.grown (grownBy_putObj' W D (.deferred none)) fun g hg e => by
      cases e
      exact hO.notCells hKd rfl hg.symm
    have HO2 := Lib.hid hO2
    have hb1 := belowK_b (w := w) (Nat.le_refl _) W D _ (.deferred none) (by omega) hKd rfl rfl
    have HB1 := Lib.hid (hbW.trans hb1)
    clear hO2 hO hB hb1 hfl hfs
    rw [HHF.out]
    refine wpE_then (n := 6) ?_
    gi_wp2_with fail
    refine WpE.of (n := 6) (wpIn_ret ?_)
    refine ⟨by simp, .inl ⟨_, _, rfl, run_takeDeferred hKd, ?_⟩⟩
    refine ⟨_, ?_, ⟨_, rfl, HO2.out.mono (by omega)⟩, HB1.out⟩
    simp [results, Tryz.f169, go_sem]
  case pan => rintro D ch W _ h _; exact h.elim
end Go.Proofs.YtgloapcfmlijlaaGreatDoor
namespace Go.Proofs.YtgloapcfmlijlaaGreatDoor
open Go Go.RowKit Go.Lib
open Go.Maps (Keyed)

/-- What is under a kind. -/
def fnT (kb ib : Nat) (k : Nat) : Value := match k with
  | 3 => .func (.func 90) #[] #[.pointer (some ⟨kb, 0, none⟩)]
  | 4 => .func (.func 93) #[] #[.pointer (some ⟨ib, 0, none⟩)]
  | 6 => .func (.func 94) #[] #[]
  | 7 => .func (.func 97) #[] #[.pointer (some ⟨kb, 0, none⟩)]
  | 8 => .func (.func 98) #[] #[.pointer (some ⟨kb, 0, none⟩)]
  | _ => .func (.func 87) #[] #[]
def putF (f : Nat → Value) (D : DataW Value) (i : Nat) : DataW Value := D.put (.int .i64 (i : Nat)) (.held (f i))
def DT (kb ib : Nat) : DataW Value := [1, 2, 5, 3, 4, 6, 7, 8].foldl (putF (fnT kb ib)) (.map [])
theorem fold_at (f : Nat → Value) (k : Nat) (z : DataW Value) : ∀ (l : List Nat) (D : DataW Value), Go.Maps.IsMap D → (l.foldl (putF f) D).atKey (.int .i64 (k : Nat)) z = if k ∈ l then .held (f k) else D.atKey (.int .i64 (k : Nat)) z
  | [], D, _ => by simp
  | i :: l, D, hD => by
    rw [List.foldl_cons, fold_at f k z l (putF f D i) (isMap_put hD _ _)]
    by_cases hl : k ∈ l
    · rw [if_pos hl, if_pos (by simp [hl])]
    · rw [if_neg hl]
      by_cases hi : k = i
      · subst hi
        rw [if_pos (by simp)]
        exact Go.Maps.atKey_put_same hD (by simp [WideAt.IsKeyLit]) _ _
      · rw [if_neg (by simp [hl, hi])]
        exact Go.Maps.atKey_put_other (by simp; omega) _ _

/-- The table of roots: the map, the box that holds it, the box of the function for rows. -/
structure Tbl (W : World) (n mb kb ib : Nat) : Prop where
  mlt : mb < n
  klt : kb < n
  ilt : ib < n
  own : W.ownsMap Tryz.prog 3 Rv mb 8 (DT kb ib)
  kbx : Boxed W kb 66 (.map (some mb))
  ibx : Boxed W ib 68 (.func (.func 90) #[] #[.pointer (some ⟨kb, 0, none⟩)])
theorem Tbl.from_ {w W : World} {n mb kb ib : Nat} (h : Tbl w n mb kb ib) (hb : Below n w W) : Tbl W n mb kb ib :=
  ⟨h.mlt, h.klt, h.ilt, own_at h.own (hb.block _ h.mlt), (hb.block _ h.klt).trans h.kbx, (hb.block _ h.ilt).trans h.ibx⟩
theorem Tbl.mono {w : World} {n m mb kb ib : Nat} (h : Tbl w n mb kb ib) (hm : n ≤ m) : Tbl w m mb kb ib :=
  ⟨Nat.lt_of_lt_of_le h.mlt hm, Nat.lt_of_lt_of_le h.klt hm, Nat.lt_of_lt_of_le h.ilt hm, h.own, h.kbx, h.ibx⟩
theorem wf8 : ∀ k : Fin 9, (Lit.int .i64 ((k.val : Nat) : Int)).wf = true := by decide
theorem grown_box {W W' : World} {b c : Nat} (hg : W.grownBy W' (some b)) (hc : c < W.heap.size) (hcb : c ≠ b) : W'.heap[c]? = W.heap[c]? := hg.block c hc (fun e => by cases e; exact hcb rfl)
theorem zero_fn (w : World) : (zeroValue 68).run Tryz.prog w = .ok .nilFunc w := by go_simp
theorem Tbl.look {W : World} {n mb kb ib : Nat} (h : Tbl W n mb kb ib) (k : Nat) (h1 : 1 ≤ k) (h8 : k ≤ 8) (W' : World) (hb : Below n W W') :
    (Instr.lookup 66 (.map (some mb)) (.int .i64 (k : Nat)) false).run Tryz.prog W' = .ok (fnT kb ib k) W' := by
  obtain ⟨es, clock, hbk, F, _, hD⟩ := (h.from_ hb).own
  have hk : k ∈ [1, 2, 5, 3, 4, 6, 7, 8] := by simp; omega
  have hat := fun z => fold_at (fnT kb ib) k z [1, 2, 5, 3, 4, 6, 7, 8] (.map []) ⟨_, rfl⟩
  simp only [if_pos hk] at hat
  change ∀ z, (DT kb ib).atKey _ z = _ at hat
  rw [hD] at hat
  have hw : (Lit.int .i64 (k : Nat)).wf = true := wf8 ⟨k, by omega⟩
  rcases Maps.fit_look (R := Rv) false intKeyed Tryz.underlying66 (zero_fn W') hbk F (keyI (k : Nat) hw) with ⟨_, _, h3⟩ | ⟨e0, y, _, _, h3, h4, h5, _⟩
  · have h1 := (h3 .nil).symm.trans (hat .nil)
    cases h1
  · have h1 := (h5 .nil).symm.trans (hat .nil)
    cases h4
    rw [h3, DataW.held.inj h1]
    rfl

set_option maxRecDepth 100000 in
set_option maxHeartbeats 8000000 in
theorem mtable_any (w : World) : Calls Tryz.prog 44 #[] w fun e w' => ∃ mb kb ib, e = .returned (.map (some mb)) ∧ Tbl w' w'.heap.size mb kb ib ∧ Below w.heap.size w w' := by
  have hmm := @run_makeMap Tryz.prog
  have hmf : ∀ (fn : Fn) (first cap : Array Value) (w : World), (Instr.makeFunc fn first cap).run Tryz.prog w = .ok (.func fn first cap) w := fun _ _ _ _ => rfl
  have hst : ∀ (W : World) (p : Addr) (F : Fn) (xa xb : Array Value), (W.cell? p).isSome = true → W.frozen? p = false → (store p (.func F xa xb)).run Tryz.prog W = .ok () (W.setCell p (.func F xa xb)) := by
    intro W p F xa xb h1 h2
    rw [run_store _ _ _ _ _ rfl]
    obtain ⟨x, hx⟩ := Option.isSome_iff_exists.1 h1
    rw [hx]
    simp [h2]
  obtain ⟨W0, hW0⟩ : ∃ W0, ((w.alloc (.cells #[.map none] 66)).alloc (.cells #[.func (.func 90) #[] #[.pointer (some ⟨w.heap.size, 0, none⟩)]] 68)).alloc (.map #[] 0) = W0 := ⟨_, rfl⟩
  have hs0 : w.heap.size + 2 < W0.heap.size := by rw [← hW0]; simp
  have ho0 : W0.ownsMap Tryz.prog 3 Rv (w.heap.size + 1 + 1) 0 (.map []) := by
    rw [← hW0]
    have := World.ownsMap_made (P := Tryz.prog) (k := 3) (R := Rv) ((w.alloc (.cells #[.map none] 66)).alloc (.cells #[.func (.func 90) #[] #[.pointer (some ⟨w.heap.size, 0, none⟩)]] 68))
    simpa using this
  have hi0 : W0.cell? ⟨w.heap.size + 1, 0, none⟩ = some (.func (.func 90) #[] #[.pointer (some ⟨w.heap.size, 0, none⟩)]) := by rw [← hW0]; simp [go_sem]
  have HB0 := Lib.hid (show Boxed W0 w.heap.size 66 (.map none) by rw [← hW0]; exact ((Boxed.new w _ _).alloc _).alloc _)
  have HI0 := Lib.hid (show Boxed W0 (w.heap.size + 1) 68 (.func (.func 90) #[] #[.pointer (some ⟨w.heap.size, 0, none⟩)]) by
    rw [← hW0]
    have := Boxed.new (w.alloc (.cells #[.map none] 66)) 68 (.func (.func 90) #[] #[.pointer (some ⟨w.heap.size, 0, none⟩)])
    rw [World.size_alloc] at this
    exact this.alloc _)
  have HL0 := Lib.hid (show Below w.heap.size w W0 by rw [← hW0]; (repeat (first | exact Below.refl _ _ | refine Below.drew ?_ | refine Below.alloc ?_ (by first | omega | (simp; omega) | simp) _ | refine Below.setCell ?_ (by first | omega | (simp; omega) | simp) _)))
  have HW0 := Lib.hid hW0
  clear hW0
  go_enter Tryz.func44, Tryz.ntmps44
  go_wp2_with (first
    | (rw [HW0.out]; refine wpList_insert_own rfl _ _ _ _ rfl 3 68 intKeyed Tryz.underlying66 Rv (w.heap.size + 1 + 1) 0 _ rfl ho0 (by decide) (.int .i64 1) (fnT w.heap.size (w.heap.size + 1) 1) (.int .i64 1) rfl rfl (keyI 1 (by decide)) _ _ rfl ?_
       intro W1 ho1 hg1
       have hs1 : w.heap.size + 2 < W1.heap.size := Nat.lt_of_lt_of_le hs0 hg1.size
       have hi1 : W1.cell? ⟨w.heap.size + 1, 0, none⟩ = some (.func (.func 90) #[] #[.pointer (some ⟨w.heap.size, 0, none⟩)]) := (World.cell?_of_block (grown_box hg1 (c := w.heap.size + 1) (by omega) (by omega))).trans hi0
       have HB1 := Lib.hid (show Boxed W1 w.heap.size 66 (.map none) from (grown_box hg1 (c := w.heap.size) (by omega) (by omega)).trans HB0.out)
       have HI1 := Lib.hid (show Boxed W1 (w.heap.size + 1) 68 (.func (.func 90) #[] #[.pointer (some ⟨w.heap.size, 0, none⟩)]) from (grown_box hg1 (c := w.heap.size + 1) (by omega) (by omega)).trans HI0.out)
       have HL1 := Lib.hid (Below.grow HL0.out hg1 (by omega))
       clear hi0 HB0 HI0 HL0 ho0 hg1 HW0)
    | (refine wpList_insert_own rfl _ _ _ _ rfl 3 68 intKeyed Tryz.underlying66 Rv (w.heap.size + 1 + 1) 1 _ rfl ho1 (by decide) (.int .i64 2) (fnT w.heap.size (w.heap.size + 1) 2) (.int .i64 2) rfl rfl (keyI 2 (by decide)) _ _ rfl ?_
       intro W2 ho2 hg2
       have hs2 : w.heap.size + 2 < W2.heap.size := Nat.lt_of_lt_of_le hs1 hg2.size
       have hi2 : W2.cell? ⟨w.heap.size + 1, 0, none⟩ = some (.func (.func 90) #[] #[.pointer (some ⟨w.heap.size, 0, none⟩)]) := (World.cell?_of_block (grown_box hg2 (c := w.heap.size + 1) (by omega) (by omega))).trans hi1
       have HB2 := Lib.hid (show Boxed W2 w.heap.size 66 (.map none) from (grown_box hg2 (c := w.heap.size) (by omega) (by omega)).trans HB1.out)
       have HI2 := Lib.hid (show Boxed W2 (w.heap.size + 1) 68 (.func (.func 90) #[] #[.pointer (some ⟨w.heap.size, 0, none⟩)]) from (grown_box hg2 (c := w.heap.size + 1) (by omega) (by omega)).trans HI1.out)
       have HL2 := Lib.hid (Below.grow HL1.out hg2 (by omega))
       clear hi1 HB1 HI1 HL1 ho1 hg2)
    | (refine wpList_insert_own rfl _ _ _ _ rfl 3 68 intKeyed Tryz.underlying66 Rv (w.heap.size + 1 + 1) 2 _ rfl ho2 (by decide) (.int .i64 5) (fnT w.heap.size (w.heap.size + 1) 5) (.int .i64 5) rfl rfl (keyI 5 (by decide)) _ _ rfl ?_
       intro W3 ho3 hg3
       have hs3 : w.heap.size + 2 < W3.heap.size := Nat.lt_of_lt_of_le hs2 hg3.size
       have hi3 : W3.cell? ⟨w.heap.size + 1, 0, none⟩ = some (.func (.func 90) #[] #[.pointer (some ⟨w.heap.size, 0, none⟩)]) := (World.cell?_of_block (grown_box hg3 (c := w.heap.size + 1) (by omega) (by omega))).trans hi2
       have HB3 := Lib.hid (show Boxed W3 w.heap.size 66 (.map none) from (grown_box hg3 (c := w.heap.size) (by omega) (by omega)).trans HB2.out)
       have HI3 := Lib.hid (show Boxed W3 (w.heap.size + 1) 68 (.func (.func 90) #[] #[.pointer (some ⟨w.heap.size, 0, none⟩)]) from (grown_box hg3 (c := w.heap.size + 1) (by omega) (by omega)).trans HI2.out)
       have HL3 := Lib.hid (Below.grow HL2.out hg3 (by omega))
       clear hi2 HB2 HI2 HL2 ho2 hg3)
    | (refine wpList_insert_own rfl _ _ _ _ rfl 3 68 intKeyed Tryz.underlying66 Rv (w.heap.size + 1 + 1) 3 _ rfl ho3 (by decide) (.int .i64 3) (fnT w.heap.size (w.heap.size + 1) 3) (.int .i64 3) rfl rfl (keyI 3 (by decide)) _ _ rfl ?_
       intro W4 ho4 hg4
       have hs4 : w.heap.size + 2 < W4.heap.size := Nat.lt_of_lt_of_le hs3 hg4.size
       have hi4 : W4.cell? ⟨w.heap.size + 1, 0, none⟩ = some (.func (.func 90) #[] #[.pointer (some ⟨w.heap.size, 0, none⟩)]) := (World.cell?_of_block (grown_box hg4 (c := w.heap.size + 1) (by omega) (by omega))).trans hi3
       have HB4 := Lib.hid (show Boxed W4 w.heap.size 66 (.map none) from (grown_box hg4 (c := w.heap.size) (by omega) (by omega)).trans HB3.out)
       have HI4 := Lib.hid (show Boxed W4 (w.heap.size + 1) 68 (.func (.func 90) #[] #[.pointer (some ⟨w.heap.size, 0, none⟩)]) from (grown_box hg4 (c := w.heap.size + 1) (by omega) (by omega)).trans HI3.out)
       have HL4 := Lib.hid (Below.grow HL3.out hg4 (by omega))
       clear hi3 HB3 HI3 HL3 ho3 hg4)
    | (refine wpList_insert_own rfl _ _ _ _ rfl 3 68 intKeyed Tryz.underlying66 Rv (w.heap.size + 1 + 1) 4 _ rfl ho4 (by decide) (.int .i64 4) (fnT w.heap.size (w.heap.size + 1) 4) (.int .i64 4) rfl rfl (keyI 4 (by decide)) _ _ rfl ?_
       intro W5 ho5 hg5
       have hs5 : w.heap.size + 2 < W5.heap.size := Nat.lt_of_lt_of_le hs4 hg5.size
       have hi5 : W5.cell? ⟨w.heap.size + 1, 0, none⟩ = some (.func (.func 90) #[] #[.pointer (some ⟨w.heap.size, 0, none⟩)]) := (World.cell?_of_block (grown_box hg5 (c := w.heap.size + 1) (by omega) (by omega))).trans hi4
       have HB5 := Lib.hid (show Boxed W5 w.heap.size 66 (.map none) from (grown_box hg5 (c := w.heap.size) (by omega) (by omega)).trans HB4.out)
       have HI5 := Lib.hid (show Boxed W5 (w.heap.size + 1) 68 (.func (.func 90) #[] #[.pointer (some ⟨w.heap.size, 0, none⟩)]) from (grown_box hg5 (c := w.heap.size + 1) (by omega) (by omega)).trans HI4.out)
       have HL5 := Lib.hid (Below.grow HL4.out hg5 (by omega))
       clear hi4 HB4 HI4 HL4 ho4 hg5)
    | (refine wpList_insert_own rfl _ _ _ _ rfl 3 68 intKeyed Tryz.underlying66 Rv (w.heap.size + 1 + 1) 5 _ rfl ho5 (by decide) (.int .i64 6) (fnT w.heap.size (w.heap.size + 1) 6) (.int .i64 6) rfl rfl (keyI 6 (by decide)) _ _ rfl ?_
       intro W6 ho6 hg6
       have hs6 : w.heap.size + 2 < W6.heap.size := Nat.lt_of_lt_of_le hs5 hg6.size
       have hi6 : W6.cell? ⟨w.heap.size + 1, 0, none⟩ = some (.func (.func 90) #[] #[.pointer (some ⟨w.heap.size, 0, none⟩)]) := (World.cell?_of_block (grown_box hg6 (c := w.heap.size + 1) (by omega) (by omega))).trans hi5
       have HB6 := Lib.hid (show Boxed W6 w.heap.size 66 (.map none) from (grown_box hg6 (c := w.heap.size) (by omega) (by omega)).trans HB5.out)
       have HI6 := Lib.hid (show Boxed W6 (w.heap.size + 1) 68 (.func (.func 90) #[] #[.pointer (some ⟨w.heap.size, 0, none⟩)]) from (grown_box hg6 (c := w.heap.size + 1) (by omega) (by omega)).trans HI5.out)
       have HL6 := Lib.hid (Below.grow HL5.out hg6 (by omega))
       clear hi5 HB5 HI5 HL5 ho5 hg6)
    | (refine wpList_insert_own rfl _ _ _ _ rfl 3 68 intKeyed Tryz.underlying66 Rv (w.heap.size + 1 + 1) 6 _ rfl ho6 (by decide) (.int .i64 7) (fnT w.heap.size (w.heap.size + 1) 7) (.int .i64 7) rfl rfl (keyI 7 (by decide)) _ _ rfl ?_
       intro W7 ho7 hg7
       have hs7 : w.heap.size + 2 < W7.heap.size := Nat.lt_of_lt_of_le hs6 hg7.size
       have hi7 : W7.cell? ⟨w.heap.size + 1, 0, none⟩ = some (.func (.func 90) #[] #[.pointer (some ⟨w.heap.size, 0, none⟩)]) := (World.cell?_of_block (grown_box hg7 (c := w.heap.size + 1) (by omega) (by omega))).trans hi6
       have HB7 := Lib.hid (show Boxed W7 w.heap.size 66 (.map none) from (grown_box hg7 (c := w.heap.size) (by omega) (by omega)).trans HB6.out)
       have HI7 := Lib.hid (show Boxed W7 (w.heap.size + 1) 68 (.func (.func 90) #[] #[.pointer (some ⟨w.heap.size, 0, none⟩)]) from (grown_box hg7 (c := w.heap.size + 1) (by omega) (by omega)).trans HI6.out)
       have HL7 := Lib.hid (Below.grow HL6.out hg7 (by omega))
       clear hi6 HB6 HI6 HL6 ho6 hg7)
    | (refine wpList_insert_own rfl _ _ _ _ rfl 3 68 intKeyed Tryz.underlying66 Rv (w.heap.size + 1 + 1) 7 _ rfl ho7 (by decide) (.int .i64 8) (fnT w.heap.size (w.heap.size + 1) 8) (.int .i64 8) rfl rfl (keyI 8 (by decide)) _ _ rfl ?_
       intro W8 ho8 hg8
       have hs8 : w.heap.size + 2 < W8.heap.size := Nat.lt_of_lt_of_le hs7 hg8.size
       have hi8 : W8.cell? ⟨w.heap.size + 1, 0, none⟩ = some (.func (.func 90) #[] #[.pointer (some ⟨w.heap.size, 0, none⟩)]) := (World.cell?_of_block (grown_box hg8 (c := w.heap.size + 1) (by omega) (by omega))).trans hi7
       have HB8 := Lib.hid (show Boxed W8 w.heap.size 66 (.map none) from (grown_box hg8 (c := w.heap.size) (by omega) (by omega)).trans HB7.out)
       have HI8 := Lib.hid (show Boxed W8 (w.heap.size + 1) 68 (.func (.func 90) #[] #[.pointer (some ⟨w.heap.size, 0, none⟩)]) from (grown_box hg8 (c := w.heap.size + 1) (by omega) (by omega)).trans HI7.out)
       have HL8 := Lib.hid (Below.grow HL7.out hg8 (by omega))
       have z7 := HB8.out.cell
       have z8 := HB8.out.frozen
       clear hi7 HB7 HI7 HL7 ho7 hg8))
  go_ret
  have hD : W8.ownsMap Tryz.prog 3 Rv (w.heap.size + 1 + 1) 8 (DT w.heap.size (w.heap.size + 1)) := ho8
  refine ⟨w.heap.size + 1 + 1, w.heap.size, w.heap.size + 1, rfl, ⟨?_, ?_, ?_, own_at hD (Below.heap_setCell _ _ _ _ (by show _ ≠ w.heap.size; omega)), HB8.out.set _, HI8.out.other (by omega) _⟩, HL8.out.grown (grownBy_setCell' _ _ _) HL8.out.size (fun j e => by cases e; exact Nat.le_refl _)⟩
  · simp; omega
  · simp; omega
  · simp; omega
end Go.Proofs.YtgloapcfmlijlaaGreatDoor
namespace Go.Proofs.YtgloapcfmlijlaaGreatDoor.M
open Go

theorem le_zero (m : Nat) : le m 0 = List.replicate m 0 := by
  induction m with
  | zero => rfl
  | succ m ih => rw [le, Nat.zero_div, ih, List.replicate_succ]; rfl
theorem le_pad : ∀ (n m N : Nat), N < 256 ^ n → le n N ++ List.replicate m 0 = le (n + m) N
  | 0, m, N, h => by
    obtain rfl : N = 0 := by simpa using h
    rw [Nat.zero_add, le_zero, le_zero]
    rfl
  | n + 1, m, N, h => by
    rw [show n + 1 + m = n + m + 1 by omega, le, le, List.cons_append, le_pad n m (N / 256) (by rw [Nat.pow_succ] at h; omega)]
theorem chunks_one {s : List UInt8} (h1 : 1 ≤ s.length) (h : s.length ≤ 32) : chunksT s = [fill32 s] := by
  unfold chunksT
  rw [show (s.length + 31) / 32 = 1 by omega]
  simp [List.range_succ, List.take_of_length_le h]
theorem pack_one {s : List UInt8} {m : Nat} (h1 : 1 ≤ s.length) (h : s.length ≤ 32) (hm : m ≤ 32) : packT s m = fill32 s := by
  unfold packT treeT
  rw [chunks_one h1 h]
  have : dep ((m + 31) / 32) = 0 := by
    unfold dep
    rw [if_pos (by omega)]
  rw [this]
  rfl
theorem putV1 (n : Int) (ts : List Ty) (num : Nat) (bits : List Bool) (items : List Va) (pick : Int) : putV (.mk 1 n ts) (.mk num bits items pick) = le n.toNat num := by
  rw [putV]
  exact if_pos rfl
theorem putV2 (n : Int) (ts : List Ty) (num : Nat) (bits : List Bool) (items : List Va) (pick : Int) : putV (.mk 2 n ts) (.mk num bits items pick) = le 1 num := by
  rw [putV]
  exact (if_neg (by show ¬ ((2 : Int) = 1); decide)).trans (if_pos rfl)
theorem putV5 (n : Int) (ts : List Ty) (num : Nat) (bits : List Bool) (items : List Va) (pick : Int) : putV (.mk 5 n ts) (.mk num bits items pick) = packB bits := by
  rw [putV]
  exact (if_neg (by show ¬ ((5 : Int) = 1); decide)).trans ((if_neg (by show ¬ ((5 : Int) = 2); decide)).trans (if_pos rfl))
theorem putV3 (n : Int) (ts : List Ty) (num : Nat) (bits : List Bool) (items : List Va) (pick : Int) : putV (.mk 3 n ts) (.mk num bits items pick) = rowB (putVs 3 ts pick 0 items) := by
  rw [putV]
  exact (if_neg (by show ¬ ((3 : Int) = 1); decide)).trans ((if_neg (by show ¬ ((3 : Int) = 2); decide)).trans ((if_neg (by show ¬ ((3 : Int) = 5); decide)).trans ((if_neg (by show ¬ ((3 : Int) = 6); decide)).trans ((if_neg (by show ¬ ((3 : Int) = 8); decide))))))
theorem putV4 (n : Int) (ts : List Ty) (num : Nat) (bits : List Bool) (items : List Va) (pick : Int) : putV (.mk 4 n ts) (.mk num bits items pick) = rowB (putVs 4 ts pick 0 items) := by
  rw [putV]
  exact (if_neg (by show ¬ ((4 : Int) = 1); decide)).trans ((if_neg (by show ¬ ((4 : Int) = 2); decide)).trans ((if_neg (by show ¬ ((4 : Int) = 5); decide)).trans ((if_neg (by show ¬ ((4 : Int) = 6); decide)).trans ((if_neg (by show ¬ ((4 : Int) = 8); decide))))))
theorem rootV1 (n : Int) (ts : List Ty) (num : Nat) (bits : List Bool) (items : List Va) (pick : Int) : rootV (.mk 1 n ts) (.mk num bits items pick) = le 32 num := by
  rw [rootV]
  exact if_pos (.inl rfl)
theorem rootV2 (n : Int) (ts : List Ty) (num : Nat) (bits : List Bool) (items : List Va) (pick : Int) : rootV (.mk 2 n ts) (.mk num bits items pick) = le 32 num := by
  rw [rootV]
  exact if_pos (.inr rfl)
theorem rootV5 (n : Int) (ts : List Ty) (num : Nat) (bits : List Bool) (items : List Va) (pick : Int) : rootV (.mk 5 n ts) (.mk num bits items pick) = packT (packB bits) ((n.toNat + 7) / 8) := by
  rw [rootV]
  exact (if_neg (by show ¬ ((5 : Int) = 1 ∨ (5 : Int) = 2); decide)).trans (if_pos rfl)
theorem rootV6 (n : Int) (ts : List Ty) (num : Nat) (bits : List Bool) (items : List Va) (pick : Int) : rootV (.mk 6 n ts) (.mk num bits items pick) = mixT (packT (packB bits) ((n.toNat + 7) / 8)) bits.length := by
  rw [rootV]
  exact (if_neg (by show ¬ ((6 : Int) = 1 ∨ (6 : Int) = 2); decide)).trans ((if_neg (by show ¬ ((6 : Int) = 5); decide)).trans (if_pos rfl))
theorem rootV8 (n : Int) (ts : List Ty) (num : Nat) (bits : List Bool) (items : List Va) (pick : Int) : rootV (.mk 8 n ts) (.mk num bits items pick) = mixT ((rootVs 8 ts pick 0 items).headD []) pick.toNat := by
  rw [rootV]
  exact (if_neg (by show ¬ ((8 : Int) = 1 ∨ (8 : Int) = 2); decide)).trans ((if_neg (by show ¬ ((8 : Int) = 5); decide)).trans ((if_neg (by show ¬ ((8 : Int) = 6); decide)).trans (if_pos rfl)))
theorem rootV7 (n : Int) (ts : List Ty) (num : Nat) (bits : List Bool) (items : List Va) (pick : Int) : rootV (.mk 7 n ts) (.mk num bits items pick) = treeT (rootVs 7 ts pick 0 items) ts.length := by
  rw [rootV]
  exact (if_neg (by show ¬ ((7 : Int) = 1 ∨ (7 : Int) = 2); decide)).trans ((if_neg (by show ¬ ((7 : Int) = 5); decide)).trans ((if_neg (by show ¬ ((7 : Int) = 6); decide)).trans ((if_neg (by show ¬ ((7 : Int) = 8); decide)).trans (if_pos rfl))))
/-- The root of a row's items. -/
def rowR (k n : Int) (ts : List Ty) (pick : Int) (items : List Va) : List UInt8 := if isPl (ts[0]?.getD default) = true then packT ((putVs k ts pick 0 items).flatMap (·.2)) (n.toNat * szT (ts[0]?.getD default)) else treeT (rootVs k ts pick 0 items) n.toNat
theorem rootV3 (n : Int) (ts : List Ty) (num : Nat) (bits : List Bool) (items : List Va) (pick : Int) : rootV (.mk 3 n ts) (.mk num bits items pick) = rowR 3 n ts pick items := by
  rw [rootV]
  refine (if_neg (by show ¬ ((3 : Int) = 1 ∨ (3 : Int) = 2); decide)).trans ((if_neg (by show ¬ ((3 : Int) = 5); decide)).trans ((if_neg (by show ¬ ((3 : Int) = 6); decide)).trans ((if_neg (by show ¬ ((3 : Int) = 8); decide)).trans ((if_neg (by show ¬ ((3 : Int) = 7); decide)).trans ?_))))
  by_cases h : isPl (ts[0]?.getD default) = true
  · refine (if_pos h).trans ((if_neg (by show ¬ ((3 : Int) = 4); decide)).trans ?_)
    unfold rowR
    rw [if_pos h]
    rfl
  · refine (if_neg h).trans ((if_neg (by show ¬ ((3 : Int) = 4); decide)).trans ?_)
    unfold rowR
    rw [if_neg h]
    rfl
theorem rootV4 (n : Int) (ts : List Ty) (num : Nat) (bits : List Bool) (items : List Va) (pick : Int) : rootV (.mk 4 n ts) (.mk num bits items pick) = mixT (rowR 4 n ts pick items) items.length := by
  rw [rootV]
  refine (if_neg (by show ¬ ((4 : Int) = 1 ∨ (4 : Int) = 2); decide)).trans ((if_neg (by show ¬ ((4 : Int) = 5); decide)).trans ((if_neg (by show ¬ ((4 : Int) = 6); decide)).trans ((if_neg (by show ¬ ((4 : Int) = 8); decide)).trans ((if_neg (by show ¬ ((4 : Int) = 7); decide)).trans ?_))))
  by_cases h : isPl (ts[0]?.getD default) = true
  · refine (if_pos h).trans ((if_pos rfl).trans ?_)
    unfold rowR
    rw [if_pos h]
    rfl
  · refine (if_neg h).trans ((if_pos rfl).trans ?_)
    unfold rowR
    rw [if_neg h]
    rfl
theorem szT1 (n : Int) (ts : List Ty) : szT (.mk 1 n ts) = n.toNat := by
  rw [szT]
  exact if_pos rfl
theorem szT2 (n : Int) (ts : List Ty) : szT (.mk 2 n ts) = 1 := by
  rw [szT]
  exact (if_neg (by decide)).trans (if_pos rfl)
theorem szT5 (n : Int) (ts : List Ty) : szT (.mk 5 n ts) = (n.toNat + 7) / 8 := by
  rw [szT]
  exact (if_neg (by decide)).trans ((if_neg (by decide)).trans (if_pos rfl))
/-- The root of what is packed as one. -/
theorem of_fit {k n : Int} {ts : List Ty} {num : Nat} {bits : List Bool} {items : List Va} {pick : Int} (hf : fitV (.mk k n ts) (.mk num bits items pick) = 0) : ¬ ((k = 4 ∧ n < items.length) ∨ (k = 6 ∧ n < bits.length)) ∧ ofV k n ts.length (.mk num bits items pick) = true ∧ fitVs k ts pick 0 items = 0 := by
  rw [fitV_eq] at hf
  split at hf
  · cases hf
  · rename_i h1
    split at hf
    · cases hf
    · rename_i h
      exact ⟨h1, by simpa using h, hf⟩
theorem root_whole {k n : Int} {ts : List Ty} {num : Nat} {bits : List Bool} {items : List Va} {pick : Int} (hk : k = 1 ∨ k = 2 ∨ k = 5) (hc : formT k n ts.length = true) (hf : fitV (.mk k n ts) (.mk num bits items pick) = 0) (hi : In num) :
    packT (putV (.mk k n ts) (.mk num bits items pick)) (szT (.mk k n ts)) = rootV (.mk k n ts) (.mk num bits items pick) := by
  obtain ⟨_, hof, _⟩ := of_fit hf
  rcases hk with rfl | rfl | rfl
  · rw [ofV_1] at hof
    unfold formT at hc
    simp at hof hc
    have hn : 1 ≤ n.toNat ∧ n.toNat ≤ 32 := by omega
    have hlt : num < 256 ^ n.toNat := (tr_width (k := n.toNat) hi).1 (by omega)
    rw [putV1, rootV1, szT1, pack_one (by rw [le_length]; omega) (by rw [le_length]; omega) (by omega)]
    unfold fill32
    rw [le_length, le_pad _ _ _ hlt]
    congr 1
    omega
  · rw [ofV_2] at hof
    simp at hof
    have hlt : num < 256 ^ 1 := by rcases hof with ⟨_, h | h⟩ <;> omega
    rw [putV2, rootV2, szT2, pack_one (by rw [le_length]; omega) (by rw [le_length]; omega) (by omega)]
    unfold fill32
    rw [le_length, le_pad _ _ _ hlt]
  · rw [putV5, rootV5, szT5]
theorem put_whole {k n : Int} {ts : List Ty} {v : Va} (hk : k = 1 ∨ k = 2 ∨ k = 5) (hc : formT k n ts.length = true) (hf : fitV (.mk k n ts) v = 0) : (putV (.mk k n ts) v).length ≤ 64 := by
  obtain ⟨num, bits, items, pick⟩ := v
  obtain ⟨_, hof, _⟩ := of_fit hf
  rcases hk with rfl | rfl | rfl
  · unfold formT at hc
    simp at hc
    rw [putV1, le_length]
    omega
  · rw [putV2, le_length]
    omega
  · rw [ofV_5] at hof
    unfold formT at hc
    simp at hof hc
    rw [putV5, pack_length]
    omega
theorem rowH_all : ∀ (ps : List (Option Nat × List UInt8)) (off : Nat), (∀ p ∈ ps, p.1 ≠ none) → rowH off ps = ps.flatMap (·.2)
  | [], _, _ => rfl
  | (some z, b) :: ps, off, h => by
    rw [rowH, rowH_all ps off (fun p hp => h p (by simp [hp])), List.flatMap_cons]
  | (none, b) :: ps, _, h => absurd rfl (h (none, b) (by simp))
theorem kind_plain {t : Ty} {e : Nat} (hc : chkT e t = 0) (h : isPl t = true) : kindOf t = some (szT t) ∧ szT t ≤ 32 ∧ 1 ≤ szT t ∧ fixT t = true := by
  obtain ⟨k, n, ts⟩ := t
  obtain ⟨_, hform, _⟩ := chkT_ok.1 hc
  unfold isPl at h
  simp only [Ty.k, Bool.or_eq_true, beq_iff_eq] at h
  unfold kindOf
  rcases h with rfl | rfl
  · unfold formT at hform
    simp at hform
    obtain ⟨rfl, hn⟩ := hform
    have hfx : fixT (.mk 1 n []) = true := by rw [fixT]; rfl
    rw [if_pos hfx, szT1]
    exact ⟨rfl, by omega, by omega, hfx⟩
  · unfold formT at hform
    simp at hform
    obtain ⟨rfl, hn⟩ := hform
    have hfx : fixT (.mk 2 n []) = true := by rw [fixT]; rfl
    rw [if_pos hfx, szT2]
    exact ⟨rfl, by omega, by omega, hfx⟩
theorem in_34 {k : Int} (hk : k = 3 ∨ k = 4) (ts : List Ty) (pick : Int) (i : Nat) : inT k ts pick i = ts[0]?.getD default := by
  unfold inT
  rcases hk with rfl | rfl <;> rfl
/-- A row of plain items: their bytes, one behind the other. -/
theorem put_plain {k n : Int} {t : Ty} {num : Nat} {bits : List Bool} {items : List Va} {pick : Int} {e : Nat} (hk : k = 3 ∨ k = 4) (hc : chkT e t = 0) (hp : isPl t = true) :
    putV (.mk k n [t]) (.mk num bits items pick) = (putVs k [t] pick 0 items).flatMap (·.2) ∧ ((putVs k [t] pick 0 items).flatMap (·.2)).length = items.length * szT t := by
  obtain ⟨h1, h2, h3, h4⟩ := kind_plain hc hp
  have hin : ∀ i, inT k [t] pick i = t := fun i => in_34 hk [t] pick i
  have hps : ∀ (vs : List Va) (i : Nat), (∀ p ∈ putVs k [t] pick i vs, p.1 ≠ none) ∧ ((putVs k [t] pick i vs).flatMap (·.2)).length = vs.length * szT t := by
    intro vs
    induction vs with
    | nil => exact fun i => ⟨fun p hp => by simp [putVs] at hp, by simp [putVs]⟩
    | cons v vs ih =>
      intro i
      obtain ⟨ih1, ih2⟩ := ih (i + 1)
      rw [putVs, hin i]
      refine ⟨fun p hp => ?_, ?_⟩
      · rcases List.mem_cons.1 hp with rfl | hp
        · rw [h1]; simp
        · exact ih1 p hp
      · rw [List.flatMap_cons, List.length_append, ih2, List.length_cons, Nat.add_mul, Nat.one_mul, Nat.add_comm]
        congr 1
        obtain ⟨num, bits, items, q⟩ := v
        obtain ⟨k', n', ts'⟩ := t
        unfold isPl at hp
        simp only [Ty.k, Bool.or_eq_true, beq_iff_eq] at hp
        rcases hp with rfl | rfl
        · rw [putV1, szT1, le_length]
        · rw [putV2, szT2, le_length]
  obtain ⟨g1, g2⟩ := hps items 0
  refine ⟨?_, g2⟩
  have key : rowB (putVs k [t] pick 0 items) = (putVs k [t] pick 0 items).flatMap (·.2) := by
    unfold rowB
    rw [rowH_all _ _ g1, rowL_fixed g1, List.append_nil]
  rcases hk with rfl | rfl
  · rw [putV3, key]
  · rw [putV4, key]
end Go.Proofs.YtgloapcfmlijlaaGreatDoor.M
namespace Go.Proofs.YtgloapcfmlijlaaGreatDoor
open Go Go.RowKit Go.Lib
attribute [local go_sem] Oper.semAt_some

set_option maxRecDepth 100000 in
set_option maxHeartbeats 4000000 in
theorem put_step (z : Nat) (ih : Hid (PutC z)) : PutC (z + 1) := by
  intro k n ts a cap N bs us p ab cb au cu w hs hL hV hc hf h1 h2
  obtain ⟨w0, hw0⟩ : ∃ w0, (w.alloc (.cells #[.int .i64 k, .int .i64 n, .slice a ts.length cap] 24)).alloc (.cells #[.int .u64 (M.pt 0 N), .int .u64 (M.pt 1 N), .int .u64 (M.pt 2 N), .int .u64 (M.pt 3 N), .slice ab bs.length cb, .slice au us.length cu, .int .i64 p] 33) = w0 := ⟨_, rfl⟩
  have hb0 : Below w.heap.size w w0 := by rw [← hw0]; exact two_boxesV _ _ _ _ _ _ _ _
  have hB0 : BoxT w0 w.heap.size k n (.slice a ts.length cap) := by rw [← hw0]; exact ⟨by simp [go_sem], by simp [go_sem], by simp [go_sem]⟩
  have hA0 : Cells7 w0 (w.heap.size + 1) 0 N (.slice ab bs.length cb) (.slice au us.length cu) p := by
    rw [← hw0]
    have := Cells7.new (w.alloc (.cells #[.int .i64 k, .int .i64 n, .slice a ts.length cap] 24)) N (.slice ab bs.length cb) (.slice au us.length cu) p 33
    rwa [World.size_alloc] at this
  have HW := Lib.hid hw0
  have HL0 := (hL.from_ hb0).mono hb0.size
  have HV0 := (hV.from_ hb0).mono hb0.size
  have HB : Hid (Calls Tryz.prog 143 #[tv k n (.slice a ts.length cap), vv N (.slice ab bs.length cb) (.slice au us.length cu) p] w0 (BytP w0 (M.putV (.mk k n ts) (.mk N bs us p)))) := by
    show Calls _ _ _ _ _
    by_cases k1 : k = 1
    · subst k1; exact byt_1 n ts a cap N bs us p ab cb au cu w0 HL0 HV0 hc hf h1 h2
    by_cases k2 : k = 2
    · subst k2; exact byt_2 n ts a cap N bs us p ab cb au cu w0 HL0 HV0 hc hf h1 h2
    by_cases k5 : k = 5
    · subst k5; exact byt_5 n ts a cap N bs us p ab cb au cu w0 HL0 HV0 hc hf h1 h2
    by_cases k6 : k = 6
    · subst k6; exact byt_6 n ts a cap N bs us p ab cb au cu w0 HL0 HV0 hc hf h1 h2
    by_cases k8 : k = 8
    · subst k8; exact byt_8 z ih n ts a cap N bs us p ab cb au cu w0 hs HL0 HV0 hc hf h1 h2
    · exact byt_row z ih k (by obtain ⟨d, hd⟩ := hc; have := (M.chkT_ok.1 hd).1; omega) n ts a cap N bs us p ab cb au cu w0 hs HL0 HV0 hc hf h1 h2
  have t0 := hB0.c0
  have t1 := hB0.c1
  have t2 := hB0.c2
  have a0 := hA0.c0
  have a1 := hA0.c1
  have a2 := hA0.c2
  have a3 := hA0.c3
  have a4 := hA0.c4
  have a5 := hA0.c5
  have a6 := hA0.c6
  simp only [Nat.zero_add] at a1 a2 a3 a4 a5 a6
  rw [← HW.out] at t0 t1 t2 a0 a1 a2 a3 a4 a5 a6
  generalize M.putV (.mk k n ts) (.mk N bs us p) = L at *
  clear hw0 hf hc ih hs h1 h2 HL0 HV0 hL hV
  go_enter Tryz.func57, Tryz.ntmps57
  go_wp2_with fail
  rw [HW.out]
  refine HB.out.mono ?_
  rintro e w1 ⟨hE, hb1⟩
  rcases hE with ⟨u, rfl, hU⟩ | ⟨rfl, hlt⟩
  · obtain ⟨ux, uy, rfl⟩ := hU.slice
    have HU := Lib.hid hU
    clear hU
    by_cases hl : L.length ≤ 65536
    · have hl' : (L.length : Int) ≤ 65536 := by omega
      have HN := Lib.hid (need_any true 5)
      go_wp2_with fail
      refine (HN.out _).mono ?_
      rintro e X ⟨rfl, hX⟩
      obtain rfl : w1 = X := hX.symm
      go_wp2_with fail
      go_ret
      exact ⟨fun _ => ⟨_, rfl, HU.out.mono hb0.size⟩, fun h => absurd h (by omega), hb0.trans (Below.mono hb1 hb0.size)⟩
    · have hl' : ¬ (L.length : Int) ≤ 65536 := by omega
      have HN := Lib.hid (need_any false 5)
      go_wp2_with fail
      rw [show decide ((L.length : Int) ≤ 65536) = false from decide_eq_false (by omega)]
      refine (HN.out _).mono ?_
      rintro e X ⟨rfl, hX⟩
      obtain rfl : w1 = X := hX.symm
      exact ⟨rfl, fun h => absurd h hl, fun _ => rfl, hb0.trans (Below.mono hb1 hb0.size)⟩
  · exact ⟨rfl, fun h => absurd hlt (by omega), fun _ => rfl, hb0.trans (Below.mono hb1 hb0.size)⟩
theorem put_c : ∀ z, PutC z
  | 0 => by intro k n ts a cap N bs us p ab cb au cu w hs; cases us <;> simp at hs
  | z + 1 => put_step z (Lib.hid (put_c z))

theorem SrB.conv {B : Nat} {l : List UInt8} {v : Value} {w : World} (h : SrB B l v w) : (convert 48 9 v).run Tryz.prog w = .ok (.string ⟨l.toArray⟩) w := by
  rcases h with ⟨rfl, rfl⟩ | ⟨ad, c, rfl, _, _, hc⟩
  · rw [run_convert_bytes_string w 48 9 5 none 0 0 Tryz.underlying48 Tryz.underlying5 Tryz.underlying9]
    rfl
  · refine run_convert_bytes_back w 48 9 5 ad c l Tryz.underlying48 Tryz.underlying5 Tryz.underlying9 ?_
    intro j hj
    exact hc j _ (by simp [bc, hj])

set_option maxRecDepth 100000 in
set_option maxHeartbeats 4000000 in
theorem put1_any (k n : Int) (ts : List M.Ty) (a : Option Addr) (cap : Nat) (N : Nat) (bs : List Bool) (us : List M.Va) (p : Int) (ab : Option Addr) (cb : Nat) (au : Option Addr) (cu : Nat) (bt bv bo : Nat) (W : World) (hL : LayT W W.heap.size ts (.slice a ts.length cap)) (hV : Vl W W.heap.size N bs us ab cb au cu)
    (hc : ∃ d, M.chkT d (.mk k n ts) = 0) (hf : M.fitV (.mk k n ts) (.mk N bs us p) = 0) (h1 : M.cntT (.mk k n ts) ≤ 1000) (h2 : M.cntV (.mk N bs us p) ≤ 6000)
    (hB : BoxT W bt k n (.slice a ts.length cap)) (hA : Cells7 W bv 0 N (.slice ab bs.length cb) (.slice au us.length cu) p) (hO : Boxed W bo 9 (.string ⟨#[]⟩)) :
    Calls Tryz.prog 56 #[.pointer (some ⟨bt, 0, none⟩), .pointer (some ⟨bv, 0, none⟩), .pointer (some ⟨bo, 0, none⟩)] W fun e w' =>
      ((M.putV (.mk k n ts) (.mk N bs us p)).length ≤ 65536 → e = .returned (.tuple #[]) ∧ ∃ w1, Below W.heap.size W w1 ∧ w' = w1.setCell ⟨bo, 0, none⟩ (.string ⟨(M.putV (.mk k n ts) (.mk N bs us p)).toArray⟩)) ∧
      (65536 < (M.putV (.mk k n ts) (.mk N bs us p)).length → e = pan 5 ∧ Below W.heap.size W w') := by
  have HC := Lib.hid (put_c _ k n ts a cap N bs us p ab cb au cu W (Nat.le_refl _) hL hV hc hf h1 h2)
  have t0 := hB.c0
  have t1 := hB.c1
  have t2 := hB.c2
  have a0 := hA.c0
  have a1 := hA.c1
  have a2 := hA.c2
  have a3 := hA.c3
  have a4 := hA.c4
  have a5 := hA.c5
  have a6 := hA.c6
  simp only [Nat.zero_add] at a1 a2 a3 a4 a5 a6
  generalize M.putV (.mk k n ts) (.mk N bs us p) = L at *
  clear hf hc h1 h2 hL hV
  go_enter Tryz.func56, Tryz.ntmps56
  go_wp2_with fail
  refine HC.out.mono ?_
  rintro e w1 ⟨hok, hno, hb1⟩
  rcases Nat.lt_or_ge 65536 L.length with hl | hl
  · rw [hno hl]
    exact ⟨rfl, fun h => absurd hl (by omega), fun _ => ⟨rfl, hb1⟩⟩
  · obtain ⟨u, rfl, hU⟩ := hok hl
    obtain ⟨ux, uy, rfl⟩ := hU.slice
    have hcv := hU.conv
    have hO1 : Boxed w1 bo 9 (.string ⟨#[]⟩) := (hb1.block _ hO.lt).trans hO
    have y1 := hO1.cell
    have y2 := hO1.frozen
    have HL := Lib.hid hl
    clear hok hno hU hl
    go_wp2_with fail
    go_end0
    exact ⟨fun _ => ⟨rfl, w1, hb1, rfl⟩, fun h => absurd h (by have := HL.out; omega)⟩

theorem boxT_below {w W : World} {b : Nat} {k n : Int} {v : Value} (h : BoxT w b k n v) (hb : Below w.heap.size w W) (hlt : b < w.heap.size) : BoxT W b k n v :=
  ⟨(hb.cell (p := ⟨b, 0, none⟩) hlt).trans h.c0, (hb.cell (p := ⟨b, 1, none⟩) hlt).trans h.c1, (hb.cell (p := ⟨b, 2, none⟩) hlt).trans h.c2⟩
set_option maxRecDepth 100000 in
set_option maxHeartbeats 4000000 in
theorem ssz_put : SPutOk := by
  intro k n ts a cap N bs us p ab cb au cu w hL hV h1 h2
  obtain ⟨w0, hw0⟩ : ∃ w0, (w.alloc (.cells #[.int .i64 k, .int .i64 n, .slice a ts.length cap] 24)).alloc (.cells #[.int .u64 (M.pt 0 N), .int .u64 (M.pt 1 N), .int .u64 (M.pt 2 N), .int .u64 (M.pt 3 N), .slice ab bs.length cb, .slice au us.length cu, .int .i64 p] 33) = w0 := ⟨_, rfl⟩
  have hb0 : Below w.heap.size w w0 := by rw [← hw0]; exact two_boxesV _ _ _ _ _ _ _ _
  have hz0 : w.heap.size + 2 ≤ w0.heap.size := by rw [← hw0]; simp
  have hB0 : BoxT w0 w.heap.size k n (.slice a ts.length cap) := by rw [← hw0]; exact ⟨by simp [go_sem], by simp [go_sem], by simp [go_sem]⟩
  have hA0 : Cells7 w0 (w.heap.size + 1) 0 N (.slice ab bs.length cb) (.slice au us.length cu) p := by
    rw [← hw0]
    have := Cells7.new (w.alloc (.cells #[.int .i64 k, .int .i64 n, .slice a ts.length cap] 24)) N (.slice ab bs.length cb) (.slice au us.length cu) p 33
    rwa [World.size_alloc] at this
  have HW := Lib.hid hw0
  have HL0 := Lib.hid ((hL.from_ hb0).mono hb0.size)
  have HV0 := Lib.hid ((hV.from_ hb0).mono hb0.size)
  have HF := Lib.hid (shape_fits k n ts a cap N bs us p ab cb au cu w0 HL0.out HV0.out h1 h2)
  have t0 := hB0.c0
  have t1 := hB0.c1
  have t2 := hB0.c2
  have a0 := hA0.c0
  have a1 := hA0.c1
  have a2 := hA0.c2
  have a3 := hA0.c3
  have a4 := hA0.c4
  have a5 := hA0.c5
  have a6 := hA0.c6
  simp only [Nat.zero_add] at a1 a2 a3 a4 a5 a6
  rw [← HW.out] at t0 t1 t2 a0 a1 a2 a3 a4 a5 a6
  have hmf : ∀ (fn : Fn) (first cap : Array Value) (w : World), (Instr.makeFunc fn first cap).run Tryz.prog w = .ok (.func fn first cap) w := fun _ _ _ _ => rfl
  have HP : Hid (M.putT (.mk k n ts) (.mk N bs us p) = if M.fitsV (.mk k n ts) (.mk N bs us p) ≠ 0 then ([], M.fitsV (.mk k n ts) (.mk N bs us p)) else if 65536 < (M.putV (.mk k n ts) (.mk N bs us p)).length then ([], 5) else (M.putV (.mk k n ts) (.mk N bs us p), 0)) := rfl
  clear hw0 hL hV
  by_cases hq : M.fitsV (.mk k n ts) (.mk N bs us p) = 0
  · have hc0 := M.fitsV_fits hq
    have hf0 : M.fitV (.mk k n ts) (.mk N bs us p) = 0 := by rw [← M.fitsV_in hc0]; exact hq
    rw [hq] at HF
    have HP' : Hid (M.putT (.mk k n ts) (.mk N bs us p) = if 65536 < (M.putV (.mk k n ts) (.mk N bs us p)).length then ([], 5) else (M.putV (.mk k n ts) (.mk N bs us p), 0)) := by
      show _ = _
      rw [HP.out, if_neg (by simp [hq])]
    have hen : ∀ args w, (callFunc 56 args).run Tryz.prog w = .ok (.enter 56 args) w := by
      intro args w
      simp [callFunc, go_sem, Tryz.f56]
    have HG : Hid (∀ w1 : World, Below w0.heap.size w0 w1 → Calls Tryz.prog 30 #[.func (.func 56) #[] #[.pointer (some ⟨w.heap.size, 0, none⟩), .pointer (some ⟨w.heap.size + 1, 0, none⟩), .pointer (some ⟨w1.heap.size, 0, none⟩)]] (w1.alloc (.cells #[.string ⟨#[]⟩] 9)) fun e w' =>
        ∃ q : Nat, e = .returned (.int .i64 (q : Nat)) ∧ Boxed w' w1.heap.size 9 (.string ⟨(M.putT (.mk k n ts) (.mk N bs us p)).1.toArray⟩) ∧ q = (M.putT (.mk k n ts) (.mk N bs us p)).2 ∧ Below w0.heap.size w0 w') := by
      intro w1 hb1
      obtain ⟨w2, hw2⟩ : ∃ w2, w1.alloc (.cells #[.string ⟨#[]⟩] 9) = w2 := ⟨_, rfl⟩
      have hO2 : Boxed w2 w1.heap.size 9 (.string ⟨#[]⟩) := by rw [← hw2]; exact Boxed.new _ _ _
      have hb2 : Below w0.heap.size w0 w2 := by rw [← hw2]; exact hb1.alloc hb1.size _
      have hz2 : w2.heap.size = w1.heap.size + 1 := by rw [← hw2]; simp
      rw [hw2]
      have hb3 : Below w2.heap.size w2 (w2.alloc (.cells #[.int .i64 0] 34)) := (Below.refl _ _).alloc (Nat.le_refl _) _
      have hb03 : Below w0.heap.size w0 (w2.alloc (.cells #[.int .i64 0] 34)) := hb2.trans (hb3.mono hb2.size)
      have hE3 : Boxed (w2.alloc (.cells #[.int .i64 0] 34)) w2.heap.size 34 (.int .i64 0) := Boxed.new _ _ _
      have hO3 : Boxed (w2.alloc (.cells #[.int .i64 0] 34)) w1.heap.size 9 (.string ⟨#[]⟩) := (hb3.block _ hO2.lt).trans hO2
      have hb1s := hb1.size
      have H1 := put1_any k n ts a cap N bs us p ab cb au cu w.heap.size (w.heap.size + 1) w1.heap.size (w2.alloc (.cells #[.int .i64 0] 34)) ((HL0.out.from_ hb03).mono hb03.size) ((HV0.out.from_ hb03).mono hb03.size) ⟨0, hc0⟩ hf0 h1 h2 (boxT_below hB0 hb03 (by omega)) (hA0.from_ hb03 (by omega)) hO3
      refine (given_any 56 _ hen w2 (fun q W => Boxed W w1.heap.size 9 (.string ⟨(M.putT (.mk k n ts) (.mk N bs us p)).1.toArray⟩) ∧ q = (M.putT (.mk k n ts) (.mk N bs us p)).2 ∧ Below w0.heap.size w0 W ∧ w2.heap.size < W.heap.size) (H1.mono ?_)).mono ?_
      · rintro e w' ⟨hok, hno⟩
        rw [HP'.out]
        rcases Nat.lt_or_ge 65536 (M.putV (.mk k n ts) (.mk N bs us p)).length with hl | hl
        · obtain ⟨rfl, hb4⟩ := hno hl
          rw [if_pos hl]
          have hs4 := hb4.size
          exact ⟨5, rfl, ⟨(hb4.block _ hO3.lt).trans hO3, rfl, hb03.trans (hb4.mono hb03.size), by simp at hs4; omega⟩, (hb4.block _ hE3.lt).trans hE3⟩
        · obtain ⟨rfl, w4, hb4, rfl⟩ := hok hl
          rw [if_neg (by omega)]
          have hs4 := hb4.size
          have hs5 := (grownBy_setCell' w4 w1.heap.size (.string ⟨(M.putV (.mk k n ts) (.mk N bs us p)).toArray⟩)).size
          refine ⟨0, rfl, ⟨(show Boxed w4 w1.heap.size 9 (.string ⟨#[]⟩) from (hb4.block _ hO3.lt).trans hO3).set _, rfl, (hb03.trans (hb4.mono hb03.size)).grown (grownBy_setCell' _ _ _) (by have := hb03.size; omega) (fun q e => by cases e; omega), by simp at hs4; omega⟩, (show Boxed w4 w2.heap.size 34 (.int .i64 0) from (hb4.block _ hE3.lt).trans hE3).other (by omega) _⟩
      · rintro e w' ⟨q, W, rfl, ⟨hB, hq2, hbW, hsW⟩, rfl⟩
        exact ⟨q, rfl, hB.other (by omega) _, hq2, hbW.grown (grownBy_setCell' _ _ _) hbW.size (fun r e => by cases e; have := hb2.size; omega)⟩
    generalize M.putT (.mk k n ts) (.mk N bs us p) = g at *
    clear hq hc0 hf0 HP HP' h1 h2 hen hz0
    go_enter Tryz.func25, Tryz.ntmps25
    go_wp2_with fail
    rw [HW.out]
    refine HF.out.mono ?_
    rintro e w1 ⟨rfl, hb1⟩
    go_wp2_with fail
    refine (HG.out w1 hb1).mono ?_
    rintro e w2 ⟨q, rfl, hO, rfl, hb2⟩
    have y1 := hO.cell
    go_wp2_with fail
    go_ret2
    exact ⟨rfl, hb0.trans (Below.mono hb2 hb0.size)⟩
  · rw [if_pos hq] at HP
    generalize M.fitsV (.mk k n ts) (.mk N bs us p) = q at *
    rw [HP.out]
    have hq1 : ¬ (q : Int) = 0 := by omega
    go_enter Tryz.func25, Tryz.ntmps25
    go_wp2_with fail
    rw [HW.out]
    refine HF.out.mono ?_
    rintro e w1 ⟨rfl, hb1⟩
    go_wp2_with fail
    go_ret2
    exact ⟨rfl, hb0.trans (Below.mono hb1 hb0.size)⟩
end Go.Proofs.YtgloapcfmlijlaaGreatDoor
namespace Go.Proofs.YtgloapcfmlijlaaGreatDoor
open Go Go.RowKit Go.Shelf Go.Lib
attribute [local go_sem] Oper.semAt_some

set_option maxRecDepth 100000 in
set_option maxHeartbeats 4000000 in
theorem packed_any (s : List UInt8) (most : Nat) (w : World) (hl : s.length ≤ 100000) (hm : most ≤ 16384) (hTab : Tab w) :
    Calls Tryz.prog 88 #[.string ⟨s.toArray⟩, .int .i64 (most : Nat)] w fun e w' => e = .returned (.string ⟨(M.packT s most).toArray⟩) ∧ Below w.heap.size w w' := by
  have HC := Lib.hid (cut32_any s w hl)
  have hall := M.chunks_all s
  have hcl := M.chunks_length s
  obtain ⟨T, hT⟩ : ∃ T, M.packT s most = T := ⟨_, rfl⟩
  have hT' : M.treeT (M.chunksT s) ((most + 31) / 32) = T := hT
  obtain ⟨q, hq⟩ : ∃ q, (most + 31) / 32 = q := ⟨_, rfl⟩
  obtain ⟨m1, hm1⟩ : ∃ m1, most + 31 = m1 := ⟨_, rfl⟩
  rw [hT]
  rw [hq] at hT'
  rw [hm1] at hq
  have hq9 : q ≤ 512 := by omega
  have hmi : (most : Int) + 32 - 1 = (m1 : Int) := by omega
  have hqi : (m1 : Int).tdiv 32 = (q : Int) := by
    rw [Int.tdiv_eq_ediv_of_nonneg (by omega)]
    omega
  generalize M.chunksT s = ls at *
  have HT := Lib.hid hT'
  have HALL := Lib.hid hall
  have hl4 : ls.length ≤ 4000 := by omega
  have HL4 := Lib.hid hl4
  clear hT hT' hq hm1 hall hcl hl4
  go_enter Tryz.func88, Tryz.ntmps88
  go_wp2_with fail
  refine HC.out.mono ?_
  rintro e w1 ⟨⟨v, rfl, hO⟩, hb1⟩
  obtain ⟨a, cap, hv⟩ := hO.len
  subst hv
  have HM := Lib.hid (mtree_any ls q a cap w1 hO.ts HL4.out HALL.out hq9 (hTab.from hb1))
  rw [HT.out] at HM
  clear hO
  go_wp2_with fail
  refine HM.out.mono ?_
  rintro e w2 ⟨rfl, hb2⟩
  go_wp2_with fail
  go_ret
  exact ⟨rfl, hb1.trans (hb2.mono hb1.size)⟩
set_option maxRecDepth 100000 in
set_option maxHeartbeats 4000000 in
theorem mput_any (k n : Int) (ts : List M.Ty) (at_ : Option Addr) (ct : Nat) (N : Nat) (bs : List Bool) (us : List M.Va) (p : Int) (ab : Option Addr) (cb : Nat) (au : Option Addr) (cu : Nat) (w : World) (hT : LayT w w.heap.size ts (.slice at_ ts.length ct)) (hV : Vl w w.heap.size N bs us ab cb au cu) (h1 : M.cntT (.mk k n ts) ≤ 1000) (h2 : M.cntV (.mk N bs us p) ≤ 6000) :
    Calls Tryz.prog 89 #[tv k n (.slice at_ ts.length ct), vv N (.slice ab bs.length cb) (.slice au us.length cu) p] w fun e w' => e = .returned (.string ⟨(M.putT (.mk k n ts) (.mk N bs us p)).1.toArray⟩) ∧ Below w.heap.size w w' := by
  obtain ⟨w0, hw0⟩ : ∃ w0, (w.alloc (.cells #[.int .i64 k, .int .i64 n, .slice at_ ts.length ct] 24)).alloc (.cells #[.int .u64 (M.pt 0 N), .int .u64 (M.pt 1 N), .int .u64 (M.pt 2 N), .int .u64 (M.pt 3 N), .slice ab bs.length cb, .slice au us.length cu, .int .i64 p] 33) = w0 := ⟨_, rfl⟩
  have hb0 : Below w.heap.size w w0 := by rw [← hw0]; exact two_boxes _ _ _
  have hB0 : BoxT w0 w.heap.size k n (.slice at_ ts.length ct) := by rw [← hw0]; exact ⟨by simp [go_sem], by simp [go_sem], by simp [go_sem]⟩
  have hA0 : Cells7 w0 (w.heap.size + 1) 0 N (.slice ab bs.length cb) (.slice au us.length cu) p := by
    rw [← hw0]
    have := Cells7.new (w.alloc (.cells #[.int .i64 k, .int .i64 n, .slice at_ ts.length ct] 24)) N (.slice ab bs.length cb) (.slice au us.length cu) p 33
    rwa [World.size_alloc] at this
  have HP := Lib.hid (ssz_put k n ts at_ ct N bs us p ab cb au cu w0 ((hT.from_ hb0).mono hb0.size) ((hV.from_ hb0).mono hb0.size) h1 h2)
  generalize M.putT (.mk k n ts) (.mk N bs us p) = r at *
  obtain ⟨s, x⟩ := r
  simp only at HP
  have t0 := hB0.c0
  have t1 := hB0.c1
  have t2 := hB0.c2
  have a0 := hA0.c0
  have a1 := hA0.c1
  have a2 := hA0.c2
  have a3 := hA0.c3
  have a4 := hA0.c4
  have a5 := hA0.c5
  have a6 := hA0.c6
  simp only [Nat.zero_add] at a1 a2 a3 a4 a5 a6
  have HW := Lib.hid hw0
  rw [← HW.out] at t0 t1 t2 a0 a1 a2 a3 a4 a5 a6
  clear hw0
  go_enter Tryz.func89, Tryz.ntmps89
  go_wp2_with fail
  rw [HW.out]
  refine HP.out.mono ?_
  rintro e w1 ⟨rfl, hb1⟩
  go_wp2_with fail
  go_ret
  exact ⟨rfl, hb0.trans (hb1.mono hb0.size)⟩
set_option maxRecDepth 100000 in
set_option maxHeartbeats 4000000 in
theorem bitsOfM_any (n : Nat) (w : World) :
    Calls Tryz.prog 96 #[.int .i64 (n : Nat)] w fun e w' => e = .returned (tv 5 (n : Nat) (.slice none 0 0)) ∧ Below w.heap.size w w' := by
  go_enter Tryz.func96, Tryz.ntmps96
  go_wp2_with fail
  exact ty_new' rfl w w _ _ _ _ _ rfl (Below.refl _ _) fun Z hZ => ⟨rfl, hZ⟩
theorem put_bits {bs : List Bool} (h1 : 1 ≤ bs.length) (h2 : bs.length ≤ 512) : M.putT (.mk 5 (bs.length : Nat) []) (.mk 0 bs [] 0) = (M.packB bs, 0) := by
  have hc : M.chkT 0 (.mk 5 (bs.length : Nat) []) = 0 := by
    refine M.chkT_ok.2 ⟨by omega, ?_, by omega, rfl⟩
    unfold M.formT
    simp
    omega
  have hf : M.fitsV (.mk 5 (bs.length : Nat) []) (.mk 0 bs [] 0) = 0 := by
    rw [M.fitsV_in hc, M.fitV_eq, if_neg (by simp), M.ofV_5]
    simp [M.fitVs]
  unfold M.putT
  rw [if_neg (by simp [hf]), M.putV5, if_neg (by rw [M.pack_length]; omega)]
set_option maxRecDepth 100000 in
set_option maxHeartbeats 4000000 in
theorem putBitsM_any (bs : List Bool) (ab : Option Addr) (cb : Nat) (w : World) (hB : LayB w w.heap.size bs (.slice ab bs.length cb)) (hl : bs.length ≤ 512) :
    Calls Tryz.prog 95 #[.slice ab bs.length cb] w fun e w' => e = .returned (.string ⟨(M.packB bs).toArray⟩) ∧ Below w.heap.size w w' := by
  by_cases h0 : bs.length = 0
  · have hn : (bs.length : Int) = 0 := by omega
    obtain rfl := List.eq_nil_of_length_eq_zero h0
    go_enter Tryz.func95, Tryz.ntmps95
    go_wp2_with fail
    go_ret
    exact ⟨rfl, Below.refl _ _⟩
  · have HO := Lib.hid (fun W => bitsOfM_any bs.length W)
    have HP := Lib.hid (fun W (h : Below w.heap.size w W) => mput_any 5 (bs.length : Nat) [] none 0 0 bs [] 0 ab cb none 0 W (.nil_ (by decide)) ⟨by unfold M.In; omega, (hB.from_ h).mono h.size, .nil_ (by decide)⟩ (by simp [M.cntT, M.cntTs]) (by simp [M.cntV, M.cntVs]; omega))
    rw [put_bits (by omega) hl] at HP
    simp only [vv_zero] at HP
    generalize M.packB bs = r at *
    obtain ⟨m, hm⟩ : ∃ m, bs.length = m := ⟨_, rfl⟩
    rw [hm] at h0 HO HP ⊢
    have hn : ¬ (m : Int) = 0 := by omega
    clear hB hl hm h0
    go_enter Tryz.func95, Tryz.ntmps95
    go_wp2_with fail
    refine (HO.out _).mono ?_
    rintro e w1 ⟨rfl, hb1⟩
    go_wp2_with fail
    refine (HP.out _ hb1).mono ?_
    rintro e w2 ⟨rfl, hb2⟩
    go_wp2_with fail
    go_ret
    exact ⟨rfl, hb1.trans (hb2.mono hb1.size)⟩
set_option maxRecDepth 100000 in
set_option maxHeartbeats 4000000 in
theorem isPlain_any (k n : Int) (ts : List M.Ty) (v : Value) (w : World) :
    Calls Tryz.prog 91 #[tv k n v] w fun e w' => e = .returned (.bool (M.isPl (.mk k n ts))) ∧ Below w.heap.size w w' := by
  have hb0 : Below w.heap.size w (w.alloc (.cells #[.int .i64 k, .int .i64 n, v] 24)) := (Below.refl _ _).alloc (Nat.le_refl _) _
  have e : M.isPl (.mk k n ts) = (k == 1 || k == 2) := rfl
  rw [e]
  by_cases h1 : k = 1
  · subst h1
    go_enter Tryz.func91, Tryz.ntmps91
    go_wp2_with fail
    go_ret
    exact ⟨rfl, hb0⟩
  · go_enter Tryz.func91, Tryz.ntmps91
    go_wp2_with fail
    go_ret
    refine ⟨?_, hb0⟩
    simp
end Go.Proofs.YtgloapcfmlijlaaGreatDoor
