/- keccak.Sum. The landed package merkle: the sums of each two. strings.Clone: the same bytes. The landed package merkle: the root of chunks; a root, and a number. An append to a row of texts, whatever it is. The reference's Pad. The reference's Sum. The reference's offset and Low. The reference's root of chunks; a root with a number. Plain: roots, kind by kind. The reference's Tree and Mix. The reference: bytes cut into chunks. The reference's Pack. -/
import Derived.Test.YtaajkbclojmbeaaGreatDoorI16
import Derived.Test.YtaajkbclojmbeaaGreatDoorQ19i
import Derived.Test.YtaajkbclojmbeaaGreatDoorI12
import Derived.Test.YtaajkbclojmbeaaGreatDoorI14
import Derived.Test.YtaajkbclojmbeaaGreatDoorI15
import Derived.Test.YtaajkbclojmbeaaGreatDoorI02
import Derived.Lib.BufferWrite
import Derived.Lib.UnsafeStr
import Derived.Lib.Hide
import Derived.Laws.MakeOwn
import Derived.Test.YtaajkbclojmbeaaGreatDoorI13
import Derived.Maps.AppendAt
import Derived.Test.YtaajkbclojmbeaaGreatDoorI10
import Derived.Test.YtaajkbclojmbeaaGreatDoorI03
import Derived.Test.YtaajkbclojmbeaaGreatDoorI07
import Derived.Laws.OwnMore
namespace Go.Proofs.YtaajkbclojmbeaaGreatDoor
open Go Go.RowKit Go.Shelf Go.Lib
attribute [local go_sem] Oper.semAt_some

/-- The state when j blocks of a text have been taken in. -/
def stP (a : List Nat) (t : List UInt8) (j : Nat) : List Nat := (List.range j).foldl (fun a j => M.permL (M.absL a ((t.drop (136 * j)).take 136))) a
theorem stP_succ (a : List Nat) (t : List UInt8) (j : Nat) : stP a t (j + 1) = M.permL (M.absL (stP a t j) ((t.drop (136 * j)).take 136)) := by simp [stP, List.range_succ]
theorem stP_all : ∀ (k : Nat) (a : List Nat) (t : List UInt8), stP a t k = M.blocksL k a t
  | 0, _, _ => rfl
  | k + 1, a, t => by
    rw [M.blocksL, ← stP_all k]
    unfold stP
    rw [List.range_succ_eq_map, List.foldl_cons, List.foldl_map]
    simp only [Nat.mul_zero, List.drop_zero, List.drop_drop]
    congr 1
    funext a j
    rw [show 136 * j.succ = 136 + 136 * j by rw [Nat.mul_succ]; omega]
theorem abs_lanes {a : List Nat} (ha : M.Lanes a) (b : List UInt8) : M.Lanes (M.absL a b) := by rw [← M.absP_all]; exact M.absP_lanes ha b 136
theorem stP_lanes {a : List Nat} (ha : M.Lanes a) (t : List UInt8) : ∀ j, M.Lanes (stP a t j)
  | 0 => ha
  | j + 1 => by rw [stP_succ]; exact M.perm_lanes (abs_lanes (stP_lanes ha t j) _)
theorem z25_lanes : M.Lanes z25 := M.zero_lanes
theorem Tryz.infoU8q : (Tryz.prog.info? 5).map (fun i => (i.zero, i.size, i.bytes)) = some (some (.int .u8 0), 1, 1) := by kernel_rfl

theorem keeps_below {W W' : World} (hb : Below W.heap.size W W') : KeepsOthers W W' := ⟨hb.size, fun k _ hk _ => (hb.block k (Array.getElem?_eq_some_iff.1 hk).1).trans hk⟩
theorem keeps_row {W : World} {b : Nat} {t : TypeId} {a : List Nat} (h : Rw W b t a) (c : Array Value) : KeepsOthers W (W.setRow b c) := ⟨by simp, fun k o hk ho => by
  by_cases hkb : k = b
  · subst hkb
    rw [show W.heap[k]? = _ from h] at hk
    cases hk
    cases ho
  · exact (setRow_other W b k c hkb).trans hk⟩
theorem bs_own {β : Type} (g off : Nat) (b : List UInt8) : Own (fun (_ : β) W => Bs W g off b) := fun _ _ _ _ hs hg hr j hj => cell_kept (hs j hj) hg hr
theorem cell_own {β : Type} (p : Addr) (v : Value) : Own (fun (_ : β) W => W.cell? p = some v) := fun _ _ _ _ hs hg hr => cell_kept hs hg hr
theorem cells_bytes (x : ByteArray) : strCells x = x.data.toList.map fun c : UInt8 => Value.int .u8 (c.toNat : Int) := rfl

set_option maxRecDepth 100000 in
set_option maxHeartbeats 8000000 in
theorem sum_in (b : ByteArray) (w : World) (hs : b.size ≤ 1000) (hT : Tab w) :
    CallsIn Fence.wide 4 Tryz.prog 13 #[.string b] w fun e w' => e = .returned (.string ⟨(M.sumL b.data.toList).toArray⟩) ∧ Below w.heap.size w w' := by
  have HT := Lib.hid hT
  clear hT
  obtain ⟨i0, hi, hz0, hz1, hz2⟩ := info_parts Tryz.infoU8q
  have HI := Lib.hid hi
  clear hi
  have hro : Fence.wide.round = none := rfl
  refine callsIn_of_wp_marks Tryz.func13 rfl trivial ?_ hro
  simp only [Tryz.ntmps13, List.size_toArray, List.length_cons, List.length_nil, Nat.reduceAdd, Nat.reduceSub, Array.replicate_succ, Array.replicate_zero, List.push_toArray, List.append_toArray, List.nil_append, List.cons_append]
  obtain ⟨p, hp⟩ : ∃ p : ByteArray, p = ⟨(M.padL b.size).toArray⟩ := ⟨_, rfl⟩
  have hpz : p.size = (M.padL b.size).length := by rw [hp]; exact List.size_toArray
  have hpl : p.size ≤ 136 := by rw [hpz, M.padL_length]; omega
  have hkp : ∀ W, Calls Tryz.prog 28 #[.int .i64 (b.size : Int)] W fun e w' => e = .returned (.tuple #[.string p, .int .i64 0]) ∧ Below W.heap.size W w' := fun W => by rw [hp]; exact kpad b.size W (by omega)
  have HP := Lib.hid hp
  have HPZ := Lib.hid hpz
  clear hp hpz
  gi_wp2_with (first
    | (refine ⟨trivial, ?_⟩; gi_at_call 28; refine (callsIn_wide.2 (hkp _)).mono ?_; rintro e w1 ⟨rfl, hb1⟩)
    | (refine wpListIn_seal _ rfl _ _ 5 _ rfl b rfl Tryz.underlying9 Tryz.underlying41 Tryz.underlying5 (by unfold maxLen; omega) ?_
       intro cap cur w2 hSeal
       have hrow : w2.heap[w1.heap.size + 1]? = some (.cells cur 5 (cur.size, cur.size + 1)) := by simpa using hSeal.row
       have hs1 := hb1.size
       have hs2 : w2.heap.size = w1.heap.size + 1 + 1 := by simpa using hSeal.new
       have hs3 : w.heap.size ≤ w2.heap.size := by omega
       have hs4 : w1.heap.size + 1 ≤ w2.heap.size := by omega
       have HSeal := Lib.hid hSeal
       have HSZ := Lib.hid hs2
       have H63 : b.size + p.size ≤ maxLen := by unfold maxLen; omega
       have H47 : b.size + p.size ≤ 140737488355328 := by omega
       clear hs2 hSeal)
    | (refine wpListIn_append_sealed _ rfl _ _ _ _ rfl (w1.heap.size + 1) 5 i0 Tryz.underlying41 Tryz.underlying9 HI.out hz0 hz1 hz2 (w1.heap.size + 1) b.size cap cur rfl hrow HSeal.out.size HSeal.out.len HSeal.out.max (Nat.le_refl _) p rfl H63 H47 hs4 ?_
       intro g cap' w3 hG
       have HG := Lib.hid hG
       clear hG hrow)
    | (refine ⟨trivial, ?_⟩; gi_at_call 29; refine (chunk_in _ _ _ _ _).mono ?_; rintro e w' ⟨rfl, rfl⟩))
  obtain ⟨t, ht⟩ : ∃ t, t = b.data.toList ++ M.padL b.size := ⟨_, rfl⟩
  have hSeal := HSeal.out
  have hG := HG.out
  have hbl : b.size = b.data.toList.length := by rw [Array.length_toList]; rfl
  have htl : t.length = b.size + p.size := by rw [ht, List.length_append, HPZ.out, hbl]
  have hmul : (b.size + p.size) % 136 = 0 := by rw [HPZ.out]; exact M.padL_mul b.size
  obtain ⟨K, hK⟩ : ∃ K, K = (b.size + p.size) / 136 := ⟨_, rfl⟩
  have hlen : b.size + p.size = 136 * K := by omega
  have hBs : Bs w3 g 0 t := by
    intro j hj
    have hx : (cur.toList.take b.size ++ strCells p)[j]? = some (.int .u8 (((t.getD j 0).toNat : Nat) : Int)) := by
      rw [hSeal.take, cells_bytes, cells_bytes, ← List.map_append, HP.out, ← ht]
      simp [List.getD_eq_getElem?_getD, List.getElem?_eq_getElem hj]
    have := hG.cells j _ hx
    rwa [Nat.zero_add]
  obtain ⟨S, hS⟩ : ∃ S, S = w1.heap.size := ⟨_, rfl⟩
  have hg1 : S + 1 ≤ g := by rw [hS]; exact hG.own
  have hg2 := hG.lt
  have hR1 : Rw (w1.alloc (Obj.cells (lv z25) 54)) S 54 z25 := Rw.at_ _ _ _ hS.symm
  have hR2 : Rw w2 S 54 z25 := hR1.keep hSeal.low
  have hR3 : Rw w3 S 54 z25 := hR2.grown hG.kept (by rw [hS]; simp)
  have hb2 : Below w.heap.size w w2 := (hb1.alloc hs1 (Obj.cells (lv z25) 54)).trans (hSeal.low.mono (by simp; omega))
  have hb3 : Below w.heap.size w w3 := hb2.grown hG.kept hs3 (fun k e => by cases e; omega)
  obtain ⟨W0, hW0⟩ : ∃ W0, (w3.alloc (Obj.cells #[Value.slice (some { block := g, off := 0 }) (b.size + p.size) cap'] 41)).alloc (Obj.cells #[Value.int IntKind.i64 136] 3) = W0 := ⟨_, rfl⟩
  obtain ⟨bx, hbx⟩ : ∃ bx, bx = w3.heap.size := ⟨_, rfl⟩
  have jR : Rw W0 S 54 z25 := by rw [← hW0]; exact (hR3.alloc _).alloc _
  have jW : Below w.heap.size w W0 := by rw [← hW0]; exact (hb3.alloc hb3.size _).alloc (by have := hb3.size; simp; omega) _
  have jB : Bs W0 g 0 t := hBs.below (B := w3.heap.size) (by rw [← hW0]; exact ((Below.refl _ _).alloc (Nat.le_refl _) _).alloc (by simp) _) hg2
  have j1 : W0.cell? ⟨bx, 0, none⟩ = some (.slice (some ⟨g, 0, none⟩) (b.size + p.size) cap') := by rw [← hW0, hbx]; simp [go_sem]
  have j2 : W0.cell? ⟨bx + 1, 0, none⟩ = some (.int .i64 136) := by rw [← hW0, hbx]; simp [go_sem]
  have jsz : W0.heap.size = bx + 2 := by rw [← hW0, hbx]; simp
  have hcap := hG.cap
  have hmax := hG.max
  have hSb : S < bx := by omega
  have hwS : w.heap.size ≤ S := by omega
  have hgb : g < bx := by omega
  rw [hW0, ← hbx, ← hS]
  clear hW0 hbx hBs hR1 hR2 hR3 hb2 hb3 hg2 hSeal hG hs1 hs3 hs4 hb1 hS
  have HK := Lib.hid hlen
  have Htl := Lib.hid htl
  have HT0 := Lib.hid ht
  have HKd := Lib.hid hK
  have Hcap := Lib.hid hcap
  have Hmax := Lib.hid hmax
  have Hbl := Lib.hid hbl
  have hn0 : S ≠ g := by omega
  have hn1 : S ≠ bx := by omega
  have hn2 : S ≠ bx + 1 := by omega
  have Jsz := Lib.hid jsz
  have HSeal0 : True := trivial
  clear hlen htl ht hK hcap hmax hbl hmul hpl hs H63 H47 HI hz0 hz1 hz2 HSeal HG HSZ hkp jsz
  refine range_ax (n := 4) (by omega) (gf := 63) (lb := #[.pointer (some ⟨bx, 0, none⟩), .pointer (some ⟨bx + 1, 0, none⟩)]) rfl (enters_of Tryz.func63 (by kernel_rfl) rfl) (encs := fun j : Nat => #[.slice (some ⟨g, 136 * j, none⟩) 136 136]) (fun _ => rfl) (List.range K)
    (fun pre W => Rw W S 54 (stP z25 t pre.length) ∧ Bs W g 0 t ∧ W.cell? ⟨bx, 0, none⟩ = some (.slice (some ⟨g, 0, none⟩) (b.size + p.size) cap') ∧ W.cell? ⟨bx + 1, 0, none⟩ = some (.int .i64 136) ∧ Below w.heap.size w W ∧ W0.heap.size ≤ W.heap.size)
    ?own ?seq ⟨jR, jB, j1, j2, jW, Nat.le_refl _⟩
    (fun pre j a' W => a' = { tmps := #[Value.string b, undef, Value.string { data := #[] }, Value.string p, Value.int IntKind.i64 0, Value.pointer (some { block := S, off := 0 }), .slice (some ⟨g, 136 * j, none⟩) 136 136, Value.tuple #[Value.string p, Value.int IntKind.i64 0], Value.string b, Value.int IntKind.i64 ↑b.size, Value.tuple #[Value.string p, Value.int IntKind.i64 0], Value.string p, Value.int IntKind.i64 0, Value.string b, Value.slice (some { block := S + 1, off := 0 }) b.size cap, Value.string p, Value.slice (some { block := g, off := 0 }) (b.size + p.size) cap', Value.func (Fn.func 63) #[] #[Value.pointer (some { block := bx, off := 0 }), Value.pointer (some { block := bx + 1, off := 0 })], .slice (some ⟨g, 136 * j, none⟩) 136 136, undef, undef, undef, undef, undef, undef], defers := [] } ∧
      (Rw W S 54 (stP z25 t pre.length) ∧ Bs W g 0 t ∧ W.cell? ⟨bx, 0, none⟩ = some (.slice (some ⟨g, 0, none⟩) (b.size + p.size) cap') ∧ W.cell? ⟨bx + 1, 0, none⟩ = some (.int .i64 136) ∧ Below w.heap.size w W ∧ W0.heap.size ≤ W.heap.size))
    ?ownx ?assign ?body ?done
  case own =>
    exact ((rw_own _ _ (fun pre : List Nat => stP z25 t pre.length)).from _).and (((bs_own _ _ _).from _).and (((cell_own _ _).from _).and (((cell_own _ _).from _).and ((ownFrom_below (Nat.le_refl _) jW.size).and (size_own _ _)))))
  case ownx =>
    rintro pre j a' s A B row ⟨e, h1, h2, h3, h4, h5, h6⟩ hg' hr
    exact ⟨e, ((rw_own _ _ (fun _ : Unit => stP z25 t pre.length)).from W0.heap.size) s A B row h1 hg' hr, ((bs_own (β := Unit) _ _ _).from W0.heap.size) s A B row h2 hg' hr, ((cell_own (β := Unit) _ _).from W0.heap.size) s A B row h3 hg' hr, ((cell_own (β := Unit) _ _).from W0.heap.size) s A B row h4 hg' hr, (ownFrom_below (β := Unit) (Nat.le_refl _) jW.size) s A B row h5 hg' hr, Nat.le_trans h6 hg'.size⟩
  case seq =>
    intro l J W hJI hd hY hJ0
    refine (chunk_run 2 K (b.size + p.size) cap' g HK.out Hcap.out Hmax.out l bx (bx + 1) J (fun pre W h => ⟨(hJI pre W h).2.2.1, (hJI pre W h).2.2.2.1⟩) hd ?_ W hJ0).mono ?_
    · intro j W1 hj hJ1
      obtain ⟨post, hp⟩ := range_cutq hj
      have := hY _ j post W1 hp hJ1
      rwa [← List.range_succ] at this
    · rintro e W' ⟨hv, hj⟩
      exact ⟨hv, hj⟩
  case assign =>
    intro l pre j post W Kk hx hI hK
    have hK2 := hK _ W (KeepsOthers.refl _) ⟨rfl, hI⟩
    have HK2 := Lib.hid hK2
    clear hK hK2 hI hx jR jB j1 j2 jW
    gi_wp2
    exact HK2.out
  case body =>
    rintro l pre j post a' W hx ⟨rfl, iR, iB, i1, i2, iW, i0⟩
    obtain ⟨h1, h2, h3⟩ := range_partq hx
    subst h2
    rw [List.length_append, List.length_singleton]
    have HL := Lib.hid (stP_lanes z25_lanes t pre.length)
    have HN := Lib.hid (stP_succ z25 t pre.length)
    have hpart := iB.part (136 * pre.length) 136
    have hpl : ((t.drop (136 * pre.length)).take 136).length = 136 := by
      have h4 := Htl.out
      have h5 := HK.out
      rw [List.length_take, List.length_drop]
      omega
    have hgW : g < W.heap.size := by have := Jsz.out; omega
    have hT := HT.out.from iW
    generalize pre.length = j at *
    have hI1 := Lib.hid i1
    have hI2 := Lib.hid i2
    clear jR jB j1 j2 jW h1 h3 hx i1 i2
    generalize stP z25 t j = a at *
    generalize (t.drop (136 * j)).take 136 = blk at *
    have HAb := Lib.hid (abs_lanes HL.out blk)
    have h25 := Lib.hid (M.perm_lanes HAb.out).1
    gi_wp2_with (refine wpListIn_load_st rfl _ _ rfl _ rfl _ _ 25 23 iR Tryz.array25 Tryz.size25 HL.out.1 ?_)
    refine ⟨trivial, ?_⟩
    refine (CallsIn.inRound l (callsIn_wide.2 (ktake a blk g (136 * j) 136 W HL.out hpart hgW hpl))).mono ?_
    rintro e w5 ⟨rfl, hb5⟩
    have hT5 := hT.from hb5
    clear hT hpart
    gi_wp2_with fail
    refine ⟨trivial, ?_⟩
    refine (CallsIn.inRound l (callsIn_wide.2 (kperm _ w5 HAb.out hT5))).mono ?_
    rintro e w6 ⟨rfl, hb6⟩
    have hb : Below W.heap.size W w6 := hb5.trans (hb6.mono hb5.size)
    have hS6 : S < W.heap.size := iR.lt
    replace iR := iR.keep hb
    clear hT5 hb5 hb6
    gi_wp2_with (refine wpListIn_store_st rfl _ _ _ rfl _ _ rfl rfl _ _ 25 iR Tryz.size25 h25.out HL.out.1 ?_)
    have hw6 : Below w.heap.size w w6 := iW.trans (hb.mono iW.size)
    have hq : Below w.heap.size w (w6.setRow S (lv (M.permL (M.absL a blk)))) := below_setRow hw6 hwS _
    have hr : Rw (w6.setRow S (lv (M.permL (M.absL a blk)))) S 54 (M.permL (M.absL a blk)) := iR.row _
    have hbb := (iB.below (B := W.heap.size) hb hgW)
    have hbb2 : Bs (w6.setRow S (lv (M.permL (M.absL a blk)))) g 0 t := fun i hi => (cell_setRow_other w6 S _ ⟨g, 0 + i, none⟩ (by simpa using hn0.symm)).trans (hbb i hi)
    have hs6 := hb.size
    have hbx1 : bx < W.heap.size := by have := Jsz.out; omega
    have hbx2 : bx + 1 < W.heap.size := by have := Jsz.out; omega
    have hc1 : (w6.setRow S (lv (M.permL (M.absL a blk)))).cell? ⟨bx, 0, none⟩ = some (.slice (some ⟨g, 0, none⟩) (b.size + p.size) cap') := (cell_setRow_other w6 S _ ⟨bx, 0, none⟩ (by simpa using hn1.symm)).trans ((hb.cell (p := ⟨bx, 0, none⟩) hbx1).trans hI1.out)
    have hc2 : (w6.setRow S (lv (M.permL (M.absL a blk)))).cell? ⟨bx + 1, 0, none⟩ = some (.int .i64 136) := (cell_setRow_other w6 S _ ⟨bx + 1, 0, none⟩ (by simpa using hn2.symm)).trans ((hb.cell (p := ⟨bx + 1, 0, none⟩) hbx2).trans hI2.out)
    have hko : KeepsOthers W (w6.setRow S (lv (M.permL (M.absL a blk)))) := (keeps_below hb).trans (keeps_row iR _)
    have hsz : W0.heap.size ≤ (w6.setRow S (lv (M.permL (M.absL a blk)))).heap.size := by simp; omega
    rw [← HN.out] at hr hko hq hbb2 hc1 hc2 hsz ⊢
    exact ⟨hko, hr, hbb2, hc1, hc2, hq, by simpa using hsz⟩
  case done =>
    intro D W hD hI hK
    obtain ⟨iR, iB, i1, i2, iW, i0⟩ := hI
    rw [List.length_range, stP_all] at iR
    have hLs := stP_lanes z25_lanes t K
    rw [stP_all] at hLs
    have HLs := Lib.hid hLs
    have HS : Hid (M.sumL b.data.toList = M.outL (M.blocksL K z25 t)) := by
      show _ = _
      unfold M.sumL
      rw [← Hbl.out, ← HPZ.out, ← HKd.out, ← HT0.out]
      rfl
    have hwW := jW.size
    clear jR jB j1 j2 jW i1 i2 iB hLs
    generalize M.blocksL K z25 t = a at *
    gi_wp2_with (first | (refine wpListIn_load_st rfl _ _ rfl _ rfl _ _ 25 23 iR Tryz.array25 Tryz.size25 HLs.out.1 ?_) | (refine ⟨trivial, ?_⟩; gi_at_call 32; refine (callsIn_wide.2 (kfirst a W HLs.out)).mono ?_; rintro e w7 ⟨rfl, hb7⟩))
    have hK2 : w7.heap[D]? = some (.deferred (some [])) := (hb7.block D (Array.getElem?_eq_some_iff.1 hK).1).trans hK
    refine ⟨by simp, .inl ⟨_, _, rfl, run_takeDeferred hK2, ?_⟩⟩
    rw [HS.out]
    exact ⟨_, results_tmp rfl _ _ _, rfl, (iW.trans (hb7.mono iW.size)).trans (belowK_b (w := w) (Nat.le_refl _) _ D _ _ (by omega) hK2 rfl rfl)⟩
end Go.Proofs.YtaajkbclojmbeaaGreatDoor
namespace Go.Proofs.YtaajkbclojmbeaaGreatDoor
open Go Go.RowKit Go.Shelf Go.Lib
attribute [local go_sem] Oper.semAt_some

theorem twos_any (a : Option Addr) (n cap : Nat) (z : List UInt8) (w : World) :
    Calls Tryz.prog 68 #[.slice a n cap, .string ⟨z.toArray⟩] w fun e w' =>
      e = .returned (.func (.func 129) #[] #[.pointer (some ⟨w.heap.size, 0, none⟩), .pointer (some ⟨w.heap.size + 1, 0, none⟩)]) ∧ w' = (w.alloc (.cells #[.slice a n cap] 22)).alloc (.cells #[.string ⟨z.toArray⟩] 9) := by
  have hmf : ∀ (fn : Fn) (first cap : Array Value) (w : World), (Instr.makeFunc fn first cap).run Tryz.prog w = .ok (.func fn first cap) w := fun _ _ _ _ => rfl
  go_enter Tryz.func68, Tryz.ntmps68
  go_wp2_with fail
  go_ret
  exact ⟨rfl, rfl⟩

theorem sum_any (s : List UInt8) (w : World) (h : s.length ≤ 1000) (hT : Tab w) : Calls Tryz.prog 13 #[.string ⟨s.toArray⟩] w fun e w' => e = .returned (.string ⟨(M.sumL s).toArray⟩) ∧ Below w.heap.size w w' := by
  have := callsIn_wide.1 (sum_in ⟨s.toArray⟩ w h hT)
  simpa using this
/-- A row of texts of the call's own, in a box. -/
structure RT (A : World) (sb : Nat) (l : List (List UInt8)) (W : World) : Prop where
  gr : Gr A W (fun b => b = sb)
  v : ∃ v, Boxed W sb 22 v ∧ OwS (A.heap.size + 3) l v W
theorem RT.grow {A W W' : World} {sb : Nat} {l : List (List UInt8)} {row : Option Nat} (h : RT A sb l W) (hg : W.grownBy W' row) (hs : sb < A.heap.size) (hr : ∀ j, row = some j → A.heap.size ≤ j ∧ (j < A.heap.size + 3 ∨ ∃ o : Obj, W.heap[j]? = some o ∧ o.isCells = false)) : RT A sb l W' := by
  obtain ⟨v, hB, hO⟩ := h.v
  refine ⟨h.gr.grow hg fun j e => .inl (hr j e).1, v, hB.kept hg fun e => by have := (hr _ e.symm).1; omega, hO.grown hg fun g hgv e => ?_⟩
  rcases (hr g e).2 with h1 | ⟨o, ho, hc⟩
  · have := (hO.lt g hgv).1
    omega
  · exact hO.notCells ho hc (hgv.symm ▸ rfl)
theorem RT.own {A : World} {sb : Nat} (hs : sb < A.heap.size) {f : List Tw → List (List UInt8)} : OwnFrom A.heap.size fun pre W => RT A sb (f pre) W := fun _ _ _ _ h hg hr => h.grow hg hs fun j e => ⟨(hr j e).1, .inr (hr j e).2⟩
theorem RT.app {A W W1 : World} {sb : Nat} {l : List (List UInt8)} {s : List UInt8} {v v' : Value} (hgr : Gr A W (fun b => b = sb)) (hB : Boxed W sb 22 v) (hO : OwS (A.heap.size + 3) l v W) (hs : sb < A.heap.size) (hA : AppS W W1 (A.heap.size + 3) (l ++ [s]) v v') :
    RT A sb (l ++ [s]) (W1.setCell ⟨sb, 0, none⟩ v') ∧ Boxed W1 sb 22 v := by
  have hrow : ∀ k, v.ownBlock = some k → A.heap.size + 3 ≤ k ∧ k < W.heap.size := hO.lt
  have hsz := hgr.size
  have hB1 : Boxed W1 sb 22 v := hB.kept hA.grown (fun e => by have := hrow _ e.symm; omega)
  refine ⟨⟨(hgr.grow hA.grown fun j e => .inl (by have := hrow j e; omega)).set _ _ (.inr rfl), v', hB1.set _, hA.own.grown (grownBy_setCell' W1 sb v') fun g hg e => ?_⟩, hB1⟩
  cases e
  have := (hA.own.lt _ hg).1
  omega

set_option maxRecDepth 100000 in
set_option maxHeartbeats 8000000 in
theorem halved_any (ls : List (List UInt8)) (z : List UInt8) (a : Option Addr) (cap : Nat) (w : World) (hT : Ts w w.heap.size ls (.slice a ls.length cap)) (hl : ls.length ≤ 4000) (h32 : ls.all M.isC = true) (hz : z.length = 32) (hTab : Tab w) :
    Calls Tryz.prog 36 #[.slice a ls.length cap, .string ⟨z.toArray⟩] w fun e w' => (∃ v, e = .returned v ∧ OwS w.heap.size (M.halve z ls) v w') ∧ Below w.heap.size w w' := by
  have mixed : Tryz.prog.follows .mixedOrders = true := by kernel_rfl
  refine calls_of_wpE (n := 6) Tryz.func36 rfl ?_
  simp only [Tryz.ntmps36, List.size_toArray, List.length_cons, List.length_nil, Nat.reduceAdd, Nat.reduceSub, Array.replicate_succ, Array.replicate_zero, List.push_toArray, List.append_toArray, List.nil_append, List.cons_append]
  refine wpE_then (n := 6) ?_
  gi_wp2_with fail
  refine wpE_then (n := 6) ?_
  gi_wp2_with fail
  refine wpE_seq ?_
  refine wpE_then (n := 6) ?_
  gi_wp2_with fail
  refine ⟨trivial, (callsIn_wide.2 (twos_any a ls.length cap z _)).mono ?_⟩
  rintro e w' ⟨rfl, rfl⟩
  gi_wp2_with fail
  obtain ⟨A, hA⟩ : ∃ A, (((w.alloc (.cells #[.slice none 0 0] 22)).alloc (.cells #[.slice a ls.length cap] 22)).alloc (.cells #[.string ⟨z.toArray⟩] 9)) = A := ⟨_, rfl⟩
  rw [hA]
  have hzA : A.heap.size = w.heap.size + 3 := by rw [← hA]; simp
  have hbA : Below w.heap.size w A := by rw [← hA]; (repeat (first | exact Below.refl _ _ | refine Below.drew ?_ | refine Below.alloc ?_ (by first | omega | (simp; omega) | simp) _ | refine Below.setCell ?_ (by first | omega | (simp; omega) | simp) _))
  have hA1 : Boxed A w.heap.size 22 (.slice none 0 0) := by
    rw [← hA]
    exact ((Boxed.new w 22 (.slice none 0 0)).alloc _).alloc _
  have hA2 : Boxed A (w.heap.size + 1) 22 (.slice a ls.length cap) := by
    rw [← hA]
    have := Boxed.new (w.alloc (.cells #[.slice none 0 0] 22)) 22 (.slice a ls.length cap)
    rw [World.size_alloc] at this
    exact this.alloc _
  have hA3 : Boxed A (w.heap.size + 2) 9 (.string ⟨z.toArray⟩) := by
    rw [← hA]
    have := Boxed.new ((w.alloc (.cells #[.slice none 0 0] 22)).alloc (.cells #[.slice a ls.length cap] 22)) 9 (.string ⟨z.toArray⟩)
    rw [World.size_alloc, World.size_alloc] at this
    exact this
  have HP := Lib.hid (fun i x => @M.pairs_all z ls h32 hz i x)
  have HH := Lib.hid (M.halve_pairs z ls)
  clear hA h32 hz
  obtain ⟨f, hf⟩ : ∃ f : List Tw → List (List UInt8), f = fun pre => pre.map fun p => M.sumL (p.1 ++ p.2) := ⟨_, rfl⟩
  have hfs : ∀ pre x, f (pre ++ [x]) = f pre ++ [M.sumL (x.1 ++ x.2)] := fun pre x => by rw [hf]; simp
  have hfl : ∀ pre, (f pre).length = pre.length := fun pre => by rw [hf]; simp
  have hf0 : f [] = [] := by rw [hf]; rfl
  have HHF : Hid (M.halve z ls = f (M.pairsT z ls)) := by show _ = _; rw [HH.out, hf]
  clear hf HH
  refine wpE_block ?_
  obtain ⟨A1, hA1'⟩ : ∃ A1 : Tw → Act, A1 = fun x => { tmps := #[.slice a ls.length cap, .string ⟨z.toArray⟩, undef, undef, .slice none 0 0, .pointer (some ⟨w.heap.size, 0, none⟩), .string ⟨x.1.toArray⟩, .string ⟨x.2.toArray⟩, .slice a ls.length cap, .string ⟨z.toArray⟩, .func (.func 129) #[] #[.pointer (some ⟨w.heap.size + 1, 0, none⟩), .pointer (some ⟨w.heap.size + 1 + 1, 0, none⟩)], .string ⟨x.1.toArray⟩, .string ⟨x.2.toArray⟩, undef, undef, undef, undef, undef, undef, undef, undef], defers := [] } := ⟨_, rfl⟩
  refine range_lx (n := 6) (gf := 129) (lb := #[.pointer (some ⟨w.heap.size + 1, 0, none⟩), .pointer (some ⟨w.heap.size + 1 + 1, 0, none⟩)]) (by omega) rfl (enters_of Tryz.func129 (by kernel_rfl) rfl)
    (encs := encW) (fun x => rfl) (fun pre W => RT A w.heap.size (f pre) W) (RT.own (by omega)) (fun pre X Y h hg => h.grow hg (by omega) fun j e => by cases e; exact ⟨by omega, .inl (by omega)⟩) (fun _ _ => False)
    (fun _ => False) (fun c h => h.elim) (fun xs => xs = M.pairsT z ls) (fun pre x => GoodW z ls pre x) ?seq ⟨Gr.refl _ _, _, hA1, by rw [hf0]; exact OwS.nil _ _⟩ (fun pre x a' W => GoodW z ls pre x ∧ a' = A1 x ∧ A.heap.size + 2 ≤ W.heap.size ∧ RT A w.heap.size (f pre) W) (fun pre x a' => fun _ _ _ _ h hg hr => ⟨h.1, h.2.1, Nat.le_trans h.2.2.1 hg.size, RT.own (f := fun _ => f pre) (by omega) [] _ _ _ h.2.2.2 hg hr⟩) ?assign ?body ?done ?pan
  case seq =>
    intro l J Jp W hzW hJI hJ hY h0
    refine twos_seq w ls z _ l _ _ a cap J Jp (Lib.hid fun pre X h => Gr.low hbA (hJI pre X h).gr (by omega) (fun b e => by omega)) (Lib.hid fun pre X h => (Boxed.ofGr (hJI pre X h).gr hA2 (by omega)).cell) (Lib.hid fun pre X h => (Boxed.ofGr (hJI pre X h).gr hA3 (by omega)).cell) (Lib.hid fun m pre x X h hg => hY m pre x X h hg) _ (Lib.hid hT) hl W h0
  case assign =>
    rintro l pre ⟨x1, x2⟩ X K hI hz hG hK'
    have hAX : GoodW z ls pre (x1, x2) ∧ A1 (x1, x2) = A1 (x1, x2) ∧ A.heap.size + 2 ≤ X.heap.size ∧ RT A w.heap.size (f pre) X := ⟨hG, rfl, hz, hI⟩
    have hkk := hK' _ X (KeepsFrom.refl _ _) (fun _ _ _ => rfl) hAX
    rw [hA1'] at hkk
    dsimp only [encW]
    gi_wp2
    exact hkk
  case body =>
    rintro l pre ⟨x1, x2⟩ a' B ⟨hG, rfl, hz2, hI⟩
    obtain ⟨hl1, hl2⟩ := HP.out _ _ hG.2
    obtain ⟨v, hB, hO⟩ := hI.v
    have hgr := hI.gr
    have hpl : pre.length ≤ 4000 := by have := (List.getElem?_eq_some_iff.1 hG.2).1; rw [M.pairs_length] at this; omega
    have hfp := hfl pre
    have hfx := hfs pre (x1, x2)
    simp only at hl1 hl2 hfx
    have hbB : Below w.heap.size w B := Gr.low hbA hgr (by omega) (fun b e => by omega)
    have hzB := hgr.size
    obtain ⟨i1, hi1, hiz, his, hib⟩ := info_parts Tryz.ofTxt
    have HSUM := Lib.hid (fun X (h : Below B.heap.size B X) => sum_any (x1 ++ x2) X (by simp; omega) (hTab.from (hbB.trans (h.mono hbB.size))))
    have y1 := hB.cell
    have hd0 : Below B.heap.size B B.drew := Below.drew (Below.refl _ _)
    obtain ⟨u, hu⟩ : ∃ u, M.sumL (x1 ++ x2) = u := ⟨_, rfl⟩
    rw [hu] at HSUM hfx
    have HFX := Lib.hid hfx
    have HB := Lib.hid hB
    have HO := Lib.hid hO
    rw [hA1']
    clear hfx hu hI
    gi_wp2_with fail
    refine region_roundH (S := fun _ => True) (by rintro ⟨_, _, h⟩; exact h) mixed (by kernel_rfl) ?_
    have hS0 : (fun _ : World => True) B.drew := trivial
    rw [show Array.replicate (Array.size _) false = #[false, false, false, false, false, false, false, false] from rfl, show Array.size (α := Oper) _ = 8 from rfl]
    refine wpAnyH_take (i := 1) (v := .string ⟨x1.toArray⟩) rfl (by kernel_rfl) (by kernel_rfl) (by kernel_rfl) (fun _ _ _ h => h) (Or.inl ⟨by rfl, ?_⟩) hS0 ?_
    · intro Y hY
      go_simp
    simp only [Act.put, List.getElem_toArray, List.getElem_cons_succ, List.getElem_cons_zero, List.setIfInBounds_toArray, List.set_cons_zero, List.set_cons_succ]
    refine wpAnyH_take (i := 2) (v := .string ⟨x2.toArray⟩) rfl (by kernel_rfl) (by kernel_rfl) (by kernel_rfl) (fun _ _ _ h => h) (Or.inl ⟨by rfl, ?_⟩) hS0 ?_
    · intro Y hY
      go_simp
    simp only [Act.put, List.getElem_toArray, List.getElem_cons_succ, List.getElem_cons_zero, List.setIfInBounds_toArray, List.set_cons_zero, List.set_cons_succ]
    refine wpAnyH_take (i := 3) (v := .string ⟨(x1 ++ x2).toArray⟩) rfl (by kernel_rfl) (by kernel_rfl) (by kernel_rfl) (fun _ _ _ h => h) (Or.inl ⟨by rfl, ?_⟩) hS0 ?_
    · intro Y hY
      go_simp
      apply ByteArray.ext
      simp
    simp only [Act.put, List.getElem_toArray, List.getElem_cons_succ, List.getElem_cons_zero, List.setIfInBounds_toArray, List.set_cons_zero, List.set_cons_succ]
    refine wpAnyH_ready (rs := [0, 4]) (by kernel_rfl) (by simp) ?_
    refine AllReadyH.cons rfl (fun K hK => ?rA) (AllReadyH.cons rfl (fun K hK => ?rB) AllReadyH.nil)
    case' rA =>
      go_simp
      refine hK.out _ _ trivial (fun _ => ?_)
      clear hK K
      simp only [List.setIfInBounds_toArray, List.set_cons_zero]
      refine wpAnyH_ready (rs := [4]) (by kernel_rfl) (by simp) ?_
      refine AllReadyH.cons rfl (fun K hK => ?_) AllReadyH.nil
      go_simp
      refine (HSUM.out _ hd0).mono ?_
      rintro e w5 ⟨rfl, hb5⟩
      try go_wp2_with fail
      refine hK.out _ _ trivial (fun _ => ?_)
      clear hK K
      simp only [List.setIfInBounds_toArray, List.set_cons_zero, List.set_cons_succ]
      refine wpAnyH_ready (rs := [5]) (by kernel_rfl) (by simp) ?_
      refine AllReadyH.cons rfl (fun K hK => ?_) AllReadyH.nil
      rw [if_pos (by rfl)]
      refine wp_build_one 22 9 (.tmp 17) (.string ⟨u.toArray⟩) (.string ⟨#[]⟩) i1 rfl rfl rfl Tryz.underlying22 hi1 hiz his rfl ?_
      refine hK.out _ _ trivial (fun _ => ?_)
      clear hK K
      simp only [Act.put, List.getElem_toArray, List.getElem_cons_succ, List.getElem_cons_zero, List.setIfInBounds_toArray, List.set_cons_zero, List.set_cons_succ]
      skip
    case' rB =>
      go_simp
      refine (HSUM.out _ hd0).mono ?_
      rintro e w5 ⟨rfl, hb5⟩
      try go_wp2_with fail
      refine hK.out _ _ trivial (fun _ => ?_)
      clear hK K
      simp only [List.setIfInBounds_toArray, List.set_cons_zero, List.set_cons_succ]
      have hb5' : Below B.heap.size B w5 := hd0.trans hb5
      have y3 : w5.cell? ⟨w.heap.size, 0, none⟩ = some v := (hb5'.cell (p := ⟨w.heap.size, 0, none⟩) HB.out.lt).trans y1
      refine wpAnyH_ready (rs := [0, 5]) (by kernel_rfl) (by simp) ?_
      refine AllReadyH.cons rfl (fun K hK => ?rC) (AllReadyH.cons rfl (fun K hK => ?rD) AllReadyH.nil)
    case' rC =>
      go_simp
      refine hK.out _ _ trivial (fun _ => ?_)
      clear hK K
      simp only [List.setIfInBounds_toArray, List.set_cons_zero]
      refine wpAnyH_ready (rs := [5]) (by kernel_rfl) (by simp) ?_
      refine AllReadyH.cons rfl (fun K hK => ?_) AllReadyH.nil
      rw [if_pos (by rfl)]
      refine wp_build_one 22 9 (.tmp 17) (.string ⟨u.toArray⟩) (.string ⟨#[]⟩) i1 rfl rfl rfl Tryz.underlying22 hi1 hiz his rfl ?_
      refine hK.out _ _ trivial (fun _ => ?_)
      clear hK K
      simp only [Act.put, List.getElem_toArray, List.getElem_cons_succ, List.getElem_cons_zero, List.setIfInBounds_toArray, List.set_cons_zero, List.set_cons_succ]
      skip
    case' rD =>
      rw [if_pos (by rfl)]
      refine wp_build_one 22 9 (.tmp 17) (.string ⟨u.toArray⟩) (.string ⟨#[]⟩) i1 rfl rfl rfl Tryz.underlying22 hi1 hiz his rfl ?_
      refine hK.out _ _ trivial (fun _ => ?_)
      clear hK K
      simp only [Act.put, List.getElem_toArray, List.getElem_cons_succ, List.getElem_cons_zero, List.setIfInBounds_toArray, List.set_cons_zero, List.set_cons_succ]
      refine wpAnyH_ready (rs := [0]) (by kernel_rfl) (by simp) ?_
      refine AllReadyH.cons rfl (fun K hK => ?_) AllReadyH.nil
      have y7 : (w5.alloc (.cells #[.string ⟨u.toArray⟩] 9)).cell? ⟨w.heap.size, 0, none⟩ = some v := (Below.cell ((Below.refl _ w5).alloc (Nat.le_refl _) _) (p := ⟨w.heap.size, 0, none⟩) (by have := HB.out.lt; have := hb5'.size; show w.heap.size < _; omega)).trans y3
      go_simp
      refine hK.out _ _ trivial (fun _ => ?_)
      clear hK K
      simp only [List.setIfInBounds_toArray, List.set_cons_zero]
      skip
    all_goals
      have hb5' : Below B.heap.size B w5 := hd0.trans hb5
      obtain ⟨w6, hw6⟩ : ∃ w6, w5.alloc (.cells #[.string ⟨u.toArray⟩] 9) = w6 := ⟨_, rfl⟩
      have hb56 : Below w5.heap.size w5 w6 := by rw [← hw6]; exact (Below.refl _ _).alloc (Nat.le_refl _) _
      have hz6 : w6.heap.size = w5.heap.size + 1 := by rw [← hw6]; simp
      have hc6 : w6.cell? ⟨w5.heap.size, 0, none⟩ = some (.string ⟨u.toArray⟩) := by rw [← hw6]; simp [go_sem]
      have hb6 : Below B.heap.size B w6 := hb5'.trans (hb56.mono hb5'.size)
      have hgr6 := hgr.below hb6
      have hB6 : Boxed w6 w.heap.size 22 v := (hb6.block _ HB.out.lt).trans HB.out
      have hO6 := HO.out.from_ hb6
      have hs5 := hb5'.size
      rw [hw6]
      clear hw6 y1
      refine wpAnyH_ready (rs := [6]) (by kernel_rfl) (by simp) ?_
      refine AllReadyH.cons rfl (fun K hK => ?_) AllReadyH.nil
      rw [if_pos (by rfl)]
      refine wp_append_txt w6 _ _ rfl (A.heap.size + 3) (f pre) u w5.heap.size v rfl rfl hO6 hc6 (by omega) (by omega) ?_
      intro v' w7 hA7
      obtain ⟨l7, hl7⟩ : ∃ l7, f pre ++ [u] = l7 := ⟨_, rfl⟩
      have hRT := RT.app hgr6 hB6 hO6 (by omega) hA7
      rw [hl7] at hA7 hRT
      obtain ⟨va, vc, hv⟩ := hA7.own.len
      subst hv
      have z7 := hRT.2.cell
      have z8 := hRT.2.frozen
      have HL7 := Lib.hid hl7
      clear hl7
      refine hK.out _ _ trivial (fun _ => ?_)
      clear hK K
      simp only [Act.put, List.getElem_toArray, List.getElem_cons_succ, List.getElem_cons_zero, List.setIfInBounds_toArray, List.set_cons_zero, List.set_cons_succ]
      refine wpAnyH_ready (rs := [7]) (by kernel_rfl) (by simp) ?_
      refine AllReadyH.cons rfl (fun K hK => ?_) AllReadyH.nil
      go_simp
      refine hK.out _ _ trivial (fun _ => ?_)
      clear hK K
      simp only [List.setIfInBounds_toArray, List.set_cons_zero, List.set_cons_succ]
      refine wpAnyH_done (by kernel_rfl) ?_ _
      try gi_wp2_with fail
      refine ⟨((KO_below hb6).trans ((KO_appS hA7 hO6).trans (KeepsOthers.setCell _ _ _))).from _, fun c hc hT => hT.elim, ?_⟩
      show RT A w.heap.size (f (pre ++ [(x1, x2)])) _
      rw [HFX.out, HL7.out]
      exact hRT.1
  case done =>
    rintro D xs W hD rfl hI hKd hzW
    obtain ⟨v, hB, hO⟩ := hI.v
    have hbW : Below w.heap.size w W := Gr.low hbA hI.gr (by omega) (fun b e => by omega)
    have y := hB.cell
    obtain ⟨va, vc, hv⟩ := hO.len
    subst hv
    have hO2 : OwS (A.heap.size + 3) (f (M.pairsT z ls)) (.slice va (f (M.pairsT z ls)).length vc) (W.putObj D (.deferred none)) := hO.grown (grownBy_putObj' W D (.deferred none)) fun g hg e => by
      cases e
      exact hO.notCells hKd rfl hg.symm
    have HO2 := Lib.hid hO2
    have hb1 := belowK_b (w := w) (Nat.le_refl _) W D _ (.deferred none) (by omega) hKd rfl rfl
    have HB1 := Lib.hid (hbW.trans hb1)
    clear hO2 hO hB hb1 hfl hfs
    rw [HHF.out]
    refine wpE_then (n := 6) ?_
    gi_wp2_with fail
    refine WpE.of (n := 6) (wpIn_ret ?_)
    refine ⟨by simp, .inl ⟨_, _, rfl, run_takeDeferred hKd, ?_⟩⟩
    refine ⟨_, ?_, ⟨_, rfl, HO2.out.mono (by omega)⟩, HB1.out⟩
    simp [results, Tryz.f36, go_sem]
  case pan => rintro D ch W _ h _; exact h.elim
end Go.Proofs.YtaajkbclojmbeaaGreatDoor
namespace Go.Proofs.YtaajkbclojmbeaaGreatDoor
open Go Go.RowKit

theorem Tryz.ofByte : (Tryz.prog.info? 5).map (fun i => (i.zero, i.size, i.bytes)) = some (some (.int .u8 0), 1, 1) := by kernel_rfl

set_option maxRecDepth 100000 in
set_option maxHeartbeats 4000000 in
theorem lite_any (d : List UInt8) (w : World) (hd : d.length ≤ 281474976710656) : Calls Tryz.prog 34 #[.string ⟨d.toArray⟩] w fun e w' => e = .returned (.string ⟨d.toArray⟩) ∧ Below w.heap.size w w' := by
  have hz : (⟨d.toArray⟩ : ByteArray).size = d.length := rfl
  by_cases h0 : d.length = 0
  · obtain rfl := List.eq_nil_of_length_eq_zero h0
    go_enter Tryz.func34, Tryz.ntmps34
    go_wp2_with fail
    go_ret
    exact ⟨rfl, Below.refl _ _⟩
  · obtain ⟨i0, hi, hz0, hz1, hz2⟩ := info_parts Tryz.ofByte
    have hinfo : (Tryz.prog.info? 5).map (·.size) = some 1 := by rw [hi]; simp [hz1]
    have hco : Tryz.prog.cellsOf 5 = 1 := by simp [Program.cellsOf, hi, hz1]
    obtain ⟨m, hm⟩ : ∃ m, m = madeCells (Value.int .u8 0).cells (((d.length : Nat) : Int).toNat * i0.size) := ⟨_, rfl⟩
    have hms : m.size = d.length := by rw [hm, size_madeCells, hz1]; simp
    have hmk : ∀ W : World, (Instr.makeSlice 41 (.int .i64 (d.length : Int)) (.int .i64 (d.length : Int))).run Tryz.prog W = .ok (.slice (some ⟨W.heap.size, 0, none⟩) d.length d.length) (W.alloc (.cells m 5)) := fun W => by
      have h := run_make (P := Tryz.prog) W 41 5 i0 (.int .u8 0) Tryz.underlying41 hi hz0 .i64 .i64 (d.length : Int) (d.length : Int) (by omega) (by omega) (by rw [hz2]; omega) (by omega)
      rw [← hm] at h
      simpa using h
    clear hm
    have hcp := Lib.run_copy_row_string (P := Tryz.prog) (w.alloc (.cells m 5)) 41 9 3 5 w.heap.size 0 d.length d.length ⟨d.toArray⟩ m 5 Tryz.underlying41 hinfo (heap_alloc_new w _) (by rw [hz]; omega) (by rw [hz]; omega)
    obtain ⟨Y, hY⟩ : ∃ Y, Y = (m.toList.take 0 ++ Lib.byteCells (⟨d.toArray⟩ : ByteArray).data.toList ++ m.toList.drop (0 + (⟨d.toArray⟩ : ByteArray).size)).toArray := ⟨_, rfl⟩
    rw [← hY, hz] at hcp
    have hYl : Y.toList = Lib.byteCells d := by
      rw [hY, List.toList_toArray, List.take_zero, List.nil_append, List.drop_of_length_le (by rw [Array.length_toList, hz]; omega), List.append_nil]
    have hYs : Y.size = d.length := by rw [← Array.length_toList, hYl, Lib.byteCells_length]
    have hgY : ((w.alloc (.cells m 5)).setRow w.heap.size Y).heap[w.heap.size]? = some (.cells Y 5 (0, 0)) := setRow_heap _ _ m _ 5 (0, 0) (heap_alloc_new w _)
    have hne : d ≠ [] := fun e => h0 (by rw [e]; rfl)
    have hus := Lib.run_unsafeString_row (P := Tryz.prog) ((w.alloc (.cells m 5)).setRow w.heap.size Y) 79 3 9 5 Tryz.underlying79 hco w.heap.size Y.size (by unfold World.shape?; rw [hgY]) d hne (by omega) (by omega)
      (fun j x hx => Lib.cells_of_row hgY Y.size j _ (by rw [List.take_of_length_le (by rw [Array.length_toList]; exact Nat.le_refl _), hYl]; simp [Lib.byteCells, hx]))
    clear hY
    have hb1 : Below w.heap.size w (w.alloc (.cells m 5)) := (Below.refl _ w).alloc (Nat.le_refl _) _
    have hb2 : Below w.heap.size (w.alloc (.cells m 5)) ((w.alloc (.cells m 5)).setRow w.heap.size Y) := ⟨rfl, rfl, rfl, by simp, fun k hk => setRow_other _ _ _ _ (by omega)⟩
    go_enter Tryz.func34, Tryz.ntmps34
    go_wp2_with fail
    go_ret
    exact ⟨rfl, Lib.below_freeze (hb1.trans hb2) (p := ⟨w.heap.size, 0, none⟩) (Nat.le_refl _) _⟩

set_option maxRecDepth 100000 in
theorem clone_any (d : List UInt8) (w : World) (hd : d.length ≤ 281474976710656) : Calls Tryz.prog 16 #[.string ⟨d.toArray⟩] w fun e w' => e = .returned (.string ⟨d.toArray⟩) ∧ Below w.heap.size w w' := by
  go_enter Tryz.func16, Tryz.ntmps16
  go_wp2_with (refine (lite_any d _ hd).mono ?_; rintro e W' ⟨rfl, hb⟩)
  go_ret
  exact ⟨rfl, hb⟩
end Go.Proofs.YtaajkbclojmbeaaGreatDoor
namespace Go.Proofs.YtaajkbclojmbeaaGreatDoor
open Go Go.RowKit Go.Shelf Go.Lib
attribute [local go_sem] Oper.semAt_some

theorem pow_nine {d : Nat} (h : d ≤ 9) : 2 ^ d ≤ 512 := by
  have : 2 ^ d ≤ 2 ^ 9 := Nat.pow_le_pow_right (by omega) h
  simpa using this
set_option maxRecDepth 100000 in
set_option maxHeartbeats 8000000 in
theorem mtree_any (ls : List (List UInt8)) (m : Nat) (a : Option Addr) (cap : Nat) (w : World) (hT : Ts w w.heap.size ls (.slice a ls.length cap)) (hl : ls.length ≤ 4000) (h32 : ls.all M.isC = true) (hm : m ≤ 512) (hTab : Tab w) :
    Calls Tryz.prog 17 #[.slice a ls.length cap, .int .i64 (m : Nat)] w fun e w' => e = .returned (.string ⟨(M.treeT ls m).toArray⟩) ∧ Below w.heap.size w w' := by
  have HF := Lib.hid (filled_any [] w (by simp))
  rw [show M.fill32 [] = M.z32 by simp [M.fill32, M.z32]] at HF
  obtain ⟨D, hD⟩ : ∃ D, M.dep m = D := ⟨_, rfl⟩
  obtain ⟨T, hTT⟩ : ∃ T, M.treeT ls m = T := ⟨_, rfl⟩
  have hTD : M.treeD D ls M.z32 = T := by rw [← hTT, ← hD]; rfl
  have hD9 : D ≤ 9 := by rw [← hD]; exact M.dep_le m
  have HLT := Lib.hid (fun d => (M.dep_lt (d := d) hm))
  rw [hD] at HLT
  rw [hTT]
  have HTD := Lib.hid hTD
  clear hTD hTT hD
  go_enter Tryz.func17, Tryz.ntmps17
  go_wp2_with fail
  refine HF.out.mono ?_
  rintro e w1 ⟨rfl, hb1⟩
  have HT1 := Lib.hid ((hT.from_ hb1).mono hb1.size)
  have hz : M.z32.length = 32 := M.z32_length
  have HZ := Lib.hid hz
  clear hz
  generalize M.z32 = z at *
  go_wp2_with fail
  go_loopw [0, 5, 6] (fun l0 z0 i wr => ∃ (d : Nat) (l : List (List UInt8)) (a' : Option Addr) (cap' : Nat) (y : List UInt8), d ≤ D ∧ i = .int .i64 ((2 ^ d : Nat) : Int) ∧ l0 = .slice a' l.length cap' ∧ z0 = .string ⟨y.toArray⟩ ∧ y.length = 32 ∧ l.all M.isC = true ∧ l.length ≤ 4000 ∧ M.treeD (D - d) l y = T ∧ Ts wr wr.heap.size l (.slice a' l.length cap') ∧ Below w.heap.size w wr) (fun _ _ i _ => 1024 - (RowKit.intOf i).toNat)
  case atStart => exact ⟨0, ls, a, cap, z, Nat.zero_le _, rfl, rfl, rfl, HZ.out, h32, hl, HTD.out, HT1.out, hb1⟩
  case round =>
    obtain ⟨d, l, a', cap', y, hd, rfl, rfl, rfl, hy, hl32, hl4, hTd, hTw, hbw⟩ := hrel
    have hlt := HLT.out d
    have hp9 := pow_nine (d := d) (by omega)
    obtain ⟨q, hq⟩ : ∃ q, 2 ^ d = q := ⟨_, rfl⟩
    have hq1 : 1 ≤ q := by rw [← hq]; exact Nat.pos_of_ne_zero (by simp)
    rw [hq] at hlt hp9 ⊢
    have HQ := Lib.hid hq
    clear hq
    by_cases hdl : d < D
    · have hqm : (q : Int) < (m : Nat) := by omega
      have HH := Lib.hid (halved_any l y a' cap' wr hTw hl4 hl32 hy (hTab.from hbw))
      have HS := Lib.hid (fun X (h : Below wr.heap.size wr X) => sum_any (y ++ y) X (by simp; omega) (hTab.from (hbw.trans (h.mono hbw.size))))
      have hTd2 : M.treeD (D - (d + 1)) (M.halve y l) (M.sumL (y ++ y)) = T := by
        rw [show D - d = D - (d + 1) + 1 by omega, M.treeD] at hTd
        exact hTd
      have HT2 := Lib.hid hTd2
      have HA := Lib.hid (M.halve_all (z := y) l)
      have HLN := Lib.hid (M.halve_length y l)
      have HSL := Lib.hid (M.sum_length (y ++ y))
      have hyy : (y ++ y).length = 64 := by simp; omega
      obtain ⟨y2, hy2⟩ : ∃ y2, y ++ y = y2 := ⟨_, rfl⟩
      have hcat : (⟨y.toArray⟩ : ByteArray) ++ ⟨y.toArray⟩ = ⟨y2.toArray⟩ := by rw [← hy2]; apply ByteArray.ext; simp
      rw [hy2] at HS HT2 HSL
      clear hTd hTd2 hy2 hyy hTw hl32
      generalize M.halve y l = l2 at *
      generalize M.sumL y2 = y3 at *
      go_wp2_with fail
      refine HH.out.mono ?_
      rintro e w2 ⟨⟨v2, rfl, hO2⟩, hb2⟩
      obtain ⟨va, vc, hv⟩ := hO2.len
      subst hv
      have hT2 := hO2.ts
      clear hO2
      go_wp2_with fail
      first | rw [hcat] | skip
      refine (HS.out _ hb2).mono ?_
      rintro e w3 ⟨rfl, hb3⟩
      have hT3 := Lib.hid ((hT2.from_ hb3).mono hb3.size)
      have hb23 := Lib.hid (hbw.trans ((hb2.trans (hb3.mono hb2.size)).mono hbw.size))
      have hw2 : (q : Int) * 2 = ((2 * q : Nat) : Int) := by omega
      clear hT2 hb2 hb3 hbw
      go_wp2_with fail
      exact ⟨⟨d + 1, l2, va, vc, y3, by omega, by rw [Nat.pow_succ, HQ.out]; congr 1; omega, rfl, rfl, HSL.out, HA.out, by have := HLN.out; omega, HT2.out, hT3.out, hb23.out⟩, by simp [RowKit.intOf]; omega⟩
    · obtain rfl : d = D := by omega
      have hqm : ¬ (q : Int) < (m : Nat) := by omega
      rw [Nat.sub_self, M.treeD] at hTd
      have HBW := Lib.hid hbw
      cases l with
      | nil =>
        obtain rfl : y = T := hTd
        clear hTw hlt hl32 hy hbw
        go_wp2_with fail
        go_ret
        exact ⟨rfl, HBW.out⟩
      | cons x r =>
        obtain rfl : x = T := hTd
        obtain ⟨b, o, s, rfl, hbn, hs, hc⟩ := hTw.at_ (i := 0) (by simp)
        obtain rfl : x = s := by simpa using hs
        rw [Nat.add_zero] at hc
        obtain ⟨n, hn⟩ : ∃ n, (x :: r).length = n := ⟨_, rfl⟩
        have hn1 : 1 ≤ n := by rw [← hn]; simp
        rw [hn]
        have hne : ¬ (n : Int) = 0 := by omega
        have hnl : (0 : Int) < n := by omega
        clear hTw hlt hl32 hy hs hbw hn hl4
        go_wp2_with fail
        go_ret
        exact ⟨rfl, HBW.out⟩
set_option maxRecDepth 100000 in
set_option maxHeartbeats 8000000 in
theorem tree_any (ls : List (List UInt8)) (most : Int) (a : Option Addr) (cap : Nat) (w : World) (hT : Ts w w.heap.size ls (.slice a ls.length cap)) (hTab : Tab w) :
    Calls Tryz.prog 6 #[.slice a ls.length cap, .int .i64 most] w fun e w' => e = .returned (.tuple #[.string ⟨(M.treeE ls most).1.toArray⟩, .int .i64 ((M.treeE ls most).2 : Nat)]) ∧ Below w.heap.size w w' := by
  have HNO : Hid ((most < 1 ∨ 512 < most ∨ most < ls.length ∨ ls.all M.isC = false) → M.treeE ls most = ([], 1)) := fun h => by unfold M.treeE; rw [if_pos h]
  have HYES : Hid (¬ (most < 1 ∨ 512 < most ∨ most < ls.length ∨ ls.all M.isC = false) → M.treeE ls most = (M.treeT ls most.toNat, 0)) := fun h => by unfold M.treeE; rw [if_neg h]
  generalize M.treeE ls most = E at *
  by_cases h1 : most < 1
  · obtain rfl := HNO.out (.inl h1)
    go_enter Tryz.func6, Tryz.ntmps6
    go_wp2_with fail
    go_ret2
    exact ⟨rfl, Below.refl _ _⟩
  by_cases h2 : 512 < most
  · obtain rfl := HNO.out (.inr (.inl h2))
    go_enter Tryz.func6, Tryz.ntmps6
    go_wp2_with fail
    go_ret2
    exact ⟨rfl, Below.refl _ _⟩
  by_cases h3 : most < ls.length
  · obtain rfl := HNO.out (.inr (.inr (.inl h3)))
    go_enter Tryz.func6, Tryz.ntmps6
    go_wp2_with fail
    go_ret2
    exact ⟨rfl, Below.refl _ _⟩
  obtain ⟨m, rfl⟩ : ∃ m : Nat, most = (m : Int) := ⟨most.toNat, by omega⟩
  rw [Int.toNat_natCast] at HYES
  have HC := Lib.hid (containsNo_any ls a cap w hT (by omega))
  cases h4 : ls.all M.isC with
  | false =>
    obtain rfl := HNO.out (.inr (.inr (.inr h4)))
    rw [h4] at HC
    go_enter Tryz.func6, Tryz.ntmps6
    go_wp2_with fail
    refine HC.out.mono ?_
    rintro e X ⟨rfl, hX⟩
    obtain rfl : w = X := hX.symm
    go_wp2_with fail
    go_ret2
    exact ⟨rfl, Below.refl _ _⟩
  | true =>
    obtain rfl := HYES.out (by simp [h4]; omega)
    rw [h4] at HC
    have HTR := Lib.hid (mtree_any ls m a cap w hT (by omega) h4 (by omega) hTab)
    have HTL := Lib.hid (M.treeT_length (l := ls) m h4)
    generalize M.treeT ls m = T at *
    have HCL := Lib.hid (fun X => clone_any T X (by have := HTL.out; omega))
    clear HNO HYES h4 hT
    go_enter Tryz.func6, Tryz.ntmps6
    go_wp2_with fail
    refine HC.out.mono ?_
    rintro e X ⟨rfl, hX⟩
    obtain rfl : w = X := hX.symm
    go_wp2_with fail
    refine HTR.out.mono ?_
    rintro e w2 ⟨rfl, hb2⟩
    go_wp2_with fail
    refine (HCL.out _).mono ?_
    rintro e w3 ⟨rfl, hb3⟩
    go_wp2_with fail
    go_ret2
    exact ⟨rfl, hb2.trans (hb3.mono hb2.size)⟩
theorem lw_eight {n : Nat} (h : n < 18446744073709551616) : M.lw n 8 = (M.le 8 n, 0) := by
  have hl : (M.tr (M.f32 n)).length ≤ 8 := (M.tr_width (k := 8) (by unfold M.In; omega)).2 (by omega)
  unfold M.lw
  rw [if_pos ⟨by decide, by decide, by omega⟩]
  rfl
set_option maxRecDepth 100000 in
set_option maxHeartbeats 4000000 in
theorem mmix_any (root : List UInt8) (n : Nat) (w : World) (hn : n < 18446744073709551616) (hr : root.length = 32) (hTab : Tab w) :
    Calls Tryz.prog 19 #[.string ⟨root.toArray⟩, .int .u64 n] w fun e w' => e = .returned (.string ⟨(M.mixT root n).toArray⟩) ∧ Below w.heap.size w w' := by
  have HL := le_any n 8 w hn
  rw [lw_eight hn] at HL
  have HL := Lib.hid HL
  have hl8 : (M.le 8 n).length = 8 := M.le_length 8 n
  have HF := Lib.hid (fun X => filled_any (M.le 8 n) X (by omega))
  have hf32 : (M.fill32 (M.le 8 n)).length = 32 := M.fill_length (by omega)
  have HS := Lib.hid (fun X (h : Below w.heap.size w X) => sum_any (root ++ M.fill32 (M.le 8 n)) X (by simp; omega) (hTab.from h))
  obtain ⟨T, hT⟩ : ∃ T, M.mixT root n = T := ⟨_, rfl⟩
  have hT' : M.sumL (root ++ M.fill32 (M.le 8 n)) = T := hT
  rw [hT]
  rw [hT'] at HS
  clear hT hT'
  generalize M.fill32 (M.le 8 n) = f at *
  generalize M.le 8 n = l at *
  obtain ⟨y, hy⟩ : ∃ y, root ++ f = y := ⟨_, rfl⟩
  have hcat : (⟨root.toArray⟩ : ByteArray) ++ ⟨f.toArray⟩ = ⟨y.toArray⟩ := by rw [← hy]; apply ByteArray.ext; simp
  rw [hy] at HS
  clear hy
  go_enter Tryz.func19, Tryz.ntmps19
  go_wp2_with fail
  refine HL.out.mono ?_
  rintro e w1 ⟨rfl, hb1⟩
  go_wp2_with fail
  refine (HF.out _).mono ?_
  rintro e w2 ⟨rfl, hb2⟩
  go_wp2_with fail
  first | rw [hcat] | skip
  refine (HS.out _ (hb1.trans (hb2.mono hb1.size))).mono ?_
  rintro e w3 ⟨rfl, hb3⟩
  go_wp2_with fail
  go_ret
  exact ⟨rfl, (hb1.trans (hb2.mono hb1.size)).trans (hb3.mono (hb1.trans (hb2.mono hb1.size)).size)⟩
set_option maxRecDepth 100000 in
set_option maxHeartbeats 4000000 in
theorem mix_any (root : List UInt8) (n : Nat) (w : World) (hn : n < 18446744073709551616) (hTab : Tab w) :
    Calls Tryz.prog 8 #[.string ⟨root.toArray⟩, .int .u64 n] w fun e w' => e = .returned (.tuple #[.string ⟨(M.mixE root n).1.toArray⟩, .int .i64 ((M.mixE root n).2 : Nat)]) ∧ Below w.heap.size w w' := by
  have HC := Lib.hid (noChunk_any root w)
  by_cases h : root.length = 32
  · have HM := Lib.hid (mmix_any root n w hn h hTab)
    rw [show M.mixE root n = (M.mixT root n, 0) by unfold M.mixE; rw [if_neg (by omega)]]
    generalize M.mixT root n = T at *
    rw [show M.isC root = true by simp [M.isC, h]] at HC
    go_enter Tryz.func8, Tryz.ntmps8
    go_wp2_with fail
    refine HC.out.mono ?_
    rintro e X ⟨rfl, hX⟩
    obtain rfl : w = X := hX.symm
    go_wp2_with fail
    refine HM.out.mono ?_
    rintro e w2 ⟨rfl, hb2⟩
    go_wp2_with fail
    go_ret2
    exact ⟨rfl, hb2⟩
  · rw [show M.mixE root n = ([], 1) by unfold M.mixE; rw [if_pos h]]
    rw [show M.isC root = false by simp [M.isC, h]] at HC
    go_enter Tryz.func8, Tryz.ntmps8
    go_wp2_with fail
    refine HC.out.mono ?_
    rintro e X ⟨rfl, hX⟩
    obtain rfl : w = X := hX.symm
    go_wp2_with fail
    go_ret2
    exact ⟨rfl, Below.refl _ _⟩
end Go.Proofs.YtaajkbclojmbeaaGreatDoor
namespace Go.Proofs.YtaajkbclojmbeaaGreatDoor
open Go Go.RowKit Go.Shelf Go.Lib

theorem wpList_append9 {ops : Array Oper} {rest : List Oper} {o : Oper} {a : Act} {w : World} {Q : Exit → Act → World → Prop} (hgd : o.guard = none) (s x : Operand)
    (ho : o.op = .call { callee := .builtin .append, args := #[s, x], argTypes := #[22, 22] }) (v u : Value) (hs : a.eval s = v) (hx : a.eval x = u) (B : Nat) (L : List (List UInt8)) (hr : ∃ v' w', (Builtin.append_ #[22, 22] o.type #[v, u]).run Tryz.prog w = .ok v' w' ∧ AppS w w' B L v v')
    (h : ∀ v' w', AppS w w' B L v v' → wpList Tryz.prog ops Q rest (a.put o.dst v') w') : wpList Tryz.prog ops Q (o :: rest) a w := by
  obtain ⟨v', w', hr, hA⟩ := hr
  refine wpList_plain hgd fun _ hK => ?_
  unfold Oper.wp execOp
  simp only [ho, resolve, invoke, builtin, Sem.run_bind, Sem.run_pure, Result.andThen_ok, List.map_toArray, List.map_cons, List.map_nil, hs, hx, hr]
  exact hK _ _ (h _ _ hA)
def lenVs : Value → Nat | .slice _ n _ => n | _ => 0
end Go.Proofs.YtaajkbclojmbeaaGreatDoor
namespace Go.Proofs.YtaajkbclojmbeaaGreatDoor
open Go Go.RowKit

theorem Tryz.infoU8r : (Tryz.prog.info? 5).map (fun i => (i.zero, i.size, i.bytes)) = some (some (.int .u8 0), 1, 1) := by kernel_rfl
/-- The cells of bytes. -/
def bcq (l : List UInt8) : List Value := l.map fun (c : UInt8) => Value.int .u8 (c.toNat : Int)
theorem bc_get {l : List UInt8} {j : Nat} (h : j < l.length) : (bcq l)[j]? = some (.int .u8 (((l.getD j 0).toNat : Nat) : Int)) := by
  simp [bcq, h]
/-- A row that is owned and not empty: where it lies, and its bytes. -/
theorem own_bytes {w : World} {B n : Nat} {v : Value} {l : List UInt8} (h : w.ownsRow B 5 1 v n (bcq l)) (hn : 0 < n) :
    ∃ g cap, v = .slice (some ⟨g, 0, none⟩) n cap ∧ B ≤ g ∧ g < w.heap.size ∧ Bs w g 0 l ∧ ∀ i, w.frozen? ⟨g, i, none⟩ = false := by
  rcases h.2 with ⟨_, h0⟩ | ⟨g, cap, cur, rfl, hb, hg, _⟩
  · omega
  · refine ⟨g, cap, rfl, hb, (Array.getElem?_eq_some_iff.1 hg).1, fun j hj => ?_, fun i => frozen_of_row w g i cur _ hg⟩
    have := h.cells (g := g) rfl j _ (bc_get hj)
    rw [Nat.zero_add]
    by_cases h0 : j = 0
    · subst h0
      simpa [Addr.add] using this
    · simpa [Addr.add, h0] using this
theorem Bs.set_ {W : World} {g : Nat} {l : List UInt8} (h : Bs W g 0 l) (i : Nat) (hi : i < l.length) (c : UInt8) : Bs (W.setCell ⟨g, i, none⟩ (.int .u8 (c.toNat : Int))) g 0 (l.set i c) := fun j hj => by
  rw [List.length_set] at hj
  have h0 := h j hj
  have hi0 := h i hi
  rw [Nat.zero_add] at h0 hi0 ⊢
  by_cases hij : i = j
  · subst hij
    rw [World.cell?_setCell_same' _ _ _ (by rw [hi0]; rfl)]
    simp [List.getD_eq_getElem?_getD, hj]
  · rw [World.cell?_setCell_other _ _ _ _ (by simp), h0]
    simp [List.getD_eq_getElem?_getD, hij]
theorem Bs.conv {W : World} {g : Nat} {l : List UInt8} (h : Bs W g 0 l) {n : Nat} (hn : n = l.length) (cap : Nat) : (convert 41 9 (.slice (some ⟨g, 0, none⟩) n cap)).run Tryz.prog W = .ok (.string ⟨l.toArray⟩) W := by
  subst hn
  refine run_convert_bytes_back W 41 9 5 ⟨g, 0, none⟩ cap l Tryz.underlying41 Tryz.underlying5 Tryz.underlying9 ?_
  intro j hj
  have := h j hj
  rw [Nat.zero_add, List.getD_eq_getElem?_getD, List.getElem?_eq_getElem hj, Option.getD_some] at this
  by_cases h0 : j = 0
  · subst h0
    simpa [Addr.add] using this
  · simpa [Addr.add, h0] using this
/-- A slice's length. -/
def lenV : Value → Nat | .slice _ n _ => n | _ => 0

def pdP (k : Nat) : List UInt8 := (zb k).set 0 1
theorem pdP_length (k : Nat) : (pdP k).length = k := by simp [pdP, zb]
theorem pdP_succ {k : Nat} (h : 1 ≤ k) : pdP (k + 1) = pdP k ++ [0] := by
  unfold pdP zb
  rw [List.replicate_succ', List.set_append_left _ _ (by simp; omega)]

set_option maxRecDepth 100000 in
set_option maxHeartbeats 4000000 in
theorem rpad (n : Nat) (w : World) (h : n ≤ 1099511627776) :
    Calls Tryz.prog 69 #[.int .i64 (n : Int)] w fun e w' => e = .returned (.tuple #[.string ⟨(M.padL n).toArray⟩, .int .i64 0]) ∧ Below w.heap.size w w' := by
  obtain ⟨i0, hi, hz0, hz1, hz2⟩ := info_parts Tryz.infoU8r
  have HI := Lib.hid hi
  clear hi
  obtain ⟨m, hm⟩ : ∃ m, m = 136 - n % 136 := ⟨_, rfl⟩
  have HM := Lib.hid hm
  have hm1 : 1 ≤ m := by omega
  have hm2 : m ≤ 136 := by omega
  clear hm
  go_enter Tryz.func69, Tryz.ntmps69
  go_wp2_with fail
  go_loopw [4] (fun v wr => ∃ k : Nat, 1 ≤ k ∧ k ≤ m ∧ wr.ownsRow w.heap.size 5 1 v k (bcq (pdP k)) ∧ Below w.heap.size w wr) (fun v _ => m - lenV v)
  case atStart =>
    refine ⟨1, Nat.le_refl _, hm1, ⟨rfl, .inr ⟨w.heap.size, 1, #[.int .u8 1], rfl, Nat.le_refl _, heap_alloc_new w _, Nat.le_refl _, by decide, rfl, rfl⟩⟩, ?_⟩
    (repeat (first | exact Below.refl _ _ | refine Below.drew ?_ | refine Below.alloc ?_ (by first | omega | (simp; omega) | simp) _ | refine Below.setCell ?_ (by first | omega | (simp; omega) | simp) _))
  case round =>
    obtain ⟨k, hk1, hk, hown, hW⟩ := hrel
    obtain ⟨g, cap, rfl, hgB, hgl, hBs, hfr⟩ := own_bytes hown (by omega)
    by_cases hlt : k < m
    · have ht : ((((n : Int) + (k : Int)) % 136) != 0) = true := by
        have := HM.out
        simp only [bne_iff_ne, ne_eq]
        omega
      have hsW := hW.size
      have hBsH := Lib.hid hBs
      have hfrH := Lib.hid hfr
      clear hBs hfr
      go_wp2_with (at_builtin; refine wpList_append_own _ rfl _ _ 41 rfl w.heap.size 5 i0 (.int .u8 0) 1 1 Tryz.underlying41 HI.out hz0 hz1 hz2 rfl (by decide) _ _ _ rfl (hown.alloc _) ⟨wr.heap.size, 0, none⟩ 1 1 [.int .u8 0] rfl rfl (cell_one_new _ _ _) (by simp [Value.oneCell']) (by unfold maxLen; omega) (by omega) (by simp; omega) ?_; intro v' w2 hown' hgrow _)
      have hown2 : w2.ownsRow w.heap.size 5 1 v' (k + 1) (bcq (pdP (k + 1))) := by
        rw [pdP_succ hk1]
        simpa [bcq] using hown'
      have hb2 : Below w.heap.size w w2 := (hW.alloc hsW _).grown hgrow (by simp; omega) (fun q e => by cases e; exact hgB)
      clear hown'
      obtain ⟨g2, cap2, rfl, hgB2, hgl2, hBs2, hfr2⟩ := own_bytes hown2 (by omega)
      clear hBs2 hfr2
      go_roundw
      case rel => exact ⟨k + 1, by omega, by omega, hown2, hb2⟩
      case measure => simp [lenV]; omega
    · obtain rfl : k = m := by omega
      have ht : ((((n : Int) + (k : Int)) % 136) != 0) = false := by
        have := HM.out
        simp only [bne_eq_false_iff_eq]
        omega
      obtain ⟨q, hq⟩ : ∃ q, q = k - 1 := ⟨_, rfl⟩
      have e2 : (k : Int) - 1 = (q : Int) := by omega
      have hqk : (q : Int) < k := by omega
      have hql : q < (pdP k).length := by rw [pdP_length]; omega
      have c5 := hBs q hql
      rw [Nat.zero_add] at c5
      have f5 := hfr q
      have HQ := Lib.hid hq
      have HFR := Lib.hid hfr
      clear hq hfr hown
      by_cases hone : k = 1
      · have h0 : (pdP k).getD q 0 = 1 := by
          have := HQ.out
          subst hone
          rw [this]
          rfl
        rw [h0] at c5
        rw [show (((1 : UInt8).toNat : Nat) : Int) = 1 from rfl] at c5
        have hB2 : Bs (wr.setCell ⟨g, q, none⟩ (.int .u8 129)) g 0 ((pdP k).set q 129) := hBs.set_ q hql 129
        replace hW := hW.setCell (p := ⟨g, q, none⟩) hgB (.int .u8 129)
        have hcv := hB2.conv (n := k) (by rw [List.length_set, pdP_length]) cap
        have e : (pdP k).set q 129 = M.padL n := by
          unfold pdP
          rw [pad_one (by rw [← HM.out]; exact hone), HQ.out, hone]
        rw [e] at hcv
        clear hone h0 hB2 hBs e
        go_wp2_with fail
        go_ret2
        exact ⟨rfl, hW⟩
      · have h0 : (pdP k).getD q 0 = 0 := by
          unfold pdP
          rw [List.getD_eq_getElem?_getD, List.getElem?_set]
          have : ¬ 0 = q := by have := HQ.out; omega
          rw [if_neg this]
          unfold zb
          rw [List.getElem?_replicate]
          split <;> rfl
        rw [h0] at c5
        rw [show (((0 : UInt8).toNat : Nat) : Int) = 0 from rfl] at c5
        have hB2 : Bs (wr.setCell ⟨g, q, none⟩ (.int .u8 128)) g 0 ((pdP k).set q 128) := hBs.set_ q hql 128
        replace hW := hW.setCell (p := ⟨g, q, none⟩) hgB (.int .u8 128)
        have hcv := hB2.conv (n := k) (by rw [List.length_set, pdP_length]) cap
        have e : (pdP k).set q 128 = M.padL n := by
          unfold pdP
          rw [pad_more HM.out (by omega), HQ.out]
        rw [e] at hcv
        clear hone h0 hB2 hBs e
        go_wp2_with fail
        go_ret2
        exact ⟨rfl, hW⟩
end Go.Proofs.YtaajkbclojmbeaaGreatDoor
namespace Go.Proofs.YtaajkbclojmbeaaGreatDoor
open Go Go.RowKit

theorem byte_at (T : ByteArray) (z : Nat) (h : z < T.size) : (T[z]).toNat = (T.data.toList.getD z 0).toNat := by
  have : T.data.toList.getD z 0 = T[z] := by
    rw [List.getD_eq_getElem?_getD, List.getElem?_eq_getElem (by simpa using h), Option.getD_some]
    rfl
  rw [this]

set_option maxRecDepth 100000 in
set_option maxHeartbeats 8000000 in
theorem rsum (b : ByteArray) (w : World) (hs : b.size ≤ 1000) :
    Calls Tryz.prog 37 #[.string b] w fun e w' => e = .returned (.string ⟨(M.sumL b.data.toList).toArray⟩) ∧ Below w.heap.size w w' := by
  obtain ⟨i0, hi, hz0, hz1, hz2⟩ := info_parts Tryz.infoU8r
  have HI := Lib.hid hi
  clear hi
  have mixed : Tryz.prog.follows .mixedOrders = true := by kernel_rfl
  obtain ⟨p, hp⟩ : ∃ p : ByteArray, p = ⟨(M.padL b.size).toArray⟩ := ⟨_, rfl⟩
  have hpz : p.size = (M.padL b.size).length := by rw [hp]; exact List.size_toArray
  have hpl : p.size ≤ 136 := by rw [hpz, M.padL_length]; omega
  have hkp : ∀ W, Calls Tryz.prog 69 #[.int .i64 (b.size : Int)] W fun e w' => e = .returned (.tuple #[.string p, .int .i64 0]) ∧ Below W.heap.size W w' := fun W => by rw [hp]; exact rpad b.size W (by omega)
  obtain ⟨T, hT⟩ : ∃ T : ByteArray, T = b ++ p := ⟨_, rfl⟩
  obtain ⟨t, ht⟩ : ∃ t, t = b.data.toList ++ M.padL b.size := ⟨_, rfl⟩
  have hTt : T.data.toList = t := by rw [hT, ht, hp]; simp
  have hTl : T.size = b.size + p.size := by rw [hT]; simp
  have hmul : (b.size + p.size) % 136 = 0 := by rw [hpz]; exact M.padL_mul b.size
  obtain ⟨K, hK⟩ : ∃ K, K = (b.size + p.size) / 136 := ⟨_, rfl⟩
  have hlen : T.size = 136 * K := by omega
  have hK9 : T.size ≤ 2000 := by omega
  have hbl : b.size = b.data.toList.length := by rw [Array.length_toList]; rfl
  have HS : Hid (M.sumL b.data.toList = M.outL (M.blocksL K z25 t)) := by
    show _ = _
    unfold M.sumL
    rw [← hbl, ← hpz, ← hK, ← ht]
    rfl
  have htl : t.length = T.size := by rw [ht, List.length_append, ← hpz, ← hbl, hTl]
  have HT := Lib.hid hT
  have HTt := Lib.hid hTt
  have Htl := Lib.hid htl
  have HL := Lib.hid hlen
  clear hp hpz hT ht hTt hTl hmul hK hlen hbl htl
  go_enter Tryz.func37, Tryz.ntmps37
  go_wp2_with (go_at_call 69; refine (hkp _).mono ?_; rintro e w1 ⟨rfl, hb1⟩)
  rw [← HT.out, lv_zero]
  obtain ⟨S, hS⟩ : ∃ S, S = w1.heap.size := ⟨_, rfl⟩
  have jR : Rw (w1.alloc (Obj.cells (lv z25) 54)) S 54 z25 := Rw.at_ _ _ _ hS.symm
  have hs1 := hb1.size
  have jW : Below w.heap.size w (w1.alloc (Obj.cells (lv z25) 54)) := hb1.alloc hs1 _
  have hwS : w.heap.size ≤ S := by omega
  rw [← hS]
  clear hS hs1 hb1 hkp hpl hs
  generalize w1.alloc (Obj.cells (lv z25) 54) = w2 at *
  go_loopw [7] (fun v wr => ∃ j : Nat, j ≤ K ∧ v = .int .i64 ((136 * j : Nat) : Int) ∧ Rw wr S 54 (stP z25 t j) ∧ Below w.heap.size w wr) (fun v _ => 136 * K - (intOf v).toNat)
  case atStart => exact ⟨0, Nat.zero_le _, rfl, jR, jW⟩
  case round =>
    clear jR jW
    obtain ⟨j, hj, rfl, hR, hW⟩ := hrel
    obtain ⟨A, hA⟩ : ∃ A, A = 136 * j := ⟨_, rfl⟩
    rw [← hA]
    by_cases hlt : j < K
    · have hAT : (A : Int) < (T.size : Int) := by have := HL.out; omega
      have hAT2 : A + 136 ≤ T.size := by have := HL.out; omega
      have HLn := Lib.hid (stP_lanes z25_lanes t j)
      have HN := Lib.hid (stP_succ z25 t j)
      have Hb : Hid (((t.drop (136 * j)).take 136).length = 136) := by
        show _ = _
        have h4 := Htl.out
        rw [List.length_take, List.length_drop]
        omega
      have Hbk : Hid (∀ i, i < 136 → ((t.drop (136 * j)).take 136).getD i 0 = t.getD (A + i) 0) := fun i hi => by
        rw [hA]
        simp [List.getD_eq_getElem?_getD, hi]
      have HA := Lib.hid hA
      clear hA
      generalize stP z25 t j = a at *
      generalize (t.drop (136 * j)).take 136 = blk at *
      go_wp2_with fail
      go_loopw [8] (fun v wq => ∃ i : Nat, i ≤ 136 ∧ v = .int .i64 (i : Int) ∧ Rw wq S 54 (M.absP a blk i) ∧ Below w.heap.size w wq) (fun v _ => 136 - (intOf v).toNat)
      case atStart => exact ⟨0, Nat.zero_le _, rfl, by rw [M.absP_zero HLn.out.1]; exact hR, hW⟩
      case round =>
        clear hR hW
        obtain ⟨i, hi, rfl, hR, hW⟩ := hrel
        by_cases hlti : i < 136
        · obtain ⟨z, hz⟩ : ∃ z, z = A + i := ⟨_, rfl⟩
          have hzT : z < T.size := by omega
          have hzT2 : (z : Int) < (T.size : Int) := by omega
          have HC : Hid ((blk.getD i 0).toNat = (T[z]).toNat) := by
            show _ = _
            rw [Hbk.out i hlti, byte_at T z hzT, HTt.out, hz]
          obtain ⟨c, hc⟩ : ∃ c, c = (T[z]).toNat := ⟨_, rfl⟩
          have hc5 : c < 256 := by rw [hc]; exact UInt8.toNat_lt _
          rw [← hc] at HC
          have hc2 := hc.symm
          clear hc
          have wz : IntKind.i64.wrap ((A : Int) + (i : Int)) = (z : Int) := by rw [IntWalk.i64_in _ (by omega)]; omega
          obtain ⟨q, hq⟩ : ∃ q, q = i / 8 := ⟨_, rfl⟩
          obtain ⟨d, hd⟩ : ∃ d, d = i % 8 := ⟨_, rfl⟩
          obtain ⟨s, hs⟩ : ∃ s, s = 8 * d := ⟨_, rfl⟩
          have t1 : ((i : Int)).tdiv 8 = (q : Int) := by rw [Int.tdiv_eq_ediv_of_nonneg (by omega)]; omega
          have t2 : ((i : Int)).tmod 8 = (d : Int) := by rw [Int.tmod_eq_emod_of_nonneg (by omega)]; omega
          have t3 : IntKind.i64.wrap ((d : Int) * 8) = (s : Int) := by rw [IntWalk.i64_in _ (by omega)]; omega
          have t0 : IntKind.i64.wrap (q : Int) = (q : Int) := IntWalk.i64_in _ (by omega)
          have tc : IntKind.u64.wrap (c : Int) = (c : Int) := by rw [IntKind.wrap_u64]; omega
          have ts : IntKind.u64.wrap (s : Int) = (s : Int) := by rw [IntKind.wrap_u64]; omega
          have hq5 : (q : Int) < 25 := by omega
          have hs5 : (s : Int) < 64 := by omega
          have hs0 : (0 : Int) ≤ (s : Int) := by omega
          have hLP := M.absP_lanes HLn.out blk i
          have ca := hR.cell (i := q) (by rw [hLP.1]; omega)
          have fa := hR.frozen q
          obtain ⟨u1, u2⟩ := shl_byte c d hc5 (by omega)
          have x1 := bits_xor_u64_nat _ _ (hLP.2 q) u2
          have HS2 := Lib.hid (abs_step (a := a) (b := blk) hlti (by rw [Hb.out]; exact hlti))
          rw [HC.out, ← hd, ← hq] at HS2
          rw [← hs] at u1 x1 HS2
          have hii : (i : Int) < 136 := by omega
          clear hq hd hs u2 hLP hc5 hz
          obtain ⟨v, hv⟩ : ∃ v, v = c * 2 ^ s := ⟨_, rfl⟩
          rw [← hv] at u1 x1 HS2
          clear hv
          go_wp2_with fail
          go_still_tail 19, mixed
          change wpList _ _ _ _ _ wr.drew
          go_wp2_with fail
          go_roundw
          case rel =>
            refine ⟨i + 1, by omega, by go_num, ?_, ?_⟩
            · rw [← HS2.out]; exact (hR.set_ _ _).drew
            · exact (hW.setCell hwS _).drew
          case measure => simp [intOf]; omega
        · obtain rfl : i = 136 := by omega
          rw [M.absP_all] at hR
          have HAb := Lib.hid (abs_lanes HLn.out blk)
          rw [show ((136 : Nat) : Int) = 136 from rfl]
          go_wp2_with (refine wpList_load_st rfl _ _ rfl _ rfl _ _ 25 23 hR Tryz.array25 Tryz.size25 HAb.out.1 ?_)
          refine (rperm _ _ HAb.out).mono ?_
          rintro e w5 ⟨rfl, hb5⟩
          have h25 := (M.perm_lanes HAb.out).1
          replace hR := hR.keep hb5
          replace hW := hW.trans (hb5.mono hW.size)
          go_wp2_with (refine wpList_store_st rfl _ _ _ rfl _ _ rfl rfl _ _ 25 hR Tryz.size25 h25 HAb.out.1 ?_)
          go_roundw
          case rel =>
            refine ⟨j + 1, by omega, ?_, ?_, ?_⟩
            · have := HA.out; congr 1; omega
            · rw [HN.out]; exact hR.row _
            · exact below_setRow hW hwS _
          case measure => have := HA.out; have := HL.out; simp [intOf]; omega
    · obtain rfl : j = K := by omega
      have hAT : (A : Int) = (T.size : Int) := by have := HL.out; omega
      obtain rfl : A = T.size := by have := HL.out; omega
      have HLs := Lib.hid (stP_lanes z25_lanes t j)
      rw [stP_all] at hR HLs
      clear hAT hA
      generalize M.blocksL j z25 t = a at *
      go_wp2_with fail
      have hSW := hR.lt
      go_loopw [9, 10] (fun v q wr => ∃ k : Nat, k ≤ 32 ∧ q = .int .i64 (k : Int) ∧ wr.ownsRow (S + 1) 5 1 v k (bcq ((M.outL a).take k)) ∧ Rw wr S 54 a ∧ Below w.heap.size w wr) (fun _ q _ => 32 - (intOf q).toNat)
      case atStart => exact ⟨0, by omega, rfl, World.ownsRow_nil _ _ _ _, hR, hW⟩
      case round =>
        clear hR hW hSW
        obtain ⟨k, hk, rfl, hown, hR, hW⟩ := hrel
        have hSW := hR.lt
        have hwW := hW.size
        by_cases hlt : k < 32
        · obtain ⟨c, hc⟩ : ∃ c, c = k / 8 := ⟨_, rfl⟩
          obtain ⟨d, hd⟩ : ∃ d, d = k % 8 := ⟨_, rfl⟩
          obtain ⟨s, hs⟩ : ∃ s, s = d * 8 := ⟨_, rfl⟩
          have t1 : (k : Int) / 8 = (c : Int) := by omega
          have t2 : (k : Int) % 8 = (d : Int) := by omega
          have t3 : (d : Int) * 8 = (s : Int) := by omega
          have hc5 : (c : Int) < 25 := by omega
          have hs5 : (s : Int) < 64 := by omega
          have hk5 : (k : Int) < 32 := by omega
          have ca := hR.cell (i := c) (by rw [HLs.out.1]; omega)
          have hob := ob_is a k s (by omega)
          rw [← hc] at hob
          obtain ⟨o, ho⟩ : ∃ o, o = (obF a k).toNat := ⟨_, rfl⟩
          have ho6 : o < 256 := by rw [ho]; exact UInt8.toNat_lt _
          have to1 : ((((M.gl a c : Nat) : Int)) / 2 ^ s).tmod 256 = (o : Int) := by
            rw [Int.tmod_eq_emod_of_nonneg (Int.ediv_nonneg (by omega) (Int.pow_nonneg (by omega))), hob, ho]
          have to2 : (o : Int) % 256 = (o : Int) := by omega
          have HO := Lib.hid ho
          have hset : bcq ((M.outL a).take (k + 1)) = bcq ((M.outL a).take k) ++ [.int .u8 ((obF a k).toNat : Int)] := by
            have hl : k < (M.outL a).length := by rw [← outP_all, outP_length]; exact hlt
            have hg : (M.outL a)[k] = obF a k := by
              simp only [M.outL, List.getElem_map, List.getElem_range]
              rfl
            rw [List.take_succ_eq_append_getElem hl, hg]
            simp [bcq]
          have HSet := Lib.hid hset
          clear hc hd hs hob ho hset
          go_wp2_with (at_builtin; refine wpList_append_own _ rfl _ _ 41 rfl (S + 1) 5 i0 (.int .u8 0) 1 1 Tryz.underlying41 HI.out hz0 hz1 hz2 rfl (by decide) _ _ _ rfl (hown.alloc _) ⟨wr.heap.size, 0, none⟩ 1 1 [.int .u8 (o : Int)] rfl rfl (cell_one_new _ _ _) (by simp [Value.oneCell']) (by unfold maxLen; omega) (by omega) (by simp; omega) ?_; intro v' w6 hown' hgrow _)
          have hown2 : w6.ownsRow (S + 1) 5 1 v' (k + 1) (bcq ((M.outL a).take (k + 1))) := by
            rw [HSet.out, ← HO.out]
            exact hown'
          have hlt2 := hown.lt
          have hb2 : Below w.heap.size w w6 := (hW.alloc hwW _).grown hgrow (by simp; omega) (fun q e => by have := (hlt2 q e).1; omega)
          have hR2 : Rw w6 S 54 a := (hR.alloc _).grown hgrow (fun e => by have := (hlt2 S e.symm).1; omega)
          go_roundw
          case rel => exact ⟨k + 1, by omega, by go_num, hown2, hR2, hb2⟩
          case measure => simp [intOf]; omega
        · obtain rfl : k = 32 := by omega
          obtain ⟨g, cap, rfl, hgB, hgl, hBs, hfr⟩ := own_bytes hown (by omega)
          have e32 : (M.outL a).take 32 = M.outL a := List.take_of_length_le (by rw [← outP_all, outP_length]; exact Nat.le_refl _)
          rw [e32] at hBs
          have hcv := hBs.conv (n := 32) (by rw [← outP_all, outP_length]) cap
          clear hfr hBs e32 hown
          go_wp2_with fail
          go_ret
          rw [HS.out]
          exact ⟨rfl, hW⟩
end Go.Proofs.YtaajkbclojmbeaaGreatDoor
namespace Go.Proofs.YtaajkbclojmbeaaGreatDoor
open Go Go.RowKit

theorem M.le_f32 {N : Nat} (h : N < 4294967296) : (M.tr (M.f32 N)).length ≤ 4 := (M.tr_width (k := 4) (by unfold M.In; omega)).2 (by omega)
set_option maxHeartbeats 1000000 in
theorem zoffset_any (N : Nat) (w : World) (h : N < 4294967296) :
    Calls Tryz.prog 150 #[.int .i64 N] w fun e w' => e = .returned (.string ⟨(M.le 4 N).toArray⟩) ∧ Below w.heap.size w w' := by
  have HL := Lib.hid (fun W => rle_ok N 4 W (by omega) (by omega) (by omega) (M.le_f32 h))
  have hw : IntKind.u64.wrap (N : Int) = N := by
    simp only [IntKind.wrap, IntKind.bits, IntKind.signed]
    simp
    omega
  go_enter Tryz.func150, Tryz.ntmps150
  go_wp2_with fail
  refine (HL.out _).mono ?_
  rintro e w1 ⟨rfl, hb1⟩
  go_wp2_with fail
  go_ret
  exact ⟨rfl, hb1⟩
theorem be_at (k : Nat) : ∀ (N j : Nat), j < k → (M.be k N)[k - 1 - j]? = some (UInt8.ofNat (N / 256 ^ j % 256)) := by
  induction k with
  | zero => intro N j h; omega
  | succ k ih =>
    intro N j h
    rw [M.be]
    cases j with
    | zero => simp [M.be_length]
    | succ j =>
      rw [List.getElem?_append_left (by rw [M.be_length]; omega), show k + 1 - 1 - (j + 1) = k - 1 - j by omega, ih (N / 256) j (by omega), Nat.div_div_eq_div_mul, Nat.pow_succ, Nat.mul_comm]
theorem f32_at (N j : Nat) (hj : j < 32) : ((M.f32 N)[31 - j]'(by rw [M.f32_length]; omega)).toNat = N / 256 ^ j % 256 := by
  have h : (M.f32 N)[31 - j]? = some (UInt8.ofNat (N / 256 ^ j % 256)) := be_at 32 N j hj
  rw [List.getElem?_eq_getElem (by rw [M.f32_length]; omega)] at h
  rw [Option.some.inj h]
  simp
set_option maxRecDepth 100000 in
set_option maxHeartbeats 2000000 in
theorem zlow_any (N n : Nat) (w : World) (hn1 : 1 ≤ n) (hn : n ≤ 32) :
    Calls Tryz.prog 39 #[wn N, .int .i64 n] w fun e w' => e = .returned (.string ⟨(M.le n N).toArray⟩) ∧ Below w.heap.size w w' := by
  obtain ⟨i0, hi, hz0, hz1, hz2⟩ := info_parts Tryz.infoU8
  obtain ⟨l, hl⟩ : ∃ l, M.f32 N = l := ⟨_, rfl⟩
  have h32 : l.length = 32 := by rw [← hl]; exact M.f32_length N
  have hat : Hid (∀ j (hj : j < 32), (l[31 - j]'(by omega)).toNat = N / 256 ^ j % 256) := by
    show ∀ j (hj : j < 32), (l[31 - j]'(by omega)).toNat = N / 256 ^ j % 256
    subst hl
    exact fun j hj => f32_at N j hj
  have HF := Lib.hid (fun W => rfixed_any N W)
  rw [hl] at HF
  clear hl
  go_enter Tryz.func39, Tryz.ntmps39
  go_wp2_with fail
  refine (HF.out _).mono ?_
  rintro e w1 ⟨rfl, hb1⟩
  have hbw : Below w.heap.size w w1 := ((Below.refl _ _).alloc (Nat.le_refl _) _).trans (Below.mono hb1 (by simp))
  go_wp2_with fail
  go_loopw [6, 7] (fun v i wr => ∃ j : Nat, j ≤ n ∧ i = .int .i64 j ∧ wr.ownsRow w1.heap.size 5 1 v j ((lo8 N j).map (Value.int .u8)) ∧ Below w1.heap.size w1 wr)
    (fun _ i _ => n - (intOf i).toNat)
  case atStart => exact ⟨0, by omega, rfl, World.ownsRow_nil _ _ _ _, Below.refl _ _⟩
  case round =>
    obtain ⟨j, hj, rfl, hown, LW⟩ := hrel
    by_cases hlt : j < n
    · have hsz := LW.size
      have hp : (0 : Int) ≤ 31 - (j : Int) := by omega
      have hp2 : (31 : Int) - (j : Int) < 32 := by omega
      have hz : (((⟨l.toArray⟩ : ByteArray)[31 - j]'(by simp [ByteArray.size]; omega)).toNat : Int) = ((N / 256 ^ j % 256 : Nat) : Int) := by
        rw [← hat.out j (by omega)]
        rfl
      generalize hzz : ((N / 256 ^ j % 256 : Nat) : Int) = z at hz
      have HZ := Lib.hid hzz
      clear hzz
      go_wp2_with (at_builtin; refine wpList_append_own _ rfl _ _ 41 rfl w1.heap.size 5 i0 (.int .u8 0) 1 1 Tryz.underlying41 hi hz0 hz1 hz2 rfl (by decide) _ _ _ rfl (hown.alloc _) ⟨wr.heap.size, 0, none⟩ 1 1 [.int .u8 z] rfl rfl (cell_one_new _ _ _) (by simp [Value.oneCell']) (by unfold maxLen; omega) (by omega) (by simp; omega) ?_; intro v' w2 hown' hgrow _)
      have hown2 : w2.ownsRow w1.heap.size 5 1 v' (j + 1) ((lo8 N (j + 1)).map (Value.int .u8)) := by
        rw [lo8_succ, HZ.out, List.map_append]
        exact hown'
      have hbel : Below w1.heap.size wr w2 := ((Below.refl _ wr).alloc (by omega) _).grown hgrow (by simp; omega) (fun q e => (hown.lt q e).1)
      clear hown hown' hgrow
      go_wp2_with fail
      exact ⟨⟨j + 1, by omega, by simp, hown2, LW.trans hbel⟩, by simp [intOf]; omega⟩
    · obtain rfl : j = n := by omega
      obtain ⟨g, cap, rfl, hcells⟩ := row_cells hown (by omega)
      have hr := run_convert_bytes_arg wr 41 5 Tryz.underlying41 Tryz.underlying5 g 0 j cap (lo8 N j) (lo8_length N j) (fun i hi => by rw [Nat.zero_add]; exact hcells i (by rw [lo8_length]; exact hi)) 9 Tryz.underlying9
      clear hown hcells
      have e : strOfNums (lo8 N j) = ⟨(M.le j N).toArray⟩ := by unfold strOfNums; rw [lo8_bytes]
      rw [e] at hr
      clear e
      go_wp2_with fail
      go_ret
      exact ⟨rfl, hbw.trans (LW.mono hbw.size)⟩
end Go.Proofs.YtaajkbclojmbeaaGreatDoor
namespace Go.Proofs.YtaajkbclojmbeaaGreatDoor
open Go Go.RowKit Go.Shelf Go.Lib
attribute [local go_sem] Oper.semAt_some

/-- What a round of the first loop keeps: a power of two. -/
def XA (D : Nat) (w : World) (x : Value) (wr : World) : Prop := ∃ d : Nat, d ≤ D ∧ x = .int .i64 ((2 ^ d : Nat) : Int) ∧ w = wr
/-- The second loop: so many chunks of the row stand. -/
def XB (w : World) (L : List (List UInt8)) (r i : Value) (wr : World) : Prop := ∃ j : Nat, j ≤ L.length ∧ i = .int .i64 (j : Nat) ∧ OwS w.heap.size (L.take j) r wr ∧ Below w.heap.size w wr
/-- The third loop: a row that sums up to the root. -/
def XC (w : World) (D : Nat) (T : List UInt8) (r : Value) (wr : World) : Prop := ∃ (d : Nat) (L : List (List UInt8)) (a : Option Addr) (cap : Nat), d ≤ D ∧ L.length = 2 ^ d ∧ L.all M.isC = true ∧ M.ups d L = [T] ∧ r = .slice a L.length cap ∧ Ts wr wr.heap.size L (.slice a L.length cap) ∧ Below w.heap.size w wr
/-- The fourth: so many pairs of it. -/
def XD (w : World) (L : List (List UInt8)) (u i : Value) (wr : World) : Prop := ∃ j : Nat, j ≤ (M.pairUp L).length ∧ i = .int .i64 ((2 * j : Nat) : Int) ∧ OwS w.heap.size ((M.pairUp L).take j) u wr ∧ Below w.heap.size w wr
set_option maxRecDepth 100000 in
set_option maxHeartbeats 8000000 in
theorem rtree_any (ls : List (List UInt8)) (m : Nat) (a : Option Addr) (cap : Nat) (w : World) (hT : Ts w w.heap.size ls (.slice a ls.length cap)) (h32 : ls.all M.isC = true) (hm : m ≤ 512) (hl : ls.length ≤ 2 ^ M.dep m) :
    Calls Tryz.prog 18 #[.slice a ls.length cap, .int .i64 (m : Nat)] w fun e w' => e = .returned (.string ⟨(M.treeT ls m).toArray⟩) ∧ Below w.heap.size w w' := by
  obtain ⟨D, hD⟩ : ∃ D, M.dep m = D := ⟨_, rfl⟩
  obtain ⟨T, hTT⟩ : ∃ T, M.treeT ls m = T := ⟨_, rfl⟩
  have hTD : M.treeD D ls M.z32 = T := by rw [← hTT, ← hD]; rfl
  have hD9 : D ≤ 9 := by rw [← hD]; exact M.dep_le m
  have HLT := Lib.hid (fun d => (M.dep_lt (d := d) hm))
  rw [hD] at HLT hl
  rw [hTT]
  have hUP := M.ups_pad D ls M.z32 hl
  rw [hTD] at hUP
  obtain ⟨L, hL⟩ : ∃ L, M.padC ls D = L := ⟨_, rfl⟩
  have HUP : Hid (M.ups D L = [T]) := by show _ = _; rw [← hL]; exact hUP
  have hLl : L.length = 2 ^ D := by rw [← hL]; exact M.padC_length hl
  have HLA : Hid (L.all M.isC = true) := by show _ = _; rw [← hL]; exact M.padC_all h32
  have HIN : Hid (∀ i, i < ls.length → L[i]? = ls[i]?) := fun i hi => by rw [← hL]; exact M.padC_in hi
  have HOUT : Hid (∀ i, ls.length ≤ i → i < 2 ^ D → L[i]? = some M.z32) := fun i hi h => by rw [← hL]; exact M.padC_out hi h
  have hp9 := pow_nine hD9
  have mixed : Tryz.prog.follows .mixedOrders = true := by kernel_rfl
  have HT := Lib.hid (fun X (h : Below w.heap.size w X) => (hT.from_ h).mono h.size)
  have HLL := Lib.hid hLl
  clear hTD hTT hD hUP hL hLl hT
  go_enter Tryz.func18, Tryz.ntmps18
  go_wp2_with fail
  go_loopw [5] (fun x wr => XA D w x wr) (fun x _ => 1024 - (RowKit.intOf x).toNat)
  case atStart => exact ⟨0, Nat.zero_le _, rfl, rfl⟩
  case round =>
    obtain ⟨d, hd, rfl, rfl⟩ := hrel
    have hlt := HLT.out d
    have hp9' := pow_nine (d := d) (by omega)
    obtain ⟨q, hq⟩ : ∃ q, 2 ^ d = q := ⟨_, rfl⟩
    have hq1 : 1 ≤ q := by rw [← hq]; exact Nat.pos_of_ne_zero (by simp)
    rw [hq] at hlt hp9' ⊢
    have HQ := Lib.hid hq
    clear hq
    by_cases hdl : d < D
    · have hqm : (q : Int) < (m : Nat) := by omega
      clear hlt
      go_wp2_with fail
      exact ⟨⟨d + 1, by omega, by rw [Nat.pow_succ, HQ.out]; push_cast; rfl, rfl⟩, by simp [RowKit.intOf]; omega⟩
    · obtain rfl : d = D := by omega
      have hqm : ¬ (q : Int) < (m : Nat) := by omega
      have HQL : Hid (L.length = q) := by show _ = _; rw [HLL.out, HQ.out]
      clear hlt hl hp9 hdl hd
      go_wp2_with fail
      go_loopw [6, 7] (fun r i wq => XB w L r i wq) (fun _ i _ => 1024 - (RowKit.intOf i).toNat)
      case atStart => exact ⟨0, Nat.zero_le _, rfl, OwS.nil _ _, Below.refl _ _⟩
      case round =>
        obtain ⟨j, hj, rfl, hO, hbq⟩ := hrel
        rw [HQL.out] at hj
        obtain ⟨lb, ld, hlv⟩ := hO.len
        have htl : (L.take j).length = j := by rw [List.length_take, HQL.out]; omega
        rw [htl] at hlv
        subst hlv
        by_cases hlt : j < q
        · have hjq : (j : Int) < q := by omega
          by_cases hin : j < ls.length
          · have hjl : (j : Int) < ls.length := by omega
            obtain ⟨b, o, s, rfl, hbn, hs, hc⟩ := (HT.out wr hbq).at_ hin
            have hLj : L[j]? = some s := by rw [HIN.out j hin, hs]
            have HLJ := Lib.hid (M.take_one hLj)
            obtain ⟨wx, hwx⟩ : ∃ wx, wr.alloc (.cells #[.string ⟨s.toArray⟩] 9) = wx := ⟨_, rfl⟩
            have hrq : Below wr.heap.size wr wx := by rw [← hwx]; exact (Below.refl _ _).alloc (Nat.le_refl _) _
            have hcq : wx.cell? ⟨wr.heap.size, 0, none⟩ = some (.string ⟨s.toArray⟩) := by rw [← hwx]; simp [go_sem]
            have hOq := hO.from_ hrq
            have hbw := hbq.trans (hrq.mono hbq.size)
            have HAP2 := Lib.hid (run_append_txt wx 22 w.heap.size (L.take j) s wr.heap.size _ hOq hcq (by rw [htl]; omega) hbw.size)
            have HROW := Lib.hid (fun g e => (hOq.lt g e).1)
            have HWQ := Lib.hid hwx
            have HBW := Lib.hid hbw
            clear hwx hrq hcq hOq hbw hO hbq htl hLj hs
            go_wp2_with (at_builtin; rw [HWQ.out]; refine wpList_append9 rfl _ _ rfl _ _ rfl rfl w.heap.size _ HAP2.out ?_; intro v4 w4 hA4)
            have hown := hA4.own
            rw [← HLJ.out] at hown
            have hbz := HBW.out.grown hA4.grown HBW.out.size (fun g e => HROW.out g e)
            exact ⟨⟨j + 1, by rw [HQL.out]; omega, by push_cast; rfl, hown, hbz⟩, by simp [RowKit.intOf]; omega⟩
          · have hjl : ¬ (j : Int) < ls.length := by omega
            have hmk : (Instr.makeSlice 41 (.int .i64 32) (.int .i64 32)).run Tryz.prog wr = .ok (.slice (some ⟨wr.heap.size, 0, none⟩) 32 32) (wr.alloc (.cells (bv (zb 32)) 5)) := make_zb 32 (by omega) wr
            have hBz : Br (wr.alloc (.cells (bv (zb 32)) 5)) wr.heap.size (zb 32) := Br.at_ _ _ rfl
            have hcv := hBz.conv (n := 32) (by rw [zb_length]) 32
            have hLj : L[j]? = some (zb 32) := by rw [HOUT.out j (by omega) (by rw [HQ.out]; omega)]; rfl
            have HLJ := Lib.hid (M.take_one hLj)
            obtain ⟨wx, hwx⟩ : ∃ wx, (wr.alloc (.cells (bv (zb 32)) 5)).alloc (.cells #[.string ⟨(zb 32).toArray⟩] 9) = wx := ⟨_, rfl⟩
            have hrq : Below wr.heap.size wr wx := by rw [← hwx]; exact ((Below.refl _ _).alloc (Nat.le_refl _) _).alloc (by simp) _
            have hcq : wx.cell? ⟨wr.heap.size + 1, 0, none⟩ = some (.string ⟨(zb 32).toArray⟩) := by rw [← hwx]; simp [go_sem]
            have hOq := hO.from_ hrq
            have hbw := hbq.trans (hrq.mono hbq.size)
            have HAP2 := Lib.hid (run_append_txt wx 22 w.heap.size (L.take j) (zb 32) (wr.heap.size + 1) _ hOq hcq (by rw [htl]; omega) hbw.size)
            have HROW := Lib.hid (fun g e => (hOq.lt g e).1)
            have HWQ := Lib.hid hwx
            have HBW := Lib.hid hbw
            clear hBz hwx hrq hcq hOq hbw hO hbq htl hLj
            generalize zb 32 = z at *
            go_wp2_with (at_builtin; rw [HWQ.out]; refine wpList_append9 rfl _ _ rfl _ _ rfl rfl w.heap.size _ HAP2.out ?_; intro v4 w4 hA4)
            have hown := hA4.own
            rw [← HLJ.out] at hown
            have hbz := HBW.out.grown hA4.grown HBW.out.size (fun g e => HROW.out g e)
            exact ⟨⟨j + 1, by rw [HQL.out]; omega, by push_cast; rfl, hown, hbz⟩, by simp [RowKit.intOf]; omega⟩
        · obtain rfl : j = q := by omega
          have hjq : ¬ (j : Int) < (j : Int) := by omega
          rw [List.take_of_length_le (by rw [HQL.out]; exact Nat.le_refl _)] at hO
          have HTS := Lib.hid hO.ts
          have HBQ := Lib.hid hbq
          clear hO hbq htl hlt hj
          go_wp2_with fail
          go_loopw [6] (fun r wq => XC w d T r wq) (fun r _ => lenVs r)
          case atStart => exact ⟨d, L, lb, ld, Nat.le_refl _, HLL.out, HLA.out, HUP.out, by rw [HQL.out], by rw [HQL.out]; exact HTS.out, HBQ.out⟩
          case round =>
            clear HTS HBQ HUP HLA HIN HOUT HLL HQL HQ HT HLT hq1 hp9' hjq hqm
            obtain ⟨d, L, a2, c2, hd, hLl, hLA, hUP, rfl, hTw, hbw⟩ := hrel
            have hp9 := pow_nine (d := d) (by omega)
            cases d with
            | zero =>
              obtain rfl : L = [T] := hUP
              obtain ⟨b, o, s, rfl, hbn, hs, hc⟩ := hTw.at_ (i := 0) (by simp)
              obtain rfl : T = s := by simpa using hs
              rw [Nat.add_zero] at hc
              have HBW := Lib.hid hbw
              clear hTw hbw hs
              go_wp2_with fail
              go_ret
              exact ⟨rfl, HBW.out⟩
            | succ d =>
              have hpn : 2 ^ (d + 1) = 2 * 2 ^ d := by rw [Nat.pow_succ]; omega
              have hpl := M.pairUp_length L
              have hplp : (M.pairUp L).length = 2 ^ d := by rw [hpl, hLl, hpn]; omega
              obtain ⟨p, hp⟩ : ∃ p, 2 ^ d = p := ⟨_, rfl⟩
              have HP := Lib.hid hp
              have hp1 : 1 ≤ p := by rw [← hp]; exact Nat.pos_of_ne_zero (by simp)
              rw [hp] at hplp hpn
              rw [hpn] at hLl hp9
              obtain ⟨q, hq⟩ : ∃ q, L.length = q := ⟨_, rfl⟩
              have hL1 : (1 : Int) < q := by omega
              have hq2 : q = 2 * p := by omega
              have hq9 : q ≤ 512 := by omega
              have hp512 : p ≤ 512 := by omega
              have HPL := Lib.hid hplp
              have HLL := Lib.hid hLl
              have HTW := Lib.hid (fun X (h : Below wr.heap.size wr X) => (hTw.from_ h).mono h.size)
              rw [hq] at HTW ⊢
              have HQ2 := Lib.hid hq2
              have HAT := Lib.hid (fun j a b => M.pairUp_at L j a b)
              have H32 := Lib.hid (fun j a => M.isC_at hLA (j := j) (a := a))
              have HBW := Lib.hid hbw
              have HUP : Hid (M.ups d (M.pairUp L) = [T]) := hUP
              obtain ⟨W3, rfl⟩ : ∃ W3, W3 = wr := ⟨_, rfl⟩
              clear hTw hLA hbw hpl hplp hp hUP hpn hLl hq hq2 hp9
              go_wp2_with fail
              go_loopw [8, 9] (fun u i wq => XD W3 L u i wq) (fun _ i _ => 2048 - (RowKit.intOf i).toNat)
              case atStart => exact ⟨0, Nat.zero_le _, rfl, OwS.nil _ _, Below.refl _ _⟩
              case round =>
                obtain ⟨j, hj, rfl, hO, hbq⟩ := hrel
                rw [HPL.out] at hj
                obtain ⟨lb, ld, hlv⟩ := hO.len
                have htl : ((M.pairUp L).take j).length = j := by rw [List.length_take, HPL.out]; omega
                rw [htl] at hlv
                subst hlv
                obtain ⟨t, ht⟩ : ∃ t, 2 * j = t := ⟨_, rfl⟩
                rw [ht]
                by_cases hlt : j < p
                · have htL : (t : Int) < q := by have := HQ2.out; omega
                  have htL1 : (t : Int) + 1 < q := by have := HQ2.out; omega
                  obtain ⟨b, o, s, rfl, hbn, hs, hc⟩ := (HTW.out W3 (Below.refl _ _)).at_ (i := t) (by have := HLL.out; omega)
                  obtain ⟨b2, o2, s2, e2, _, hs2, hc2⟩ := (HTW.out W3 (Below.refl _ _)).at_ (i := t + 1) (by have := HLL.out; omega)
                  cases e2
                  have hPJ := HAT.out j s s2 (by rw [ht]; exact hs) (by rw [ht]; exact hs2)
                  have HLJ := Lib.hid (M.take_one hPJ)
                  have hs32 := H32.out _ _ hs
                  have hs232 := H32.out _ _ hs2
                  obtain ⟨y, hy⟩ : ∃ y, s ++ s2 = y := ⟨_, rfl⟩
                  have hcat : (⟨s.toArray⟩ : ByteArray) ++ ⟨s2.toArray⟩ = ⟨y.toArray⟩ := by rw [← hy]; apply ByteArray.ext; simp
                  have hyl : y.length = 64 := by rw [← hy]; simp; omega
                  rw [hy] at HLJ
                  have HSUM := Lib.hid (fun X => rsum ⟨y.toArray⟩ X (by simp [ByteArray.size]; omega))
                  rw [show (⟨y.toArray⟩ : ByteArray).data.toList = y by simp] at HSUM
                  generalize M.sumL y = z at *
                  have HO := Lib.hid hO
                  have HBQ := Lib.hid hbq
                  have HT2 := Lib.hid ht
                  clear hO hs hs2 hPJ hy hyl ht htl
                  obtain ⟨i1, hi1, hiz, his, hib⟩ := info_parts Tryz.ofTxt
                  have htI : ((t + 1 : Nat) : Int) = (t : Int) + 1 := by omega
                  go_wp2_with fail
                  refine wp_region_held (S := fun Y => Below W3.heap.size W3 Y) mixed ?_
                  have hS0 : Below W3.heap.size W3 wr.drew := Below.drew hbq
                  clear hbq
                  rw [show Array.replicate (Array.size _) false = #[false, false, false, false, false, false, false, false, false, false, false, false, false, false, false] from rfl, show Array.size (α := Oper) _ = 15 from rfl]
                  refine wpAnyH_take (i := 0) (v := .slice lb j ld) rfl (by kernel_rfl) (by kernel_rfl) (by kernel_rfl) (fun _ _ _ h => h) (Or.inl ⟨by rfl, ?_⟩) hS0 ?_
                  · intro Y hY
                    skip
                    go_simp
                  simp only [Act.put, List.getElem_toArray, List.getElem_cons_zero, List.setIfInBounds_toArray, List.set_cons_zero, List.set_cons_succ]
                  refine wpAnyH_take (i := 1) (v := .slice (some ⟨b, o, none⟩) q c2) rfl (by kernel_rfl) (by kernel_rfl) (by kernel_rfl) (fun _ _ _ h => h) (Or.inl ⟨by rfl, ?_⟩) hS0 ?_
                  · intro Y hY
                    skip
                    go_simp
                  simp only [Act.put, List.getElem_toArray, List.getElem_cons_succ, List.getElem_cons_zero, List.setIfInBounds_toArray, List.set_cons_zero, List.set_cons_succ]
                  refine wpAnyH_take (i := 2) (v := .int .i64 (t : Nat)) rfl (by kernel_rfl) (by kernel_rfl) (by kernel_rfl) (fun _ _ _ h => h) (Or.inl ⟨by rfl, ?_⟩) hS0 ?_
                  · intro Y hY
                    skip
                    go_simp
                  simp only [Act.put, List.getElem_toArray, List.getElem_cons_succ, List.getElem_cons_zero, List.setIfInBounds_toArray, List.set_cons_zero, List.set_cons_succ]
                  refine wpAnyH_take (i := 3) (v := .pointer (some ⟨b, o + t, none⟩)) rfl (by kernel_rfl) (by kernel_rfl) (by kernel_rfl) (fun _ _ _ h => h) (Or.inl ⟨by rfl, ?_⟩) hS0 ?_
                  · intro Y hY
                    skip
                    go_simp
                  simp only [Act.put, List.getElem_toArray, List.getElem_cons_succ, List.getElem_cons_zero, List.setIfInBounds_toArray, List.set_cons_zero, List.set_cons_succ]
                  refine wpAnyH_take (i := 4) (v := .string ⟨s.toArray⟩) rfl (by kernel_rfl) (by kernel_rfl) (by kernel_rfl) (fun _ _ _ h => h) (Or.inl ⟨by rfl, ?_⟩) hS0 ?_
                  · intro Y hY
                    have f0 := (hY.cell (p := ⟨b, o + t, none⟩) hbn).trans hc
                    go_simp
                  simp only [Act.put, List.getElem_toArray, List.getElem_cons_succ, List.getElem_cons_zero, List.setIfInBounds_toArray, List.set_cons_zero, List.set_cons_succ]
                  refine wpAnyH_take (i := 5) (v := .slice (some ⟨b, o, none⟩) q c2) rfl (by kernel_rfl) (by kernel_rfl) (by kernel_rfl) (fun _ _ _ h => h) (Or.inl ⟨by rfl, ?_⟩) hS0 ?_
                  · intro Y hY
                    skip
                    go_simp
                  simp only [Act.put, List.getElem_toArray, List.getElem_cons_succ, List.getElem_cons_zero, List.setIfInBounds_toArray, List.set_cons_zero, List.set_cons_succ]
                  refine wpAnyH_take (i := 6) (v := .int .i64 (t : Nat)) rfl (by kernel_rfl) (by kernel_rfl) (by kernel_rfl) (fun _ _ _ h => h) (Or.inl ⟨by rfl, ?_⟩) hS0 ?_
                  · intro Y hY
                    skip
                    go_simp
                  simp only [Act.put, List.getElem_toArray, List.getElem_cons_succ, List.getElem_cons_zero, List.setIfInBounds_toArray, List.set_cons_zero, List.set_cons_succ]
                  refine wpAnyH_take (i := 7) (v := .int .i64 ((t + 1 : Nat) : Int)) rfl (by kernel_rfl) (by kernel_rfl) (by kernel_rfl) (fun _ _ _ h => h) (Or.inl ⟨by rfl, ?_⟩) hS0 ?_
                  · intro Y hY
                    skip
                    go_simp
                    rw [IntKind.wrap_i64]
                    omega
                  simp only [Act.put, List.getElem_toArray, List.getElem_cons_succ, List.getElem_cons_zero, List.setIfInBounds_toArray, List.set_cons_zero, List.set_cons_succ]
                  refine wpAnyH_take (i := 8) (v := .pointer (some ⟨b, o + (t + 1), none⟩)) rfl (by kernel_rfl) (by kernel_rfl) (by kernel_rfl) (fun _ _ _ h => h) (Or.inl ⟨by rfl, ?_⟩) hS0 ?_
                  · intro Y hY
                    skip
                    go_simp
                    try (intro h; omega)
                  simp only [Act.put, List.getElem_toArray, List.getElem_cons_succ, List.getElem_cons_zero, List.setIfInBounds_toArray, List.set_cons_zero, List.set_cons_succ]
                  refine wpAnyH_take (i := 9) (v := .string ⟨s2.toArray⟩) rfl (by kernel_rfl) (by kernel_rfl) (by kernel_rfl) (fun _ _ _ h => h) (Or.inl ⟨by rfl, ?_⟩) hS0 ?_
                  · intro Y hY
                    have f0 := (hY.cell (p := ⟨b, o + (t + 1), none⟩) hbn).trans hc2
                    go_simp
                  simp only [Act.put, List.getElem_toArray, List.getElem_cons_succ, List.getElem_cons_zero, List.setIfInBounds_toArray, List.set_cons_zero, List.set_cons_succ]
                  refine wpAnyH_take (i := 10) (v := .string ⟨y.toArray⟩) rfl (by kernel_rfl) (by kernel_rfl) (by kernel_rfl) (fun _ _ _ h => h) (Or.inl ⟨by rfl, ?_⟩) hS0 ?_
                  · intro Y hY
                    skip
                    go_simp
                    try rw [hcat]
                    try omega
                  simp only [Act.put, List.getElem_toArray, List.getElem_cons_succ, List.getElem_cons_zero, List.setIfInBounds_toArray, List.set_cons_zero, List.set_cons_succ]
                  refine wpAnyH_ready (rs := [11]) (by kernel_rfl) (by simp) ?_
                  refine AllReadyH.cons rfl (fun K hK => ?_) AllReadyH.nil
                  go_simp
                  refine (HSUM.out _).mono ?_
                  rintro e w5 ⟨rfl, hb5⟩
                  have hbS5 : Below W3.heap.size W3 w5 := hS0.trans (Below.mono hb5 hS0.size)
                  try go_wp2_with fail
                  refine hK.out _ _ hbS5 (fun _ => ?_)
                  clear hK K
                  simp only [List.setIfInBounds_toArray, List.set_cons_zero, List.set_cons_succ]
                  refine wpAnyH_ready (rs := [12]) (by kernel_rfl) (by simp) ?_
                  refine AllReadyH.cons rfl (fun K hK => ?_) AllReadyH.nil
                  rw [if_pos (by rfl)]
                  refine wp_build_one 22 9 (.tmp 56) (.string ⟨z.toArray⟩) (.string ⟨#[]⟩) i1 rfl rfl rfl Tryz.underlying22 hi1 hiz his rfl ?_
                  obtain ⟨w6, hw6⟩ : ∃ w6, w5.alloc (.cells #[.string ⟨z.toArray⟩] 9) = w6 := ⟨_, rfl⟩
                  have hb56 : Below w5.heap.size w5 w6 := by rw [← hw6]; exact (Below.refl _ _).alloc (Nat.le_refl _) _
                  have hc6 : w6.cell? ⟨w5.heap.size, 0, none⟩ = some (.string ⟨z.toArray⟩) := by rw [← hw6]; simp [go_sem]
                  have hbS6 : Below W3.heap.size W3 w6 := hbS5.trans (hb56.mono hbS5.size)
                  have hd1 : Below wr.heap.size wr wr.drew := Below.drew (Below.refl _ _)
                  have hbr6 : Below wr.heap.size wr w6 := hd1.trans (Below.trans hb5 (hb56.mono hb5.size))
                  have hO6 := HO.out.from_ hbr6
                  rw [hw6]
                  clear hw6
                  refine hK.out _ _ hbS6 (fun _ => ?_)
                  clear hK K
                  simp only [List.setIfInBounds_toArray, List.set_cons_zero, List.set_cons_succ]
                  refine wpAnyH_ready (rs := [13]) (by kernel_rfl) (by simp) ?_
                  refine AllReadyH.cons rfl (fun K hK => ?_) AllReadyH.nil
                  rw [if_pos (by rfl)]
                  refine wp_append_txt w6 _ _ rfl W3.heap.size ((M.pairUp L).take j) z w5.heap.size (.slice lb j ld) rfl rfl hO6 hc6 (by rw [List.length_take, HPL.out]; omega) hbS6.size ?_
                  intro v' w7 hA7
                  have hrow : ∀ g, (Value.slice lb j ld).ownBlock = some g → W3.heap.size ≤ g ∧ g < wr.heap.size := HO.out.lt
                  have hbS7 : Below W3.heap.size W3 w7 := hbS6.grown hA7.grown hbS6.size (fun g e => (hrow g e).1)
                  refine hK.out _ _ hbS7 (fun _ => ?_)
                  clear hK K
                  simp only [List.setIfInBounds_toArray, List.set_cons_zero, List.set_cons_succ]
                  refine wpAnyH_ready (rs := [14]) (by kernel_rfl) (by simp) ?_
                  refine AllReadyH.cons rfl (fun K hK => ?_) AllReadyH.nil
                  go_simp
                  refine hK.out _ _ hbS7 (fun _ => ?_)
                  clear hK K
                  simp only [List.setIfInBounds_toArray, List.set_cons_zero, List.set_cons_succ]
                  refine wpAnyH_done (by kernel_rfl) ?_ _
                  have hAO := hA7.own
                  rw [← HLJ.out] at hAO
                  have HAO := Lib.hid hAO
                  have HS7 := Lib.hid hbS7
                  clear hA7 hAO hbS7 hO6 hS0
                  go_wp2_with fail
                  exact ⟨⟨j + 1, by rw [HPL.out]; omega, by have := HT2.out; congr 1; omega, HAO.out, HS7.out⟩, by have := HT2.out; simp [RowKit.intOf]; omega⟩
                · obtain rfl : j = p := by omega
                  have htL : ¬ (t : Int) < q := by have := HQ2.out; omega
                  rw [List.take_of_length_le (by rw [HPL.out]; exact Nat.le_refl _)] at hO
                  have hts := hO.ts
                  have HX := Lib.hid hts
                  have HBN := Lib.hid (HBW.out.trans (hbq.mono HBW.out.size))
                  clear hts hO hbq htl
                  go_wp2_with fail
                  refine ⟨⟨d, M.pairUp L, lb, ld, by omega, by rw [HPL.out, HP.out], M.pairUp_all L, HUP.out, by rw [HPL.out], by rw [HPL.out]; exact HX.out, HBN.out⟩, ?_⟩
                  have := HQ2.out
                  simp [lenVs]
                  omega
end Go.Proofs.YtaajkbclojmbeaaGreatDoor
namespace Go.Proofs.YtaajkbclojmbeaaGreatDoor.M
open Go

theorem le_zero (m : Nat) : le m 0 = List.replicate m 0 := by
  induction m with
  | zero => rfl
  | succ m ih => rw [le, Nat.zero_div, ih, List.replicate_succ]; rfl
theorem le_pad : ∀ (n m N : Nat), N < 256 ^ n → le n N ++ List.replicate m 0 = le (n + m) N
  | 0, m, N, h => by
    obtain rfl : N = 0 := by simpa using h
    rw [Nat.zero_add, le_zero, le_zero]
    rfl
  | n + 1, m, N, h => by
    rw [show n + 1 + m = n + m + 1 by omega, le, le, List.cons_append, le_pad n m (N / 256) (by rw [Nat.pow_succ] at h; omega)]
theorem chunks_one {s : List UInt8} (h1 : 1 ≤ s.length) (h : s.length ≤ 32) : chunksT s = [fill32 s] := by
  unfold chunksT
  rw [show (s.length + 31) / 32 = 1 by omega]
  simp [List.range_succ, List.take_of_length_le h]
theorem pack_one {s : List UInt8} {m : Nat} (h1 : 1 ≤ s.length) (h : s.length ≤ 32) (hm : m ≤ 32) : packT s m = fill32 s := by
  unfold packT treeT
  rw [chunks_one h1 h]
  have : dep ((m + 31) / 32) = 0 := by
    unfold dep
    rw [if_pos (by omega)]
  rw [this]
  rfl
theorem putV1 (n : Int) (ts : List Ty) (num : Nat) (bits : List Bool) (items : List Va) (pick : Int) : putV (.mk 1 n ts) (.mk num bits items pick) = le n.toNat num := by
  rw [putV]
  exact if_pos rfl
theorem putV2 (n : Int) (ts : List Ty) (num : Nat) (bits : List Bool) (items : List Va) (pick : Int) : putV (.mk 2 n ts) (.mk num bits items pick) = le 1 num := by
  rw [putV]
  exact (if_neg (by show ¬ ((2 : Int) = 1); decide)).trans (if_pos rfl)
theorem putV5 (n : Int) (ts : List Ty) (num : Nat) (bits : List Bool) (items : List Va) (pick : Int) : putV (.mk 5 n ts) (.mk num bits items pick) = packB bits := by
  rw [putV]
  exact (if_neg (by show ¬ ((5 : Int) = 1); decide)).trans ((if_neg (by show ¬ ((5 : Int) = 2); decide)).trans (if_pos rfl))
theorem putV3 (n : Int) (ts : List Ty) (num : Nat) (bits : List Bool) (items : List Va) (pick : Int) : putV (.mk 3 n ts) (.mk num bits items pick) = rowB (putVs 3 ts pick 0 items) := by
  rw [putV]
  exact (if_neg (by show ¬ ((3 : Int) = 1); decide)).trans ((if_neg (by show ¬ ((3 : Int) = 2); decide)).trans ((if_neg (by show ¬ ((3 : Int) = 5); decide)).trans ((if_neg (by show ¬ ((3 : Int) = 6); decide)).trans ((if_neg (by show ¬ ((3 : Int) = 8); decide))))))
theorem putV4 (n : Int) (ts : List Ty) (num : Nat) (bits : List Bool) (items : List Va) (pick : Int) : putV (.mk 4 n ts) (.mk num bits items pick) = rowB (putVs 4 ts pick 0 items) := by
  rw [putV]
  exact (if_neg (by show ¬ ((4 : Int) = 1); decide)).trans ((if_neg (by show ¬ ((4 : Int) = 2); decide)).trans ((if_neg (by show ¬ ((4 : Int) = 5); decide)).trans ((if_neg (by show ¬ ((4 : Int) = 6); decide)).trans ((if_neg (by show ¬ ((4 : Int) = 8); decide))))))
theorem rootV1 (n : Int) (ts : List Ty) (num : Nat) (bits : List Bool) (items : List Va) (pick : Int) : rootV (.mk 1 n ts) (.mk num bits items pick) = le 32 num := by
  rw [rootV]
  exact if_pos (.inl rfl)
theorem rootV2 (n : Int) (ts : List Ty) (num : Nat) (bits : List Bool) (items : List Va) (pick : Int) : rootV (.mk 2 n ts) (.mk num bits items pick) = le 32 num := by
  rw [rootV]
  exact if_pos (.inr rfl)
theorem rootV5 (n : Int) (ts : List Ty) (num : Nat) (bits : List Bool) (items : List Va) (pick : Int) : rootV (.mk 5 n ts) (.mk num bits items pick) = packT (packB bits) ((n.toNat + 7) / 8) := by
  rw [rootV]
  exact (if_neg (by show ¬ ((5 : Int) = 1 ∨ (5 : Int) = 2); decide)).trans (if_pos rfl)
theorem rootV6 (n : Int) (ts : List Ty) (num : Nat) (bits : List Bool) (items : List Va) (pick : Int) : rootV (.mk 6 n ts) (.mk num bits items pick) = mixT (packT (packB bits) ((n.toNat + 7) / 8)) bits.length := by
  rw [rootV]
  exact (if_neg (by show ¬ ((6 : Int) = 1 ∨ (6 : Int) = 2); decide)).trans ((if_neg (by show ¬ ((6 : Int) = 5); decide)).trans (if_pos rfl))
theorem rootV8 (n : Int) (ts : List Ty) (num : Nat) (bits : List Bool) (items : List Va) (pick : Int) : rootV (.mk 8 n ts) (.mk num bits items pick) = mixT ((rootVs 8 ts pick 0 items).headD []) pick.toNat := by
  rw [rootV]
  exact (if_neg (by show ¬ ((8 : Int) = 1 ∨ (8 : Int) = 2); decide)).trans ((if_neg (by show ¬ ((8 : Int) = 5); decide)).trans ((if_neg (by show ¬ ((8 : Int) = 6); decide)).trans (if_pos rfl)))
theorem rootV7 (n : Int) (ts : List Ty) (num : Nat) (bits : List Bool) (items : List Va) (pick : Int) : rootV (.mk 7 n ts) (.mk num bits items pick) = treeT (rootVs 7 ts pick 0 items) ts.length := by
  rw [rootV]
  exact (if_neg (by show ¬ ((7 : Int) = 1 ∨ (7 : Int) = 2); decide)).trans ((if_neg (by show ¬ ((7 : Int) = 5); decide)).trans ((if_neg (by show ¬ ((7 : Int) = 6); decide)).trans ((if_neg (by show ¬ ((7 : Int) = 8); decide)).trans (if_pos rfl))))
/-- The root of a row's items. -/
def rowR (k n : Int) (ts : List Ty) (pick : Int) (items : List Va) : List UInt8 := if isPl (ts[0]?.getD default) = true then packT ((putVs k ts pick 0 items).flatMap (·.2)) (n.toNat * szT (ts[0]?.getD default)) else treeT (rootVs k ts pick 0 items) n.toNat
theorem rootV3 (n : Int) (ts : List Ty) (num : Nat) (bits : List Bool) (items : List Va) (pick : Int) : rootV (.mk 3 n ts) (.mk num bits items pick) = rowR 3 n ts pick items := by
  rw [rootV]
  refine (if_neg (by show ¬ ((3 : Int) = 1 ∨ (3 : Int) = 2); decide)).trans ((if_neg (by show ¬ ((3 : Int) = 5); decide)).trans ((if_neg (by show ¬ ((3 : Int) = 6); decide)).trans ((if_neg (by show ¬ ((3 : Int) = 8); decide)).trans ((if_neg (by show ¬ ((3 : Int) = 7); decide)).trans ?_))))
  by_cases h : isPl (ts[0]?.getD default) = true
  · refine (if_pos h).trans ((if_neg (by show ¬ ((3 : Int) = 4); decide)).trans ?_)
    unfold rowR
    rw [if_pos h]
    rfl
  · refine (if_neg h).trans ((if_neg (by show ¬ ((3 : Int) = 4); decide)).trans ?_)
    unfold rowR
    rw [if_neg h]
    rfl
theorem rootV4 (n : Int) (ts : List Ty) (num : Nat) (bits : List Bool) (items : List Va) (pick : Int) : rootV (.mk 4 n ts) (.mk num bits items pick) = mixT (rowR 4 n ts pick items) items.length := by
  rw [rootV]
  refine (if_neg (by show ¬ ((4 : Int) = 1 ∨ (4 : Int) = 2); decide)).trans ((if_neg (by show ¬ ((4 : Int) = 5); decide)).trans ((if_neg (by show ¬ ((4 : Int) = 6); decide)).trans ((if_neg (by show ¬ ((4 : Int) = 8); decide)).trans ((if_neg (by show ¬ ((4 : Int) = 7); decide)).trans ?_))))
  by_cases h : isPl (ts[0]?.getD default) = true
  · refine (if_pos h).trans ((if_pos rfl).trans ?_)
    unfold rowR
    rw [if_pos h]
    rfl
  · refine (if_neg h).trans ((if_pos rfl).trans ?_)
    unfold rowR
    rw [if_neg h]
    rfl
theorem szT1 (n : Int) (ts : List Ty) : szT (.mk 1 n ts) = n.toNat := by
  rw [szT]
  exact if_pos rfl
theorem szT2 (n : Int) (ts : List Ty) : szT (.mk 2 n ts) = 1 := by
  rw [szT]
  exact (if_neg (by decide)).trans (if_pos rfl)
theorem szT5 (n : Int) (ts : List Ty) : szT (.mk 5 n ts) = (n.toNat + 7) / 8 := by
  rw [szT]
  exact (if_neg (by decide)).trans ((if_neg (by decide)).trans (if_pos rfl))
/-- The root of what is packed as one. -/
theorem of_fit {k n : Int} {ts : List Ty} {num : Nat} {bits : List Bool} {items : List Va} {pick : Int} (hf : fitV (.mk k n ts) (.mk num bits items pick) = 0) : ¬ ((k = 4 ∧ n < items.length) ∨ (k = 6 ∧ n < bits.length)) ∧ ofV k n ts.length (.mk num bits items pick) = true ∧ fitVs k ts pick 0 items = 0 := by
  rw [fitV_eq] at hf
  split at hf
  · cases hf
  · rename_i h1
    split at hf
    · cases hf
    · rename_i h
      exact ⟨h1, by simpa using h, hf⟩
theorem root_whole {k n : Int} {ts : List Ty} {num : Nat} {bits : List Bool} {items : List Va} {pick : Int} (hk : k = 1 ∨ k = 2 ∨ k = 5) (hc : formT k n ts.length = true) (hf : fitV (.mk k n ts) (.mk num bits items pick) = 0) (hi : In num) :
    packT (putV (.mk k n ts) (.mk num bits items pick)) (szT (.mk k n ts)) = rootV (.mk k n ts) (.mk num bits items pick) := by
  obtain ⟨_, hof, _⟩ := of_fit hf
  rcases hk with rfl | rfl | rfl
  · rw [ofV_1] at hof
    unfold formT at hc
    simp at hof hc
    have hn : 1 ≤ n.toNat ∧ n.toNat ≤ 32 := by omega
    have hlt : num < 256 ^ n.toNat := (tr_width (k := n.toNat) hi).1 (by omega)
    rw [putV1, rootV1, szT1, pack_one (by rw [le_length]; omega) (by rw [le_length]; omega) (by omega)]
    unfold fill32
    rw [le_length, le_pad _ _ _ hlt]
    congr 1
    omega
  · rw [ofV_2] at hof
    simp at hof
    have hlt : num < 256 ^ 1 := by rcases hof with ⟨_, h | h⟩ <;> omega
    rw [putV2, rootV2, szT2, pack_one (by rw [le_length]; omega) (by rw [le_length]; omega) (by omega)]
    unfold fill32
    rw [le_length, le_pad _ _ _ hlt]
  · rw [putV5, rootV5, szT5]
theorem put_whole {k n : Int} {ts : List Ty} {v : Va} (hk : k = 1 ∨ k = 2 ∨ k = 5) (hc : formT k n ts.length = true) (hf : fitV (.mk k n ts) v = 0) : (putV (.mk k n ts) v).length ≤ 64 := by
  obtain ⟨num, bits, items, pick⟩ := v
  obtain ⟨_, hof, _⟩ := of_fit hf
  rcases hk with rfl | rfl | rfl
  · unfold formT at hc
    simp at hc
    rw [putV1, le_length]
    omega
  · rw [putV2, le_length]
    omega
  · rw [ofV_5] at hof
    unfold formT at hc
    simp at hof hc
    rw [putV5, pack_length]
    omega
theorem rowH_all : ∀ (ps : List (Option Nat × List UInt8)) (off : Nat), (∀ p ∈ ps, p.1 ≠ none) → rowH off ps = ps.flatMap (·.2)
  | [], _, _ => rfl
  | (some z, b) :: ps, off, h => by
    rw [rowH, rowH_all ps off (fun p hp => h p (by simp [hp])), List.flatMap_cons]
  | (none, b) :: ps, _, h => absurd rfl (h (none, b) (by simp))
theorem kind_plain {t : Ty} {e : Nat} (hc : chkT e t = 0) (h : isPl t = true) : kindOf t = some (szT t) ∧ szT t ≤ 32 ∧ 1 ≤ szT t ∧ fixT t = true := by
  obtain ⟨k, n, ts⟩ := t
  obtain ⟨_, hform, _⟩ := chkT_ok.1 hc
  unfold isPl at h
  simp only [Ty.k, Bool.or_eq_true, beq_iff_eq] at h
  unfold kindOf
  rcases h with rfl | rfl
  · unfold formT at hform
    simp at hform
    obtain ⟨rfl, hn⟩ := hform
    have hfx : fixT (.mk 1 n []) = true := by rw [fixT]; rfl
    rw [if_pos hfx, szT1]
    exact ⟨rfl, by omega, by omega, hfx⟩
  · unfold formT at hform
    simp at hform
    obtain ⟨rfl, hn⟩ := hform
    have hfx : fixT (.mk 2 n []) = true := by rw [fixT]; rfl
    rw [if_pos hfx, szT2]
    exact ⟨rfl, by omega, by omega, hfx⟩
theorem in_34 {k : Int} (hk : k = 3 ∨ k = 4) (ts : List Ty) (pick : Int) (i : Nat) : inT k ts pick i = ts[0]?.getD default := by
  unfold inT
  rcases hk with rfl | rfl <;> rfl
/-- A row of plain items: their bytes, one behind the other. -/
theorem put_plain {k n : Int} {t : Ty} {num : Nat} {bits : List Bool} {items : List Va} {pick : Int} {e : Nat} (hk : k = 3 ∨ k = 4) (hc : chkT e t = 0) (hp : isPl t = true) :
    putV (.mk k n [t]) (.mk num bits items pick) = (putVs k [t] pick 0 items).flatMap (·.2) ∧ ((putVs k [t] pick 0 items).flatMap (·.2)).length = items.length * szT t := by
  obtain ⟨h1, h2, h3, h4⟩ := kind_plain hc hp
  have hin : ∀ i, inT k [t] pick i = t := fun i => in_34 hk [t] pick i
  have hps : ∀ (vs : List Va) (i : Nat), (∀ p ∈ putVs k [t] pick i vs, p.1 ≠ none) ∧ ((putVs k [t] pick i vs).flatMap (·.2)).length = vs.length * szT t := by
    intro vs
    induction vs with
    | nil => exact fun i => ⟨fun p hp => by simp [putVs] at hp, by simp [putVs]⟩
    | cons v vs ih =>
      intro i
      obtain ⟨ih1, ih2⟩ := ih (i + 1)
      rw [putVs, hin i]
      refine ⟨fun p hp => ?_, ?_⟩
      · rcases List.mem_cons.1 hp with rfl | hp
        · rw [h1]; simp
        · exact ih1 p hp
      · rw [List.flatMap_cons, List.length_append, ih2, List.length_cons, Nat.add_mul, Nat.one_mul, Nat.add_comm]
        congr 1
        obtain ⟨num, bits, items, q⟩ := v
        obtain ⟨k', n', ts'⟩ := t
        unfold isPl at hp
        simp only [Ty.k, Bool.or_eq_true, beq_iff_eq] at hp
        rcases hp with rfl | rfl
        · rw [putV1, szT1, le_length]
        · rw [putV2, szT2, le_length]
  obtain ⟨g1, g2⟩ := hps items 0
  refine ⟨?_, g2⟩
  have key : rowB (putVs k [t] pick 0 items) = (putVs k [t] pick 0 items).flatMap (·.2) := by
    unfold rowB
    rw [rowH_all _ _ g1, rowL_fixed g1, List.append_nil]
  rcases hk with rfl | rfl
  · rw [putV3, key]
  · rw [putV4, key]
end Go.Proofs.YtaajkbclojmbeaaGreatDoor.M
namespace Go.Proofs.YtaajkbclojmbeaaGreatDoor
open Go Go.RowKit Go.Shelf Go.Lib
attribute [local go_sem] Oper.semAt_some

theorem wn_low {n : Nat} (h : n < 18446744073709551616) : wn n = wd (n : Int) 0 0 0 := by
  have h0 : M.pt 0 n = (n : Int) := by unfold M.pt; simp; omega
  have h1 : M.pt 1 n = 0 := by unfold M.pt; simp; omega
  have h2 : M.pt 2 n = 0 := by unfold M.pt; simp; omega
  have h3 : M.pt 3 n = 0 := by unfold M.pt; simp; omega
  unfold wn
  rw [h0, h1, h2, h3]
theorem le_fill {n : Nat} (h : n < 18446744073709551616) : M.le 32 n = M.fill32 (M.le 8 n) := by
  unfold M.fill32
  rw [M.le_length, M.le_pad 8 24 n (by simpa using h)]
set_option maxRecDepth 100000 in
set_option maxHeartbeats 4000000 in
theorem rmix_any (root : List UInt8) (n : Nat) (w : World) (hn : n < 18446744073709551616) (hr : root.length ≤ 100) :
    Calls Tryz.prog 20 #[.string ⟨root.toArray⟩, .int .u64 n] w fun e w' => e = .returned (.string ⟨(M.mixT root n).toArray⟩) ∧ Below w.heap.size w w' := by
  have HL := fun X => zlow_any n 32 X (by omega) (by omega)
  rw [wn_low hn, le_fill hn] at HL
  simp only [wd] at HL
  have HL := Lib.hid HL
  have hl8 : (M.fill32 (M.le 8 n)).length = 32 := by rw [← le_fill hn]; exact M.le_length 32 n
  obtain ⟨T, hT⟩ : ∃ T, M.mixT root n = T := ⟨_, rfl⟩
  have hT' : M.sumL (root ++ M.fill32 (M.le 8 n)) = T := hT
  rw [hT]
  clear hT
  generalize M.fill32 (M.le 8 n) = f at *
  obtain ⟨y, hy⟩ : ∃ y, root ++ f = y := ⟨_, rfl⟩
  have hcat : (⟨root.toArray⟩ : ByteArray) ++ ⟨f.toArray⟩ = ⟨y.toArray⟩ := by rw [← hy]; apply ByteArray.ext; simp
  have hyl : y.length ≤ 200 := by rw [← hy]; simp; omega
  have HS := Lib.hid (fun X => rsum ⟨y.toArray⟩ X (by simp [ByteArray.size]; omega))
  rw [show (⟨y.toArray⟩ : ByteArray).data.toList = y by simp] at HS
  rw [hy] at hT'
  rw [hT'] at HS
  clear hy hyl hT'
  go_enter Tryz.func20, Tryz.ntmps20
  go_wp2_with fail
  refine (HL.out _).mono ?_
  rintro e w1 ⟨rfl, hb1⟩
  go_wp2_with fail
  first | rw [hcat] | skip
  refine (HS.out _).mono ?_
  rintro e w2 ⟨rfl, hb2⟩
  go_wp2_with fail
  go_ret
  exact ⟨rfl, hb1.trans (hb2.mono hb1.size)⟩
end Go.Proofs.YtaajkbclojmbeaaGreatDoor
namespace Go.Proofs.YtaajkbclojmbeaaGreatDoor
open Go Go.RowKit Go.Shelf Go.Lib
attribute [local go_sem] Oper.semAt_some

theorem M.chunk_at {s : List UInt8} {j : Nat} (h : 32 * j < s.length) : (M.chunksT s)[j]? = some (M.fill32 ((s.drop (32 * j)).take 32)) := by
  unfold M.chunksT
  rw [List.getElem?_map, List.getElem?_range (by omega)]
  rfl
theorem M.fill_zb {s : List UInt8} {m : Nat} (h : 32 - s.length = m) : M.fill32 s = s ++ zb m := by
  unfold M.fill32
  rw [h]
  rfl
/-- What a round of cutting keeps. -/
def XF (w : World) (s : List UInt8) (v i : Value) (wr : World) : Prop := ∃ j : Nat, j ≤ (M.chunksT s).length ∧ i = .int .i64 ((32 * j : Nat) : Int) ∧ OwS w.heap.size ((M.chunksT s).take j) v wr ∧ Below w.heap.size w wr
set_option maxRecDepth 100000 in
set_option maxHeartbeats 8000000 in
theorem rchunks_any (s : List UInt8) (w : World) (hsl : s.length ≤ 100000) :
    Calls Tryz.prog 61 #[.string ⟨s.toArray⟩] w fun e w' => (∃ v, e = .returned v ∧ OwS w.heap.size (M.chunksT s) v w') ∧ Below w.heap.size w w' := by
  have hK := M.chunks_length s
  have HK := Lib.hid hK
  have HCA := Lib.hid (fun j h => M.chunk_at (s := s) (j := j) h)
  have HSL := Lib.hid (fun t e h h' W => slice_str s t e h h' W)
  have HEX : Hid (∀ t e, t ≤ e → e ≤ s.length → (⟨s.toArray⟩ : ByteArray).extract t e = ⟨((s.drop t).take (e - t)).toArray⟩) := fun t e _ _ => by
    apply ByteArray.ext
    simp
  have hz : (⟨s.toArray⟩ : ByteArray).size = s.length := rfl
  obtain ⟨R, hR⟩ : ∃ R : ByteArray, ⟨s.toArray⟩ = R := ⟨_, rfl⟩
  rw [hR] at hz HSL HEX ⊢
  have HZ := Lib.hid hz
  clear hR hK hz
  go_enter Tryz.func61, Tryz.ntmps61
  go_wp2_with fail
  go_loopw [3, 4] (fun v i wr => XF w s v i wr) (fun _ i _ => 200000 - (RowKit.intOf i).toNat)
  case atStart => exact ⟨0, Nat.zero_le _, rfl, OwS.nil _ _, Below.refl _ _⟩
  case round =>
    obtain ⟨j, hj, rfl, hO, hbq⟩ := hrel
    obtain ⟨lb, ld, hlv⟩ := hO.len
    have htl : ((M.chunksT s).take j).length = j := by rw [List.length_take]; omega
    rw [htl] at hlv
    subst hlv
    obtain ⟨t, ht⟩ : ∃ t, 32 * j = t := ⟨_, rfl⟩
    have hKK := HK.out
    rw [ht]
    by_cases hlt : t < s.length
    · have hts : (t : Int) < R.size := by have := HZ.out; omega
      have hcj := HCA.out j (by omega)
      rw [ht] at hcj
      obtain ⟨e, he⟩ : ∃ e, min (t + 32) s.length = e := ⟨_, rfl⟩
      have hmin : min ((t : Int) + 32) (R.size : Int) = (e : Int) := by have := HZ.out; omega
      have hte : t ≤ e := by omega
      have hes : e ≤ s.length := by omega
      have hte' : (t : Int) ≤ (e : Int) := by omega
      have hes' : (e : Int) ≤ (R.size : Int) := by have := HZ.out; omega
      have hsl2 := HSL.out t e hte hes wr
      rw [HEX.out t e hte hes] at hsl2
      obtain ⟨part, hpart⟩ : ∃ part, (s.drop t).take (e - t) = part := ⟨_, rfl⟩
      have hpe : part = (s.drop t).take 32 := by
        rw [← hpart]
        by_cases h : t + 32 ≤ s.length
        · rw [show e - t = 32 by omega]
        · rw [List.take_of_length_le (by rw [List.length_drop]; omega), List.take_of_length_le (by rw [List.length_drop]; omega)]
      rw [← hpe] at hcj
      have hpl : part.length = e - t := by rw [← hpart, List.length_take, List.length_drop]; omega
      rw [hpart] at hsl2
      obtain ⟨d, hd⟩ : ∃ d, e - t = d := ⟨_, rfl⟩
      rw [hd] at hpl
      obtain ⟨m, hm⟩ : ∃ m, 32 - part.length = m := ⟨_, rfl⟩
      have hm32 : (32 : Int) - (d : Int) = (m : Int) := by omega
      have hmr : m ≤ 32 := by omega
      rw [M.fill_zb hm] at hcj
      have hmk : (Instr.makeSlice 41 (.int .i64 (m : Int)) (.int .i64 (m : Int))).run Tryz.prog wr = .ok (.slice (some ⟨wr.heap.size, 0, none⟩) m m) (wr.alloc (.cells (bv (zb m)) 5)) := make_zb m (by omega) wr
      have hBz : Br (wr.alloc (.cells (bv (zb m)) 5)) wr.heap.size (zb m) := Br.at_ _ _ rfl
      have hcv := hBz.conv (n := m) (by rw [zb_length]) m
      obtain ⟨y, hy⟩ : ∃ y, part ++ zb m = y := ⟨_, rfl⟩
      have hcat : (⟨part.toArray⟩ : ByteArray) ++ ⟨(zb m).toArray⟩ = ⟨y.toArray⟩ := by rw [← hy]; apply ByteArray.ext; simp
      rw [hy] at hcj
      have HLJ := Lib.hid (M.take_one hcj)
      obtain ⟨wx, hwx⟩ : ∃ wx, (wr.alloc (.cells (bv (zb m)) 5)).alloc (.cells #[.string ⟨y.toArray⟩] 9) = wx := ⟨_, rfl⟩
      have hrq : Below wr.heap.size wr wx := by rw [← hwx]; exact ((Below.refl _ _).alloc (Nat.le_refl _) _).alloc (by simp) _
      have hcq : wx.cell? ⟨wr.heap.size + 1, 0, none⟩ = some (.string ⟨y.toArray⟩) := by rw [← hwx]; simp [go_sem]
      have hOq := hO.from_ hrq
      have hbw := hbq.trans (hrq.mono hbq.size)
      have HAP2 := Lib.hid (run_append_txt wx 22 w.heap.size ((M.chunksT s).take j) y (wr.heap.size + 1) _ hOq hcq (by rw [htl]; omega) hbw.size)
      have HROW := Lib.hid (fun g e => (hOq.lt g e).1)
      have HWQ := Lib.hid hwx
      have HBW := Lib.hid hbw
      have HT2 := Lib.hid ht
      have hjK : j + 1 ≤ (M.chunksT s).length := by omega
      have hzl : (zb m).length ≤ 32 := by rw [zb_length]; exact hmr
      have hd32 : d ≤ 32 := by omega
      clear hBz hwx hrq hcq hOq hbw hO hbq htl hcj hpart hpe hy hm he ht hKK hd
      generalize zb m = z at *
      go_wp2_with (at_builtin; rw [HWQ.out]; refine wpList_append9 rfl _ _ rfl _ _ rfl rfl w.heap.size _ HAP2.out ?_; intro v4 w4 hA4)
      have hown := hA4.own
      rw [← HLJ.out] at hown
      have hbz := HBW.out.grown hA4.grown HBW.out.size (fun g e => HROW.out g e)
      exact ⟨⟨j + 1, hjK, by have := HT2.out; congr 1; omega, hown, hbz⟩, by have := HT2.out; simp [RowKit.intOf]; omega⟩
    · have hts : ¬ (t : Int) < R.size := by have := HZ.out; omega
      have hjK : j = (M.chunksT s).length := by omega
      rw [List.take_of_length_le (by omega)] at hO
      subst hjK
      have HO := Lib.hid hO
      have HBQ := Lib.hid hbq
      clear hO hbq hKK htl
      go_wp2_with fail
      go_ret
      exact ⟨⟨_, rfl, HO.out⟩, HBQ.out⟩
end Go.Proofs.YtaajkbclojmbeaaGreatDoor
namespace Go.Proofs.YtaajkbclojmbeaaGreatDoor
open Go Go.RowKit

theorem M.pk_next {bs : List Bool} {j : Nat} {x : Bool} (hx : bs[j]? = some x) : M.pk (bs.take (j + 1)) = if x = true then (M.pk0 (bs.take j)).set (j / 8) ((M.pk0 (bs.take j)).getD (j / 8) 0 + 2 ^ (j % 8)) else M.pk0 (bs.take j) := by
  have hj := (List.getElem?_eq_some_iff.1 hx).1
  have hl : (bs.take j).length = j := List.length_take_of_le (by omega)
  rw [List.take_add_one, hx]
  show M.pk (bs.take j ++ [x]) = _
  rw [M.pk_snoc, hl]
  have hg := M.pk0_get (bs.take j) (j := j / 8) (by rw [hl]; omega)
  rw [List.getD_eq_getElem?_getD, hg, Option.getD_some]
  simp
theorem M.pk_room {bs : List Bool} {j : Nat} (hj : j < bs.length) : 0 ≤ (M.pk0 (bs.take j)).getD (j / 8) 0 ∧ (M.pk0 (bs.take j)).getD (j / 8) 0 + 2 ^ (j % 8) < 256 := by
  have hl : (bs.take j).length = j := List.length_take_of_le (by omega)
  have hg := M.pk0_get (bs.take j) (j := j / 8) (by rw [hl]; omega)
  have := M.bn_room (l := bs.take j)
  rw [hl] at this
  rw [List.getD_eq_getElem?_getD, hg, Option.getD_some]
  have e : ((2 : Int) ^ (j % 8)) = ((2 ^ (j % 8) : Nat) : Int) := by simp
  rw [e]
  omega
set_option maxRecDepth 100000 in
set_option maxHeartbeats 4000000 in
theorem zpack_any (bs : List Bool) (ab : Option Addr) (cb : Nat) (w : World) (hB : LayB w w.heap.size bs (.slice ab bs.length cb)) (h1 : 1 ≤ bs.length) (hlen : bs.length ≤ 1000000) :
    Calls Tryz.prog 62 #[.slice ab bs.length cb] w fun e w' => e = .returned (.string ⟨(M.packB bs).toArray⟩) ∧ Below w.heap.size w w' := by
  obtain ⟨i0, hi, hz0, hz1, hz2⟩ := info_parts Tryz.infoU8
  go_enter Tryz.func62, Tryz.ntmps62
  go_wp2_with fail
  go_loopw [3, 4] (fun v i wr => ∃ j : Nat, j ≤ bs.length ∧ i = .int .i64 j ∧ wr.ownsRow w.heap.size 5 1 v ((j + 7) / 8) ((M.pk (bs.take j)).map (Value.int .u8)) ∧ Below w.heap.size w wr)
    (fun _ i _ => bs.length - (intOf i).toNat)
  case atStart => exact ⟨0, by omega, rfl, by rw [List.take_zero]; exact World.ownsRow_nil _ _ _ _, Below.refl _ _⟩
  case round =>
    obtain ⟨j, hj, rfl, hown, LW⟩ := hrel
    by_cases hlt : j < bs.length
    · have hsz := LW.size
      by_cases hm : j % 8 = 0
      · have hm' : (j : Int) % 8 = 0 := by omega
        have hx8 : (j + 7) / 8 + 1 = (j + 8) / 8 := by omega
        go_wp2_with (at_builtin; refine wpList_append_own _ rfl _ _ 41 rfl w.heap.size 5 i0 (.int .u8 0) 1 1 Tryz.underlying41 hi hz0 hz1 hz2 rfl (by decide) _ _ _ rfl (hown.alloc _) ⟨wr.heap.size, 0, none⟩ 1 1 [.int .u8 0] rfl rfl (cell_one_new _ _ _) (by simp [Value.oneCell']) (by unfold maxLen; omega) (by omega) (by simp; omega) ?_; intro v' w2 hown' hgrow _)
        have hown2 : w2.ownsRow w.heap.size 5 1 v' ((j + 8) / 8) ((M.pk0 (bs.take j)).map (Value.int .u8)) := by
          unfold M.pk0
          rw [List.length_take_of_le hj, if_pos hm, List.map_append, ← hx8]
          exact hown'
        have hbel : Below w.heap.size wr w2 := ((Below.refl _ wr).alloc (by omega) _).grown hgrow (by simp; omega) (fun q e => (hown.lt q e).1)
        clear hown hown' hgrow hx8
        have LW2 := LW.trans hbel
        obtain ⟨b, o, x, rfl, hbn, hx, hc⟩ := hB.at_ hlt
        have hc2 := (LW2.cell (p := ⟨b, o + j, none⟩) hbn).trans hc
        obtain ⟨q, hqq⟩ : ∃ q, j / 8 = q := ⟨_, rfl⟩
        have e8 : (j + 8) / 8 = q + 1 := by omega
        have ei : (j : Int) / 8 = (q : Int) := by omega
        rw [e8] at hown2
        obtain ⟨g, cap, rfl, hcells⟩ := row_cells hown2 (by omega)
        have hj9 : (j : Int) < 9223372036854775807 := by omega
        have HX := Lib.hid hx
        have HR := Lib.hid (M.pk_room hlt)
        have HM := Lib.hid hm
        clear hB hx hc hm e8
        have tst : Sem.run Tryz.prog (Instr.indexAt 35 (.slice (some ⟨b, o, none⟩) bs.length cb) (.int .i64 (j : Int))) w2 = .ok (.pointer (some ⟨b, o + j, none⟩)) w2 := by
          go_simp
        cases x with
        | false =>
          go_wp2_with fail
          rw [tst]
          clear tst hj9
          go_wp2_with fail
          refine ⟨⟨j + 1, by omega, by simp, ?_, LW2⟩, by simp [intOf]; omega⟩
          rw [M.pk_next HX.out, if_neg (by decide), show (j + 1 + 7) / 8 = q + 1 by omega]
          exact hown2
        | true =>
          have hq := hcells q (by rw [M.pk0_length, List.length_take_of_le hj]; omega)
          have hfz := hown2.frozenAt q
          generalize hz : (M.pk0 (bs.take j)).getD q 0 = z at hq
          have HZ := Lib.hid hz
          clear hz
          go_wp2_with fail
          rw [tst]
          clear tst hj9
          go_wp2_with fail
          have hz1 : (z + 1) % 256 = z + 1 := by
            obtain ⟨r1, r2⟩ := HR.out
            rw [hqq, HZ.out, HM.out] at r2
            rw [hqq, HZ.out] at r1
            simp at r2
            omega
          rw [hz1]
          refine ⟨⟨j + 1, by omega, by simp, ?_, LW2.setCell (hown2.lt g rfl).1 _⟩, by simp [intOf]; omega⟩
          have key := (hown2.stored q (.int .u8 (z + 1))).1
          rw [M.pk_next HX.out, if_pos rfl, show (j + 1 + 7) / 8 = q + 1 by omega, hqq, HZ.out, HM.out, List.map_set]
          exact key
      · have hx8 : (j + 7) / 8 = (j + 8) / 8 := by omega
        obtain ⟨v', hv'⟩ : ∃ v', u3 = v' := ⟨_, rfl⟩
        obtain ⟨w2, hw2⟩ : ∃ w2, wr = w2 := ⟨_, rfl⟩
        have hown2 : wr.ownsRow w.heap.size 5 1 u3 ((j + 8) / 8) ((M.pk0 (bs.take j)).map (Value.int .u8)) := by
          unfold M.pk0
          rw [List.length_take_of_le hj, if_neg hm, ← hx8]
          exact hown
        subst hw2 hv'
        have LW2 := LW
        clear hown hx8
        have hm' : ((j : Int) % 8 == 0) = false := by simp; omega
        obtain ⟨b, o, x, rfl, hbn, hx, hc⟩ := hB.at_ hlt
        have hc2 := (LW2.cell (p := ⟨b, o + j, none⟩) hbn).trans hc
        obtain ⟨q, hqq⟩ : ∃ q, j / 8 = q := ⟨_, rfl⟩
        have e8 : (j + 8) / 8 = q + 1 := by omega
        have ei : (j : Int) / 8 = (q : Int) := by omega
        rw [e8] at hown2
        obtain ⟨g, cap, rfl, hcells⟩ := row_cells hown2 (by omega)
        have hj9 : (j : Int) < 9223372036854775807 := by omega
        have HX := Lib.hid hx
        have HR := Lib.hid (M.pk_room hlt)
        have HM := Lib.hid hm
        clear hB hx hc hm e8
        have tst : Sem.run Tryz.prog (Instr.indexAt 35 (.slice (some ⟨b, o, none⟩) bs.length cb) (.int .i64 (j : Int))) wr = .ok (.pointer (some ⟨b, o + j, none⟩)) wr := by
          go_simp
        cases x with
        | false =>
          go_wp2_with fail
          refine ⟨⟨j + 1, by omega, by simp, ?_, LW2⟩, by simp [intOf]; omega⟩
          rw [M.pk_next HX.out, if_neg (by decide), show (j + 1 + 7) / 8 = q + 1 by omega]
          exact hown2
        | true =>
          have hq := hcells q (by rw [M.pk0_length, List.length_take_of_le hj]; omega)
          have hfz := hown2.frozenAt q
          generalize hz : (M.pk0 (bs.take j)).getD q 0 = z at hq
          have HZ := Lib.hid hz
          clear hz
          obtain ⟨r, hr⟩ : ∃ r, j % 8 = r := ⟨_, rfl⟩
          have er : (j : Int) % 8 = (r : Int) := by omega
          have hr8 : r < 8 := by omega
          have hr0 : ((r : Int) == 0) = false := by have := HM.out; simp; omega
          have HE := Lib.hid hr
          clear hr hm'
          clear hj9
          go_wp2_with fail
          have hz1 : (z + 2 ^ r) % 256 = z + 2 ^ r := by
            obtain ⟨r1, r2⟩ := HR.out
            rw [hqq, HZ.out, HE.out] at r2
            rw [hqq, HZ.out] at r1
            have : (0 : Int) < 2 ^ r := Int.pow_pos (by decide)
            omega
          rw [hz1]
          refine ⟨⟨j + 1, by omega, by simp, ?_, LW2.setCell (hown2.lt g rfl).1 _⟩, by simp [intOf]; omega⟩
          have key := (hown2.stored q (.int .u8 (z + 2 ^ r))).1
          rw [M.pk_next HX.out, if_pos rfl, show (j + 1 + 7) / 8 = q + 1 by have := HE.out; have := HM.out; omega, hqq, HZ.out, HE.out, List.map_set]
          exact key
    · obtain rfl : j = bs.length := by omega
      rw [List.take_length] at hown
      clear hB
      obtain ⟨g, cap, rfl, hcells⟩ := row_cells hown (by omega)
      have hpl := M.pk_length bs
      have hr := run_convert_bytes_arg wr 41 5 Tryz.underlying41 Tryz.underlying5 g 0 ((bs.length + 7) / 8) cap (M.pk bs) hpl (fun i hi => by rw [Nat.zero_add]; exact hcells i (by rw [hpl]; exact hi)) 9 Tryz.underlying9
      clear hown hcells
      have e : strOfNums (M.pk bs) = ⟨(M.packB bs).toArray⟩ := by unfold strOfNums; rw [M.pk_bytes]
      rw [e] at hr
      clear e hpl
      go_wp2_with fail
      go_ret
      exact ⟨rfl, LW⟩
end Go.Proofs.YtaajkbclojmbeaaGreatDoor
