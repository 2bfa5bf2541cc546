/- The landed package merkle: the roots of a row's items. The landed package merkle: the root of a row. The landed package merkle: roots of lists, of containers. The landed package merkle: roots of lists, of containers. The landed package merkle: roots of lists of bits, of unions. The landed package merkle: roots of lists of bits, of unions. The landed package merkle: Root. The landed package merkle: Root, of any value. The landed package merkle: Root, its error. The example of layer 9, walked. The example of layer 9, walked. -/
import Derived.Test.YtaajkbclojmbeaaGreatDoorI19
import Derived.Test.YtaajkbclojmbeaaGreatDoorI16
namespace Go.Proofs.YtaajkbclojmbeaaGreatDoor
open Go Go.RowKit Go.Shelf Go.Lib
attribute [local go_sem] Oper.semAt_some

def RP (w : World) (s : List UInt8) (e : Ending) (w' : World) : Prop := e = .returned (.string ⟨s.toArray⟩) ∧ Below w.heap.size w w'
/-- What the root of a value must be, for values of such depth. -/
def RootC (z : Nat) : Prop := ∀ (k n : Int) (ts : List M.Ty) (at_ : Option Addr) (ct : Nat) (N : Nat) (bs : List Bool) (us : List M.Va) (p : Int) (ab : Option Addr) (cb : Nat) (au : Option Addr) (cu : Nat) (w : World) (mb kb ib : Nat), SizeOf.sizeOf us ≤ z → LayT w w.heap.size ts (.slice at_ ts.length ct) → Vl w w.heap.size N bs us ab cb au cu →
  M.chkT 0 (.mk k n ts) = 0 → M.fitV (.mk k n ts) (.mk N bs us p) = 0 → M.cntT (.mk k n ts) ≤ 1000 → M.cntV (.mk N bs us p) ≤ 6000 → Tbl w w.heap.size mb kb ib → Tab w →
  Calls Tryz.prog 25 #[.map (some mb), tv k n (.slice at_ ts.length ct), vv N (.slice ab bs.length cb) (.slice au us.length cu) p] w (RP w (M.rootV (.mk k n ts) (.mk N bs us p)))
/-- The roots of a row's items. -/
def eachT (ts : List M.Ty) (us : List M.Va) : List (List UInt8) := (List.range us.length).map fun i => M.rootV (M.tyAt ts i) (us[i]?.getD M.noV)
theorem each_length (ts : List M.Ty) (us : List M.Va) : (eachT ts us).length = us.length := by simp [eachT]
theorem each_next {ts : List M.Ty} {us : List M.Va} {j : Nat} {u : M.Va} (h : us[j]? = some u) : (eachT ts us).take (j + 1) = (eachT ts us).take j ++ [M.rootV (M.tyAt ts j) u] := by
  have hj := (List.getElem?_eq_some_iff.1 h).1
  rw [List.take_add_one]
  congr 1
  unfold eachT
  rw [List.getElem?_map, List.getElem?_range hj]
  simp [h]

set_option maxRecDepth 100000 in
set_option maxHeartbeats 8000000 in
theorem ofEach_any (z : Nat) (ih : Hid (RootC z)) (k n : Int) (ts : List M.Ty) (at_ : Option Addr) (ct : Nat) (us : List M.Va) (au : Option Addr) (cu : Nat) (w : World) (mb kb ib : Nat) (hT : LayT w w.heap.size ts (.slice at_ ts.length ct)) (hV : LayV w w.heap.size us (.slice au us.length cu)) (hs : SizeOf.sizeOf us ≤ z + 1) (hin : Hid (∀ i u, us[i]? = some u → M.chkT 0 (M.tyAt ts i) = 0 ∧ M.fitV (M.tyAt ts i) u = 0)) (hts : us.length ≠ 0 → 1 ≤ ts.length) (hcT : M.cntTs ts ≤ 999) (hcV : M.cntVs us ≤ 5999) (hK : Tbl w w.heap.size mb kb ib) (hTab : Tab w) :
    Calls Tryz.prog 51 #[.map (some mb), tv k n (.slice at_ ts.length ct), .slice au us.length cu] w fun e w' => (∃ v, e = .returned v ∧ OwS w.heap.size (eachT ts us) v w') ∧ Below w.heap.size w w' := by
  have hul := M.length_cntV us
  obtain ⟨w0, hw0⟩ : ∃ w0, w.alloc (.cells #[.int .i64 k, .int .i64 n, .slice at_ ts.length ct] 32) = w0 := ⟨_, rfl⟩
  have hb0 : Below w.heap.size w w0 := by rw [← hw0]; exact (Below.refl _ _).alloc (Nat.le_refl _) _
  have hz0 : w0.heap.size = w.heap.size + 1 := by rw [← hw0]; simp
  have hB0 : BoxT w0 w.heap.size k n (.slice at_ ts.length ct) := by rw [← hw0]; exact BoxT.new _ _ _ _ _
  have hlt0 : w.heap.size < w0.heap.size := by omega
  have HW := Lib.hid hw0
  have HZ0 := Lib.hid hz0
  have mixed : Tryz.prog.follows .mixedOrders = true := by kernel_rfl
  obtain ⟨E, hE⟩ : ∃ E, eachT ts us = E := ⟨_, rfl⟩
  have HEN : Hid (∀ j u, us[j]? = some u → E.take (j + 1) = E.take j ++ [M.rootV (M.tyAt ts j) u]) := fun j u h => by rw [← hE]; exact each_next h
  have HEL : Hid (E.length = us.length) := by show _ = _; rw [← hE]; exact each_length _ _
  rw [hE]
  clear hw0 hz0 hE
  go_enter Tryz.func51, Tryz.ntmps51
  go_wp2_with fail
  rw [HW.out]
  go_loopw [7, 12] (fun l i wr => ∃ j : Nat, j ≤ us.length ∧ i = .int .i64 (j : Nat) ∧ OwS w0.heap.size (E.take j) l wr ∧ Below w0.heap.size w0 wr) (fun _ i _ => us.length - (RowKit.intOf i).toNat)
  case atStart => exact ⟨0, Nat.zero_le _, rfl, by simpa using OwS.nil _ _, Below.refl _ _⟩
  case round =>
    obtain ⟨j, hj, rfl, hO, hbr⟩ := hrel
    obtain ⟨la, lc, hlv⟩ := hO.len
    by_cases hlt : j < us.length
    · obtain ⟨b, o, N, bs, vs, q, ab, cb, av, cv, rfl, hbn, hxk, h7, hVl⟩ := hV.at_ hlt
      have hlt1 := hts (by omega)
      have hjl : j < 6000 := by omega
      obtain ⟨mi, hmi⟩ : ∃ mi, min j (ts.length - 1) = mi := ⟨_, rfl⟩
      have hmil : mi < ts.length := by omega
      obtain ⟨c, x, k', n', us', ua, uc, rfl, hcn, hxt, e0, e1, e2, hLt⟩ := hT.at_ hmil
      have hty : M.tyAt ts j = .mk k' n' us' := by unfold M.tyAt; rw [hmi, hxt]; rfl
      obtain ⟨hchx, hfx⟩ := hin.out j _ hxk
      rw [hty] at hchx hfx
      have hEn := HEN.out j _ hxk
      rw [hty] at hEn
      have hcx := M.cntT_part (List.mem_of_getElem? hxt)
      have hcv := M.cntV_part (List.mem_of_getElem? hxk)
      have hsx := size_va hxk
      rw [M.Va.mk.sizeOf_spec] at hsx
      have hbwr : Below w.heap.size w wr := hb0.trans (Below.mono hbr hb0.size)
      obtain ⟨w1, hw1⟩ : ∃ w1, wr.alloc (.cells #[.int .u64 (M.pt 0 N), .int .u64 (M.pt 1 N), .int .u64 (M.pt 2 N), .int .u64 (M.pt 3 N), .slice ab bs.length cb, .slice av vs.length cv, .int .i64 q] 38) = w1 := ⟨_, rfl⟩
      have hb1 : Below wr.heap.size wr w1 := by rw [← hw1]; exact (Below.refl _ _).alloc (Nat.le_refl _) _
      have hz1 : w1.heap.size = wr.heap.size + 1 := by rw [← hw1]; simp
      have hA1 : Cells7 w1 wr.heap.size 0 N (.slice ab bs.length cb) (.slice av vs.length cv) q := by rw [← hw1]; exact Cells7.new _ _ _ _ _ _
      have hbr1 : Below w0.heap.size w0 w1 := hbr.trans (hb1.mono hbr.size)
      have HC : Hid (∀ X, Below w0.heap.size w0 X → Calls Tryz.prog 25 #[.map (some mb), tv k' n' (.slice ua us'.length uc), vv N (.slice ab bs.length cb) (.slice av vs.length cv) q] X (RP X (M.rootV (.mk k' n' us') (.mk N bs vs q)))) := fun X h => by
        have hX : Below w.heap.size w X := hb0.trans (Below.mono h hb0.size)
        exact ih.out k' n' us' ua uc N bs vs q ab cb av cv X mb kb ib (by omega) ((hLt.from_ hX).mono hX.size) ((hVl.from_ hX).mono hX.size) hchx hfx (by omega) (by omega) ((hK.from_ hX).mono hX.size) (hTab.from hX)
      generalize M.rootV (.mk k' n' us') (.mk N bs vs q) = u at *
      have g0 := (hb0.cell (p := ⟨c, x + mi * 3, none⟩) hcn).trans e0
      have g1 := (hb0.cell (p := ⟨c, x + mi * 3 + 1, none⟩) hcn).trans e1
      have g2 := (hb0.cell (p := ⟨c, x + mi * 3 + 2, none⟩) hcn).trans e2
      have hcn0 : c < w0.heap.size := by omega
      have h7r := h7.from_ hbwr hbn
      have a0 := h7r.c0
      have a1 := h7r.c1
      have a2 := h7r.c2
      have a3 := h7r.c3
      have a4 := h7r.c4
      have a5 := h7r.c5
      have a6 := h7r.c6
      have hjli : (j : Int) < us.length := by omega
      obtain ⟨l1, hl1⟩ : ∃ l1, ts.length - 1 = l1 := ⟨_, rfl⟩
      have hl1i : (ts.length : Int) - 1 = (l1 : Int) := by omega
      have hmin : min (j : Int) (l1 : Int) = (mi : Int) := by omega
      have HEN1 := Lib.hid hEn
      have HW1 := Lib.hid hw1
      have HO := Lib.hid hO
      have HZ1 := Lib.hid hz1
      have hbx0 : wr.heap.size < w1.heap.size := by omega
      have hts9 : ts.length ≤ 1000 := by have := M.length_cntT ts; omega
      have hEl : (E.take j).length = j := by rw [List.length_take, HEL.out]; omega
      rw [hEl] at hlv
      subst hlv
      obtain ⟨i1, hi1, hiz, his, hib⟩ := info_parts Tryz.ofTxt
      clear hw1 hz1 hEn hxk hxt hLt hVl h7 h7r hcx hcv hsx hchx hfx hty hmi hl1 e0 e1 e2 hin
      go_wp2_with fail
      rw [HW1.out]
      clear a0 a1 a2 a3 a4 a5 a6
      obtain ⟨SS, hSS⟩ : ∃ SS : World → Prop, SS = fun Y => Below w0.heap.size w0 Y ∧ Cells7 Y wr.heap.size 0 N (.slice ab bs.length cb) (.slice av vs.length cv) q := ⟨_, rfl⟩
      refine wp_region_held (S := fun Y => Below w0.heap.size w0 Y ∧ Cells7 Y wr.heap.size 0 N (.slice ab bs.length cb) (.slice av vs.length cv) q) mixed ?_
      have hS0 : Below w0.heap.size w0 w1.drew ∧ Cells7 w1.drew wr.heap.size 0 N (.slice ab bs.length cb) (.slice av vs.length cv) q := ⟨Below.drew hbr1, ⟨hA1.c0, hA1.c1, hA1.c2, hA1.c3, hA1.c4, hA1.c5, hA1.c6⟩⟩
      clear hSS SS
      rw [show Array.replicate (Array.size _) false = #[false, false, false, false, false, false, false, false, false, false, false, false, false, false, false, false, false] from rfl, show Array.size (α := Oper) _ = 17 from rfl]
      refine wpAnyH_take (i := 0) (v := .slice la j lc) rfl (by kernel_rfl) (by kernel_rfl) (by kernel_rfl) (fun _ _ _ h => h) (Or.inl ⟨by rfl, ?_⟩) hS0 ?_
      · intro Y hY
        skip
        go_simp
      simp only [Act.put, List.getElem_toArray, List.getElem_cons_zero, List.setIfInBounds_toArray, List.set_cons_zero, List.set_cons_succ]
      refine wpAnyH_take (i := 1) (v := .map (some mb)) rfl (by kernel_rfl) (by kernel_rfl) (by kernel_rfl) (fun _ _ _ h => h) (Or.inl ⟨by rfl, ?_⟩) hS0 ?_
      · intro Y hY
        skip
        go_simp
      simp only [Act.put, List.getElem_toArray, List.getElem_cons_succ, List.getElem_cons_zero, List.setIfInBounds_toArray, List.set_cons_zero, List.set_cons_succ]
      refine wpAnyH_take (i := 2) (v := .pointer (some ⟨w.heap.size, 2, none⟩)) rfl (by kernel_rfl) (by kernel_rfl) (by kernel_rfl) (fun _ _ _ h => h) (Or.inl ⟨by rfl, ?_⟩) hS0 ?_
      · intro Y hY
        skip
        go_simp
      simp only [Act.put, List.getElem_toArray, List.getElem_cons_succ, List.getElem_cons_zero, List.setIfInBounds_toArray, List.set_cons_zero, List.set_cons_succ]
      refine wpAnyH_take (i := 3) (v := .slice (some ⟨c, x, none⟩) ts.length ct) rfl (by kernel_rfl) (by kernel_rfl) (by kernel_rfl) (fun _ _ _ h => h) (Or.inl ⟨by rfl, ?_⟩) hS0 ?_
      · intro Y hY
        have b2 := (hY.1.cell (p := ⟨w.heap.size, 2, none⟩) hlt0).trans hB0.c2
        go_simp
      simp only [Act.put, List.getElem_toArray, List.getElem_cons_succ, List.getElem_cons_zero, List.setIfInBounds_toArray, List.set_cons_zero, List.set_cons_succ]
      refine wpAnyH_take (i := 4) (v := .int .i64 (j : Nat)) rfl (by kernel_rfl) (by kernel_rfl) (by kernel_rfl) (fun _ _ _ h => h) (Or.inl ⟨by rfl, ?_⟩) hS0 ?_
      · intro Y hY
        skip
        go_simp
      simp only [Act.put, List.getElem_toArray, List.getElem_cons_succ, List.getElem_cons_zero, List.setIfInBounds_toArray, List.set_cons_zero, List.set_cons_succ]
      refine wpAnyH_take (i := 5) (v := .pointer (some ⟨w.heap.size, 2, none⟩)) rfl (by kernel_rfl) (by kernel_rfl) (by kernel_rfl) (fun _ _ _ h => h) (Or.inl ⟨by rfl, ?_⟩) hS0 ?_
      · intro Y hY
        skip
        go_simp
      simp only [Act.put, List.getElem_toArray, List.getElem_cons_succ, List.getElem_cons_zero, List.setIfInBounds_toArray, List.set_cons_zero, List.set_cons_succ]
      refine wpAnyH_take (i := 6) (v := .slice (some ⟨c, x, none⟩) ts.length ct) rfl (by kernel_rfl) (by kernel_rfl) (by kernel_rfl) (fun _ _ _ h => h) (Or.inl ⟨by rfl, ?_⟩) hS0 ?_
      · intro Y hY
        have b2 := (hY.1.cell (p := ⟨w.heap.size, 2, none⟩) hlt0).trans hB0.c2
        go_simp
      simp only [Act.put, List.getElem_toArray, List.getElem_cons_succ, List.getElem_cons_zero, List.setIfInBounds_toArray, List.set_cons_zero, List.set_cons_succ]
      refine wpAnyH_take (i := 7) (v := .int .i64 (ts.length : Nat)) rfl (by kernel_rfl) (by kernel_rfl) (by kernel_rfl) (fun _ _ _ h => h) (Or.inl ⟨by rfl, ?_⟩) hS0 ?_
      · intro Y hY
        skip
        go_simp
      simp only [Act.put, List.getElem_toArray, List.getElem_cons_succ, List.getElem_cons_zero, List.setIfInBounds_toArray, List.set_cons_zero, List.set_cons_succ]
      refine wpAnyH_take (i := 8) (v := .int .i64 (l1 : Nat)) rfl (by kernel_rfl) (by kernel_rfl) (by kernel_rfl) (fun _ _ _ h => h) (Or.inl ⟨by rfl, ?_⟩) hS0 ?_
      · intro Y hY
        skip
        go_simp
        rw [IntKind.wrap_i64]
        omega
      simp only [Act.put, List.getElem_toArray, List.getElem_cons_succ, List.getElem_cons_zero, List.setIfInBounds_toArray, List.set_cons_zero, List.set_cons_succ]
      refine wpAnyH_take (i := 9) (v := .int .i64 (mi : Nat)) rfl (by kernel_rfl) (by kernel_rfl) (by kernel_rfl) (fun _ _ _ h => h) (Or.inl ⟨by rfl, ?_⟩) hS0 ?_
      · intro Y hY
        skip
        go_simp
      simp only [Act.put, List.getElem_toArray, List.getElem_cons_succ, List.getElem_cons_zero, List.setIfInBounds_toArray, List.set_cons_zero, List.set_cons_succ]
      refine wpAnyH_take (i := 10) (v := .pointer (some ⟨c, x + mi * 3, none⟩)) rfl (by kernel_rfl) (by kernel_rfl) (by kernel_rfl) (fun _ _ _ h => h) (Or.inl ⟨by rfl, ?_⟩) hS0 ?_
      · intro Y hY
        skip
        go_simp
      simp only [Act.put, List.getElem_toArray, List.getElem_cons_succ, List.getElem_cons_zero, List.setIfInBounds_toArray, List.set_cons_zero, List.set_cons_succ]
      refine wpAnyH_take (i := 11) (v := tv k' n' (.slice ua us'.length uc)) rfl (by kernel_rfl) (by kernel_rfl) (by kernel_rfl) (fun _ _ _ h => h) (Or.inl ⟨by rfl, ?_⟩) hS0 ?_
      · intro Y hY
        have f0 := (hY.1.cell (p := ⟨c, x + mi * 3, none⟩) hcn0).trans g0; have f1 := (hY.1.cell (p := ⟨c, x + mi * 3 + 1, none⟩) hcn0).trans g1; have f2 := (hY.1.cell (p := ⟨c, x + mi * 3 + 2, none⟩) hcn0).trans g2
        go_simp
      simp only [Act.put, List.getElem_toArray, List.getElem_cons_succ, List.getElem_cons_zero, List.setIfInBounds_toArray, List.set_cons_zero, List.set_cons_succ]
      refine wpAnyH_take (i := 12) (v := vv N (.slice ab bs.length cb) (.slice av vs.length cv) q) rfl (by kernel_rfl) (by kernel_rfl) (by kernel_rfl) (fun _ _ _ h => h) (Or.inl ⟨by rfl, ?_⟩) hS0 ?_
      · intro Y hY
        have c0 := hY.2.c0; have c1 := hY.2.c1; have c2 := hY.2.c2; have c3 := hY.2.c3; have c4 := hY.2.c4; have c5 := hY.2.c5; have c6 := hY.2.c6; simp only [Nat.zero_add] at c1 c2 c3 c4 c5 c6
        go_simp
      simp only [Act.put, List.getElem_toArray, List.getElem_cons_succ, List.getElem_cons_zero, List.setIfInBounds_toArray, List.set_cons_zero, List.set_cons_succ]
      refine wpAnyH_ready (rs := [13]) (by kernel_rfl) (by simp) ?_
      refine AllReadyH.cons rfl (fun K hK => ?_) AllReadyH.nil
      go_simp
      refine (HC.out _ hS0.1).mono ?_
      rintro e w5 ⟨rfl, hb5⟩
      have hbS5 : Below w0.heap.size w0 w5 := hS0.1.trans (Below.mono hb5 hS0.1.size)
      have hA5 : Cells7 w5 wr.heap.size 0 N (.slice ab bs.length cb) (.slice av vs.length cv) q := hS0.2.from_ hb5 (by show wr.heap.size < w1.heap.size; exact hbx0)
      try go_wp2_with fail
      refine hK.out _ _ ⟨hbS5, hA5⟩ (fun _ => ?_)
      clear hK K
      simp only [List.setIfInBounds_toArray, List.set_cons_zero, List.set_cons_succ]
      refine wpAnyH_ready (rs := [14]) (by kernel_rfl) (by simp) ?_
      refine AllReadyH.cons rfl (fun K hK => ?_) AllReadyH.nil
      rw [if_pos (by rfl)]
      refine wp_build_one 22 9 (.tmp 30) (.string ⟨u.toArray⟩) (.string ⟨#[]⟩) i1 rfl rfl rfl Tryz.underlying22 hi1 hiz his rfl ?_
      obtain ⟨w6, hw6⟩ : ∃ w6, w5.alloc (.cells #[.string ⟨u.toArray⟩] 9) = w6 := ⟨_, rfl⟩
      have hb56 : Below w5.heap.size w5 w6 := by rw [← hw6]; exact (Below.refl _ _).alloc (Nat.le_refl _) _
      have hc6 : w6.cell? ⟨w5.heap.size, 0, none⟩ = some (.string ⟨u.toArray⟩) := by rw [← hw6]; simp [go_sem]
      have hbS6 : Below w0.heap.size w0 w6 := hbS5.trans (hb56.mono hbS5.size)
      have hz5 : w1.heap.size ≤ w5.heap.size := hb5.size
      have hz6 : w5.heap.size ≤ w6.heap.size := hb56.size
      have hA6 := hA5.from_ hb56 (by omega)
      have hd1 : Below w1.heap.size w1 w1.drew := Below.drew (Below.refl _ _)
      have hbr6 : Below wr.heap.size wr w6 := hb1.trans ((hd1.trans (Below.trans hb5 (hb56.mono hz5))).mono hb1.size)
      have hO6 := HO.out.from_ hbr6
      rw [hw6]
      clear hw6
      refine hK.out _ _ ⟨hbS6, hA6⟩ (fun _ => ?_)
      clear hK K
      simp only [List.setIfInBounds_toArray, List.set_cons_zero, List.set_cons_succ]
      refine wpAnyH_ready (rs := [15]) (by kernel_rfl) (by simp) ?_
      refine AllReadyH.cons rfl (fun K hK => ?_) AllReadyH.nil
      rw [if_pos (by rfl)]
      refine wp_append_txt w6 _ _ rfl w0.heap.size (E.take j) u w5.heap.size (.slice la j lc) rfl rfl hO6 hc6 (by omega) hbS6.size ?_
      intro v' w7 hA7
      have hrow : ∀ g, (Value.slice la j lc).ownBlock = some g → w0.heap.size ≤ g ∧ g < wr.heap.size := HO.out.lt
      have hbS7 : Below w0.heap.size w0 w7 := hbS6.grown hA7.grown hbS6.size (fun g e => (hrow g e).1)
      have hk7 : ∀ (q : Unit), w7.heap[wr.heap.size]? = w6.heap[wr.heap.size]? := fun _ => hA7.grown.block _ (by omega) (fun e => by have := (hrow _ e.symm).2; omega)
      have hA7c : Cells7 w7 wr.heap.size 0 N (.slice ab bs.length cb) (.slice av vs.length cv) q := ⟨(World.cell?_of_block (hk7 ())).trans hA6.c0, (World.cell?_of_block (hk7 ())).trans hA6.c1, (World.cell?_of_block (hk7 ())).trans hA6.c2, (World.cell?_of_block (hk7 ())).trans hA6.c3, (World.cell?_of_block (hk7 ())).trans hA6.c4, (World.cell?_of_block (hk7 ())).trans hA6.c5, (World.cell?_of_block (hk7 ())).trans hA6.c6⟩
      refine hK.out _ _ ⟨hbS7, hA7c⟩ (fun _ => ?_)
      clear hK K
      simp only [List.setIfInBounds_toArray, List.set_cons_zero, List.set_cons_succ]
      refine wpAnyH_ready (rs := [16]) (by kernel_rfl) (by simp) ?_
      refine AllReadyH.cons rfl (fun K hK => ?_) AllReadyH.nil
      go_simp
      refine hK.out _ _ ⟨hbS7, hA7c⟩ (fun _ => ?_)
      clear hK K
      simp only [List.setIfInBounds_toArray, List.set_cons_zero, List.set_cons_succ]
      refine wpAnyH_done (by kernel_rfl) ?_ _
      have hAO := hA7.own
      rw [← HEN1.out] at hAO
      have HAO := Lib.hid hAO
      have HS7 := Lib.hid hbS7
      clear hA7 hAO hA7c hbS7 hO6 hA6 hA5 hS0
      go_wp2_with fail
      exact ⟨⟨j + 1, by omega, by simp, HAO.out, HS7.out⟩, by simp [RowKit.intOf]; omega⟩
    · obtain rfl : j = us.length := by omega
      rw [List.take_of_length_le (by rw [HEL.out]; exact Nat.le_refl _)] at hO
      have HO := Lib.hid (hO.mono hb0.size)
      have HBR := Lib.hid (hb0.trans (Below.mono hbr hb0.size))
      clear hO hbr hin
      go_wp2_with fail
      go_ret
      exact ⟨⟨_, rfl, HO.out⟩, HBR.out⟩
end Go.Proofs.YtaajkbclojmbeaaGreatDoor
namespace Go.Proofs.YtaajkbclojmbeaaGreatDoor
open Go Go.RowKit Go.Shelf Go.Lib
attribute [local go_sem] Oper.semAt_some

theorem each_eq {k : Int} {ts : List M.Ty} {p : Int} {us : List M.Va} (h : ∀ j, j < us.length → M.inT k ts p j = M.tyAt ts j) : M.rootVs k ts p 0 us = eachT ts us := by
  apply List.ext_getElem?
  intro j
  by_cases hj : j < us.length
  · have hu : us[j]? = some us[j] := List.getElem?_eq_getElem hj
    rw [M.rootVs_next k ts p us 0 j _ hu, Nat.zero_add, h j hj]
    unfold eachT
    rw [List.getElem?_map, List.getElem?_range hj]
    simp [hu]
  · rw [List.getElem?_eq_none (by rw [M.rootVs_length]; omega), List.getElem?_eq_none (by rw [each_length]; omega)]
theorem tyAt_1m (t : M.Ty) (i : Nat) : M.tyAt [t] i = t := by unfold M.tyAt; simp
theorem in_tyAt {k : Int} (hk : k = 3 ∨ k = 4) (t : M.Ty) (p : Int) (j : Nat) : M.inT k [t] p j = M.tyAt [t] j := by
  rw [M.in_34 hk, tyAt_1m]
  rfl
theorem putT_plain {k n : Int} {t : M.Ty} {num : Nat} {bits : List Bool} {items : List M.Va} {pick : Int} (hk : k = 3 ∨ k = 4) (hc : M.chkT 0 (.mk k n [t]) = 0) (hf : M.fitV (.mk k n [t]) (.mk num bits items pick) = 0) (hp : M.isPl t = true) (hl : items.length ≤ 512) :
    M.putT (.mk k n [t]) (.mk num bits items pick) = ((M.putVs k [t] pick 0 items).flatMap (·.2), 0) ∧ ((M.putVs k [t] pick 0 items).flatMap (·.2)).length ≤ 16384 := by
  have hct : M.chkT 0 t = 0 := M.chkT_in hc (by simp)
  obtain ⟨e1, e2⟩ := M.put_plain (n := n) (num := num) (bits := bits) (items := items) (pick := pick) hk hct hp
  obtain ⟨_, h32, _⟩ := M.kind_plain hct hp
  have hlen : ((M.putVs k [t] pick 0 items).flatMap (·.2)).length ≤ 16384 := by
    rw [e2]
    exact Nat.le_trans (Nat.mul_le_mul hl h32) (by decide)
  refine ⟨?_, hlen⟩
  unfold M.putT
  rw [M.fitsV_in hc, if_neg (by simp [hf]), e1, if_neg (by omega)]
theorem many_34 {k n : Int} {t : M.Ty} {num : Nat} {bits : List Bool} {items : List M.Va} {pick : Int} (hk : k = 3 ∨ k = 4) (hc : M.chkT 0 (.mk k n [t]) = 0) (hf : M.fitV (.mk k n [t]) (.mk num bits items pick) = 0) :
    (1 ≤ n ∧ n ≤ 512) ∧ (items.length : Int) ≤ n ∧ M.fitVs k [t] pick 0 items = 0 := by
  obtain ⟨h1, h2, h3⟩ := M.of_fit hf
  have hform := (M.chkT_ok.1 hc).2.1
  rcases hk with rfl | rfl
  · unfold M.formT at hform
    simp at hform
    rw [M.ofV_3] at h2
    simp at h2
    exact ⟨by omega, by omega, h3⟩
  · unfold M.formT at hform
    simp at hform
    exact ⟨by omega, by omega, h3⟩

set_option maxRecDepth 100000 in
set_option maxHeartbeats 8000000 in
theorem items_any (z : Nat) (ih : Hid (RootC z)) (k : Int) (m : Nat) (t : M.Ty) (at_ : Option Addr) (ct : Nat) (N : Nat) (bs : List Bool) (us : List M.Va) (p : Int) (ab : Option Addr) (cb : Nat) (au : Option Addr) (cu : Nat) (w : World) (mb kb ib : Nat) (hT : LayT w w.heap.size [t] (.slice at_ 1 ct)) (hV : Vl w w.heap.size N bs us ab cb au cu) (hs : SizeOf.sizeOf us ≤ z + 1) (hk : k = 3 ∨ k = 4) (hc : M.chkT 0 (.mk k (m : Nat) [t]) = 0) (hf : M.fitV (.mk k (m : Nat) [t]) (.mk N bs us p) = 0) (h1 : M.cntT (.mk k (m : Nat) [t]) ≤ 1000) (h2 : M.cntV (.mk N bs us p) ≤ 6000) (hK : Tbl w w.heap.size mb kb ib) (hTab : Tab w) :
    Calls Tryz.prog 49 #[tv k (m : Nat) (.slice at_ 1 ct), vv N (.slice ab bs.length cb) (.slice au us.length cu) p, .pointer (some ⟨kb, 0, none⟩)] w (RP w (M.rowR k (m : Nat) [t] p us)) := by
  obtain ⟨hm, hlm, hfs⟩ := many_34 hk hc hf
  have hct : M.chkT 0 t = 0 := M.chkT_in hc (by simp)
  have hTX : ∀ X, Below w.heap.size w X → LayT X X.heap.size [t] (.slice at_ 1 ct) := fun X h => (hT.from_ h).mono h.size
  have hVX : ∀ X, Below w.heap.size w X → Vl X X.heap.size N bs us ab cb au cu := fun X h => (hV.from_ h).mono h.size
  have HEA := Lib.hid (M.roots_all k [t] p 0 us hfs)
  have heq := each_eq (p := p) (us := us) (fun j _ => in_tyAt hk t p j)
  rw [heq] at HEA
  have HPP := fun hp => putT_plain (t := t) hk hc hf hp (by omega)
  have HKP := fun hp => M.kind_plain (t := t) hct hp
  have HIN : Hid (∀ i u, us[i]? = some u → M.chkT 0 (M.tyAt [t] i) = 0 ∧ M.fitV (M.tyAt [t] i) u = 0) := fun i u hu => by
    rw [tyAt_1m]
    have := M.fitVs_at k [t] p us 0 i u hfs hu
    rw [M.in_34 hk] at this
    exact ⟨hct, this⟩
  obtain ⟨R, hR⟩ : ∃ R, M.rowR k (m : Nat) [t] p us = R := ⟨_, rfl⟩
  have hR1 : M.isPl t = true → M.packT ((M.putVs k [t] p 0 us).flatMap (·.2)) (m * M.szT t) = R := fun hp => by rw [← hR]; unfold M.rowR; exact (if_pos hp).symm
  have hR2 : M.isPl t = false → M.treeT (eachT [t] us) m = R := fun hp => by rw [← hR, ← heq]; unfold M.rowR; exact (if_neg (by rw [show ([t][0]?.getD default : M.Ty) = t from rfl, hp]; decide)).symm
  rw [hR]
  clear hR heq
  have hcT : M.cntTs [t] ≤ 999 := by rw [M.cntT] at h1; omega
  have hcV : M.cntVs us ≤ 5999 := by rw [M.cntV] at h2; omega
  obtain ⟨c, x, k', n', us', ua, uc, hat, hcn, hxt, e0, e1, e2, hLt⟩ := hT.at_ (i := 0) (by simp)
  subst hat
  obtain rfl : t = .mk k' n' us' := by simpa using hxt
  have hct1 : M.cntT (.mk k' n' us') ≤ 1000 := by rw [M.cntTs] at hcT; omega
  simp only [Nat.zero_mul, Nat.add_zero] at e0 e1 e2
  clear hxt
  obtain ⟨w0, hw0⟩ : ∃ w0, (w.alloc (.cells #[.int .i64 k, .int .i64 (m : Nat), .slice (some ⟨c, x, none⟩) 1 ct] 32)).alloc (.cells #[.int .u64 (M.pt 0 N), .int .u64 (M.pt 1 N), .int .u64 (M.pt 2 N), .int .u64 (M.pt 3 N), .slice ab bs.length cb, .slice au us.length cu, .int .i64 p] 38) = w0 := ⟨_, rfl⟩
  have hb0 : Below w.heap.size w w0 := by rw [← hw0]; exact two_boxes _ _ _
  have hz0 : w0.heap.size = w.heap.size + 2 := by rw [← hw0]; simp
  have hB0 : BoxT w0 w.heap.size k (m : Nat) (.slice (some ⟨c, x, none⟩) 1 ct) := by rw [← hw0]; exact ⟨by simp [go_sem], by simp [go_sem], by simp [go_sem]⟩
  have hA0 : Cells7 w0 (w.heap.size + 1) 0 N (.slice ab bs.length cb) (.slice au us.length cu) p := by
    rw [← hw0]
    have := Cells7.new (w.alloc (.cells #[.int .i64 k, .int .i64 (m : Nat), .slice (some ⟨c, x, none⟩) 1 ct] 32)) N (.slice ab bs.length cb) (.slice au us.length cu) p 38
    rwa [World.size_alloc] at this
  have hlt0 : w.heap.size < w0.heap.size := by omega
  have hlt1 : w.heap.size + 1 < w0.heap.size := by omega
  have HW := Lib.hid hw0
  have HZ0 := Lib.hid hz0
  have mixed : Tryz.prog.follows .mixedOrders = true := by kernel_rfl
  clear hw0 hz0
  have g0 := (hb0.cell (p := ⟨c, x, none⟩) hcn).trans e0
  have g1 := (hb0.cell (p := ⟨c, x + 1, none⟩) hcn).trans e1
  have g2 := (hb0.cell (p := ⟨c, x + 2, none⟩) hcn).trans e2
  have hcn0 : c < w0.heap.size := by omega
  obtain ⟨w1, hw1⟩ : ∃ w1, w0.alloc (.cells #[.int .i64 k', .int .i64 n', .slice ua us'.length uc] 32) = w1 := ⟨_, rfl⟩
  have hb01 : Below w0.heap.size w0 w1 := by rw [← hw1]; exact (Below.refl _ _).alloc (Nat.le_refl _) _
  have hB1 : BoxT w1 w0.heap.size k' n' (.slice ua us'.length uc) := by rw [← hw1]; exact BoxT.new _ _ _ _ _
  have hz1 : w1.heap.size = w0.heap.size + 1 := by rw [← hw1]; simp
  have hlt2 : w0.heap.size < w1.heap.size := by omega
  have hbw1 : Below w.heap.size w w1 := hb0.trans (hb01.mono hb0.size)
  have HKB := Lib.hid (hK.kbx)
  have hkw : kb < w.heap.size := hK.klt
  have HIP := Lib.hid (fun X => isPlain_any k' n' us' (.slice ua us'.length uc) X)
  have HW1 := Lib.hid hw1
  have t0 := hB0.c0
  have t1 := hB0.c1
  have t2 := hB0.c2
  rw [← HW.out] at t0 t1 t2 g0 g1 g2
  clear hw1
  go_enter Tryz.func49, Tryz.ntmps49
  go_wp2_with fail
  rw [HW.out, HW1.out]
  refine (HIP.out _).mono ?_
  rintro e w2 ⟨rfl, hb2⟩
  have hB0w := hB0.from_ hb01 hlt0
  have hA0w := hA0.from_ hb01 hlt1
  have hB1w : BoxT w1 (w.heap.size + 1 + 1) k' n' (.slice ua us'.length uc) := by have := HZ0.out; rw [this] at hB1; exact hB1
  have hltA : w.heap.size < w1.heap.size := by omega
  have hltB : w.heap.size + 1 < w1.heap.size := by omega
  have hltC : w.heap.size + 1 + 1 < w1.heap.size := by have := HZ0.out; omega
  have hkw1 : kb < w1.heap.size := by omega
  have HKBw : Hid (Boxed w1 kb 50 (.map (some mb))) := (hbw1.block _ hkw).trans HKB.out
  have hb12 : Below w1.heap.size w1 w2 := hb2
  have t2w := (hb12.cell (p := ⟨w.heap.size + 1 + 1, 0, none⟩) hltC).trans hB1w.c0
  clear t0 t1 t2 g0 g1 g2
  cases hp : M.isPl (.mk k' n' us') with
  | true =>
    obtain ⟨hpt, hpl⟩ := HPP hp
    obtain ⟨_, hz32, _, hfx⟩ := HKP hp
    have hsz : M.sizeT (.mk k' n' us') = M.szT (.mk k' n' us') := M.sizeT_fix (M.fixedT_ok.2 ⟨hct, hfx⟩)
    have HP := Lib.hid (fun X (h : Below w1.heap.size w1 X) => mput_any k (m : Nat) [.mk k' n' us'] (some ⟨c, x, none⟩) ct N bs us p ab cb au cu X (hTX X (hbw1.trans (h.mono hbw1.size))) (hVX X (hbw1.trans (h.mono hbw1.size))) h1 h2)
    rw [hpt] at HP
    have HZ := Lib.hid (fun X (h : Below w1.heap.size w1 X) => shape_size k' n' us' ua uc X ((hLt.from_ (hbw1.trans (h.mono hbw1.size))).mono (hbw1.trans (h.mono hbw1.size)).size) hct1)
    rw [hsz] at HZ
    have hR := hR1 hp
    obtain ⟨q, hq⟩ : ∃ q, m * M.szT (.mk k' n' us') = q := ⟨_, rfl⟩
    have hq9 : q ≤ 16384 := by rw [← hq]; exact Nat.le_trans (Nat.mul_le_mul (show m ≤ 512 by omega) hz32) (by decide)
    have hqi : (m : Int) * (M.szT (.mk k' n' us') : Nat) = (q : Int) := by rw [← hq]; push_cast; rfl
    have HPK := Lib.hid (fun X (h : Below w1.heap.size w1 X) => packed_any ((M.putVs k [.mk k' n' us'] p 0 us).flatMap (·.2)) q X (by omega) hq9 (hTab.from (hbw1.trans (h.mono hbw1.size))))
    rw [hq] at hR
    rw [hR] at HPK
    generalize (M.putVs k [.mk k' n' us'] p 0 us).flatMap (·.2) = s at *
    generalize M.szT (.mk k' n' us') = z32 at *
    simp only at HP
    have HQI := Lib.hid hqi
    clear hR hR1 hR2 hq hpt hpl HPP HKP hsz hfs hlm hc hf HIN HEA hqi
    go_wp2_with fail
    refine wp_region_held (S := fun Y => Below w1.heap.size w1 Y) mixed ?_
    have hS0 : Below w1.heap.size w1 { w2 with drawn := w2.drawn + 1 } := Below.drew hb12
    rw [show Array.replicate (Array.size _) false = #[false, false, false, false, false, false, false, false, false, false] from rfl, show Array.size (α := Oper) _ = 10 from rfl]
    refine wpAnyH_take (i := 0) (v := tv k (m : Nat) (.slice (some ⟨c, x, none⟩) 1 ct)) rfl (by kernel_rfl) (by kernel_rfl) (by kernel_rfl) (fun _ _ _ h => h) (Or.inl ⟨by rfl, ?_⟩) hS0 ?_
    · intro Y hY
      have b0 := (hY.cell (p := ⟨w.heap.size, 0, none⟩) hltA).trans hB0w.c0; have b1 := (hY.cell (p := ⟨w.heap.size, 1, none⟩) hltA).trans hB0w.c1; have b2 := (hY.cell (p := ⟨w.heap.size, 2, none⟩) hltA).trans hB0w.c2
      go_simp
    simp only [Act.put, List.getElem_toArray, List.getElem_cons_zero, List.setIfInBounds_toArray, List.set_cons_zero, List.set_cons_succ]
    refine wpAnyH_take (i := 1) (v := vv N (.slice ab bs.length cb) (.slice au us.length cu) p) rfl (by kernel_rfl) (by kernel_rfl) (by kernel_rfl) (fun _ _ _ h => h) (Or.inl ⟨by rfl, ?_⟩) hS0 ?_
    · intro Y hY
      have hAY := hA0w.from_ hY hltB; have a0 := hAY.c0; have a1 := hAY.c1; have a2 := hAY.c2; have a3 := hAY.c3; have a4 := hAY.c4; have a5 := hAY.c5; have a6 := hAY.c6; simp only [Nat.zero_add] at a1 a2 a3 a4 a5 a6
      go_simp
    simp only [Act.put, List.getElem_toArray, List.getElem_cons_succ, List.getElem_cons_zero, List.setIfInBounds_toArray, List.set_cons_zero, List.set_cons_succ]
    refine wpAnyH_take (i := 3) (v := .pointer (some ⟨w.heap.size, 1, none⟩)) rfl (by kernel_rfl) (by kernel_rfl) (by kernel_rfl) (fun _ _ _ h => h) (Or.inl ⟨by rfl, ?_⟩) hS0 ?_
    · intro Y hY
      skip
      go_simp
    simp only [Act.put, List.getElem_toArray, List.getElem_cons_succ, List.getElem_cons_zero, List.setIfInBounds_toArray, List.set_cons_zero, List.set_cons_succ]
    refine wpAnyH_take (i := 4) (v := .int .i64 (m : Nat)) rfl (by kernel_rfl) (by kernel_rfl) (by kernel_rfl) (fun _ _ _ h => h) (Or.inl ⟨by rfl, ?_⟩) hS0 ?_
    · intro Y hY
      have b0 := (hY.cell (p := ⟨w.heap.size, 0, none⟩) hltA).trans hB0w.c0; have b1 := (hY.cell (p := ⟨w.heap.size, 1, none⟩) hltA).trans hB0w.c1; have b2 := (hY.cell (p := ⟨w.heap.size, 2, none⟩) hltA).trans hB0w.c2
      go_simp
    simp only [Act.put, List.getElem_toArray, List.getElem_cons_succ, List.getElem_cons_zero, List.setIfInBounds_toArray, List.set_cons_zero, List.set_cons_succ]
    refine wpAnyH_take (i := 5) (v := tv k' n' (.slice ua us'.length uc)) rfl (by kernel_rfl) (by kernel_rfl) (by kernel_rfl) (fun _ _ _ h => h) (Or.inl ⟨by rfl, ?_⟩) hS0 ?_
    · intro Y hY
      have b0 := (hY.cell (p := ⟨w.heap.size + 1 + 1, 0, none⟩) hltC).trans hB1w.c0; have b1 := (hY.cell (p := ⟨w.heap.size + 1 + 1, 1, none⟩) hltC).trans hB1w.c1; have b2 := (hY.cell (p := ⟨w.heap.size + 1 + 1, 2, none⟩) hltC).trans hB1w.c2
      go_simp
    simp only [Act.put, List.getElem_toArray, List.getElem_cons_succ, List.getElem_cons_zero, List.setIfInBounds_toArray, List.set_cons_zero, List.set_cons_succ]
    refine wpAnyH_ready (rs := [2]) (by kernel_rfl) (by simp) ?_
    refine AllReadyH.cons rfl (fun K hK => ?_) AllReadyH.nil
    go_simp
    refine (HP.out _ hS0).mono ?_
    rintro e w3 ⟨rfl, hb3⟩
    have hS3 : Below w1.heap.size w1 w3 := hS0.trans (Below.mono hb3 hS0.size)
    try go_wp2_with fail
    refine hK.out _ _ hS3 (fun _ => ?_)
    clear hK K
    simp only [List.setIfInBounds_toArray, List.set_cons_zero, List.set_cons_succ]
    refine wpAnyH_ready (rs := [6]) (by kernel_rfl) (by simp) ?_
    refine AllReadyH.cons rfl (fun K hK => ?_) AllReadyH.nil
    go_simp
    refine (HZ.out _ hS3).mono ?_
    rintro e w4 ⟨rfl, hb4⟩
    have hS4 : Below w1.heap.size w1 w4 := hS3.trans (Below.mono hb4 hS3.size)
    try go_wp2_with fail
    refine hK.out _ _ hS4 (fun _ => ?_)
    clear hK K
    simp only [List.setIfInBounds_toArray, List.set_cons_zero, List.set_cons_succ]
    refine wpAnyH_take (i := 7) (v := .int .i64 (q : Nat)) rfl (by kernel_rfl) (by kernel_rfl) (by kernel_rfl) (fun _ _ _ h => h) (Or.inl ⟨by rfl, ?_⟩) hS4 ?_
    · intro Y hY
      have hqi := HQI.out
      go_simp
      first | done | (rw [IntKind.wrap_i64]; omega)
    simp only [Act.put, List.getElem_toArray, List.getElem_cons_succ, List.getElem_cons_zero, List.setIfInBounds_toArray, List.set_cons_zero, List.set_cons_succ]
    refine wpAnyH_ready (rs := [8]) (by kernel_rfl) (by simp) ?_
    refine AllReadyH.cons rfl (fun K hK => ?_) AllReadyH.nil
    go_simp
    refine (HPK.out _ hS4).mono ?_
    rintro e w5 ⟨rfl, hb5⟩
    have hS5 : Below w1.heap.size w1 w5 := hS4.trans (Below.mono hb5 hS4.size)
    try go_wp2_with fail
    refine hK.out _ _ hS5 (fun _ => ?_)
    clear hK K
    simp only [List.setIfInBounds_toArray, List.set_cons_zero, List.set_cons_succ]
    refine wpAnyH_ready (rs := [9]) (by kernel_rfl) (by simp) ?_
    refine AllReadyH.cons rfl (fun K hK => ?_) AllReadyH.nil
    go_simp
    refine hK.out _ _ hS5 (fun _ => ?_)
    clear hK K
    simp only [List.setIfInBounds_toArray, List.set_cons_zero, List.set_cons_succ]
    refine wpAnyH_done (by kernel_rfl) ?_ _
    go_wp2_with fail
    go_ret
    exact ⟨rfl, hbw1.trans (Below.mono hS5 hbw1.size)⟩
  | false =>
    have hR := hR2 hp
    have HO := Lib.hid (fun X (h : Below w1.heap.size w1 X) => ofEach_any z ih k (m : Nat) [.mk k' n' us'] (some ⟨c, x, none⟩) ct us au cu X mb kb ib (hTX X (hbw1.trans (h.mono hbw1.size))) (hVX X (hbw1.trans (h.mono hbw1.size))).v hs HIN (fun _ => by simp) hcT hcV ((hK.from_ (hbw1.trans (h.mono hbw1.size))).mono (hbw1.trans (h.mono hbw1.size)).size) (hTab.from (hbw1.trans (h.mono hbw1.size))))
    have hel := each_length [.mk k' n' us'] us
    have HTB := Lib.hid (fun X (h : Below w1.heap.size w1 X) => hTab.from (hbw1.trans (h.mono hbw1.size)))
    generalize eachT [.mk k' n' us'] us = es at *
    have HEL := Lib.hid hel
    have HR := Lib.hid hR
    have hm9 : m ≤ 512 := by omega
    have he9 : es.length ≤ 4000 := by omega
    have HE9 := Lib.hid he9
    clear hR hR1 hR2 HPP HKP hfs hlm hc hf HIN hel he9
    go_wp2_with fail
    refine wp_region_held (S := fun Y => Below w1.heap.size w1 Y) mixed ?_
    have hS0 : Below w1.heap.size w1 { w2 with drawn := w2.drawn + 1 } := Below.drew hb12
    rw [show Array.replicate (Array.size _) false = #[false, false, false, false, false, false, false, false, false] from rfl, show Array.size (α := Oper) _ = 9 from rfl]
    refine wpAnyH_take (i := 0) (v := .map (some mb)) rfl (by kernel_rfl) (by kernel_rfl) (by kernel_rfl) (fun _ _ _ h => h) (Or.inl ⟨by rfl, ?_⟩) hS0 ?_
    · intro Y hY
      have kk := (hY.cell (p := ⟨kb, 0, none⟩) hkw1).trans HKBw.out.cell
      go_simp
    simp only [Act.put, List.getElem_toArray, List.getElem_cons_zero, List.setIfInBounds_toArray, List.set_cons_zero, List.set_cons_succ]
    refine wpAnyH_take (i := 1) (v := tv k (m : Nat) (.slice (some ⟨c, x, none⟩) 1 ct)) rfl (by kernel_rfl) (by kernel_rfl) (by kernel_rfl) (fun _ _ _ h => h) (Or.inl ⟨by rfl, ?_⟩) hS0 ?_
    · intro Y hY
      have b0 := (hY.cell (p := ⟨w.heap.size, 0, none⟩) hltA).trans hB0w.c0; have b1 := (hY.cell (p := ⟨w.heap.size, 1, none⟩) hltA).trans hB0w.c1; have b2 := (hY.cell (p := ⟨w.heap.size, 2, none⟩) hltA).trans hB0w.c2
      go_simp
    simp only [Act.put, List.getElem_toArray, List.getElem_cons_succ, List.getElem_cons_zero, List.setIfInBounds_toArray, List.set_cons_zero, List.set_cons_succ]
    refine wpAnyH_take (i := 2) (v := .pointer (some ⟨w.heap.size + 1, 5, none⟩)) rfl (by kernel_rfl) (by kernel_rfl) (by kernel_rfl) (fun _ _ _ h => h) (Or.inl ⟨by rfl, ?_⟩) hS0 ?_
    · intro Y hY
      skip
      go_simp
    simp only [Act.put, List.getElem_toArray, List.getElem_cons_succ, List.getElem_cons_zero, List.setIfInBounds_toArray, List.set_cons_zero, List.set_cons_succ]
    refine wpAnyH_take (i := 3) (v := .slice au us.length cu) rfl (by kernel_rfl) (by kernel_rfl) (by kernel_rfl) (fun _ _ _ h => h) (Or.inl ⟨by rfl, ?_⟩) hS0 ?_
    · intro Y hY
      have hAY := hA0w.from_ hY hltB; have a0 := hAY.c0; have a1 := hAY.c1; have a2 := hAY.c2; have a3 := hAY.c3; have a4 := hAY.c4; have a5 := hAY.c5; have a6 := hAY.c6; simp only [Nat.zero_add] at a1 a2 a3 a4 a5 a6
      go_simp
    simp only [Act.put, List.getElem_toArray, List.getElem_cons_succ, List.getElem_cons_zero, List.setIfInBounds_toArray, List.set_cons_zero, List.set_cons_succ]
    refine wpAnyH_take (i := 5) (v := .pointer (some ⟨w.heap.size, 1, none⟩)) rfl (by kernel_rfl) (by kernel_rfl) (by kernel_rfl) (fun _ _ _ h => h) (Or.inl ⟨by rfl, ?_⟩) hS0 ?_
    · intro Y hY
      skip
      go_simp
    simp only [Act.put, List.getElem_toArray, List.getElem_cons_succ, List.getElem_cons_zero, List.setIfInBounds_toArray, List.set_cons_zero, List.set_cons_succ]
    refine wpAnyH_take (i := 6) (v := .int .i64 (m : Nat)) rfl (by kernel_rfl) (by kernel_rfl) (by kernel_rfl) (fun _ _ _ h => h) (Or.inl ⟨by rfl, ?_⟩) hS0 ?_
    · intro Y hY
      have b0 := (hY.cell (p := ⟨w.heap.size, 0, none⟩) hltA).trans hB0w.c0; have b1 := (hY.cell (p := ⟨w.heap.size, 1, none⟩) hltA).trans hB0w.c1; have b2 := (hY.cell (p := ⟨w.heap.size, 2, none⟩) hltA).trans hB0w.c2
      go_simp
    simp only [Act.put, List.getElem_toArray, List.getElem_cons_succ, List.getElem_cons_zero, List.setIfInBounds_toArray, List.set_cons_zero, List.set_cons_succ]
    refine wpAnyH_ready (rs := [4]) (by kernel_rfl) (by simp) ?_
    refine AllReadyH.cons rfl (fun K hK => ?_) AllReadyH.nil
    go_simp
    refine (HO.out _ hS0).mono ?_
    rintro e w3 ⟨⟨v3, rfl, hO3⟩, hb3⟩
    have hS3 : Below w1.heap.size w1 w3 := hS0.trans (Below.mono hb3 hS0.size)
    obtain ⟨va, vc, hv3⟩ := hO3.len
    subst hv3
    have HMT := Lib.hid (mtree_any es m va vc w3 hO3.ts HE9.out HEA.out hm9 (HTB.out _ hS3))
    rw [HR.out] at HMT
    clear hO3
    try go_wp2_with fail
    refine hK.out _ _ hS3 (fun _ => ?_)
    clear hK K
    simp only [List.setIfInBounds_toArray, List.set_cons_zero, List.set_cons_succ]
    refine wpAnyH_ready (rs := [7]) (by kernel_rfl) (by simp) ?_
    refine AllReadyH.cons rfl (fun K hK => ?_) AllReadyH.nil
    go_simp
    refine HMT.out.mono ?_
    rintro e w4 ⟨rfl, hb4⟩
    have hS4 : Below w1.heap.size w1 w4 := hS3.trans (Below.mono hb4 hS3.size)
    try go_wp2_with fail
    refine hK.out _ _ hS4 (fun _ => ?_)
    clear hK K
    simp only [List.setIfInBounds_toArray, List.set_cons_zero, List.set_cons_succ]
    refine wpAnyH_ready (rs := [8]) (by kernel_rfl) (by simp) ?_
    refine AllReadyH.cons rfl (fun K hK => ?_) AllReadyH.nil
    go_simp
    refine hK.out _ _ hS4 (fun _ => ?_)
    clear hK K
    simp only [List.setIfInBounds_toArray, List.set_cons_zero, List.set_cons_succ]
    refine wpAnyH_done (by kernel_rfl) ?_ _
    go_wp2_with fail
    go_ret
    exact ⟨rfl, hbw1.trans (Below.mono hS4 hbw1.size)⟩
end Go.Proofs.YtaajkbclojmbeaaGreatDoor
namespace Go.Proofs.YtaajkbclojmbeaaGreatDoor
open Go Go.RowKit Go.Shelf Go.Lib
attribute [local go_sem] Oper.semAt_some

theorem rowR_length {k n : Int} {ts : List M.Ty} {p : Int} {us : List M.Va} (h : M.fitVs k ts p 0 us = 0) : (M.rowR k n ts p us).length = 32 := by
  unfold M.rowR
  split
  · exact M.treeT_length _ (M.chunks_all _)
  · exact M.treeT_length _ (M.roots_all _ _ _ _ _ h)
set_option maxRecDepth 100000 in
set_option maxHeartbeats 8000000 in
theorem list_any (z : Nat) (ih : Hid (RootC z)) (m : Nat) (t : M.Ty) (at_ : Option Addr) (ct : Nat) (N : Nat) (bs : List Bool) (us : List M.Va) (p : Int) (ab : Option Addr) (cb : Nat) (au : Option Addr) (cu : Nat) (w : World) (mb kb ib : Nat) (hT : LayT w w.heap.size [t] (.slice at_ 1 ct)) (hV : Vl w w.heap.size N bs us ab cb au cu) (hs : SizeOf.sizeOf us ≤ z + 1) (hc : M.chkT 0 (.mk 4 (m : Nat) [t]) = 0) (hf : M.fitV (.mk 4 (m : Nat) [t]) (.mk N bs us p) = 0) (h1 : M.cntT (.mk 4 (m : Nat) [t]) ≤ 1000) (h2 : M.cntV (.mk N bs us p) ≤ 6000) (hK : Tbl w w.heap.size mb kb ib) (hTab : Tab w) :
    Calls Tryz.prog 52 #[tv 4 (m : Nat) (.slice at_ 1 ct), vv N (.slice ab bs.length cb) (.slice au us.length cu) p, .pointer (some ⟨ib, 0, none⟩)] w (RP w (M.rootV (.mk 4 (m : Nat) [t]) (.mk N bs us p))) := by
  obtain ⟨hm, hlm, hfs⟩ := many_34 (Or.inr rfl) hc hf
  obtain ⟨w0, hw0⟩ : ∃ w0, (w.alloc (.cells #[.int .i64 4, .int .i64 (m : Nat), .slice at_ 1 ct] 32)).alloc (.cells #[.int .u64 (M.pt 0 N), .int .u64 (M.pt 1 N), .int .u64 (M.pt 2 N), .int .u64 (M.pt 3 N), .slice ab bs.length cb, .slice au us.length cu, .int .i64 p] 38) = w0 := ⟨_, rfl⟩
  have hb0 : Below w.heap.size w w0 := by rw [← hw0]; exact two_boxes _ _ _
  have hz0 : w0.heap.size = w.heap.size + 2 := by rw [← hw0]; simp
  have hB0 : BoxT w0 w.heap.size 4 (m : Nat) (.slice at_ 1 ct) := by rw [← hw0]; exact ⟨by simp [go_sem], by simp [go_sem], by simp [go_sem]⟩
  have hA0 : Cells7 w0 (w.heap.size + 1) 0 N (.slice ab bs.length cb) (.slice au us.length cu) p := by
    rw [← hw0]
    have := Cells7.new (w.alloc (.cells #[.int .i64 4, .int .i64 (m : Nat), .slice at_ 1 ct] 32)) N (.slice ab bs.length cb) (.slice au us.length cu) p 38
    rwa [World.size_alloc] at this
  have hlt0 : w.heap.size < w0.heap.size := by omega
  have hlt1 : w.heap.size + 1 < w0.heap.size := by omega
  have HW := Lib.hid hw0
  have HZ0 := Lib.hid hz0
  have mixed : Tryz.prog.follows .mixedOrders = true := by kernel_rfl
  clear hw0 hz0
  have HI := Lib.hid (fun X (h : Below w0.heap.size w0 X) => items_any z ih 4 m t at_ ct N bs us p ab cb au cu X mb kb ib ((hT.from_ (hb0.trans (h.mono hb0.size))).mono (hb0.trans (h.mono hb0.size)).size) ((hV.from_ (hb0.trans (h.mono hb0.size))).mono (hb0.trans (h.mono hb0.size)).size) hs (Or.inr rfl) hc hf h1 h2 ((hK.from_ (hb0.trans (h.mono hb0.size))).mono (hb0.trans (h.mono hb0.size)).size) (hTab.from (hb0.trans (h.mono hb0.size))))
  have hRl : (M.rowR 4 (m : Nat) [t] p us).length = 32 := rowR_length hfs
  have hil : ib < w0.heap.size := by have := hK.ilt; omega
  have HIB : Hid (Boxed w0 ib 52 (.func (.func 49) #[] #[.pointer (some ⟨kb, 0, none⟩)])) := (hb0.block _ hK.ilt).trans hK.ibx
  rw [M.rootV4]
  generalize M.rowR 4 (m : Nat) [t] p us = R at *
  have HM := Lib.hid (fun X (h : Below w0.heap.size w0 X) => mmix_any R us.length X (by omega) hRl (hTab.from (hb0.trans (h.mono hb0.size))))
  have hul9 : us.length ≤ 6000 := by omega
  clear hfs hlm hf hc hRl ih
  go_enter Tryz.func52, Tryz.ntmps52
  go_wp2_with fail
  rw [HW.out]
  refine wp_region_held (S := fun Y => Below w0.heap.size w0 Y) mixed ?_
  have hS0 : Below w0.heap.size w0 { w0 with drawn := w0.drawn + 1 } := Below.drew (Below.refl _ _)
  rw [show Array.replicate (Array.size _) false = #[false, false, false, false, false, false, false, false, false, false] from rfl, show Array.size (α := Oper) _ = 10 from rfl]
  refine wpAnyH_take (i := 0) (v := .func (.func 49) #[] #[.pointer (some ⟨kb, 0, none⟩)]) rfl (by kernel_rfl) (by kernel_rfl) (by kernel_rfl) (fun _ _ _ h => h) (Or.inl ⟨by rfl, ?_⟩) hS0 ?_
  · intro Y hY
    have bb := HIB.out.cell; have bc := (hY.cell (p := ⟨ib, 0, none⟩) hil).trans bb
    go_simp
  simp only [Act.put, List.getElem_toArray, List.getElem_cons_zero, List.setIfInBounds_toArray, List.set_cons_zero, List.set_cons_succ]
  refine wpAnyH_take (i := 1) (v := tv 4 (m : Nat) (.slice at_ 1 ct)) rfl (by kernel_rfl) (by kernel_rfl) (by kernel_rfl) (fun _ _ _ h => h) (Or.inl ⟨by rfl, ?_⟩) hS0 ?_
  · intro Y hY
    have b0 := (hY.cell (p := ⟨w.heap.size, 0, none⟩) hlt0).trans hB0.c0; have b1 := (hY.cell (p := ⟨w.heap.size, 1, none⟩) hlt0).trans hB0.c1; have b2 := (hY.cell (p := ⟨w.heap.size, 2, none⟩) hlt0).trans hB0.c2
    go_simp
  simp only [Act.put, List.getElem_toArray, List.getElem_cons_succ, List.getElem_cons_zero, List.setIfInBounds_toArray, List.set_cons_zero, List.set_cons_succ]
  refine wpAnyH_take (i := 2) (v := vv N (.slice ab bs.length cb) (.slice au us.length cu) p) rfl (by kernel_rfl) (by kernel_rfl) (by kernel_rfl) (fun _ _ _ h => h) (Or.inl ⟨by rfl, ?_⟩) hS0 ?_
  · intro Y hY
    have hAY := hA0.from_ hY hlt1; have a0 := hAY.c0; have a1 := hAY.c1; have a2 := hAY.c2; have a3 := hAY.c3; have a4 := hAY.c4; have a5 := hAY.c5; have a6 := hAY.c6; simp only [Nat.zero_add] at a1 a2 a3 a4 a5 a6
    go_simp
  simp only [Act.put, List.getElem_toArray, List.getElem_cons_succ, List.getElem_cons_zero, List.setIfInBounds_toArray, List.set_cons_zero, List.set_cons_succ]
  refine wpAnyH_take (i := 4) (v := .pointer (some ⟨w.heap.size + 1, 5, none⟩)) rfl (by kernel_rfl) (by kernel_rfl) (by kernel_rfl) (fun _ _ _ h => h) (Or.inl ⟨by rfl, ?_⟩) hS0 ?_
  · intro Y hY
    skip
    go_simp
  simp only [Act.put, List.getElem_toArray, List.getElem_cons_succ, List.getElem_cons_zero, List.setIfInBounds_toArray, List.set_cons_zero, List.set_cons_succ]
  refine wpAnyH_take (i := 5) (v := .slice au us.length cu) rfl (by kernel_rfl) (by kernel_rfl) (by kernel_rfl) (fun _ _ _ h => h) (Or.inl ⟨by rfl, ?_⟩) hS0 ?_
  · intro Y hY
    have hAY := hA0.from_ hY hlt1; have a0 := hAY.c0; have a1 := hAY.c1; have a2 := hAY.c2; have a3 := hAY.c3; have a4 := hAY.c4; have a5 := hAY.c5; have a6 := hAY.c6; simp only [Nat.zero_add] at a1 a2 a3 a4 a5 a6
    go_simp
  simp only [Act.put, List.getElem_toArray, List.getElem_cons_succ, List.getElem_cons_zero, List.setIfInBounds_toArray, List.set_cons_zero, List.set_cons_succ]
  refine wpAnyH_take (i := 6) (v := .int .i64 (us.length : Nat)) rfl (by kernel_rfl) (by kernel_rfl) (by kernel_rfl) (fun _ _ _ h => h) (Or.inl ⟨by rfl, ?_⟩) hS0 ?_
  · intro Y hY
    skip
    go_simp
  simp only [Act.put, List.getElem_toArray, List.getElem_cons_succ, List.getElem_cons_zero, List.setIfInBounds_toArray, List.set_cons_zero, List.set_cons_succ]
  refine wpAnyH_take (i := 7) (v := .int .u64 (us.length : Nat)) rfl (by kernel_rfl) (by kernel_rfl) (by kernel_rfl) (fun _ _ _ h => h) (Or.inl ⟨by rfl, ?_⟩) hS0 ?_
  · intro Y hY
    skip
    go_simp
    first | done | (rw [IntKind.wrap_u64]; omega)
  simp only [Act.put, List.getElem_toArray, List.getElem_cons_succ, List.getElem_cons_zero, List.setIfInBounds_toArray, List.set_cons_zero, List.set_cons_succ]
  refine wpAnyH_ready (rs := [3]) (by kernel_rfl) (by simp) ?_
  refine AllReadyH.cons rfl (fun K hK => ?_) AllReadyH.nil
  go_simp
  refine (HI.out _ hS0).mono ?_
  rintro e w1 ⟨rfl, hb1⟩
  have hS1 : Below w0.heap.size w0 w1 := hS0.trans (Below.mono hb1 hS0.size)
  try go_wp2_with fail
  refine hK.out _ _ hS1 (fun _ => ?_)
  clear hK K
  simp only [List.setIfInBounds_toArray, List.set_cons_zero, List.set_cons_succ]
  refine wpAnyH_ready (rs := [8]) (by kernel_rfl) (by simp) ?_
  refine AllReadyH.cons rfl (fun K hK => ?_) AllReadyH.nil
  go_simp
  refine (HM.out _ hS1).mono ?_
  rintro e w2 ⟨rfl, hb2⟩
  have hS2 : Below w0.heap.size w0 w2 := hS1.trans (Below.mono hb2 hS1.size)
  try go_wp2_with fail
  refine hK.out _ _ hS2 (fun _ => ?_)
  clear hK K
  simp only [List.setIfInBounds_toArray, List.set_cons_zero, List.set_cons_succ]
  refine wpAnyH_ready (rs := [9]) (by kernel_rfl) (by simp) ?_
  refine AllReadyH.cons rfl (fun K hK => ?_) AllReadyH.nil
  go_simp
  refine hK.out _ _ hS2 (fun _ => ?_)
  clear hK K
  simp only [List.setIfInBounds_toArray, List.set_cons_zero, List.set_cons_succ]
  refine wpAnyH_done (by kernel_rfl) ?_ _
  go_wp2_with fail
  go_ret
  exact ⟨rfl, hb0.trans (Below.mono hS2 hb0.size)⟩
end Go.Proofs.YtaajkbclojmbeaaGreatDoor
namespace Go.Proofs.YtaajkbclojmbeaaGreatDoor
open Go Go.RowKit Go.Shelf Go.Lib
attribute [local go_sem] Oper.semAt_some

set_option maxRecDepth 100000 in
set_option maxHeartbeats 8000000 in
theorem container_any (z : Nat) (ih : Hid (RootC z)) (n : Int) (ts : List M.Ty) (at_ : Option Addr) (ct : Nat) (N : Nat) (bs : List Bool) (us : List M.Va) (p : Int) (ab : Option Addr) (cb : Nat) (au : Option Addr) (cu : Nat) (w : World) (mb kb ib : Nat) (hT : LayT w w.heap.size ts (.slice at_ ts.length ct)) (hV : Vl w w.heap.size N bs us ab cb au cu) (hs : SizeOf.sizeOf us ≤ z + 1) (hc : M.chkT 0 (.mk 7 n ts) = 0) (hf : M.fitV (.mk 7 n ts) (.mk N bs us p) = 0) (h1 : M.cntT (.mk 7 n ts) ≤ 1000) (h2 : M.cntV (.mk N bs us p) ≤ 6000) (hK : Tbl w w.heap.size mb kb ib) (hTab : Tab w) :
    Calls Tryz.prog 56 #[tv 7 n (.slice at_ ts.length ct), vv N (.slice ab bs.length cb) (.slice au us.length cu) p, .pointer (some ⟨kb, 0, none⟩)] w (RP w (M.rootV (.mk 7 n ts) (.mk N bs us p))) := by
  obtain ⟨_, ho, hfs⟩ := M.of_fit hf
  have hform := (M.chkT_ok.1 hc).2.1
  have hul : us.length = ts.length := by rw [M.ofV_7] at ho; simp at ho; exact ho.2
  have htl : 1 ≤ ts.length ∧ ts.length ≤ 16 := by unfold M.formT at hform; simp at hform; exact ⟨by omega, by omega⟩
  have hin7 : ∀ j, j < us.length → M.inT 7 ts p j = M.tyAt ts j := fun j hj => by
    unfold M.inT M.tyAt
    rw [if_pos rfl, Nat.min_eq_left (by omega)]
  have heq := each_eq hin7
  have HEA := Lib.hid (M.roots_all 7 ts p 0 us hfs)
  rw [heq] at HEA
  have HIN : Hid (∀ i u, us[i]? = some u → M.chkT 0 (M.tyAt ts i) = 0 ∧ M.fitV (M.tyAt ts i) u = 0) := fun i u hu => by
    have hi := (List.getElem?_eq_some_iff.1 hu).1
    have h2 := M.fitVs_at 7 ts p us 0 i u hfs hu
    rw [Nat.zero_add, hin7 i hi] at h2
    refine ⟨?_, h2⟩
    rw [← hin7 i hi]
    unfold M.inT
    rw [if_pos rfl, List.getElem?_eq_getElem (by omega)]
    exact M.chkT_in hc (List.getElem_mem _)
  have hcT : M.cntTs ts ≤ 999 := by rw [M.cntT] at h1; omega
  have hcV : M.cntVs us ≤ 5999 := by rw [M.cntV] at h2; omega
  rw [M.rootV7, heq]
  have hel := each_length ts us
  obtain ⟨w0, hw0⟩ : ∃ w0, (w.alloc (.cells #[.int .i64 7, .int .i64 n, .slice at_ ts.length ct] 32)).alloc (.cells #[.int .u64 (M.pt 0 N), .int .u64 (M.pt 1 N), .int .u64 (M.pt 2 N), .int .u64 (M.pt 3 N), .slice ab bs.length cb, .slice au us.length cu, .int .i64 p] 38) = w0 := ⟨_, rfl⟩
  have hb0 : Below w.heap.size w w0 := by rw [← hw0]; exact two_boxes _ _ _
  have hz0 : w0.heap.size = w.heap.size + 2 := by rw [← hw0]; simp
  have hB0 : BoxT w0 w.heap.size 7 n (.slice at_ ts.length ct) := by rw [← hw0]; exact ⟨by simp [go_sem], by simp [go_sem], by simp [go_sem]⟩
  have hA0 : Cells7 w0 (w.heap.size + 1) 0 N (.slice ab bs.length cb) (.slice au us.length cu) p := by
    rw [← hw0]
    have := Cells7.new (w.alloc (.cells #[.int .i64 7, .int .i64 n, .slice at_ ts.length ct] 32)) N (.slice ab bs.length cb) (.slice au us.length cu) p 38
    rwa [World.size_alloc] at this
  have hlt0 : w.heap.size < w0.heap.size := by omega
  have hlt1 : w.heap.size + 1 < w0.heap.size := by omega
  have HW := Lib.hid hw0
  have HZ0 := Lib.hid hz0
  have mixed : Tryz.prog.follows .mixedOrders = true := by kernel_rfl
  clear hw0 hz0
  have HE := Lib.hid (fun X (h : Below w0.heap.size w0 X) => ofEach_any z ih 7 n ts at_ ct us au cu X mb kb ib ((hT.from_ (hb0.trans (h.mono hb0.size))).mono (hb0.trans (h.mono hb0.size)).size) ((hV.from_ (hb0.trans (h.mono hb0.size))).mono (hb0.trans (h.mono hb0.size)).size).v hs HIN (fun _ => htl.1) hcT hcV ((hK.from_ (hb0.trans (h.mono hb0.size))).mono (hb0.trans (h.mono hb0.size)).size) (hTab.from (hb0.trans (h.mono hb0.size))))
  have hkl : kb < w0.heap.size := by have := hK.klt; omega
  have HKB : Hid (Boxed w0 kb 50 (.map (some mb))) := (hb0.block _ hK.klt).trans hK.kbx
  have HTB := Lib.hid (fun X (h : Below w0.heap.size w0 X) => hTab.from (hb0.trans (h.mono hb0.size)))
  generalize eachT ts us = es at *
  have he9 : es.length ≤ 4000 := by omega
  have htl9 : ts.length ≤ 512 := by omega
  have HE9 := Lib.hid he9
  clear hfs hf hc ih heq HIN hin7 hel he9 ho hform hul
  go_enter Tryz.func56, Tryz.ntmps56
  go_wp2_with fail
  rw [HW.out]
  refine wp_region_held (S := fun Y => Below w0.heap.size w0 Y) mixed ?_
  have hS0 : Below w0.heap.size w0 { w0 with drawn := w0.drawn + 1 } := Below.drew (Below.refl _ _)
  rw [show Array.replicate (Array.size _) false = #[false, false, false, false, false, false, false, false, false, false] from rfl, show Array.size (α := Oper) _ = 10 from rfl]
  refine wpAnyH_take (i := 0) (v := .map (some mb)) rfl (by kernel_rfl) (by kernel_rfl) (by kernel_rfl) (fun _ _ _ h => h) (Or.inl ⟨by rfl, ?_⟩) hS0 ?_
  · intro Y hY
    have kk := (hY.cell (p := ⟨kb, 0, none⟩) hkl).trans HKB.out.cell
    go_simp
  simp only [Act.put, List.getElem_toArray, List.getElem_cons_zero, List.setIfInBounds_toArray, List.set_cons_zero, List.set_cons_succ]
  refine wpAnyH_take (i := 1) (v := tv 7 n (.slice at_ ts.length ct)) rfl (by kernel_rfl) (by kernel_rfl) (by kernel_rfl) (fun _ _ _ h => h) (Or.inl ⟨by rfl, ?_⟩) hS0 ?_
  · intro Y hY
    have b0 := (hY.cell (p := ⟨w.heap.size, 0, none⟩) hlt0).trans hB0.c0; have b1 := (hY.cell (p := ⟨w.heap.size, 1, none⟩) hlt0).trans hB0.c1; have b2 := (hY.cell (p := ⟨w.heap.size, 2, none⟩) hlt0).trans hB0.c2
    go_simp
  simp only [Act.put, List.getElem_toArray, List.getElem_cons_succ, List.getElem_cons_zero, List.setIfInBounds_toArray, List.set_cons_zero, List.set_cons_succ]
  refine wpAnyH_take (i := 2) (v := .pointer (some ⟨w.heap.size + 1, 5, none⟩)) rfl (by kernel_rfl) (by kernel_rfl) (by kernel_rfl) (fun _ _ _ h => h) (Or.inl ⟨by rfl, ?_⟩) hS0 ?_
  · intro Y hY
    skip
    go_simp
  simp only [Act.put, List.getElem_toArray, List.getElem_cons_succ, List.getElem_cons_zero, List.setIfInBounds_toArray, List.set_cons_zero, List.set_cons_succ]
  refine wpAnyH_take (i := 3) (v := .slice au us.length cu) rfl (by kernel_rfl) (by kernel_rfl) (by kernel_rfl) (fun _ _ _ h => h) (Or.inl ⟨by rfl, ?_⟩) hS0 ?_
  · intro Y hY
    have hAY := hA0.from_ hY hlt1; have a0 := hAY.c0; have a1 := hAY.c1; have a2 := hAY.c2; have a3 := hAY.c3; have a4 := hAY.c4; have a5 := hAY.c5; have a6 := hAY.c6; simp only [Nat.zero_add] at a1 a2 a3 a4 a5 a6
    go_simp
  simp only [Act.put, List.getElem_toArray, List.getElem_cons_succ, List.getElem_cons_zero, List.setIfInBounds_toArray, List.set_cons_zero, List.set_cons_succ]
  refine wpAnyH_take (i := 5) (v := .pointer (some ⟨w.heap.size, 2, none⟩)) rfl (by kernel_rfl) (by kernel_rfl) (by kernel_rfl) (fun _ _ _ h => h) (Or.inl ⟨by rfl, ?_⟩) hS0 ?_
  · intro Y hY
    skip
    go_simp
  simp only [Act.put, List.getElem_toArray, List.getElem_cons_succ, List.getElem_cons_zero, List.setIfInBounds_toArray, List.set_cons_zero, List.set_cons_succ]
  refine wpAnyH_take (i := 6) (v := .slice at_ ts.length ct) rfl (by kernel_rfl) (by kernel_rfl) (by kernel_rfl) (fun _ _ _ h => h) (Or.inl ⟨by rfl, ?_⟩) hS0 ?_
  · intro Y hY
    have b0 := (hY.cell (p := ⟨w.heap.size, 0, none⟩) hlt0).trans hB0.c0; have b1 := (hY.cell (p := ⟨w.heap.size, 1, none⟩) hlt0).trans hB0.c1; have b2 := (hY.cell (p := ⟨w.heap.size, 2, none⟩) hlt0).trans hB0.c2
    go_simp
  simp only [Act.put, List.getElem_toArray, List.getElem_cons_succ, List.getElem_cons_zero, List.setIfInBounds_toArray, List.set_cons_zero, List.set_cons_succ]
  refine wpAnyH_take (i := 7) (v := .int .i64 (ts.length : Nat)) rfl (by kernel_rfl) (by kernel_rfl) (by kernel_rfl) (fun _ _ _ h => h) (Or.inl ⟨by rfl, ?_⟩) hS0 ?_
  · intro Y hY
    skip
    go_simp
  simp only [Act.put, List.getElem_toArray, List.getElem_cons_succ, List.getElem_cons_zero, List.setIfInBounds_toArray, List.set_cons_zero, List.set_cons_succ]
  refine wpAnyH_ready (rs := [4]) (by kernel_rfl) (by simp) ?_
  refine AllReadyH.cons rfl (fun K hK => ?_) AllReadyH.nil
  go_simp
  refine (HE.out _ hS0).mono ?_
  rintro e w1 ⟨⟨v1, rfl, hO1⟩, hb1⟩
  have hS1 : Below w0.heap.size w0 w1 := hS0.trans (Below.mono hb1 hS0.size)
  obtain ⟨va, vc, hv1⟩ := hO1.len
  subst hv1
  have HMT := Lib.hid (mtree_any es ts.length va vc w1 hO1.ts HE9.out HEA.out htl9 (HTB.out _ hS1))
  clear hO1
  try go_wp2_with fail
  refine hK.out _ _ hS1 (fun _ => ?_)
  clear hK K
  simp only [List.setIfInBounds_toArray, List.set_cons_zero, List.set_cons_succ]
  refine wpAnyH_ready (rs := [8]) (by kernel_rfl) (by simp) ?_
  refine AllReadyH.cons rfl (fun K hK => ?_) AllReadyH.nil
  go_simp
  refine HMT.out.mono ?_
  rintro e w2 ⟨rfl, hb2⟩
  have hS2 : Below w0.heap.size w0 w2 := hS1.trans (Below.mono hb2 hS1.size)
  try go_wp2_with fail
  refine hK.out _ _ hS2 (fun _ => ?_)
  clear hK K
  simp only [List.setIfInBounds_toArray, List.set_cons_zero, List.set_cons_succ]
  refine wpAnyH_ready (rs := [9]) (by kernel_rfl) (by simp) ?_
  refine AllReadyH.cons rfl (fun K hK => ?_) AllReadyH.nil
  go_simp
  refine hK.out _ _ hS2 (fun _ => ?_)
  clear hK K
  simp only [List.setIfInBounds_toArray, List.set_cons_zero, List.set_cons_succ]
  refine wpAnyH_done (by kernel_rfl) ?_ _
  go_wp2_with fail
  go_ret
  exact ⟨rfl, hb0.trans (Below.mono hS2 hb0.size)⟩
end Go.Proofs.YtaajkbclojmbeaaGreatDoor
namespace Go.Proofs.YtaajkbclojmbeaaGreatDoor
open Go Go.RowKit Go.Shelf Go.Lib
attribute [local go_sem] Oper.semAt_some

set_option maxRecDepth 100000 in
set_option maxHeartbeats 8000000 in
theorem bitlist_any (m : Nat) (at_ : Option Addr) (ct : Nat) (N : Nat) (bs : List Bool) (us : List M.Va) (p : Int) (ab : Option Addr) (cb : Nat) (au : Option Addr) (cu : Nat) (w : World) (hV : Vl w w.heap.size N bs us ab cb au cu) (hm : m ≤ 512) (hbl : bs.length ≤ m) (hTab : Tab w) (hm1 : 1 ≤ m) :
    Calls Tryz.prog 53 #[tv 6 (m : Nat) (.slice at_ 0 ct), vv N (.slice ab bs.length cb) (.slice au us.length cu) p] w (RP w (M.rootV (.mk 6 (m : Nat) []) (.mk N bs us p))) := by
  have hsz : M.sizeT (.mk 5 (m : Nat) []) = (m + 7) / 8 := by
    have hc5 : M.chkT 0 (.mk 5 (m : Nat) []) = 0 := by
      refine M.chkT_ok.2 ⟨by omega, ?_, by omega, rfl⟩
      unfold M.formT
      simp
      omega
    rw [(size_whole (Or.inr (Or.inr rfl)) hc5).1, M.szT5, Int.toNat_natCast]
  obtain ⟨w0, hw0⟩ : ∃ w0, (w.alloc (.cells #[.int .i64 6, .int .i64 (m : Nat), .slice at_ 0 ct] 32)).alloc (.cells #[.int .u64 (M.pt 0 N), .int .u64 (M.pt 1 N), .int .u64 (M.pt 2 N), .int .u64 (M.pt 3 N), .slice ab bs.length cb, .slice au us.length cu, .int .i64 p] 38) = w0 := ⟨_, rfl⟩
  have hb0 : Below w.heap.size w w0 := by rw [← hw0]; exact two_boxes _ _ _
  have hz0 : w0.heap.size = w.heap.size + 2 := by rw [← hw0]; simp
  have hB0 : BoxT w0 w.heap.size 6 (m : Nat) (.slice at_ 0 ct) := by rw [← hw0]; exact ⟨by simp [go_sem], by simp [go_sem], by simp [go_sem]⟩
  have hA0 : Cells7 w0 (w.heap.size + 1) 0 N (.slice ab bs.length cb) (.slice au us.length cu) p := by
    rw [← hw0]
    have := Cells7.new (w.alloc (.cells #[.int .i64 6, .int .i64 (m : Nat), .slice at_ 0 ct] 32)) N (.slice ab bs.length cb) (.slice au us.length cu) p 38
    rwa [World.size_alloc] at this
  have hlt0 : w.heap.size < w0.heap.size := by omega
  have hlt1 : w.heap.size + 1 < w0.heap.size := by omega
  have HW := Lib.hid hw0
  have HZ0 := Lib.hid hz0
  have mixed : Tryz.prog.follows .mixedOrders = true := by kernel_rfl
  clear hw0 hz0
  have HP := Lib.hid (fun X (h : Below w0.heap.size w0 X) => putBitsM_any bs ab cb X ((hV.from_ (hb0.trans (h.mono hb0.size))).mono (hb0.trans (h.mono hb0.size)).size).b (by omega))
  have HO := Lib.hid (fun X => bitsOfM_any m X)
  have HZ := Lib.hid (fun X => shape_size 5 (m : Nat) [] none 0 X (.nil_ (by decide)) (by simp [M.cntT, M.cntTs]))
  have hpk : (M.packB bs).length ≤ 100 := by rw [M.pack_length]; omega
  rw [M.rootV6, Int.toNat_natCast]
  have hl6 : (M.packT (M.packB bs) ((m + 7) / 8)).length = 32 := M.treeT_length _ (M.chunks_all _)
  have hHK : ∀ X (h : Below w0.heap.size w0 X), Calls Tryz.prog 46 #[.string ⟨(M.packB bs).toArray⟩, .int .i64 (M.sizeT (.mk 5 (m : Nat) []) : Nat)] X (RP X (M.packT (M.packB bs) ((m + 7) / 8))) := fun X h => by
    rw [hsz]
    exact packed_any (M.packB bs) ((m + 7) / 8) X (by omega) (by omega) (hTab.from (hb0.trans (h.mono hb0.size)))
  have HK := Lib.hid hHK
  generalize M.packT (M.packB bs) ((m + 7) / 8) = R at *
  generalize M.packB bs = s at *
  generalize M.sizeT (.mk 5 (m : Nat) []) = z at *
  have HM := Lib.hid (fun X (h : Below w0.heap.size w0 X) => mmix_any R bs.length X (by omega) hl6 (hTab.from (hb0.trans (h.mono hb0.size))))
  have hbl9 : bs.length ≤ 512 := by omega
  clear hHK hl6 hpk hsz
  go_enter Tryz.func53, Tryz.ntmps53
  go_wp2_with fail
  rw [HW.out]
  refine wp_region_held (S := fun Y => Below w0.heap.size w0 Y) mixed ?_
  have hS0 : Below w0.heap.size w0 { w0 with drawn := w0.drawn + 1 } := Below.drew (Below.refl _ _)
  rw [show Array.replicate (Array.size _) false = #[false, false, false, false, false, false, false, false, false, false, false, false, false, false] from rfl, show Array.size (α := Oper) _ = 14 from rfl]
  refine wpAnyH_take (i := 0) (v := .pointer (some ⟨w.heap.size + 1, 4, none⟩)) rfl (by kernel_rfl) (by kernel_rfl) (by kernel_rfl) (fun _ _ _ h => h) (Or.inl ⟨by rfl, ?_⟩) hS0 ?_
  · intro Y hY
    skip
    go_simp
  simp only [Act.put, List.getElem_toArray, List.getElem_cons_zero, List.setIfInBounds_toArray, List.set_cons_zero, List.set_cons_succ]
  refine wpAnyH_take (i := 1) (v := .slice ab bs.length cb) rfl (by kernel_rfl) (by kernel_rfl) (by kernel_rfl) (fun _ _ _ h => h) (Or.inl ⟨by rfl, ?_⟩) hS0 ?_
  · intro Y hY
    have hAY := hA0.from_ hY hlt1; have a0 := hAY.c0; have a1 := hAY.c1; have a2 := hAY.c2; have a3 := hAY.c3; have a4 := hAY.c4; have a5 := hAY.c5; have a6 := hAY.c6; simp only [Nat.zero_add] at a1 a2 a3 a4 a5 a6
    go_simp
  simp only [Act.put, List.getElem_toArray, List.getElem_cons_succ, List.getElem_cons_zero, List.setIfInBounds_toArray, List.set_cons_zero, List.set_cons_succ]
  refine wpAnyH_take (i := 3) (v := .pointer (some ⟨w.heap.size, 1, none⟩)) rfl (by kernel_rfl) (by kernel_rfl) (by kernel_rfl) (fun _ _ _ h => h) (Or.inl ⟨by rfl, ?_⟩) hS0 ?_
  · intro Y hY
    skip
    go_simp
  simp only [Act.put, List.getElem_toArray, List.getElem_cons_succ, List.getElem_cons_zero, List.setIfInBounds_toArray, List.set_cons_zero, List.set_cons_succ]
  refine wpAnyH_take (i := 4) (v := .int .i64 (m : Nat)) rfl (by kernel_rfl) (by kernel_rfl) (by kernel_rfl) (fun _ _ _ h => h) (Or.inl ⟨by rfl, ?_⟩) hS0 ?_
  · intro Y hY
    have b0 := (hY.cell (p := ⟨w.heap.size, 0, none⟩) hlt0).trans hB0.c0; have b1 := (hY.cell (p := ⟨w.heap.size, 1, none⟩) hlt0).trans hB0.c1; have b2 := (hY.cell (p := ⟨w.heap.size, 2, none⟩) hlt0).trans hB0.c2
    go_simp
  simp only [Act.put, List.getElem_toArray, List.getElem_cons_succ, List.getElem_cons_zero, List.setIfInBounds_toArray, List.set_cons_zero, List.set_cons_succ]
  refine wpAnyH_take (i := 8) (v := .pointer (some ⟨w.heap.size + 1, 4, none⟩)) rfl (by kernel_rfl) (by kernel_rfl) (by kernel_rfl) (fun _ _ _ h => h) (Or.inl ⟨by rfl, ?_⟩) hS0 ?_
  · intro Y hY
    skip
    go_simp
  simp only [Act.put, List.getElem_toArray, List.getElem_cons_succ, List.getElem_cons_zero, List.setIfInBounds_toArray, List.set_cons_zero, List.set_cons_succ]
  refine wpAnyH_take (i := 9) (v := .slice ab bs.length cb) rfl (by kernel_rfl) (by kernel_rfl) (by kernel_rfl) (fun _ _ _ h => h) (Or.inl ⟨by rfl, ?_⟩) hS0 ?_
  · intro Y hY
    have hAY := hA0.from_ hY hlt1; have a0 := hAY.c0; have a1 := hAY.c1; have a2 := hAY.c2; have a3 := hAY.c3; have a4 := hAY.c4; have a5 := hAY.c5; have a6 := hAY.c6; simp only [Nat.zero_add] at a1 a2 a3 a4 a5 a6
    go_simp
  simp only [Act.put, List.getElem_toArray, List.getElem_cons_succ, List.getElem_cons_zero, List.setIfInBounds_toArray, List.set_cons_zero, List.set_cons_succ]
  refine wpAnyH_take (i := 10) (v := .int .i64 (bs.length : Nat)) rfl (by kernel_rfl) (by kernel_rfl) (by kernel_rfl) (fun _ _ _ h => h) (Or.inl ⟨by rfl, ?_⟩) hS0 ?_
  · intro Y hY
    skip
    go_simp
  simp only [Act.put, List.getElem_toArray, List.getElem_cons_succ, List.getElem_cons_zero, List.setIfInBounds_toArray, List.set_cons_zero, List.set_cons_succ]
  refine wpAnyH_take (i := 11) (v := .int .u64 (bs.length : Nat)) rfl (by kernel_rfl) (by kernel_rfl) (by kernel_rfl) (fun _ _ _ h => h) (Or.inl ⟨by rfl, ?_⟩) hS0 ?_
  · intro Y hY
    skip
    go_simp
    first | done | (rw [IntKind.wrap_u64]; omega)
  simp only [Act.put, List.getElem_toArray, List.getElem_cons_succ, List.getElem_cons_zero, List.setIfInBounds_toArray, List.set_cons_zero, List.set_cons_succ]
  refine wpAnyH_ready (rs := [2]) (by kernel_rfl) (by simp) ?_
  refine AllReadyH.cons rfl (fun K hK => ?_) AllReadyH.nil
  go_simp
  refine (HP.out _ hS0).mono ?_
  rintro e w1 ⟨rfl, hb1⟩
  have hS1 : Below w0.heap.size w0 w1 := hS0.trans (Below.mono hb1 hS0.size)
  try go_wp2_with fail
  refine hK.out _ _ hS1 (fun _ => ?_)
  clear hK K
  simp only [List.setIfInBounds_toArray, List.set_cons_zero, List.set_cons_succ]
  refine wpAnyH_ready (rs := [5]) (by kernel_rfl) (by simp) ?_
  refine AllReadyH.cons rfl (fun K hK => ?_) AllReadyH.nil
  go_simp
  refine (HO.out _).mono ?_
  rintro e w2 ⟨rfl, hb2⟩
  have hS2 : Below w0.heap.size w0 w2 := hS1.trans (Below.mono hb2 hS1.size)
  try go_wp2_with fail
  refine hK.out _ _ hS2 (fun _ => ?_)
  clear hK K
  simp only [List.setIfInBounds_toArray, List.set_cons_zero, List.set_cons_succ]
  refine wpAnyH_ready (rs := [6]) (by kernel_rfl) (by simp) ?_
  refine AllReadyH.cons rfl (fun K hK => ?_) AllReadyH.nil
  go_simp
  refine (HZ.out _).mono ?_
  rintro e w3 ⟨rfl, hb3⟩
  have hS3 : Below w0.heap.size w0 w3 := hS2.trans (Below.mono hb3 hS2.size)
  try go_wp2_with fail
  refine hK.out _ _ hS3 (fun _ => ?_)
  clear hK K
  simp only [List.setIfInBounds_toArray, List.set_cons_zero, List.set_cons_succ]
  refine wpAnyH_ready (rs := [7]) (by kernel_rfl) (by simp) ?_
  refine AllReadyH.cons rfl (fun K hK => ?_) AllReadyH.nil
  go_simp
  refine (HK.out _ hS3).mono ?_
  rintro e w4 ⟨rfl, hb4⟩
  have hS4 : Below w0.heap.size w0 w4 := hS3.trans (Below.mono hb4 hS3.size)
  try go_wp2_with fail
  refine hK.out _ _ hS4 (fun _ => ?_)
  clear hK K
  simp only [List.setIfInBounds_toArray, List.set_cons_zero, List.set_cons_succ]
  refine wpAnyH_ready (rs := [12]) (by kernel_rfl) (by simp) ?_
  refine AllReadyH.cons rfl (fun K hK => ?_) AllReadyH.nil
  go_simp
  refine (HM.out _ hS4).mono ?_
  rintro e w5 ⟨rfl, hb5⟩
  have hS5 : Below w0.heap.size w0 w5 := hS4.trans (Below.mono hb5 hS4.size)
  try go_wp2_with fail
  refine hK.out _ _ hS5 (fun _ => ?_)
  clear hK K
  simp only [List.setIfInBounds_toArray, List.set_cons_zero, List.set_cons_succ]
  refine wpAnyH_ready (rs := [13]) (by kernel_rfl) (by simp) ?_
  refine AllReadyH.cons rfl (fun K hK => ?_) AllReadyH.nil
  go_simp
  refine hK.out _ _ hS5 (fun _ => ?_)
  clear hK K
  simp only [List.setIfInBounds_toArray, List.set_cons_zero, List.set_cons_succ]
  refine wpAnyH_done (by kernel_rfl) ?_ _
  go_wp2_with fail
  go_ret
  exact ⟨rfl, hb0.trans (Below.mono hS5 hb0.size)⟩
end Go.Proofs.YtaajkbclojmbeaaGreatDoor
namespace Go.Proofs.YtaajkbclojmbeaaGreatDoor
open Go Go.RowKit Go.Shelf Go.Lib
attribute [local go_sem] Oper.semAt_some

set_option maxRecDepth 100000 in
set_option maxHeartbeats 8000000 in
theorem union_any (z : Nat) (ih : Hid (RootC z)) (n : Int) (ts : List M.Ty) (at_ : Option Addr) (ct : Nat) (N : Nat) (bs : List Bool) (u : M.Va) (P : Nat) (ab : Option Addr) (cb : Nat) (au : Option Addr) (cu : Nat) (w : World) (mb kb ib : Nat) (hT : LayT w w.heap.size ts (.slice at_ ts.length ct)) (hV : Vl w w.heap.size N bs [u] ab cb au cu) (hs : SizeOf.sizeOf [u] ≤ z + 1) (hc : M.chkT 0 (.mk 8 n ts) = 0) (hf : M.fitV (.mk 8 n ts) (.mk N bs [u] (P : Nat)) = 0) (h1 : M.cntT (.mk 8 n ts) ≤ 1000) (h2 : M.cntV (.mk N bs [u] (P : Nat)) ≤ 6000) (hK : Tbl w w.heap.size mb kb ib) (hTab : Tab w) :
    Calls Tryz.prog 57 #[tv 8 n (.slice at_ ts.length ct), vv N (.slice ab bs.length cb) (.slice au 1 cu) (P : Nat), .pointer (some ⟨kb, 0, none⟩)] w (RP w (M.rootV (.mk 8 n ts) (.mk N bs [u] (P : Nat)))) := by
  obtain ⟨_, ho, hfs⟩ := M.of_fit hf
  have hform := (M.chkT_ok.1 hc).2.1
  have htl : ts.length ≤ 8 := by unfold M.formT at hform; simp at hform; omega
  have hP : P < ts.length := by rw [M.ofV_8] at ho; simp at ho; omega
  have hin8 : M.inT 8 ts (P : Nat) 0 = ts[P] := by unfold M.inT; simp [List.getElem?_eq_getElem hP]
  have hfu := M.fitVs_at 8 ts (P : Nat) [u] 0 0 u hfs rfl
  rw [Nat.zero_add, hin8] at hfu
  have hchk := M.chkT_in hc (List.getElem_mem hP)
  rw [M.rootV8, M.rootVs, hin8, Int.toNat_natCast, List.headD_cons]
  have hcT : M.cntTs ts ≤ 999 := by rw [M.cntT] at h1; omega
  have hcV : M.cntVs [u] ≤ 5999 := by rw [M.cntV] at h2; omega
  obtain ⟨c, x, k', n', us', ua, uc, hat, hcn, hxt, e0, e1, e2, hLt⟩ := hT.at_ hP
  subst hat
  rw [List.getElem?_eq_getElem hP] at hxt
  obtain ⟨b, o, N', bs', vs', q', ab', cb', av', cv', hau, hbn, hxk, h7, hVl⟩ := hV.v.at_ (i := 0) (by simp)
  subst hau
  obtain rfl : u = .mk N' bs' vs' q' := by simpa using hxk
  have hcx := M.cntT_part (List.getElem_mem hP)
  have hsx := size_va hxk
  rw [M.Va.mk.sizeOf_spec] at hsx
  have hxt' : ts[P] = .mk k' n' us' := Option.some.inj hxt
  rw [hxt'] at hfu hchk hcx ⊢
  simp only [Nat.zero_mul, Nat.add_zero] at h7
  have hl8 := M.root_length _ _ hfu
  have hcx2 : M.cntV (.mk N' bs' vs' q') ≤ 6000 := by have := M.cntV_part (List.mem_of_getElem? hxk); omega
  obtain ⟨w0, hw0⟩ : ∃ w0, (w.alloc (.cells #[.int .i64 8, .int .i64 n, .slice (some ⟨c, x, none⟩) ts.length ct] 32)).alloc (.cells #[.int .u64 (M.pt 0 N), .int .u64 (M.pt 1 N), .int .u64 (M.pt 2 N), .int .u64 (M.pt 3 N), .slice ab bs.length cb, .slice (some ⟨b, o, none⟩) 1 cu, .int .i64 (P : Nat)] 38) = w0 := ⟨_, rfl⟩
  have hb0 : Below w.heap.size w w0 := by rw [← hw0]; exact two_boxes _ _ _
  have hz0 : w0.heap.size = w.heap.size + 2 := by rw [← hw0]; simp
  have hB0 : BoxT w0 w.heap.size 8 n (.slice (some ⟨c, x, none⟩) ts.length ct) := by rw [← hw0]; exact ⟨by simp [go_sem], by simp [go_sem], by simp [go_sem]⟩
  have hA0 : Cells7 w0 (w.heap.size + 1) 0 N (.slice ab bs.length cb) (.slice (some ⟨b, o, none⟩) 1 cu) (P : Nat) := by
    rw [← hw0]
    have := Cells7.new (w.alloc (.cells #[.int .i64 8, .int .i64 n, .slice (some ⟨c, x, none⟩) ts.length ct] 32)) N (.slice ab bs.length cb) (.slice (some ⟨b, o, none⟩) 1 cu) (P : Nat) 38
    rwa [World.size_alloc] at this
  have hlt0 : w.heap.size < w0.heap.size := by omega
  have hlt1 : w.heap.size + 1 < w0.heap.size := by omega
  have HW := Lib.hid hw0
  have HZ0 := Lib.hid hz0
  have mixed : Tryz.prog.follows .mixedOrders = true := by kernel_rfl
  clear hw0 hz0
  have HC : Hid (∀ X, Below w0.heap.size w0 X → Calls Tryz.prog 25 #[.map (some mb), tv k' n' (.slice ua us'.length uc), vv N' (.slice ab' bs'.length cb') (.slice av' vs'.length cv') q'] X (RP X (M.rootV (.mk k' n' us') (.mk N' bs' vs' q')))) := fun X h => by
    have hX : Below w.heap.size w X := hb0.trans (Below.mono h hb0.size)
    exact ih.out k' n' us' ua uc N' bs' vs' q' ab' cb' av' cv' X mb kb ib (by omega) ((hLt.from_ hX).mono hX.size) ((hVl.from_ hX).mono hX.size) hchk hfu (by omega) hcx2 ((hK.from_ hX).mono hX.size) (hTab.from hX)
  generalize M.rootV (.mk k' n' us') (.mk N' bs' vs' q') = R at *
  have HM := Lib.hid (fun X (h : Below w0.heap.size w0 X) => mmix_any R P X (by omega) hl8 (hTab.from (hb0.trans (h.mono hb0.size))))
  have g0 := (hb0.cell (p := ⟨c, x + P * 3, none⟩) hcn).trans e0
  have g1 := (hb0.cell (p := ⟨c, x + P * 3 + 1, none⟩) hcn).trans e1
  have g2 := (hb0.cell (p := ⟨c, x + P * 3 + 2, none⟩) hcn).trans e2
  have hcn0 : c < w0.heap.size := by omega
  have hbn0 : b < w0.heap.size := by omega
  have h7r := h7.from_ hb0 hbn
  have hPi : (P : Int) < ts.length := by omega
  have hkl : kb < w0.heap.size := by have := hK.klt; omega
  have HKB : Hid (Boxed w0 kb 50 (.map (some mb))) := (hb0.block _ hK.klt).trans hK.kbx
  have hP9 : P < 8 := by omega
  clear hfs hf hc ih ho hform hin8 hfu hchk hxt hxt' hxk hLt hVl h7 e0 e1 e2 hcx hsx hcx2 hl8
  go_enter Tryz.func57, Tryz.ntmps57
  go_wp2_with fail
  rw [HW.out]
  refine wp_region_held (S := fun Y => Below w0.heap.size w0 Y) mixed ?_
  have hS0 : Below w0.heap.size w0 { w0 with drawn := w0.drawn + 1 } := Below.drew (Below.refl _ _)
  rw [show Array.replicate (Array.size _) false = #[false, false, false, false, false, false, false, false, false, false, false, false, false, false, false, false, false] from rfl, show Array.size (α := Oper) _ = 17 from rfl]
  refine wpAnyH_take (i := 0) (v := .map (some mb)) rfl (by kernel_rfl) (by kernel_rfl) (by kernel_rfl) (fun _ _ _ h => h) (Or.inl ⟨by rfl, ?_⟩) hS0 ?_
  · intro Y hY
    have kk := (hY.cell (p := ⟨kb, 0, none⟩) hkl).trans HKB.out.cell
    go_simp
  simp only [Act.put, List.getElem_toArray, List.getElem_cons_zero, List.setIfInBounds_toArray, List.set_cons_zero, List.set_cons_succ]
  refine wpAnyH_take (i := 1) (v := .pointer (some ⟨w.heap.size, 2, none⟩)) rfl (by kernel_rfl) (by kernel_rfl) (by kernel_rfl) (fun _ _ _ h => h) (Or.inl ⟨by rfl, ?_⟩) hS0 ?_
  · intro Y hY
    skip
    go_simp
  simp only [Act.put, List.getElem_toArray, List.getElem_cons_succ, List.getElem_cons_zero, List.setIfInBounds_toArray, List.set_cons_zero, List.set_cons_succ]
  refine wpAnyH_take (i := 2) (v := .slice (some ⟨c, x, none⟩) ts.length ct) rfl (by kernel_rfl) (by kernel_rfl) (by kernel_rfl) (fun _ _ _ h => h) (Or.inl ⟨by rfl, ?_⟩) hS0 ?_
  · intro Y hY
    have b0 := (hY.cell (p := ⟨w.heap.size, 0, none⟩) hlt0).trans hB0.c0; have b1 := (hY.cell (p := ⟨w.heap.size, 1, none⟩) hlt0).trans hB0.c1; have b2 := (hY.cell (p := ⟨w.heap.size, 2, none⟩) hlt0).trans hB0.c2
    go_simp
  simp only [Act.put, List.getElem_toArray, List.getElem_cons_succ, List.getElem_cons_zero, List.setIfInBounds_toArray, List.set_cons_zero, List.set_cons_succ]
  refine wpAnyH_take (i := 3) (v := .pointer (some ⟨w.heap.size + 1, 6, none⟩)) rfl (by kernel_rfl) (by kernel_rfl) (by kernel_rfl) (fun _ _ _ h => h) (Or.inl ⟨by rfl, ?_⟩) hS0 ?_
  · intro Y hY
    skip
    go_simp
  simp only [Act.put, List.getElem_toArray, List.getElem_cons_succ, List.getElem_cons_zero, List.setIfInBounds_toArray, List.set_cons_zero, List.set_cons_succ]
  refine wpAnyH_take (i := 4) (v := .int .i64 (P : Nat)) rfl (by kernel_rfl) (by kernel_rfl) (by kernel_rfl) (fun _ _ _ h => h) (Or.inl ⟨by rfl, ?_⟩) hS0 ?_
  · intro Y hY
    have hAY := hA0.from_ hY hlt1; have a0 := hAY.c0; have a1 := hAY.c1; have a2 := hAY.c2; have a3 := hAY.c3; have a4 := hAY.c4; have a5 := hAY.c5; have a6 := hAY.c6; simp only [Nat.zero_add] at a1 a2 a3 a4 a5 a6
    go_simp
  simp only [Act.put, List.getElem_toArray, List.getElem_cons_succ, List.getElem_cons_zero, List.setIfInBounds_toArray, List.set_cons_zero, List.set_cons_succ]
  refine wpAnyH_take (i := 5) (v := .pointer (some ⟨c, x + P * 3, none⟩)) rfl (by kernel_rfl) (by kernel_rfl) (by kernel_rfl) (fun _ _ _ h => h) (Or.inl ⟨by rfl, ?_⟩) hS0 ?_
  · intro Y hY
    skip
    go_simp
  simp only [Act.put, List.getElem_toArray, List.getElem_cons_succ, List.getElem_cons_zero, List.setIfInBounds_toArray, List.set_cons_zero, List.set_cons_succ]
  refine wpAnyH_take (i := 6) (v := tv k' n' (.slice ua us'.length uc)) rfl (by kernel_rfl) (by kernel_rfl) (by kernel_rfl) (fun _ _ _ h => h) (Or.inl ⟨by rfl, ?_⟩) hS0 ?_
  · intro Y hY
    have f0 := (hY.cell (p := ⟨c, x + P * 3, none⟩) hcn0).trans g0; have f1 := (hY.cell (p := ⟨c, x + P * 3 + 1, none⟩) hcn0).trans g1; have f2 := (hY.cell (p := ⟨c, x + P * 3 + 2, none⟩) hcn0).trans g2
    go_simp
  simp only [Act.put, List.getElem_toArray, List.getElem_cons_succ, List.getElem_cons_zero, List.setIfInBounds_toArray, List.set_cons_zero, List.set_cons_succ]
  refine wpAnyH_take (i := 7) (v := .pointer (some ⟨w.heap.size + 1, 5, none⟩)) rfl (by kernel_rfl) (by kernel_rfl) (by kernel_rfl) (fun _ _ _ h => h) (Or.inl ⟨by rfl, ?_⟩) hS0 ?_
  · intro Y hY
    skip
    go_simp
  simp only [Act.put, List.getElem_toArray, List.getElem_cons_succ, List.getElem_cons_zero, List.setIfInBounds_toArray, List.set_cons_zero, List.set_cons_succ]
  refine wpAnyH_take (i := 8) (v := .slice (some ⟨b, o, none⟩) 1 cu) rfl (by kernel_rfl) (by kernel_rfl) (by kernel_rfl) (fun _ _ _ h => h) (Or.inl ⟨by rfl, ?_⟩) hS0 ?_
  · intro Y hY
    have hAY := hA0.from_ hY hlt1; have a0 := hAY.c0; have a1 := hAY.c1; have a2 := hAY.c2; have a3 := hAY.c3; have a4 := hAY.c4; have a5 := hAY.c5; have a6 := hAY.c6; simp only [Nat.zero_add] at a1 a2 a3 a4 a5 a6
    go_simp
  simp only [Act.put, List.getElem_toArray, List.getElem_cons_succ, List.getElem_cons_zero, List.setIfInBounds_toArray, List.set_cons_zero, List.set_cons_succ]
  refine wpAnyH_take (i := 9) (v := .pointer (some ⟨b, o, none⟩)) rfl (by kernel_rfl) (by kernel_rfl) (by kernel_rfl) (fun _ _ _ h => h) (Or.inl ⟨by rfl, ?_⟩) hS0 ?_
  · intro Y hY
    skip
    go_simp
  simp only [Act.put, List.getElem_toArray, List.getElem_cons_succ, List.getElem_cons_zero, List.setIfInBounds_toArray, List.set_cons_zero, List.set_cons_succ]
  refine wpAnyH_take (i := 10) (v := vv N' (.slice ab' bs'.length cb') (.slice av' vs'.length cv') q') rfl (by kernel_rfl) (by kernel_rfl) (by kernel_rfl) (fun _ _ _ h => h) (Or.inl ⟨by rfl, ?_⟩) hS0 ?_
  · intro Y hY
    have hCY := h7r.from_ hY hbn0; have c0 := hCY.c0; have c1 := hCY.c1; have c2 := hCY.c2; have c3 := hCY.c3; have c4 := hCY.c4; have c5 := hCY.c5; have c6 := hCY.c6
    go_simp
  simp only [Act.put, List.getElem_toArray, List.getElem_cons_succ, List.getElem_cons_zero, List.setIfInBounds_toArray, List.set_cons_zero, List.set_cons_succ]
  refine wpAnyH_take (i := 12) (v := .pointer (some ⟨w.heap.size + 1, 6, none⟩)) rfl (by kernel_rfl) (by kernel_rfl) (by kernel_rfl) (fun _ _ _ h => h) (Or.inl ⟨by rfl, ?_⟩) hS0 ?_
  · intro Y hY
    skip
    go_simp
  simp only [Act.put, List.getElem_toArray, List.getElem_cons_succ, List.getElem_cons_zero, List.setIfInBounds_toArray, List.set_cons_zero, List.set_cons_succ]
  refine wpAnyH_take (i := 13) (v := .int .i64 (P : Nat)) rfl (by kernel_rfl) (by kernel_rfl) (by kernel_rfl) (fun _ _ _ h => h) (Or.inl ⟨by rfl, ?_⟩) hS0 ?_
  · intro Y hY
    have hAY := hA0.from_ hY hlt1; have a0 := hAY.c0; have a1 := hAY.c1; have a2 := hAY.c2; have a3 := hAY.c3; have a4 := hAY.c4; have a5 := hAY.c5; have a6 := hAY.c6; simp only [Nat.zero_add] at a1 a2 a3 a4 a5 a6
    go_simp
  simp only [Act.put, List.getElem_toArray, List.getElem_cons_succ, List.getElem_cons_zero, List.setIfInBounds_toArray, List.set_cons_zero, List.set_cons_succ]
  refine wpAnyH_take (i := 14) (v := .int .u64 (P : Nat)) rfl (by kernel_rfl) (by kernel_rfl) (by kernel_rfl) (fun _ _ _ h => h) (Or.inl ⟨by rfl, ?_⟩) hS0 ?_
  · intro Y hY
    skip
    go_simp
    first | done | (rw [IntKind.wrap_u64]; omega)
  simp only [Act.put, List.getElem_toArray, List.getElem_cons_succ, List.getElem_cons_zero, List.setIfInBounds_toArray, List.set_cons_zero, List.set_cons_succ]
  refine wpAnyH_ready (rs := [11]) (by kernel_rfl) (by simp) ?_
  refine AllReadyH.cons rfl (fun K hK => ?_) AllReadyH.nil
  go_simp
  refine (HC.out _ hS0).mono ?_
  rintro e w1 ⟨rfl, hb1⟩
  have hS1 : Below w0.heap.size w0 w1 := hS0.trans (Below.mono hb1 hS0.size)
  try go_wp2_with fail
  refine hK.out _ _ hS1 (fun _ => ?_)
  clear hK K
  simp only [List.setIfInBounds_toArray, List.set_cons_zero, List.set_cons_succ]
  refine wpAnyH_ready (rs := [15]) (by kernel_rfl) (by simp) ?_
  refine AllReadyH.cons rfl (fun K hK => ?_) AllReadyH.nil
  go_simp
  refine (HM.out _ hS1).mono ?_
  rintro e w2 ⟨rfl, hb2⟩
  have hS2 : Below w0.heap.size w0 w2 := hS1.trans (Below.mono hb2 hS1.size)
  try go_wp2_with fail
  refine hK.out _ _ hS2 (fun _ => ?_)
  clear hK K
  simp only [List.setIfInBounds_toArray, List.set_cons_zero, List.set_cons_succ]
  refine wpAnyH_ready (rs := [16]) (by kernel_rfl) (by simp) ?_
  refine AllReadyH.cons rfl (fun K hK => ?_) AllReadyH.nil
  go_simp
  refine hK.out _ _ hS2 (fun _ => ?_)
  clear hK K
  simp only [List.setIfInBounds_toArray, List.set_cons_zero, List.set_cons_succ]
  refine wpAnyH_done (by kernel_rfl) ?_ _
  go_wp2_with fail
  go_ret
  exact ⟨rfl, hb0.trans (Below.mono hS2 hb0.size)⟩
end Go.Proofs.YtaajkbclojmbeaaGreatDoor
namespace Go.Proofs.YtaajkbclojmbeaaGreatDoor
open Go Go.RowKit Go.Shelf Go.Lib
attribute [local go_sem] Oper.semAt_some

set_option maxRecDepth 100000 in
set_option maxHeartbeats 8000000 in
theorem ofK_1 (k n : Int) (ts : List M.Ty) (at_ : Option Addr) (ct : Nat) (N : Nat) (bs : List Bool) (us : List M.Va) (p : Int) (ab : Option Addr) (cb : Nat) (au : Option Addr) (cu : Nat) (w : World) (mb : Nat) (R : List UInt8) (HL : Hid (∀ W', Below w.heap.size w W' → (Instr.lookup 50 (.map (some mb)) (.int .i64 k) false).run Tryz.prog W' = .ok (.func (.func 45) #[] #[]) W'))
    (HC : Hid (∀ X, Below w.heap.size w X → Calls Tryz.prog 45 #[tv k n (.slice at_ ts.length ct), vv N (.slice ab bs.length cb) (.slice au us.length cu) p] X (RP X R))) :
    Calls Tryz.prog 25 #[.map (some mb), tv k n (.slice at_ ts.length ct), vv N (.slice ab bs.length cb) (.slice au us.length cu) p] w (RP w R) := by
  obtain ⟨w0, hw0⟩ : ∃ w0, (w.alloc (.cells #[.int .i64 k, .int .i64 n, .slice at_ ts.length ct] 32)).alloc (.cells #[.int .u64 (M.pt 0 N), .int .u64 (M.pt 1 N), .int .u64 (M.pt 2 N), .int .u64 (M.pt 3 N), .slice ab bs.length cb, .slice au us.length cu, .int .i64 p] 38) = w0 := ⟨_, rfl⟩
  have hb0 : Below w.heap.size w w0 := by rw [← hw0]; exact two_boxes _ _ _
  have hz0 : w0.heap.size = w.heap.size + 2 := by rw [← hw0]; simp
  have hB0 : BoxT w0 w.heap.size k n (.slice at_ ts.length ct) := by rw [← hw0]; exact ⟨by simp [go_sem], by simp [go_sem], by simp [go_sem]⟩
  have hA0 : Cells7 w0 (w.heap.size + 1) 0 N (.slice ab bs.length cb) (.slice au us.length cu) p := by
    rw [← hw0]
    have := Cells7.new (w.alloc (.cells #[.int .i64 k, .int .i64 n, .slice at_ ts.length ct] 32)) N (.slice ab bs.length cb) (.slice au us.length cu) p 38
    rwa [World.size_alloc] at this
  have hlt0 : w.heap.size < w0.heap.size := by omega
  have hlt1 : w.heap.size + 1 < w0.heap.size := by omega
  have HW := Lib.hid hw0
  have HZ0 := Lib.hid hz0
  have mixed : Tryz.prog.follows .mixedOrders = true := by kernel_rfl
  clear hw0 hz0
  have hL := HL.out w0 hb0
  have HC' := Lib.hid (HC.out w0 hb0)
  clear HL HC
  go_enter Tryz.func25, Tryz.ntmps25
  go_wp2_with fail
  rw [HW.out]
  have b0 := hB0.c0
  have b1 := hB0.c1
  have b2 := hB0.c2
  have a0 := hA0.c0
  have a1 := hA0.c1
  have a2 := hA0.c2
  have a3 := hA0.c3
  have a4 := hA0.c4
  have a5 := hA0.c5
  have a6 := hA0.c6
  simp only [Nat.zero_add] at a1 a2 a3 a4 a5 a6
  go_wp2_with fail
  rw [hL]
  go_wp2_with fail
  refine HC'.out.mono ?_
  rintro e w1 ⟨rfl, hb1⟩
  go_wp2_with fail
  go_ret
  exact ⟨rfl, hb0.trans (Below.mono hb1 hb0.size)⟩
set_option maxRecDepth 100000 in
set_option maxHeartbeats 8000000 in
theorem ofK_4 (k n : Int) (ts : List M.Ty) (at_ : Option Addr) (ct : Nat) (N : Nat) (bs : List Bool) (us : List M.Va) (p : Int) (ab : Option Addr) (cb : Nat) (au : Option Addr) (cu : Nat) (w : World) (mb : Nat) (R : List UInt8) (HL : Hid (∀ W', Below w.heap.size w W' → (Instr.lookup 50 (.map (some mb)) (.int .i64 k) false).run Tryz.prog W' = .ok (.func (.func 53) #[] #[]) W'))
    (HC : Hid (∀ X, Below w.heap.size w X → Calls Tryz.prog 53 #[tv k n (.slice at_ ts.length ct), vv N (.slice ab bs.length cb) (.slice au us.length cu) p] X (RP X R))) :
    Calls Tryz.prog 25 #[.map (some mb), tv k n (.slice at_ ts.length ct), vv N (.slice ab bs.length cb) (.slice au us.length cu) p] w (RP w R) := by
  obtain ⟨w0, hw0⟩ : ∃ w0, (w.alloc (.cells #[.int .i64 k, .int .i64 n, .slice at_ ts.length ct] 32)).alloc (.cells #[.int .u64 (M.pt 0 N), .int .u64 (M.pt 1 N), .int .u64 (M.pt 2 N), .int .u64 (M.pt 3 N), .slice ab bs.length cb, .slice au us.length cu, .int .i64 p] 38) = w0 := ⟨_, rfl⟩
  have hb0 : Below w.heap.size w w0 := by rw [← hw0]; exact two_boxes _ _ _
  have hz0 : w0.heap.size = w.heap.size + 2 := by rw [← hw0]; simp
  have hB0 : BoxT w0 w.heap.size k n (.slice at_ ts.length ct) := by rw [← hw0]; exact ⟨by simp [go_sem], by simp [go_sem], by simp [go_sem]⟩
  have hA0 : Cells7 w0 (w.heap.size + 1) 0 N (.slice ab bs.length cb) (.slice au us.length cu) p := by
    rw [← hw0]
    have := Cells7.new (w.alloc (.cells #[.int .i64 k, .int .i64 n, .slice at_ ts.length ct] 32)) N (.slice ab bs.length cb) (.slice au us.length cu) p 38
    rwa [World.size_alloc] at this
  have hlt0 : w.heap.size < w0.heap.size := by omega
  have hlt1 : w.heap.size + 1 < w0.heap.size := by omega
  have HW := Lib.hid hw0
  have HZ0 := Lib.hid hz0
  have mixed : Tryz.prog.follows .mixedOrders = true := by kernel_rfl
  clear hw0 hz0
  have hL := HL.out w0 hb0
  have HC' := Lib.hid (HC.out w0 hb0)
  clear HL HC
  go_enter Tryz.func25, Tryz.ntmps25
  go_wp2_with fail
  rw [HW.out]
  have b0 := hB0.c0
  have b1 := hB0.c1
  have b2 := hB0.c2
  have a0 := hA0.c0
  have a1 := hA0.c1
  have a2 := hA0.c2
  have a3 := hA0.c3
  have a4 := hA0.c4
  have a5 := hA0.c5
  have a6 := hA0.c6
  simp only [Nat.zero_add] at a1 a2 a3 a4 a5 a6
  go_wp2_with fail
  rw [hL]
  go_wp2_with fail
  refine HC'.out.mono ?_
  rintro e w1 ⟨rfl, hb1⟩
  go_wp2_with fail
  go_ret
  exact ⟨rfl, hb0.trans (Below.mono hb1 hb0.size)⟩
set_option maxRecDepth 100000 in
set_option maxHeartbeats 8000000 in
theorem ofK_2 (k n : Int) (ts : List M.Ty) (at_ : Option Addr) (ct : Nat) (N : Nat) (bs : List Bool) (us : List M.Va) (p : Int) (ab : Option Addr) (cb : Nat) (au : Option Addr) (cu : Nat) (w : World) (mb : Nat) (kb : Nat) (R : List UInt8) (HL : Hid (∀ W', Below w.heap.size w W' → (Instr.lookup 50 (.map (some mb)) (.int .i64 k) false).run Tryz.prog W' = .ok (.func (.func 49) #[] #[.pointer (some ⟨kb, 0, none⟩)]) W'))
    (HC : Hid (∀ X, Below w.heap.size w X → Calls Tryz.prog 49 #[tv k n (.slice at_ ts.length ct), vv N (.slice ab bs.length cb) (.slice au us.length cu) p, .pointer (some ⟨kb, 0, none⟩)] X (RP X R))) :
    Calls Tryz.prog 25 #[.map (some mb), tv k n (.slice at_ ts.length ct), vv N (.slice ab bs.length cb) (.slice au us.length cu) p] w (RP w R) := by
  obtain ⟨w0, hw0⟩ : ∃ w0, (w.alloc (.cells #[.int .i64 k, .int .i64 n, .slice at_ ts.length ct] 32)).alloc (.cells #[.int .u64 (M.pt 0 N), .int .u64 (M.pt 1 N), .int .u64 (M.pt 2 N), .int .u64 (M.pt 3 N), .slice ab bs.length cb, .slice au us.length cu, .int .i64 p] 38) = w0 := ⟨_, rfl⟩
  have hb0 : Below w.heap.size w w0 := by rw [← hw0]; exact two_boxes _ _ _
  have hz0 : w0.heap.size = w.heap.size + 2 := by rw [← hw0]; simp
  have hB0 : BoxT w0 w.heap.size k n (.slice at_ ts.length ct) := by rw [← hw0]; exact ⟨by simp [go_sem], by simp [go_sem], by simp [go_sem]⟩
  have hA0 : Cells7 w0 (w.heap.size + 1) 0 N (.slice ab bs.length cb) (.slice au us.length cu) p := by
    rw [← hw0]
    have := Cells7.new (w.alloc (.cells #[.int .i64 k, .int .i64 n, .slice at_ ts.length ct] 32)) N (.slice ab bs.length cb) (.slice au us.length cu) p 38
    rwa [World.size_alloc] at this
  have hlt0 : w.heap.size < w0.heap.size := by omega
  have hlt1 : w.heap.size + 1 < w0.heap.size := by omega
  have HW := Lib.hid hw0
  have HZ0 := Lib.hid hz0
  have mixed : Tryz.prog.follows .mixedOrders = true := by kernel_rfl
  clear hw0 hz0
  have hL := HL.out w0 hb0
  have HC' := Lib.hid (HC.out w0 hb0)
  clear HL HC
  go_enter Tryz.func25, Tryz.ntmps25
  go_wp2_with fail
  rw [HW.out]
  have b0 := hB0.c0
  have b1 := hB0.c1
  have b2 := hB0.c2
  have a0 := hA0.c0
  have a1 := hA0.c1
  have a2 := hA0.c2
  have a3 := hA0.c3
  have a4 := hA0.c4
  have a5 := hA0.c5
  have a6 := hA0.c6
  simp only [Nat.zero_add] at a1 a2 a3 a4 a5 a6
  go_wp2_with fail
  rw [hL]
  go_wp2_with fail
  refine HC'.out.mono ?_
  rintro e w1 ⟨rfl, hb1⟩
  go_wp2_with fail
  go_ret
  exact ⟨rfl, hb0.trans (Below.mono hb1 hb0.size)⟩
set_option maxRecDepth 100000 in
set_option maxHeartbeats 8000000 in
theorem ofK_3 (k n : Int) (ts : List M.Ty) (at_ : Option Addr) (ct : Nat) (N : Nat) (bs : List Bool) (us : List M.Va) (p : Int) (ab : Option Addr) (cb : Nat) (au : Option Addr) (cu : Nat) (w : World) (mb : Nat) (kb : Nat) (R : List UInt8) (HL : Hid (∀ W', Below w.heap.size w W' → (Instr.lookup 50 (.map (some mb)) (.int .i64 k) false).run Tryz.prog W' = .ok (.func (.func 52) #[] #[.pointer (some ⟨kb, 0, none⟩)]) W'))
    (HC : Hid (∀ X, Below w.heap.size w X → Calls Tryz.prog 52 #[tv k n (.slice at_ ts.length ct), vv N (.slice ab bs.length cb) (.slice au us.length cu) p, .pointer (some ⟨kb, 0, none⟩)] X (RP X R))) :
    Calls Tryz.prog 25 #[.map (some mb), tv k n (.slice at_ ts.length ct), vv N (.slice ab bs.length cb) (.slice au us.length cu) p] w (RP w R) := by
  obtain ⟨w0, hw0⟩ : ∃ w0, (w.alloc (.cells #[.int .i64 k, .int .i64 n, .slice at_ ts.length ct] 32)).alloc (.cells #[.int .u64 (M.pt 0 N), .int .u64 (M.pt 1 N), .int .u64 (M.pt 2 N), .int .u64 (M.pt 3 N), .slice ab bs.length cb, .slice au us.length cu, .int .i64 p] 38) = w0 := ⟨_, rfl⟩
  have hb0 : Below w.heap.size w w0 := by rw [← hw0]; exact two_boxes _ _ _
  have hz0 : w0.heap.size = w.heap.size + 2 := by rw [← hw0]; simp
  have hB0 : BoxT w0 w.heap.size k n (.slice at_ ts.length ct) := by rw [← hw0]; exact ⟨by simp [go_sem], by simp [go_sem], by simp [go_sem]⟩
  have hA0 : Cells7 w0 (w.heap.size + 1) 0 N (.slice ab bs.length cb) (.slice au us.length cu) p := by
    rw [← hw0]
    have := Cells7.new (w.alloc (.cells #[.int .i64 k, .int .i64 n, .slice at_ ts.length ct] 32)) N (.slice ab bs.length cb) (.slice au us.length cu) p 38
    rwa [World.size_alloc] at this
  have hlt0 : w.heap.size < w0.heap.size := by omega
  have hlt1 : w.heap.size + 1 < w0.heap.size := by omega
  have HW := Lib.hid hw0
  have HZ0 := Lib.hid hz0
  have mixed : Tryz.prog.follows .mixedOrders = true := by kernel_rfl
  clear hw0 hz0
  have hL := HL.out w0 hb0
  have HC' := Lib.hid (HC.out w0 hb0)
  clear HL HC
  go_enter Tryz.func25, Tryz.ntmps25
  go_wp2_with fail
  rw [HW.out]
  have b0 := hB0.c0
  have b1 := hB0.c1
  have b2 := hB0.c2
  have a0 := hA0.c0
  have a1 := hA0.c1
  have a2 := hA0.c2
  have a3 := hA0.c3
  have a4 := hA0.c4
  have a5 := hA0.c5
  have a6 := hA0.c6
  simp only [Nat.zero_add] at a1 a2 a3 a4 a5 a6
  go_wp2_with fail
  rw [hL]
  go_wp2_with fail
  refine HC'.out.mono ?_
  rintro e w1 ⟨rfl, hb1⟩
  go_wp2_with fail
  go_ret
  exact ⟨rfl, hb0.trans (Below.mono hb1 hb0.size)⟩
set_option maxRecDepth 100000 in
set_option maxHeartbeats 8000000 in
theorem ofK_5 (k n : Int) (ts : List M.Ty) (at_ : Option Addr) (ct : Nat) (N : Nat) (bs : List Bool) (us : List M.Va) (p : Int) (ab : Option Addr) (cb : Nat) (au : Option Addr) (cu : Nat) (w : World) (mb : Nat) (kb : Nat) (R : List UInt8) (HL : Hid (∀ W', Below w.heap.size w W' → (Instr.lookup 50 (.map (some mb)) (.int .i64 k) false).run Tryz.prog W' = .ok (.func (.func 56) #[] #[.pointer (some ⟨kb, 0, none⟩)]) W'))
    (HC : Hid (∀ X, Below w.heap.size w X → Calls Tryz.prog 56 #[tv k n (.slice at_ ts.length ct), vv N (.slice ab bs.length cb) (.slice au us.length cu) p, .pointer (some ⟨kb, 0, none⟩)] X (RP X R))) :
    Calls Tryz.prog 25 #[.map (some mb), tv k n (.slice at_ ts.length ct), vv N (.slice ab bs.length cb) (.slice au us.length cu) p] w (RP w R) := by
  obtain ⟨w0, hw0⟩ : ∃ w0, (w.alloc (.cells #[.int .i64 k, .int .i64 n, .slice at_ ts.length ct] 32)).alloc (.cells #[.int .u64 (M.pt 0 N), .int .u64 (M.pt 1 N), .int .u64 (M.pt 2 N), .int .u64 (M.pt 3 N), .slice ab bs.length cb, .slice au us.length cu, .int .i64 p] 38) = w0 := ⟨_, rfl⟩
  have hb0 : Below w.heap.size w w0 := by rw [← hw0]; exact two_boxes _ _ _
  have hz0 : w0.heap.size = w.heap.size + 2 := by rw [← hw0]; simp
  have hB0 : BoxT w0 w.heap.size k n (.slice at_ ts.length ct) := by rw [← hw0]; exact ⟨by simp [go_sem], by simp [go_sem], by simp [go_sem]⟩
  have hA0 : Cells7 w0 (w.heap.size + 1) 0 N (.slice ab bs.length cb) (.slice au us.length cu) p := by
    rw [← hw0]
    have := Cells7.new (w.alloc (.cells #[.int .i64 k, .int .i64 n, .slice at_ ts.length ct] 32)) N (.slice ab bs.length cb) (.slice au us.length cu) p 38
    rwa [World.size_alloc] at this
  have hlt0 : w.heap.size < w0.heap.size := by omega
  have hlt1 : w.heap.size + 1 < w0.heap.size := by omega
  have HW := Lib.hid hw0
  have HZ0 := Lib.hid hz0
  have mixed : Tryz.prog.follows .mixedOrders = true := by kernel_rfl
  clear hw0 hz0
  have hL := HL.out w0 hb0
  have HC' := Lib.hid (HC.out w0 hb0)
  clear HL HC
  go_enter Tryz.func25, Tryz.ntmps25
  go_wp2_with fail
  rw [HW.out]
  have b0 := hB0.c0
  have b1 := hB0.c1
  have b2 := hB0.c2
  have a0 := hA0.c0
  have a1 := hA0.c1
  have a2 := hA0.c2
  have a3 := hA0.c3
  have a4 := hA0.c4
  have a5 := hA0.c5
  have a6 := hA0.c6
  simp only [Nat.zero_add] at a1 a2 a3 a4 a5 a6
  go_wp2_with fail
  rw [hL]
  go_wp2_with fail
  refine HC'.out.mono ?_
  rintro e w1 ⟨rfl, hb1⟩
  go_wp2_with fail
  go_ret
  exact ⟨rfl, hb0.trans (Below.mono hb1 hb0.size)⟩
set_option maxRecDepth 100000 in
set_option maxHeartbeats 8000000 in
theorem ofK_6 (k n : Int) (ts : List M.Ty) (at_ : Option Addr) (ct : Nat) (N : Nat) (bs : List Bool) (us : List M.Va) (p : Int) (ab : Option Addr) (cb : Nat) (au : Option Addr) (cu : Nat) (w : World) (mb : Nat) (kb : Nat) (R : List UInt8) (HL : Hid (∀ W', Below w.heap.size w W' → (Instr.lookup 50 (.map (some mb)) (.int .i64 k) false).run Tryz.prog W' = .ok (.func (.func 57) #[] #[.pointer (some ⟨kb, 0, none⟩)]) W'))
    (HC : Hid (∀ X, Below w.heap.size w X → Calls Tryz.prog 57 #[tv k n (.slice at_ ts.length ct), vv N (.slice ab bs.length cb) (.slice au us.length cu) p, .pointer (some ⟨kb, 0, none⟩)] X (RP X R))) :
    Calls Tryz.prog 25 #[.map (some mb), tv k n (.slice at_ ts.length ct), vv N (.slice ab bs.length cb) (.slice au us.length cu) p] w (RP w R) := by
  obtain ⟨w0, hw0⟩ : ∃ w0, (w.alloc (.cells #[.int .i64 k, .int .i64 n, .slice at_ ts.length ct] 32)).alloc (.cells #[.int .u64 (M.pt 0 N), .int .u64 (M.pt 1 N), .int .u64 (M.pt 2 N), .int .u64 (M.pt 3 N), .slice ab bs.length cb, .slice au us.length cu, .int .i64 p] 38) = w0 := ⟨_, rfl⟩
  have hb0 : Below w.heap.size w w0 := by rw [← hw0]; exact two_boxes _ _ _
  have hz0 : w0.heap.size = w.heap.size + 2 := by rw [← hw0]; simp
  have hB0 : BoxT w0 w.heap.size k n (.slice at_ ts.length ct) := by rw [← hw0]; exact ⟨by simp [go_sem], by simp [go_sem], by simp [go_sem]⟩
  have hA0 : Cells7 w0 (w.heap.size + 1) 0 N (.slice ab bs.length cb) (.slice au us.length cu) p := by
    rw [← hw0]
    have := Cells7.new (w.alloc (.cells #[.int .i64 k, .int .i64 n, .slice at_ ts.length ct] 32)) N (.slice ab bs.length cb) (.slice au us.length cu) p 38
    rwa [World.size_alloc] at this
  have hlt0 : w.heap.size < w0.heap.size := by omega
  have hlt1 : w.heap.size + 1 < w0.heap.size := by omega
  have HW := Lib.hid hw0
  have HZ0 := Lib.hid hz0
  have mixed : Tryz.prog.follows .mixedOrders = true := by kernel_rfl
  clear hw0 hz0
  have hL := HL.out w0 hb0
  have HC' := Lib.hid (HC.out w0 hb0)
  clear HL HC
  go_enter Tryz.func25, Tryz.ntmps25
  go_wp2_with fail
  rw [HW.out]
  have b0 := hB0.c0
  have b1 := hB0.c1
  have b2 := hB0.c2
  have a0 := hA0.c0
  have a1 := hA0.c1
  have a2 := hA0.c2
  have a3 := hA0.c3
  have a4 := hA0.c4
  have a5 := hA0.c5
  have a6 := hA0.c6
  simp only [Nat.zero_add] at a1 a2 a3 a4 a5 a6
  go_wp2_with fail
  rw [hL]
  go_wp2_with fail
  refine HC'.out.mono ?_
  rintro e w1 ⟨rfl, hb1⟩
  go_wp2_with fail
  go_ret
  exact ⟨rfl, hb0.trans (Below.mono hb1 hb0.size)⟩
end Go.Proofs.YtaajkbclojmbeaaGreatDoor
namespace Go.Proofs.YtaajkbclojmbeaaGreatDoor
open Go Go.RowKit Go.Shelf Go.Lib
attribute [local go_sem] Oper.semAt_some

theorem rootC_step (z : Nat) (ih : Hid (RootC z)) : RootC (z + 1) := by
  intro k n ts at_ ct N bs us p ab cb au cu w mb kb ib hs hT hV hc hf h1 h2 hK hTab
  obtain ⟨⟨k1, k8⟩, hform, _, _⟩ := M.chkT_ok.1 hc
  obtain ⟨_, ho, _⟩ := M.of_fit hf
  have hTX : ∀ X, Below w.heap.size w X → LayT X X.heap.size ts (.slice at_ ts.length ct) := fun X h => (hT.from_ h).mono h.size
  have hVX : ∀ X, Below w.heap.size w X → Vl X X.heap.size N bs us ab cb au cu := fun X h => (hV.from_ h).mono h.size
  have hKX : ∀ X, Below w.heap.size w X → Tbl X X.heap.size mb kb ib := fun X h => (hK.from_ h).mono h.size
  have hLX := fun (j : Nat) h1 h8 => Lib.hid (fun W' h => hK.look j h1 h8 W' h)
  have hk8 : k = 1 ∨ k = 2 ∨ k = 3 ∨ k = 4 ∨ k = 5 ∨ k = 6 ∨ k = 7 ∨ k = 8 := by omega
  rcases hk8 with rfl | rfl | rfl | rfl | rfl | rfl | rfl | rfl
  · exact ofK_1 1 n ts at_ ct N bs us p ab cb au cu w mb _ (hLX 1 (by decide) (by decide)) (Lib.hid fun X h => whole_any 1 n ts at_ ct N bs us p ab cb au cu X (hTX X h) (hVX X h) (Or.inl rfl) hc hf h1 h2 (hTab.from h))
  · exact ofK_1 2 n ts at_ ct N bs us p ab cb au cu w mb _ (hLX 2 (by decide) (by decide)) (Lib.hid fun X h => whole_any 2 n ts at_ ct N bs us p ab cb au cu X (hTX X h) (hVX X h) (Or.inr (Or.inl rfl)) hc hf h1 h2 (hTab.from h))
  · obtain ⟨t, rfl, m, rfl⟩ : ∃ t, ts = [t] ∧ ∃ m : Nat, n = (m : Int) := by
      unfold M.formT at hform
      simp at hform
      obtain ⟨t, ht⟩ := List.length_eq_one_iff.1 hform.1.1
      exact ⟨t, ht, n.toNat, by omega⟩
    refine ofK_2 3 (m : Nat) [t] at_ ct N bs us p ab cb au cu w mb kb _ (hLX 3 (by decide) (by decide)) (Lib.hid fun X h => ?_)
    have := items_any z ih 3 m t at_ ct N bs us p ab cb au cu X mb kb ib (hTX X h) (hVX X h) hs (Or.inl rfl) hc hf h1 h2 (hKX X h) (hTab.from h)
    rw [← M.rootV3 (num := N) (bits := bs)] at this
    exact this
  · obtain ⟨t, rfl, m, rfl⟩ : ∃ t, ts = [t] ∧ ∃ m : Nat, n = (m : Int) := by
      unfold M.formT at hform
      simp at hform
      obtain ⟨t, ht⟩ := List.length_eq_one_iff.1 hform.1.1
      exact ⟨t, ht, n.toNat, by omega⟩
    exact ofK_3 4 (m : Nat) [t] at_ ct N bs us p ab cb au cu w mb ib _ (hLX 4 (by decide) (by decide)) (Lib.hid fun X h => list_any z ih m t at_ ct N bs us p ab cb au cu X mb kb ib (hTX X h) (hVX X h) hs hc hf h1 h2 (hKX X h) (hTab.from h))
  · exact ofK_1 5 n ts at_ ct N bs us p ab cb au cu w mb _ (hLX 5 (by decide) (by decide)) (Lib.hid fun X h => whole_any 5 n ts at_ ct N bs us p ab cb au cu X (hTX X h) (hVX X h) (Or.inr (Or.inr rfl)) hc hf h1 h2 (hTab.from h))
  · obtain ⟨rfl, m, rfl, hm1, hm⟩ : ts = [] ∧ ∃ m : Nat, n = (m : Int) ∧ 1 ≤ m ∧ m ≤ 512 := by
      unfold M.formT at hform
      simp at hform
      exact ⟨hform.1.1, n.toNat, by omega, by omega, by omega⟩
    have hbl : bs.length ≤ m := by
      have h6 := (M.of_fit hf).1
      simp at h6
      omega
    exact ofK_4 6 (m : Nat) [] at_ ct N bs us p ab cb au cu w mb _ (hLX 6 (by decide) (by decide)) (Lib.hid fun X h => bitlist_any m at_ ct N bs us p ab cb au cu X (hVX X h) hm hbl (hTab.from h) hm1)
  · exact ofK_5 7 n ts at_ ct N bs us p ab cb au cu w mb kb _ (hLX 7 (by decide) (by decide)) (Lib.hid fun X h => container_any z ih n ts at_ ct N bs us p ab cb au cu X mb kb ib (hTX X h) (hVX X h) hs hc hf h1 h2 (hKX X h) (hTab.from h))
  · obtain ⟨u, rfl, P, rfl⟩ : ∃ u, us = [u] ∧ ∃ P : Nat, p = (P : Int) := by
      rw [M.ofV_8] at ho
      simp at ho
      obtain ⟨u, hu⟩ := List.length_eq_one_iff.1 ho.1.1.2
      exact ⟨u, hu, p.toNat, by omega⟩
    exact ofK_6 8 n ts at_ ct N bs [u] (P : Nat) ab cb au cu w mb kb _ (hLX 8 (by decide) (by decide)) (Lib.hid fun X h => union_any z ih n ts at_ ct N bs u P ab cb au cu X mb kb ib (hTX X h) (hVX X h) hs hc hf h1 h2 (hKX X h) (hTab.from h))
theorem rootC_all : ∀ z, RootC z
  | 0 => fun k n ts at_ ct N bs us p ab cb au cu w mb kb ib hs => by
    have : 1 ≤ SizeOf.sizeOf us := by cases us <;> simp <;> omega
    omega
  | z + 1 => rootC_step z (Lib.hid (rootC_all z))

end Go.Proofs.YtaajkbclojmbeaaGreatDoor
namespace Go.Proofs.YtaajkbclojmbeaaGreatDoor
open Go Go.RowKit Go.Shelf Go.Lib
attribute [local go_sem] Oper.semAt_some

theorem fits_ok {t : M.Ty} {v : M.Va} (h : M.fitsV t v = 0) : M.chkT 0 t = 0 ∧ M.fitV t v = 0 := by
  unfold M.fitsV at h
  split at h
  · exact ⟨by assumption, h⟩
  · exact absurd h (by assumption)
set_option maxRecDepth 100000 in
set_option maxHeartbeats 8000000 in
theorem root_any (k n : Int) (ts : List M.Ty) (at_ : Option Addr) (ct : Nat) (N : Nat) (bs : List Bool) (us : List M.Va) (p : Int) (ab : Option Addr) (cb : Nat) (au : Option Addr) (cu : Nat) (w : World) (hT : LayT w w.heap.size ts (.slice at_ ts.length ct)) (hV : Vl w w.heap.size N bs us ab cb au cu) (h1 : M.cntT (.mk k n ts) ≤ 1000) (h2 : M.cntV (.mk N bs us p) ≤ 6000) (hTab : Tab w) :
    Calls Tryz.prog 11 #[tv k n (.slice at_ ts.length ct), vv N (.slice ab bs.length cb) (.slice au us.length cu) p] w fun e w' => e = .returned (.tuple #[.string ⟨(M.rootE (.mk k n ts) (.mk N bs us p)).1.toArray⟩, .int .i64 ((M.rootE (.mk k n ts) (.mk N bs us p)).2 : Nat)]) ∧ Below w.heap.size w w' := by
  obtain ⟨w0, hw0⟩ : ∃ w0, (w.alloc (.cells #[.int .i64 k, .int .i64 n, .slice at_ ts.length ct] 32)).alloc (.cells #[.int .u64 (M.pt 0 N), .int .u64 (M.pt 1 N), .int .u64 (M.pt 2 N), .int .u64 (M.pt 3 N), .slice ab bs.length cb, .slice au us.length cu, .int .i64 p] 38) = w0 := ⟨_, rfl⟩
  have hb0 : Below w.heap.size w w0 := by rw [← hw0]; exact two_boxes _ _ _
  have hz0 : w0.heap.size = w.heap.size + 2 := by rw [← hw0]; simp
  have hB0 : BoxT w0 w.heap.size k n (.slice at_ ts.length ct) := by rw [← hw0]; exact ⟨by simp [go_sem], by simp [go_sem], by simp [go_sem]⟩
  have hA0 : Cells7 w0 (w.heap.size + 1) 0 N (.slice ab bs.length cb) (.slice au us.length cu) p := by
    rw [← hw0]
    have := Cells7.new (w.alloc (.cells #[.int .i64 k, .int .i64 n, .slice at_ ts.length ct] 32)) N (.slice ab bs.length cb) (.slice au us.length cu) p 38
    rwa [World.size_alloc] at this
  have hlt0 : w.heap.size < w0.heap.size := by omega
  have hlt1 : w.heap.size + 1 < w0.heap.size := by omega
  have HW := Lib.hid hw0
  have HZ0 := Lib.hid hz0
  have mixed : Tryz.prog.follows .mixedOrders = true := by kernel_rfl
  clear hw0 hz0
  have HF := Lib.hid (fun X (h : Below w0.heap.size w0 X) => shape_fits k n ts at_ ct N bs us p ab cb au cu X ((hT.from_ (hb0.trans (h.mono hb0.size))).mono (hb0.trans (h.mono hb0.size)).size) ((hV.from_ (hb0.trans (h.mono hb0.size))).mono (hb0.trans (h.mono hb0.size)).size) h1 h2)
  have HMT := Lib.hid (fun X => mtable_any X)
  have HC : Hid (∀ X mb kb ib, Below w0.heap.size w0 X → Tbl X X.heap.size mb kb ib → M.fitsV (.mk k n ts) (.mk N bs us p) = 0 → Calls Tryz.prog 25 #[.map (some mb), tv k n (.slice at_ ts.length ct), vv N (.slice ab bs.length cb) (.slice au us.length cu) p] X (RP X (M.rootV (.mk k n ts) (.mk N bs us p)))) := fun X mb kb ib h hK h0 => by
    have hX : Below w.heap.size w X := hb0.trans (Below.mono h hb0.size)
    obtain ⟨hc, hf⟩ := fits_ok h0
    exact rootC_all _ k n ts at_ ct N bs us p ab cb au cu X mb kb ib (Nat.le_refl _) ((hT.from_ hX).mono hX.size) ((hV.from_ hX).mono hX.size) hc hf h1 h2 hK (hTab.from hX)
  have hR1 : M.fitsV (.mk k n ts) (.mk N bs us p) = 0 → M.rootE (.mk k n ts) (.mk N bs us p) = (M.rootV (.mk k n ts) (.mk N bs us p), 0) := fun h => by unfold M.rootE; rw [if_neg (by simp [h])]
  have hR2 : M.fitsV (.mk k n ts) (.mk N bs us p) ≠ 0 → M.rootE (.mk k n ts) (.mk N bs us p) = ([], M.fitsV (.mk k n ts) (.mk N bs us p)) := fun h => by unfold M.rootE; rw [if_pos h]
  generalize M.rootE (.mk k n ts) (.mk N bs us p) = R at *
  generalize M.rootV (.mk k n ts) (.mk N bs us p) = r at *
  generalize M.fitsV (.mk k n ts) (.mk N bs us p) = f at *
  by_cases h0 : f = 0
  · subst h0
    obtain rfl := hR1 rfl
    have HC' := Lib.hid (fun X mb kb ib (h : Below w0.heap.size w0 X) hK => HC.out X mb kb ib h hK rfl)
    clear hR1 hR2 HC
    go_enter Tryz.func11, Tryz.ntmps11
    go_wp2_with fail
    rw [HW.out]
    have b0 := hB0.c0
    have b1 := hB0.c1
    have b2 := hB0.c2
    have a0 := hA0.c0
    have a1 := hA0.c1
    have a2 := hA0.c2
    have a3 := hA0.c3
    have a4 := hA0.c4
    have a5 := hA0.c5
    have a6 := hA0.c6
    simp only [Nat.zero_add] at a1 a2 a3 a4 a5 a6
    go_wp2_with fail
    refine (HF.out _ (Below.refl _ _)).mono ?_
    rintro e w1 ⟨rfl, hb1⟩
    clear a0 a1 a2 a3 a4 a5 a6 b0 b1 b2 HF
    go_wp2_with fail
    refine wp_region_held (S := fun Y => Below w0.heap.size w0 Y) mixed ?_
    have hS0 : Below w0.heap.size w0 { w1 with drawn := w1.drawn + 1 } := Below.drew hb1
    rw [show Array.replicate (Array.size _) false = #[false, false, false, false, false, false] from rfl, show Array.size (α := Oper) _ = 6 from rfl]
    refine wpAnyH_take (i := 1) (v := tv k n (.slice at_ ts.length ct)) rfl (by kernel_rfl) (by kernel_rfl) (by kernel_rfl) (fun _ _ _ h => h) (Or.inl ⟨by rfl, ?_⟩) hS0 ?_
    · intro Y hY
      have b0 := (hY.cell (p := ⟨w.heap.size, 0, none⟩) hlt0).trans hB0.c0; have b1 := (hY.cell (p := ⟨w.heap.size, 1, none⟩) hlt0).trans hB0.c1; have b2 := (hY.cell (p := ⟨w.heap.size, 2, none⟩) hlt0).trans hB0.c2
      go_simp
    simp only [Act.put, List.getElem_toArray, List.getElem_cons_succ, List.getElem_cons_zero, List.setIfInBounds_toArray, List.set_cons_zero, List.set_cons_succ]
    refine wpAnyH_take (i := 2) (v := vv N (.slice ab bs.length cb) (.slice au us.length cu) p) rfl (by kernel_rfl) (by kernel_rfl) (by kernel_rfl) (fun _ _ _ h => h) (Or.inl ⟨by rfl, ?_⟩) hS0 ?_
    · intro Y hY
      have hAY := hA0.from_ hY hlt1; have a0 := hAY.c0; have a1 := hAY.c1; have a2 := hAY.c2; have a3 := hAY.c3; have a4 := hAY.c4; have a5 := hAY.c5; have a6 := hAY.c6; simp only [Nat.zero_add] at a1 a2 a3 a4 a5 a6
      go_simp
    simp only [Act.put, List.getElem_toArray, List.getElem_cons_succ, List.getElem_cons_zero, List.setIfInBounds_toArray, List.set_cons_zero, List.set_cons_succ]
    refine wpAnyH_ready (rs := [0]) (by kernel_rfl) (by simp) ?_
    refine AllReadyH.cons rfl (fun K hK => ?_) AllReadyH.nil
    go_simp
    refine (HMT.out _).mono ?_
    rintro e w2 ⟨mb, kb, ib, rfl, hK2, hb2⟩
    have hS2 : Below w0.heap.size w0 w2 := hS0.trans (Below.mono hb2 hS0.size)
    have HC2 := Lib.hid (HC'.out w2 mb kb ib hS2 hK2)
    try go_wp2_with fail
    refine hK.out _ _ hS2 (fun _ => ?_)
    clear hK K
    simp only [List.setIfInBounds_toArray, List.set_cons_zero]
    refine wpAnyH_ready (rs := [3]) (by kernel_rfl) (by simp) ?_
    refine AllReadyH.cons rfl (fun K hK => ?_) AllReadyH.nil
    go_simp
    refine HC2.out.mono ?_
    rintro e w3 ⟨rfl, hb3⟩
    have hS3 : Below w0.heap.size w0 w3 := hS2.trans (Below.mono hb3 hS2.size)
    try go_wp2_with fail
    refine hK.out _ _ hS3 (fun _ => ?_)
    clear hK K
    simp only [List.setIfInBounds_toArray, List.set_cons_zero, List.set_cons_succ]
    refine wpAnyH_ready (rs := [4]) (by kernel_rfl) (by simp) ?_
    refine AllReadyH.cons rfl (fun K hK => ?_) AllReadyH.nil
    go_simp
    refine hK.out _ _ hS3 (fun _ => ?_)
    clear hK K
    simp only [List.setIfInBounds_toArray, List.set_cons_zero, List.set_cons_succ]
    refine wpAnyH_ready (rs := [5]) (by kernel_rfl) (by simp) ?_
    refine AllReadyH.cons rfl (fun K hK => ?_) AllReadyH.nil
    go_simp
    refine hK.out _ _ hS3 (fun _ => ?_)
    clear hK K
    simp only [List.setIfInBounds_toArray, List.set_cons_zero, List.set_cons_succ]
    refine wpAnyH_done (by kernel_rfl) ?_ _
    go_wp2_with fail
    go_ret2
    exact ⟨rfl, hb0.trans (Below.mono hS3 hb0.size)⟩
  · have hf0 : ¬ (f : Int) = 0 := by omega
    obtain rfl := hR2 h0
    clear hR1 hR2 HC HMT
    go_enter Tryz.func11, Tryz.ntmps11
    go_wp2_with fail
    rw [HW.out]
    have b0 := hB0.c0
    have b1 := hB0.c1
    have b2 := hB0.c2
    have a0 := hA0.c0
    have a1 := hA0.c1
    have a2 := hA0.c2
    have a3 := hA0.c3
    have a4 := hA0.c4
    have a5 := hA0.c5
    have a6 := hA0.c6
    simp only [Nat.zero_add] at a1 a2 a3 a4 a5 a6
    go_wp2_with fail
    refine (HF.out _ (Below.refl _ _)).mono ?_
    rintro e w1 ⟨rfl, hb1⟩
    clear a0 a1 a2 a3 a4 a5 a6 b0 b1 b2 HF
    go_wp2_with fail
    go_ret2
    exact ⟨rfl, hb0.trans (Below.mono hb1 hb0.size)⟩
end Go.Proofs.YtaajkbclojmbeaaGreatDoor
namespace Go.Proofs.YtaajkbclojmbeaaGreatDoor
open Go Go.RowKit Go.Shelf Go.Lib
attribute [local go_sem] Oper.semAt_some

def one9 : List UInt8 := 1 :: List.replicate 31 0
theorem x9_root : M.rootE (.mk 1 2 []) (.mk 1 [] [] 0) = (one9, 0) := by decide +kernel
theorem x9_none : M.rootE (.mk 0 0 []) (.mk 0 [] [] 0) = ([], 9) := by decide +kernel
theorem x9_t1 : M.treeE [one9] 1 = (one9, 0) := by decide +kernel
theorem x9_t2 : M.treeE [one9, one9] 1 = ([], 1) := by decide +kernel
theorem x9_m : M.mixE [120] 1 = ([], 1) := by decide +kernel
theorem x9_t3 : M.treeE [one9] 3 = (M.sumL (M.sumL (one9 ++ M.z32) ++ M.sumL (M.z32 ++ M.z32)), 0) := by
  unfold M.treeE
  rw [if_neg (by decide +kernel)]
  show (M.treeT [one9] 3, 0) = _
  unfold M.treeT
  rw [show M.dep 3 = 2 by decide]
  rw [M.treeD, M.treeD, M.treeD, M.halve, M.halve, List.headD_cons]
theorem x9_two : M.fill32 (M.le 8 2) = 2 :: List.replicate 31 0 := by decide +kernel
theorem x9_mix : M.mixE one9 2 = (M.sumL (one9 ++ 2 :: List.replicate 31 0), 0) := by
  rw [← x9_two]
  unfold M.mixE
  rw [if_neg (by decide +kernel), M.mixT]
end Go.Proofs.YtaajkbclojmbeaaGreatDoor
namespace Go.Proofs.YtaajkbclojmbeaaGreatDoor
open Go Go.RowKit Go.Shelf Go.Lib
attribute [local go_sem] Oper.semAt_some

theorem ts_one {w : World} {b : Nat} {s : List UInt8} (t : TypeId) (h : w.heap[b]? = some (.cells #[.string ⟨s.toArray⟩] t (0, 0))) : Ts w w.heap.size [s] (.slice (some ⟨b, 0, none⟩) 1 1) := by
  refine .row (ls := [s]) (Array.getElem?_eq_some_iff.1 h).1 (by simp) (by decide) fun i x e => ?_
  match i, e with
  | 0, e => simp at e; subst e; simp [World.cell?, h]
  | i + 1, e => simp at e
theorem ts_two {w : World} {b : Nat} {s u : List UInt8} (t : TypeId) (h : w.heap[b]? = some (.cells #[.string ⟨s.toArray⟩, .string ⟨u.toArray⟩] t (0, 0))) : Ts w w.heap.size [s, u] (.slice (some ⟨b, 0, none⟩) 2 2) := by
  refine .row (ls := [s, u]) (Array.getElem?_eq_some_iff.1 h).1 (by simp) (by decide) fun i x e => ?_
  match i, e with
  | 0, e => simp at e; subst e; simp [World.cell?, h]
  | 1, e => simp at e; subst e; simp [World.cell?, h]
  | i + 2, e => simp at e
theorem ba_add (a b : List UInt8) : (⟨a.toArray⟩ : ByteArray) ++ ⟨b.toArray⟩ = ⟨(a ++ b).toArray⟩ := ByteArray.ext (by simp)
theorem sum_ba (b : ByteArray) (w : World) (h : b.size ≤ 1000) (hT : Tab w) : Calls Tryz.prog 13 #[.string b] w fun e w' => e = .returned (.string ⟨(M.sumL b.toList).toArray⟩) ∧ Below w.heap.size w w' := by
  have := callsIn_wide.1 (sum_in b w h hT)
  rwa [show b.data.toList = b.toList by obtain ⟨⟨l⟩⟩ := b; simp] at this
theorem sl9 {z y : List UInt8} (h : z = 0 :: y) (hy : y.length = 31) (W : World) : (Instr.slice 9 (.string ⟨z.toArray⟩) (some (.int .i64 1)) none none).run Tryz.prog W = .ok (.string ⟨y.toArray⟩) W := by
  have hz : z.length = 32 := by rw [h]; simp [hy]
  go_simp
  have he : (⟨(0 :: y).toArray⟩ : ByteArray).extract 1 32 = ⟨y.toArray⟩ := by
    apply ByteArray.ext
    rw [ByteArray.data_extract]
    simp [List.extract_eq_take_drop, List.take_of_length_le (show y.length ≤ 31 by omega)]
  subst h
  exact he
theorem tree_one {w : World} (X : World) (s : List UInt8) (m : Int) (hTab : Tab w) (h : Below w.heap.size w X) (b : Nat) (hb : X.heap.size = b) :
    Calls Tryz.prog 6 #[.slice (some ⟨b, 0, none⟩) 1 1, .int .i64 m] (X.alloc (.cells #[.string ⟨s.toArray⟩] 9)) fun e w' => e = .returned (.tuple #[.string ⟨(M.treeE [s] m).1.toArray⟩, .int .i64 ((M.treeE [s] m).2 : Nat)]) ∧ Below (X.alloc (.cells #[.string ⟨s.toArray⟩] 9)).heap.size (X.alloc (.cells #[.string ⟨s.toArray⟩] 9)) w' :=
  by subst hb; exact tree_any [s] m _ _ _ (ts_one _ (heap_alloc_new X _)) (hTab.from (h.alloc h.size _))
theorem tree_two {w : World} (X : World) (s u : List UInt8) (m : Int) (hTab : Tab w) (h : Below w.heap.size w X) (b : Nat) (hb : X.heap.size = b) :
    Calls Tryz.prog 6 #[.slice (some ⟨b, 0, none⟩) 2 2, .int .i64 m] (X.alloc (.cells #[.string ⟨s.toArray⟩, .string ⟨u.toArray⟩] 9)) fun e w' => e = .returned (.tuple #[.string ⟨(M.treeE [s, u] m).1.toArray⟩, .int .i64 ((M.treeE [s, u] m).2 : Nat)]) ∧ Below (X.alloc (.cells #[.string ⟨s.toArray⟩, .string ⟨u.toArray⟩] 9)).heap.size (X.alloc (.cells #[.string ⟨s.toArray⟩, .string ⟨u.toArray⟩] 9)) w' :=
  by subst hb; exact tree_any [s, u] m _ _ _ (ts_two _ (heap_alloc_new X _)) (hTab.from (h.alloc h.size _))
set_option maxRecDepth 100000 in
set_option maxHeartbeats 4000000 in
theorem works9 (w : World) (hTab : Tab w) : Calls Tryz.prog 5 #[] w fun e w' => e = .returned (.bool true) ∧ Below w.heap.size w w' := by
  obtain ⟨w1, hw1⟩ : ∃ w1, w.alloc (.cells #[.int .i64 1, .int .i64 2, .slice none 0 0] 32) = w1 := ⟨_, rfl⟩
  have hz1 : w1.heap.size = w.heap.size + 1 := by rw [← hw1]; simp
  have hb1 : Below w.heap.size w w1 := by rw [← hw1]; exact (Below.refl _ _).alloc (Nat.le_refl _) _
  have P1 := root_any 1 2 [] none 0 1 [] [] 0 none 0 none 0 w1 (.nil_ (by decide)) ⟨by unfold M.In; omega, .nil_ (by decide), .nil_ (by decide)⟩ (by decide) (by decide) (hTab.from hb1)
  rw [x9_root] at P1
  have P1 := Lib.hid P1
  have HW1 := Lib.hid hw1
  clear hw1
  go_enter Tryz.func5, Tryz.ntmps5
  go_wp2_with fail
  rw [HW1.out]
  refine P1.out.mono ?_
  rintro e w2 ⟨rfl, hb2⟩
  clear P1
  have hw12 : Below w.heap.size w w2 := hb1.trans (hb2.mono hb1.size)
  have hmk : (Instr.makeSlice 41 (.int .i64 32) (.int .i64 32)).run Tryz.prog w2 = .ok (.slice (some ⟨w2.heap.size, 0, none⟩) 32 32) (w2.alloc (.cells (bv (zb 32)) 5)) := make_zb 32 (by omega) w2
  have hBz : Br (w2.alloc (.cells (bv (zb 32)) 5)) w2.heap.size (zb 32) := Br.at_ _ _ rfl
  have hcv := hBz.conv (n := 32) (by rw [zb_length]) 32
  have hb2a : Below w2.heap.size w2 (w2.alloc (.cells (bv (zb 32)) 5)) := (Below.refl _ _).alloc (Nat.le_refl _) _
  have hw23 := hw12.trans (hb2a.mono hw12.size)
  have HT1 := Lib.hid (fun X (h : Below w.heap.size w X) => tree_one X one9 1 hTab h)
  have HT3 := Lib.hid (fun X (h : Below w.heap.size w X) => tree_one X one9 3 hTab h)
  have HT2 := Lib.hid (fun X (h : Below w.heap.size w X) => tree_two X one9 one9 1 hTab h)
  have HM := Lib.hid (fun X (h : Below w.heap.size w X) => mix_any one9 2 X (by decide) (hTab.from h))
  have HM2 := Lib.hid (fun X (h : Below w.heap.size w X) => mix_any [120] 1 X (by decide) (hTab.from h))
  have HN := Lib.hid (fun X (h : Below w.heap.size w X) => root_any 0 0 [] none 0 0 [] [] 0 none 0 none 0 X (.nil_ (by decide)) ⟨by unfold M.In; omega, .nil_ (by decide), .nil_ (by decide)⟩ (by decide) (by decide) (hTab.from h))
  have HS := Lib.hid (fun X (h : Below w.heap.size w X) (s : List UInt8) (hs : s.length ≤ 1000) => sum_any s X hs (hTab.from h))
  have HSB := Lib.hid (fun X (h : Below w.heap.size w X) (b : ByteArray) (hb : b.size ≤ 1000) => sum_ba b X hb (hTab.from h))
  rw [x9_t1] at HT1
  rw [x9_t3] at HT3
  rw [x9_t2] at HT2
  rw [x9_mix] at HM
  rw [x9_m] at HM2
  rw [x9_none] at HN
  have HZ := Lib.hid (zb_length 32)
  rw [show M.z32 = zb 32 from rfl] at HT3
  have hoy : one9 = 1 :: List.replicate 31 0 := rfl
  have hol : one9.length = 32 := rfl
  have hzy : zb 32 = 0 :: List.replicate 31 0 := rfl
  have hyl : (List.replicate 31 (0 : UInt8)).length = 31 := by simp
  generalize zb 32 = z at *
  generalize one9 = o at *
  generalize List.replicate 31 (0 : UInt8) = y at *
  have HOY := Lib.hid hoy
  have HZY := Lib.hid hzy
  have HOL := Lib.hid hol
  have HYL := Lib.hid hyl
  clear hoy hzy hol hyl
  clear hBz
  go_wp2_with fail
  refine (HT1.out _ hw23 _ (by simp)).mono ?_
  rintro e w3 ⟨rfl, hb3⟩
  have hw3 := hw23.trans (((Below.refl _ _).alloc (Nat.le_refl _) _).trans (hb3.mono (by simp)) |>.mono hw23.size)
  clear hmk hcv
  go_wp2_with fail
  refine (HT3.out _ hw3 _ rfl).mono ?_
  rintro e w4 ⟨rfl, hb4⟩
  have hw4 := hw3.trans (((Below.refl _ _).alloc (Nat.le_refl _) _).trans (hb4.mono (by simp)) |>.mono hw3.size)
  go_wp2_with fail
  refine (HM.out _ hw4).mono ?_
  rintro e w5 ⟨rfl, hb5⟩
  have hw5 := hw4.trans (hb5.mono hw4.size)
  go_wp2_with fail
  refine (HT2.out _ hw5 _ rfl).mono ?_
  rintro e w6 ⟨rfl, hb6⟩
  have hw6 := hw5.trans (((Below.refl _ _).alloc (Nat.le_refl _) _).trans (hb6.mono (by simp)) |>.mono hw5.size)
  go_wp2_with fail
  refine (HM2.out _ hw6).mono ?_
  rintro e w7 ⟨rfl, hb7⟩
  have hw7 := hw6.trans (hb7.mono hw6.size)
  go_wp2_with fail
  refine (HN.out _ hw7).mono ?_
  rintro e w8 ⟨rfl, hb8⟩
  have hw8 := hw7.trans (hb8.mono hw7.size)
  have hzl := HZ.out
  go_wp2_with fail
  refine (HS.out _ hw8 (z ++ z) (by have := HZ.out; simp; omega)).mono ?_
  rintro e w9 ⟨rfl, hb9⟩
  have hw9 := hw8.trans (hb9.mono hw8.size)
  clear HT1 HT3 HM HT2 HM2 HN hb1 hw12 hw23 hw3 hw4 hw5 hw6 hw7 hw8 hb2 hb2a hb3 hb4 hb5 hb6 hb7 hb8 hb9 hz1 HW1
  have hsl : ∀ W, (Instr.slice 9 (.string ⟨z.toArray⟩) (some (.int .i64 1)) none none).run Tryz.prog W = .ok (.string ⟨y.toArray⟩) W := fun W => sl9 HZY.out HYL.out W
  have hol := HOL.out
  have hyl := HYL.out
  have hsum := M.sum_length
  have e1 : (o == ((⟨#[1]⟩ : ByteArray) ++ ⟨y.toArray⟩).toList) = true := by rw [show (⟨#[1]⟩ : ByteArray) = ⟨[1].toArray⟩ from rfl, ba_add, HOY.out]; simp
  have e2 : (M.sumL (o ++ 2 :: y) == M.sumL ((⟨o.toArray⟩ : ByteArray) ++ ⟨#[2]⟩ ++ ⟨y.toArray⟩).toList) = true := by rw [show (⟨#[2]⟩ : ByteArray) = ⟨[2].toArray⟩ from rfl, ba_add, ba_add]; simp
  have hb9s : ((⟨o.toArray⟩ : ByteArray) ++ ⟨#[2]⟩ ++ ⟨y.toArray⟩).size ≤ 1000 := by
    rw [show (⟨#[2]⟩ : ByteArray) = ⟨[2].toArray⟩ from rfl, ba_add, ba_add]
    show (o ++ [2] ++ y).toArray.size ≤ 1000
    simp
    omega
  have hb9s := Lib.hid hb9s
  go_wp2_with fail
  refine (HS.out _ hw9 (o ++ z) (by have h1 := HZ.out; have h2 := HOL.out; simp; omega)).mono ?_
  rintro e wa ⟨rfl, hba⟩
  have hwa := hw9.trans (hba.mono hw9.size)
  clear e1
  go_wp2_with fail
  refine (HS.out _ hwa _ (by simp [M.sum_length])).mono ?_
  rintro e wb ⟨rfl, hbb⟩
  have hwb := hwa.trans (hbb.mono hwa.size)
  go_wp2_with fail
  refine (HSB.out _ hwb _ hb9s.out).mono ?_
  rintro e wc ⟨rfl, hbc⟩
  have hwc := hwb.trans (hbc.mono hwb.size)
  go_wp2_with fail
  go_ret
  exact ⟨rfl, hwc⟩
end Go.Proofs.YtaajkbclojmbeaaGreatDoor
