/- The landed package ssz: Get. The example of layer 8, walked. The example of layer 8, and what the laws ask of package shape, proved. The reference's Unle, low. The reference's offset and Low. The reference's Pack. -/
import Derived.Test.YtgloapcfmlijlaaGreatDoorK17
import Derived.Test.YtgloapcfmlijlaaGreatDoorK14
import Derived.Test.YtgloapcfmlijlaaGreatDoorK06
import Derived.Test.YtgloapcfmlijlaaGreatDoorK05
import Derived.Test.YtgloapcfmlijlaaGreatDoorK09
import Derived.Test.YtgloapcfmlijlaaGreatDoorK01
import Derived.Test.YtgloapcfmlijlaaGreatDoorK12
import Derived.Laws.OwnMore
namespace Go.Proofs.YtgloapcfmlijlaaGreatDoor
open Go Go.RowKit Go.Lib
attribute [local go_sem] Oper.semAt_some

theorem results_cell_tmp {P : Program} {fn : Func} {p q : Tmp} {ty : TypeId} (h : fn.results = #[.cell p ty, .tmp q]) (tmps : Array Value) (w : World) (g : Nat) (t : TypeId) (cs : Array Value) (fr : Nat × Nat) (d : TypeDesc)
    (hp : tmps.getD p undef = .pointer (some ⟨g, 0, none⟩)) (hg : w.heap[g]? = some (.cells cs t fr))
    (hu : P.underlying ty = some d) (hd : (match d with | .struct _ | .array _ _ => true | _ => false) = true) (hi : (P.info? ty).map (·.size) = some cs.size) :
    (results fn tmps).run P w = .ok (.tuple #[.agg cs, tmps.getD q undef]) w := by
  have hp' : tmps[p]?.getD undef = .pointer (some ⟨g, 0, none⟩) := by simpa using hp
  simp [results, h, hp', asAddr, run_loadVar_row w g t ty cs fr d hg hu hd hi]

/-- A value and an error, stored and handed back. -/
theorem val_post2 {fn : Func} (hres : fn.results = #[.cell 4 33, .tmp 5]) (w w1 : World) (tmps : Array Value) (N : Nat) (x y : Value) (p : Int) (q : Nat) (g : Nat) (hg : w.heap.size ≤ g) (hB : Below w.heap.size w w1) (o0 o1 o2 o3 o4 o5 o6 : Value)
    (hrow : w1.heap[g]? = some (.cells #[o0, o1, o2, o3, o4, o5, o6] 33 (0, 0))) (R : Ending → World → Prop) (hp : tmps.getD 4 undef = .pointer (some ⟨g, 0, none⟩)) (hq : tmps.getD 5 undef = .int .i64 (q : Nat))
    (h : ∀ Z, Below w.heap.size w Z → Z.heap.size = w1.heap.size → (∀ b, b ≠ g → Z.heap[b]? = w1.heap[b]?) → R (.returned (.tuple #[vv N x y p, .int .i64 (q : Nat)])) Z) :
    bodyPost Tryz.prog fn R .ret { tmps := tmps, defers := [] } (((((((w1.setCell ⟨g, 0, none⟩ (.int .u64 (M.pt 0 N))).setCell ⟨g, 1, none⟩ (.int .u64 (M.pt 1 N))).setCell ⟨g, 2, none⟩ (.int .u64 (M.pt 2 N))).setCell ⟨g, 3, none⟩ (.int .u64 (M.pt 3 N))).setCell ⟨g, 4, none⟩ x).setCell ⟨g, 5, none⟩ y).setCell ⟨g, 6, none⟩ (.int .i64 p)) := by
  rw [set_w7 hrow]
  have := results_cell_tmp (P := Tryz.prog) hres tmps (w1.setRow g #[.int .u64 (M.pt 0 N), .int .u64 (M.pt 1 N), .int .u64 (M.pt 2 N), .int .u64 (M.pt 3 N), x, y, .int .i64 p]) g 33 #[.int .u64 (M.pt 0 N), .int .u64 (M.pt 1 N), .int .u64 (M.pt 2 N), .int .u64 (M.pt 3 N), x, y, .int .i64 p] (0, 0) _ hp (setRow_heap _ _ _ _ _ (0, 0) hrow) Tryz.underlying33 rfl Tryz.valSize
  rw [hq] at this
  exact bodyPost_ret this rfl (h _ (below_setRow hB hg _) (by simp) (fun b hb => setRow_other _ _ _ _ hb))
theorem val_post2_0 {fn : Func} (hres : fn.results = #[.cell 4 33, .tmp 5]) (w w1 : World) (tmps : Array Value) (q : Nat) (g : Nat) (hg : w.heap.size ≤ g) (hB : Below w.heap.size w w1) (o0 o1 o2 o3 o4 o5 o6 : Value)
    (hrow : w1.heap[g]? = some (.cells #[o0, o1, o2, o3, o4, o5, o6] 33 (0, 0))) (R : Ending → World → Prop) (hp : tmps.getD 4 undef = .pointer (some ⟨g, 0, none⟩)) (hq : tmps.getD 5 undef = .int .i64 (q : Nat))
    (h : ∀ Z, Below w.heap.size w Z → R (.returned (.tuple #[vv 0 (.slice none 0 0) (.slice none 0 0) 0, .int .i64 (q : Nat)])) Z) :
    bodyPost Tryz.prog fn R .ret { tmps := tmps, defers := [] } (((((((w1.setCell ⟨g, 0, none⟩ (.int .u64 0)).setCell ⟨g, 1, none⟩ (.int .u64 0)).setCell ⟨g, 2, none⟩ (.int .u64 0)).setCell ⟨g, 3, none⟩ (.int .u64 0)).setCell ⟨g, 4, none⟩ (.slice none 0 0)).setCell ⟨g, 5, none⟩ (.slice none 0 0)).setCell ⟨g, 6, none⟩ (.int .i64 0)) := by
  have := val_post2 hres w w1 tmps 0 (.slice none 0 0) (.slice none 0 0) 0 q g hg hB o0 o1 o2 o3 o4 o5 o6 hrow R hp hq fun Z hZ _ _ => h Z hZ
  rw [show M.pt 0 0 = 0 by decide +kernel, show M.pt 1 0 = 0 by decide +kernel, show M.pt 2 0 = 0 by decide +kernel, show M.pt 3 0 = 0 by decide +kernel] at this
  exact this
theorem gotP_none (q : Nat) (Z : World) : GotP (.returned (.tuple #[vv 0 (.slice none 0 0) (.slice none 0 0) 0, .int .i64 (q : Nat)])) Z (M.noV, q) :=
  ⟨0, [], [], 0, none, 0, none, 0, rfl, rfl, ⟨by unfold M.In; omega, .nil_ (by decide), .nil_ (by decide)⟩⟩
/-- With an error there is no value. -/
def Gd (r : M.Va × Nat) : Prop := r.2 ≠ 0 → r.1 = M.noV
theorem gd_ite {c : Prop} [Decidable c] {a b : M.Va × Nat} (ha : Gd a) (hb : Gd b) : Gd (if c then a else b) := by
  split
  · exact ha
  · exact hb
theorem gd_no (q : Nat) : Gd (M.noV, q) := fun _ => rfl
theorem gd_ok (v : M.Va) : Gd (v, 0) := fun h => absurd rfl h
theorem row_none (k n : Int) (kd : List (Option Nat)) (fs : List M.Rdr) (s : List UInt8) : Gd (M.rowOf k n kd fs s) := by
  unfold M.rowOf
  refine gd_ite (gd_no _) ?_
  cases M.splitB (if k = 7 then kd else List.replicate (M.manyT k n kd s).1 (kd.headD none)) s with
  | none => exact gd_no _
  | some bs => exact gd_ite (gd_no _) (gd_ok _)
theorem get_none {k n : Int} {ts : List M.Ty} {s : List UInt8} : Gd (M.getV (.mk k n ts) s) := by
  rw [M.getV]
  unfold M.getOf
  refine gd_ite (gd_no _) (gd_ite (gd_ok _) (gd_ite (gd_ite (gd_no _) (gd_ok _)) (gd_ite (gd_ite (gd_no _) (gd_ok _)) (gd_ite ?_ (gd_ite ?_ (row_none _ _ _ _ _))))))
  · cases M.topB s (8 * s.length) with
    | none => exact gd_no _
    | some m => exact gd_ite (gd_no _) (gd_ite (gd_no _) (gd_ok _))
  · cases s with
    | nil => exact gd_no _
    | cons c s => exact gd_ite (gd_no _) (gd_ite (gd_no _) (gd_ok _))
set_option maxRecDepth 100000 in
set_option maxHeartbeats 4000000 in
theorem get1_any (k n : Int) (ts : List M.Ty) (a : Option Addr) (cap : Nat) (s : List UInt8) (bt bs bv : Nat) (W : World) (hL : LayT W W.heap.size ts (.slice a ts.length cap))
    (hc : ∃ d, M.chkT d (.mk k n ts) = 0) (h1 : M.cntT (.mk k n ts) ≤ 1000) (hl : s.length ≤ 8000)
    (hB : BoxT W bt k n (.slice a ts.length cap)) (hS : Boxed W bs 9 (.string ⟨s.toArray⟩)) (hV : W.heap[bv]? = some (.cells #[.int .u64 0, .int .u64 0, .int .u64 0, .int .u64 0, .slice none 0 0, .slice none 0 0, .int .i64 0] 33 (0, 0))) (e1 : bt ≠ bv) (e2 : bs ≠ bv) :
    Calls Tryz.prog 31 #[.pointer (some ⟨bt, 0, none⟩), .pointer (some ⟨bs, 0, none⟩), .pointer (some ⟨bv, 0, none⟩)] W fun e w' =>
      ((M.getV (.mk k n ts) s).2 = 0 → e = .returned (.tuple #[]) ∧ ∃ (N : Nat) (bs' : List Bool) (us : List M.Va) (p : Int) (ab : Option Addr) (cb : Nat) (au : Option Addr) (cu : Nat) (w1 : World), (M.getV (.mk k n ts) s).1 = .mk N bs' us p ∧ Below W.heap.size W w1 ∧ VlS W.heap.size w1.heap.size N bs' us ab cb au cu w1 ∧
        w' = w1.setRow bv #[.int .u64 (M.pt 0 N), .int .u64 (M.pt 1 N), .int .u64 (M.pt 2 N), .int .u64 (M.pt 3 N), .slice ab bs'.length cb, .slice au us.length cu, .int .i64 p]) ∧
      ((M.getV (.mk k n ts) s).2 ≠ 0 → e = pan (M.getV (.mk k n ts) s).2 ∧ Below W.heap.size W w') := by
  have HP : Hid (∀ X, Below W.heap.size W X → Calls Tryz.prog 33 #[tv k n (.slice a ts.length cap)] X fun e w' => e = .returned (pv k n (.slice a ts.length cap) (M.fixedT (.mk k n ts)) (wdT (.mk k n ts))) ∧ Below X.heap.size X w') := fun X hX =>
    partOf_any k n ts a cap X ((hL.from_ hX).mono hX.size) h1
  have HC : Hid (∀ X, Below W.heap.size W X → Calls Tryz.prog 32 #[pv k n (.slice a ts.length cap) (M.fixedT (.mk k n ts)) (wdT (.mk k n ts)), .string ⟨s.toArray⟩] X (GotC X (M.getV (.mk k n ts) s))) := fun X hX =>
    get_c _ k n ts a cap s X (Nat.le_refl _) ((hL.from_ hX).mono hX.size) hc h1 hl
  have t0 := hB.c0
  have t1 := hB.c1
  have t2 := hB.c2
  have s0 := hS.cell
  have lt := World.block_lt_of_cell? _ _ t0
  have ls := hS.lt
  have lv := (Array.getElem?_eq_some_iff.1 hV).1
  have mixed : Tryz.prog.follows .mixedOrders = true := by kernel_rfl
  generalize M.getV (.mk k n ts) s = r at *
  generalize M.fixedT (.mk k n ts) = fx at *
  generalize wdT (.mk k n ts) = wd at *
  have lt' : bt < W.heap.size := lt
  clear lt hL hc h1 hB hS
  go_enter Tryz.func31, Tryz.ntmps31
  go_wp2_with fail
  refine wp_region_held (S := fun Y => Gr W Y (fun b => b = bv)) mixed ?_
  have hS0 : Below W.heap.size W { W with drawn := W.drawn + 1 } := Below.drew (Below.refl _ _)
  have hG0 : (fun Y => Gr W Y (fun b => b = bv)) { W with drawn := W.drawn + 1 } := Gr.drew (Gr.refl _ _)
  rw [show Array.replicate (Array.size _) false = #[false, false, false, false, false] from rfl, show Array.size (α := Oper) _ = 5 from rfl]
  refine wpAnyH_take (i := 0) (v := tv k n (.slice a ts.length cap)) rfl (by kernel_rfl) (by kernel_rfl) (by kernel_rfl) (fun _ _ _ h => h) (Or.inl ⟨by rfl, ?_⟩) hG0 ?_
  · intro Y hY
    have c0 := (hY.cell (p := ⟨bt, 0, none⟩) lt' e1).trans t0; have c1 := (hY.cell (p := ⟨bt, 1, none⟩) lt' e1).trans t1; have c2 := (hY.cell (p := ⟨bt, 2, none⟩) lt' e1).trans t2
    go_simp
  simp only [Act.put, List.getElem_toArray, List.getElem_cons_zero, List.setIfInBounds_toArray, List.set_cons_zero, List.set_cons_succ]
  refine wpAnyH_take (i := 2) (v := .string ⟨s.toArray⟩) rfl (by kernel_rfl) (by kernel_rfl) (by kernel_rfl) (fun _ _ _ h => h) (Or.inl ⟨by rfl, ?_⟩) hG0 ?_
  · intro Y hY
    have c0 := (hY.cell (p := ⟨bs, 0, none⟩) ls e2).trans s0
    go_simp
  simp only [Act.put, List.getElem_toArray, List.getElem_cons_succ, List.getElem_cons_zero, List.setIfInBounds_toArray, List.set_cons_zero, List.set_cons_succ]
  refine wpAnyH_ready (rs := [1]) (by kernel_rfl) (by simp) ?_
  refine AllReadyH.cons rfl (fun K hK => ?_) AllReadyH.nil
  go_simp
  refine (HP.out _ hS0).mono ?_
  rintro e w2 ⟨rfl, hb2⟩
  have hS2 : Below W.heap.size W w2 := hS0.trans (hb2.mono (Nat.le_refl _))
  try go_wp2_with fail
  refine hK.out _ _ ((Gr.refl W _).below hS2) (fun _ => ?_)
  clear hK K
  simp only [List.setIfInBounds_toArray, List.set_cons_zero, List.set_cons_succ]
  refine wpAnyH_ready (rs := [3]) (by kernel_rfl) (by simp) ?_
  refine AllReadyH.cons rfl (fun K hK => ?_) AllReadyH.nil
  go_simp
  refine (HC.out _ hS2).mono ?_
  rintro e w3 ⟨hok, hno, hb3⟩
  have hS3 : Below W.heap.size W w3 := hS2.trans (hb3.mono hS2.size)
  rcases Nat.eq_zero_or_pos r.2 with hq | hq
  case inr =>
    rw [hno (by omega)]
    exact ⟨rfl, fun h => absurd h (by omega), fun _ => ⟨rfl, hS3⟩⟩
  obtain ⟨N, bs', us, p, ab, cb, au, cu, hr1, rfl, hV3⟩ := hok hq
  have HV := Lib.hid hV3
  have HR1 := Lib.hid hr1
  have HQ := Lib.hid hq
  have hr3 := (hS3.block _ lv).trans hV
  have hz2 := hS2.size
  have hG3 : Gr W w3 (fun b => b = bv) := (Gr.refl W _).below hS3
  clear t0 t1 t2 s0 hok hno hV3 hr1 hq
  try go_wp2_with fail
  refine hK.out _ _ hG3 (fun _ => ?_)
  clear hK K
  simp only [List.setIfInBounds_toArray, List.set_cons_zero, List.set_cons_succ]
  obtain ⟨⟨_, i0⟩, ⟨_, i1⟩, ⟨_, i2⟩, ⟨_, i3⟩, ⟨_, i4⟩, ⟨_, i5⟩, ⟨_, i6⟩, f0, f1, f2, f3, f4, f5, f6⟩ := cells_w7 hr3
  refine wpAnyH_ready (rs := [4]) (by kernel_rfl) (by simp) ?_
  refine AllReadyH.cons rfl (fun K hK => ?_) AllReadyH.nil
  go_simp
  refine hK.out _ _ (((((((hG3.set _ _ (.inr rfl)).set _ _ (.inr rfl)).set _ _ (.inr rfl)).set _ _ (.inr rfl)).set _ _ (.inr rfl)).set _ _ (.inr rfl)).set _ _ (.inr rfl)) (fun _ => ?_)
  clear hK K
  simp only [List.setIfInBounds_toArray, List.set_cons_zero, List.set_cons_succ]
  refine wpAnyH_done (by kernel_rfl) ?_ _
  rw [set_w7 hr3]
  go_wp2_with fail
  go_end0
  exact ⟨fun _ => ⟨rfl, N, bs', us, p, ab, cb, au, cu, w3, HR1.out, hS3, HV.out.mono hz2 (Nat.le_refl _), rfl⟩, fun h => absurd HQ.out h⟩

set_option maxRecDepth 100000 in
set_option maxHeartbeats 4000000 in
theorem ssz_get : SGetOk := by
  intro k n ts a cap s w hL h1 hl
  obtain ⟨w0, hw0⟩ : ∃ w0, ((w.alloc (.cells #[.int .i64 k, .int .i64 n, .slice a ts.length cap] 24)).alloc (.cells #[.string ⟨s.toArray⟩] 9)).alloc (.cells #[.int .u64 0, .int .u64 0, .int .u64 0, .int .u64 0, .slice none 0 0, .slice none 0 0, .int .i64 0] 33) = w0 := ⟨_, rfl⟩
  have hb0 : Below w.heap.size w w0 := by rw [← hw0]; (repeat (first | exact Below.refl _ _ | refine Below.drew ?_ | refine Below.alloc ?_ (by first | omega | (simp; omega) | simp) _ | refine Below.setCell ?_ (by first | omega | (simp; omega) | simp) _))
  have hz0 : w0.heap.size = w.heap.size + 3 := by rw [← hw0]; simp
  have blk := allocs_at w ([.cells #[.int .i64 k, .int .i64 n, .slice a ts.length cap] 24, .cells #[.string ⟨s.toArray⟩] 9, .cells #[.int .u64 0, .int .u64 0, .int .u64 0, .int .u64 0, .slice none 0 0, .slice none 0 0, .int .i64 0] 33] : List Obj)
  rw [show ([.cells #[.int .i64 k, .int .i64 n, .slice a ts.length cap] 24, .cells #[.string ⟨s.toArray⟩] 9, .cells #[.int .u64 0, .int .u64 0, .int .u64 0, .int .u64 0, .slice none 0 0, .slice none 0 0, .int .i64 0] 33] : List Obj).foldl World.alloc w = w0 from hw0] at blk
  have b0 := blk 0 _ rfl
  have b1 := blk 1 _ rfl
  have b2 := blk 2 _ rfl
  have hB0 : BoxT w0 w.heap.size k n (.slice a ts.length cap) := ⟨by simp [World.cell?, show w0.heap[w.heap.size]? = _ from b0], by simp [World.cell?, show w0.heap[w.heap.size]? = _ from b0], by simp [World.cell?, show w0.heap[w.heap.size]? = _ from b0]⟩
  have hS0 : Boxed w0 (w.heap.size + 1) 9 (.string ⟨s.toArray⟩) := b1
  have HW := Lib.hid hw0
  have HL0 := Lib.hid ((hL.from_ hb0).mono hb0.size)
  have HF := Lib.hid (shape_check k n ts a cap w0 HL0.out h1)
  have t0 := hB0.c0
  have t1 := hB0.c1
  have t2 := hB0.c2
  have s0 := hS0.cell
  rw [← HW.out] at t0 t1 t2
  have HG : Hid (M.getT (.mk k n ts) s = if M.chkT 0 (.mk k n ts) ≠ 0 then (M.noV, M.chkT 0 (.mk k n ts)) else if 65536 < s.length then (M.noV, 5) else M.getV (.mk k n ts) s) := rfl
  obtain ⟨T, hT⟩ : ∃ T, M.getT (.mk k n ts) s = T := ⟨_, rfl⟩
  rw [hT] at HG ⊢
  obtain ⟨q, hq⟩ : ∃ q, M.chkT 0 (.mk k n ts) = q := ⟨_, rfl⟩
  rw [hq] at HF HG
  have HQ := Lib.hid hq
  clear hw0 hL blk b0 hT hq
  go_enter Tryz.func12, Tryz.ntmps12
  go_wp2_with fail
  rw [HW.out]
  refine HF.out.mono ?_
  rintro e w1 ⟨rfl, hb1⟩
  have hz1 := hb1.size
  have hr1 := (hb1.block (w.heap.size + 2) (by omega)).trans b2
  have hbw1 : Below w.heap.size w w1 := hb0.trans (hb1.mono hb0.size)
  by_cases hq0 : q = 0
  case neg =>
    obtain rfl : T = (M.noV, q) := by rw [HG.out, if_pos hq0]
    have hq1 : ¬ (q : Int) = 0 := by omega
    obtain ⟨⟨_, i0⟩, ⟨_, i1⟩, ⟨_, i2⟩, ⟨_, i3⟩, ⟨_, i4⟩, ⟨_, i5⟩, ⟨_, i6⟩, f0, f1, f2, f3, f4, f5, f6⟩ := cells_w7 hr1
    go_wp2_with fail
    exact val_post2_0 rfl w w1 _ q (w.heap.size + 2) (by omega) hbw1 _ _ _ _ _ _ _ hr1 _ rfl rfl fun Z hZ => ⟨gotP_none q Z, hZ⟩
  subst hq0
  have hG2 : Hid (T = if 65536 < s.length then (M.noV, 5) else M.getV (.mk k n ts) s) := by
    show _ = _
    rw [HG.out, if_neg (by decide)]
  have s1 : w1.cell? ⟨w.heap.size + 1, 0, none⟩ = some (.string ⟨s.toArray⟩) := (hb1.cell (p := ⟨w.heap.size + 1, 0, none⟩) hS0.lt).trans s0
  clear HG t0 t1 t2 s0
  by_cases hlg : 65536 < s.length
  · obtain rfl : T = (M.noV, 5) := by rw [hG2.out, if_pos hlg]
    obtain ⟨⟨_, i0⟩, ⟨_, i1⟩, ⟨_, i2⟩, ⟨_, i3⟩, ⟨_, i4⟩, ⟨_, i5⟩, ⟨_, i6⟩, f0, f1, f2, f3, f4, f5, f6⟩ := cells_w7 hr1
    have hlg' : (65536 : Int) < s.length := by omega
    go_wp2_with fail
    exact val_post2_0 rfl w w1 _ 5 (w.heap.size + 2) (by omega) hbw1 _ _ _ _ _ _ _ hr1 _ rfl rfl fun Z hZ => ⟨gotP_none 5 Z, hZ⟩
  have hl8 : s.length ≤ 8000 := by omega
  obtain rfl : T = M.getV (.mk k n ts) s := by rw [hG2.out, if_neg hlg]
  have hlg' : ¬ (65536 : Int) < s.length := by omega
  have hmf : ∀ (fn : Fn) (first cap : Array Value) (w : World), (Instr.makeFunc fn first cap).run Tryz.prog w = .ok (.func fn first cap) w := fun _ _ _ _ => rfl
  have hen : ∀ args w, (callFunc 31 args).run Tryz.prog w = .ok (.enter 31 args) w := by
    intro args w
    simp [callFunc, go_sem, Tryz.f31]
  obtain ⟨w2, hw2⟩ : ∃ w2, w1.alloc (.cells #[.int .u64 0, .int .u64 0, .int .u64 0, .int .u64 0, .slice none 0 0, .slice none 0 0, .int .i64 0] 33) = w2 := ⟨_, rfl⟩
  have hb2 : Below w1.heap.size w1 w2 := by rw [← hw2]; exact (Below.refl _ _).alloc (Nat.le_refl _) _
  have hv2 : w2.heap[w1.heap.size]? = some (.cells #[.int .u64 0, .int .u64 0, .int .u64 0, .int .u64 0, .slice none 0 0, .slice none 0 0, .int .i64 0] 33 (0, 0)) := by rw [← hw2]; exact World.alloc_heap_new _ _
  have hz2 : w2.heap.size = w1.heap.size + 1 := by rw [← hw2]; simp
  have hb02 : Below w0.heap.size w0 w2 := hb1.trans (hb2.mono hb1.size)
  obtain ⟨w3, hw3⟩ : ∃ w3, w2.alloc (.cells #[.int .i64 0] 34) = w3 := ⟨_, rfl⟩
  have hb3 : Below w2.heap.size w2 w3 := by rw [← hw3]; exact (Below.refl _ _).alloc (Nat.le_refl _) _
  have hz3 : w3.heap.size = w2.heap.size + 1 := by rw [← hw3]; simp
  have hE3 : Boxed w3 w2.heap.size 34 (.int .i64 0) := by rw [← hw3]; exact Boxed.new _ _ _
  have hb03 : Below w0.heap.size w0 w3 := hb02.trans (hb3.mono hb02.size)
  have hv3 := (hb3.block (w1.heap.size) (by omega)).trans hv2
  have hc0 : ∃ d, M.chkT d (.mk k n ts) = 0 := ⟨0, HQ.out⟩
  have H1 := get1_any k n ts a cap s w.heap.size (w.heap.size + 1) w1.heap.size w3 ((HL0.out.from_ hb03).mono hb03.size) hc0 h1 hl8 (boxT_below hB0 hb03 (by omega)) ((hb03.block _ hS0.lt).trans hS0) hv3 (by omega) (by omega)
  have hgd : Gd (M.getV (.mk k n ts) s) := get_none
  generalize hrd : M.getV (.mk k n ts) s = r at hgd H1
  have HRD := Lib.hid hrd
  clear hrd
  have HGV := given_any 31 #[.pointer (some ⟨w.heap.size, 0, none⟩), .pointer (some ⟨w.heap.size + 1, 0, none⟩), .pointer (some ⟨w1.heap.size, 0, none⟩)] hen w2 (fun q W => q = r.2 ∧ Below w0.heap.size w0 W ∧ w3.heap.size ≤ W.heap.size ∧ Boxed W w2.heap.size 34 (.int .i64 0) ∧
    (r.2 = 0 → ∃ (N : Nat) (bs' : List Bool) (us : List M.Va) (p : Int) (ab : Option Addr) (cb : Nat) (au : Option Addr) (cu : Nat), r.1 = .mk N bs' us p ∧ VlS w3.heap.size W.heap.size N bs' us ab cb au cu W ∧ W.heap[w1.heap.size]? = some (.cells #[.int .u64 (M.pt 0 N), .int .u64 (M.pt 1 N), .int .u64 (M.pt 2 N), .int .u64 (M.pt 3 N), .slice ab bs'.length cb, .slice au us.length cu, .int .i64 p] 33 (0, 0))) ∧
    (r.2 ≠ 0 → W.heap[w1.heap.size]? = some (.cells #[.int .u64 0, .int .u64 0, .int .u64 0, .int .u64 0, .slice none 0 0, .slice none 0 0, .int .i64 0] 33 (0, 0)))) (by
      rw [hw3]
      refine H1.mono ?_
      rintro e w' ⟨hok, hno⟩
      rcases Nat.eq_zero_or_pos r.2 with hq | hq
      · obtain ⟨rfl, N, bs', us, p, ab, cb, au, cu, w4, hr, hb4, hV, rfl⟩ := hok hq
        have hs4 := hb4.size
        have hk : ∀ b, b ≠ w1.heap.size → (w4.setRow w1.heap.size #[.int .u64 (M.pt 0 N), .int .u64 (M.pt 1 N), .int .u64 (M.pt 2 N), .int .u64 (M.pt 3 N), .slice ab bs'.length cb, .slice au us.length cu, .int .i64 p]).heap[b]? = w4.heap[b]? := fun b hb => setRow_other _ _ _ _ hb
        have hE5 : Boxed (w4.setRow w1.heap.size #[.int .u64 (M.pt 0 N), .int .u64 (M.pt 1 N), .int .u64 (M.pt 2 N), .int .u64 (M.pt 3 N), .slice ab bs'.length cb, .slice au us.length cu, .int .i64 p]) w2.heap.size 34 (.int .i64 0) := (hk w2.heap.size (by omega)).trans ((hb4.block _ hE3.lt).trans hE3)
        refine ⟨0, rfl, ⟨hq.symm, below_setRow (hb03.trans (hb4.mono hb03.size)) (by omega) _, by simp; omega, hE5, fun _ => ⟨N, bs', us, p, ab, cb, au, cu, hr, (hV.agree (.blocks fun b h1 _ => hk b (by omega))).mono (Nat.le_refl _) (by simp), setRow_heap _ _ _ _ _ (0, 0) ((hb4.block _ (by omega)).trans hv3)⟩, fun h => absurd hq h⟩, hE5⟩
      · obtain ⟨rfl, hb4⟩ := hno (by omega)
        have hs4 := hb4.size
        have hE5 : Boxed w' w2.heap.size 34 (.int .i64 0) := (hb4.block _ hE3.lt).trans hE3
        exact ⟨r.2, (orPan_ne (by omega)).symm, ⟨rfl, hb03.trans (hb4.mono hb03.size), hs4, hE5, fun h => absurd h (by omega), fun _ => (hb4.block _ (by omega)).trans hv3⟩, hE5⟩)
  have HGV' := Lib.hid HGV
  have HW2 := Lib.hid hw2
  have hz12 : w1.heap.size < w2.heap.size := by omega
  clear hw2 hw3 HGV H1 hE3 hv3 hv2 hc0 hen hG2
  go_wp2_with fail
  rw [HW2.out]
  refine HGV'.out.mono ?_
  rintro e w5 ⟨q, W, rfl, ⟨rfl, hbW, hsW, hEW, hok, hno⟩, rfl⟩
  obtain ⟨X6, hX6⟩ : ∃ X6, W.setCell ⟨w2.heap.size, 0, none⟩ (.int .i64 (r.2 : Nat)) = X6 := ⟨_, rfl⟩
  have hk6 : ∀ b, b ≠ w2.heap.size → X6.heap[b]? = W.heap[b]? := fun b hb => by rw [← hX6]; exact Below.heap_setCell _ _ _ _ hb
  have hz6 : X6.heap.size = W.heap.size := by rw [← hX6]; simp [World.setCell]
  have hb6 : Below w0.heap.size w0 X6 := by rw [← hX6]; exact hbW.grown (grownBy_setCell' _ _ _) hbW.size (fun j e => by cases e; have := hb02.size; omega)
  have hr6 := (hb6.block (w.heap.size + 2) (by omega)).trans b2
  have hbw6 : Below w.heap.size w X6 := hb0.trans (Below.mono hb6 hb0.size)
  rw [hX6]
  have hzz0 := hz0
  clear hX6 hEW hz0
  rcases Nat.eq_zero_or_pos r.2 with hq | hq
  · obtain ⟨N, bs', us, p, ab, cb, au, cu, hr, hV, hv⟩ := hok hq
    have hv6 := (hk6 w1.heap.size (by omega)).trans hv
    obtain ⟨y0, y1, y2, y3, y4, y5, y6⟩ : X6.cell? ⟨w1.heap.size, 0, none⟩ = some (.int .u64 (M.pt 0 N)) ∧ X6.cell? ⟨w1.heap.size, 1, none⟩ = some (.int .u64 (M.pt 1 N)) ∧ X6.cell? ⟨w1.heap.size, 2, none⟩ = some (.int .u64 (M.pt 2 N)) ∧ X6.cell? ⟨w1.heap.size, 3, none⟩ = some (.int .u64 (M.pt 3 N)) ∧ X6.cell? ⟨w1.heap.size, 4, none⟩ = some (.slice ab bs'.length cb) ∧ X6.cell? ⟨w1.heap.size, 5, none⟩ = some (.slice au us.length cu) ∧ X6.cell? ⟨w1.heap.size, 6, none⟩ = some (.int .i64 p) := by
      refine ⟨?_, ?_, ?_, ?_, ?_, ?_, ?_⟩ <;> simp [World.cell?, hv6]
    have HV := Lib.hid hV
    have HR1 := Lib.hid hr
    have HK6 := Lib.hid hk6
    have HZ6 := Lib.hid hz6
    have HZ0 := Lib.hid hzz0
    have HQ2 := Lib.hid hq
    obtain ⟨q, hq3⟩ : ∃ q, r.2 = q := ⟨_, rfl⟩
    rw [hq3]
    have HQ3 := Lib.hid hq3
    have HZ2 := Lib.hid hz2
    have HZ3 := Lib.hid hz3
    obtain ⟨⟨_, i0⟩, ⟨_, i1⟩, ⟨_, i2⟩, ⟨_, i3⟩, ⟨_, i4⟩, ⟨_, i5⟩, ⟨_, i6⟩, f0, f1, f2, f3, f4, f5, f6⟩ := cells_w7 hr6
    clear hok hno hV hv hv6 hr hk6 hz6 hzz0 hq hq3 hz2 hz3 s1 hgd
    go_wp2_with fail
    refine val_post2 rfl w X6 _ N _ _ p q (w.heap.size + 2) (by omega) hbw6 _ _ _ _ _ _ _ hr6 _ rfl rfl fun Z hZ hz hk => ⟨?_, hZ⟩
    rw [HRD.out]
    refine ⟨N, bs', us, p, ab, cb, au, cu, HR1.out, by rw [HQ3.out], ?_⟩
    have h0 := HZ0.out
    have h2 := HZ2.out
    have h3 := HZ3.out
    have h6 := HZ6.out
    exact ((HV.out.agree (Agree.trans (.blocks fun b h1 _ => HK6.out b (by omega)) (.blocks fun b h1 _ => hk b (by omega)))).mono (Nat.le_refl _) (by omega)).vl
  · have hv6 := (hk6 w1.heap.size (by omega)).trans (hno (by omega))
    obtain ⟨y0, y1, y2, y3, y4, y5, y6⟩ : X6.cell? ⟨w1.heap.size, 0, none⟩ = some (.int .u64 0) ∧ X6.cell? ⟨w1.heap.size, 1, none⟩ = some (.int .u64 0) ∧ X6.cell? ⟨w1.heap.size, 2, none⟩ = some (.int .u64 0) ∧ X6.cell? ⟨w1.heap.size, 3, none⟩ = some (.int .u64 0) ∧ X6.cell? ⟨w1.heap.size, 4, none⟩ = some (.slice none 0 0) ∧ X6.cell? ⟨w1.heap.size, 5, none⟩ = some (.slice none 0 0) ∧ X6.cell? ⟨w1.heap.size, 6, none⟩ = some (.int .i64 0) := by
      refine ⟨?_, ?_, ?_, ?_, ?_, ?_, ?_⟩ <;> simp [World.cell?, hv6]
    have hrr : r = (M.noV, r.2) := Prod.ext (hgd (by omega)) rfl
    have HRR := Lib.hid hrr
    obtain ⟨q, hq3⟩ : ∃ q, r.2 = q := ⟨_, rfl⟩
    rw [hq3] at HRR ⊢
    obtain ⟨⟨_, i0⟩, ⟨_, i1⟩, ⟨_, i2⟩, ⟨_, i3⟩, ⟨_, i4⟩, ⟨_, i5⟩, ⟨_, i6⟩, f0, f1, f2, f3, f4, f5, f6⟩ := cells_w7 hr6
    clear hok hno hv6 hk6 hz6 hzz0 hq hq3 hz2 hz3 s1 hgd hrr
    go_wp2_with fail
    refine val_post2_0 rfl w X6 _ q (w.heap.size + 2) (by omega) hbw6 _ _ _ _ _ _ _ hr6 _ rfl rfl fun Z hZ => ⟨?_, hZ⟩
    rw [HRD.out, HRR.out]
    exact gotP_none q Z
/-- Package ssz does what the laws ask of it. -/
theorem ssz_ok : Sszs := ⟨ssz_put, ssz_get⟩
end Go.Proofs.YtgloapcfmlijlaaGreatDoor
namespace Go.Proofs.YtgloapcfmlijlaaGreatDoor
open Go Go.RowKit

theorem vv8_0 (u v : Value) (p : Int) : vv 0 u v p = .agg #[.int .u64 0, .int .u64 0, .int .u64 0, .int .u64 0, u, v, .int .i64 p] := by
  show Value.agg _ = _
  rw [show M.pt 0 0 = 0 by decide +kernel, show M.pt 1 0 = 0 by decide +kernel, show M.pt 2 0 = 0 by decide +kernel, show M.pt 3 0 = 0 by decide +kernel]
def M.tl : M.Ty := .mk 6 8 []
def M.three : List M.Ty := [.mk 1 2 [], .mk 6 8 [], .mk 2 0 []]
def M.vthree : List M.Va := [.mk 258 [] [] 0, .mk 0 [] [] 0, .mk 1 [] [] 0]
theorem bits_three {W : World} {b n : Nat} (h : W.heap[b]? = some (.cells #[.bool true, .bool false, .bool true] 4 (0, 0))) (hb : b < n) : LayB W n [true, false, true] (.slice (some ⟨b, 0, none⟩) 3 3) := by
  refine .row (bs := [true, false, true]) hb (Nat.le_refl _) (by decide) ?_
  intro i x e
  match i, e with
  | 0, e => cases e; simp [World.cell?, h]
  | 1, e => cases e; simp [World.cell?, h]
  | 2, e => cases e; simp [World.cell?, h]
theorem types_three {W : World} {b n : Nat} (h : W.heap[b]? = some (.cells #[.int .i64 1, .int .i64 2, .slice none 0 0, .int .i64 6, .int .i64 8, .slice none 0 0, .int .i64 2, .int .i64 0, .slice none 0 0] 24 (0, 0))) (hb : b < n) : LayT W n M.three (.slice (some ⟨b, 0, none⟩) 3 3) := by
  refine .row (ts := M.three) (fun _ => .slice none 0 0) hb (Nat.le_refl _) (by decide) ?_ ?_ ?_ ?_
  all_goals
    intro i k m us e
    match i, e with
    | 0, e => cases e; first | exact .nil_ (by decide) | simp [World.cell?, h]
    | 1, e => cases e; first | exact .nil_ (by decide) | simp [World.cell?, h]
    | 2, e => cases e; first | exact .nil_ (by decide) | simp [World.cell?, h]
theorem vals_three {W : World} {b n : Nat} (h : W.heap[b]? = some (.cells #[.int .u64 258, .int .u64 0, .int .u64 0, .int .u64 0, .slice none 0 0, .slice none 0 0, .int .i64 0, .int .u64 0, .int .u64 0, .int .u64 0, .int .u64 0, .slice none 0 0, .slice none 0 0, .int .i64 0, .int .u64 1, .int .u64 0, .int .u64 0, .int .u64 0, .slice none 0 0, .slice none 0 0, .int .i64 0] 33 (0, 0))) (hb : b < n) : LayV W n M.vthree (.slice (some ⟨b, 0, none⟩) 3 3) := by
  have p258 : M.pt 0 258 = 258 ∧ M.pt 1 258 = 0 ∧ M.pt 2 258 = 0 ∧ M.pt 3 258 = 0 := by decide +kernel
  have p0 : M.pt 0 0 = 0 ∧ M.pt 1 0 = 0 ∧ M.pt 2 0 = 0 ∧ M.pt 3 0 = 0 := by decide +kernel
  have p1 : M.pt 0 1 = 1 ∧ M.pt 1 1 = 0 ∧ M.pt 2 1 = 0 ∧ M.pt 3 1 = 0 := by decide +kernel
  have g0 : Cells7 W b (0 + 0 * 7) 258 (.slice none 0 0) (.slice none 0 0) 0 := by
    refine ⟨?_, ?_, ?_, ?_, ?_, ?_, ?_⟩
    · rw [p258.1]; simp [World.cell?, h]
    · rw [p258.2.1]; simp [World.cell?, h]
    · rw [p258.2.2.1]; simp [World.cell?, h]
    · rw [p258.2.2.2]; simp [World.cell?, h]
    all_goals simp [World.cell?, h]
  have g1 : Cells7 W b (0 + 1 * 7) 0 (.slice none 0 0) (.slice none 0 0) 0 := by
    refine ⟨?_, ?_, ?_, ?_, ?_, ?_, ?_⟩
    · rw [p0.1]; simp [World.cell?, h]
    · rw [p0.2.1]; simp [World.cell?, h]
    · rw [p0.2.2.1]; simp [World.cell?, h]
    · rw [p0.2.2.2]; simp [World.cell?, h]
    all_goals simp [World.cell?, h]
  have g2 : Cells7 W b (0 + 2 * 7) 1 (.slice none 0 0) (.slice none 0 0) 0 := by
    refine ⟨?_, ?_, ?_, ?_, ?_, ?_, ?_⟩
    · rw [p1.1]; simp [World.cell?, h]
    · rw [p1.2.1]; simp [World.cell?, h]
    · rw [p1.2.2.1]; simp [World.cell?, h]
    · rw [p1.2.2.2]; simp [World.cell?, h]
    all_goals simp [World.cell?, h]
  refine .row (vs := M.vthree) (fun _ => .slice none 0 0) (fun _ => .slice none 0 0) hb (Nat.le_refl _) (by decide) ?_ ?_ ?_ ?_
  all_goals
    intro i N bs us p e
    match i, e with
    | 0, e => cases e; first | exact .nil_ (by decide) | exact g0 | (unfold M.In; omega)
    | 1, e => cases e; first | exact .nil_ (by decide) | exact g1 | (unfold M.In; omega)
    | 2, e => cases e; first | exact .nil_ (by decide) | exact g2 | (unfold M.In; omega)

theorem zx_1 : M.putT M.tl (.mk 0 [true, false, true] [] 0) = ([13], 0) := by decide +kernel
theorem zx_2 : M.putT (.mk 7 0 M.three) (.mk 0 [] M.vthree 0) = ([2, 1, 7, 0, 0, 0, 1, 1], 0) := by decide +kernel
theorem zx_3 : M.getT (.mk 7 0 M.three) [2, 1, 7, 0, 0, 0, 1, 1] = (.mk 0 [] M.vthree 0, 0) := by
  have := (M.ssz_back (t := .mk 7 0 M.three) (v := .mk 0 [] M.vthree 0) ⟨by unfold M.In; omega, ⟨by unfold M.In; omega, trivial⟩, ⟨by unfold M.In; omega, trivial⟩, ⟨by unfold M.In; omega, trivial⟩, trivial⟩ (by rw [zx_2])).1
  rwa [zx_2] at this
theorem zx_4 : (M.getT (.mk 7 0 M.three) [2, 1, 7, 0, 0, 0, 1, 1, 120]).2 = 5 := by decide +kernel
theorem zx_5 : (M.getT M.tl []).2 = 2 := by decide +kernel
theorem zx_6 : (M.getT (.mk 0 0 []) []).2 = 9 := by decide +kernel

set_option maxRecDepth 100000 in
set_option maxHeartbeats 16000000 in
theorem zworks (HZ : Hid Sszs) (HM : Hid SSame8Ok) : ZWorks := by
  intro w
  obtain ⟨w1, hw1⟩ : ∃ w1, (w.alloc (.cells #[.int .i64 6, .int .i64 8, .slice none 0 0] 24)).alloc (.cells #[.bool true, .bool false, .bool true] 4) = w1 := ⟨_, rfl⟩
  have hz1 : w1.heap.size = w.heap.size + 2 := by rw [← hw1]; simp
  have hb1 : Below w.heap.size w w1 := by rw [← hw1]; exact ((Below.refl _ _).alloc (Nat.le_refl _) _).alloc (by simp) _
  have hB1 : BoxT w1 w.heap.size 6 8 (.slice none 0 0) := by rw [← hw1]; exact ⟨by simp [go_sem], by simp [go_sem], by simp [go_sem]⟩
  have hbits : w1.heap[w.heap.size + 1]? = some (.cells #[.bool true, .bool false, .bool true] 4 (0, 0)) := by
    rw [← hw1]
    have := heap_alloc_new (w.alloc (.cells #[.int .i64 6, .int .i64 8, .slice none 0 0] 24)) (.cells #[.bool true, .bool false, .bool true] 4)
    rwa [World.size_alloc] at this
  have P1 := HZ.out.put 6 8 [] none 0 0 [true, false, true] [] 0 (some ⟨w.heap.size + 1, 0, none⟩) 3 none 0 w1 (.nil_ (by decide)) ⟨by unfold M.In; omega, bits_three hbits (by omega), .nil_ (by decide)⟩ (by decide) (by decide)
  rw [show M.putT (.mk 6 8 []) (.mk 0 [true, false, true] [] 0) = ([13], 0) from zx_1, vv8_0] at P1
  have HW1 := Lib.hid hw1
  clear hw1
  go_enter Tryz.func10, Tryz.ntmps10
  go_wp2_with fail
  rw [HW1.out]
  refine P1.mono ?_
  rintro e w2 ⟨rfl, hb2⟩
  clear P1
  have t0 := (hB1.from_ hb2 (by omega)).c0
  have t1 := (hB1.from_ hb2 (by omega)).c1
  have t2 := (hB1.from_ hb2 (by omega)).c2
  obtain ⟨w3, hw3⟩ : ∃ w3, (((w2.alloc (.cells #[.int .i64 1, .int .i64 2, .slice none 0 0, .int .i64 6, .int .i64 8, .slice none 0 0, .int .i64 2, .int .i64 0, .slice none 0 0] 24)).alloc (.cells #[.int .i64 7, .int .i64 0, .slice (some ⟨w2.heap.size, 0, none⟩) 3 3] 24)).alloc (.cells #[.int .u64 258, .int .u64 0, .int .u64 0, .int .u64 0, .slice none 0 0, .slice none 0 0, .int .i64 0, .int .u64 0, .int .u64 0, .int .u64 0, .int .u64 0, .slice none 0 0, .slice none 0 0, .int .i64 0, .int .u64 1, .int .u64 0, .int .u64 0, .int .u64 0, .slice none 0 0, .slice none 0 0, .int .i64 0] 33)).alloc (.cells #[.int .u64 0, .int .u64 0, .int .u64 0, .int .u64 0, .slice none 0 0, .slice (some ⟨w2.heap.size + 1 + 1, 0, none⟩) 3 3, .int .i64 0] 33) = w3 := ⟨_, rfl⟩
  have hz3 : w3.heap.size = w2.heap.size + 4 := by rw [← hw3]; simp
  have hb3 : Below w2.heap.size w2 w3 := by rw [← hw3]; exact (((Below.refl _ _).alloc (Nat.le_refl _) _).alloc (by simp) _).alloc (by simp; omega) _ |>.alloc (by simp; omega) _
  have hT3 : BoxT w3 (w2.heap.size + 1) 7 0 (.slice (some ⟨w2.heap.size, 0, none⟩) 3 3) := by
    rw [← hw3]; exact ⟨by simp [go_sem], by simp [go_sem], by simp [go_sem]⟩
  have hV3 : Cells7 w3 (w2.heap.size + 1 + 1 + 1) 0 0 (.slice none 0 0) (.slice (some ⟨w2.heap.size + 1 + 1, 0, none⟩) 3 3) 0 := by
    rw [← hw3]
    have := Cells7.new (((w2.alloc (.cells #[.int .i64 1, .int .i64 2, .slice none 0 0, .int .i64 6, .int .i64 8, .slice none 0 0, .int .i64 2, .int .i64 0, .slice none 0 0] 24)).alloc (.cells #[.int .i64 7, .int .i64 0, .slice (some ⟨w2.heap.size, 0, none⟩) 3 3] 24)).alloc (.cells #[.int .u64 258, .int .u64 0, .int .u64 0, .int .u64 0, .slice none 0 0, .slice none 0 0, .int .i64 0, .int .u64 0, .int .u64 0, .int .u64 0, .int .u64 0, .slice none 0 0, .slice none 0 0, .int .i64 0, .int .u64 1, .int .u64 0, .int .u64 0, .int .u64 0, .slice none 0 0, .slice none 0 0, .int .i64 0] 33)) 0 (.slice none 0 0) (.slice (some ⟨w2.heap.size + 1 + 1, 0, none⟩) 3 3) 0 33
    rw [show M.pt 0 0 = 0 by decide +kernel, show M.pt 1 0 = 0 by decide +kernel, show M.pt 2 0 = 0 by decide +kernel, show M.pt 3 0 = 0 by decide +kernel] at this
    rwa [World.size_alloc, World.size_alloc, World.size_alloc] at this
  have hr3 : w3.heap[w2.heap.size]? = some (.cells #[.int .i64 1, .int .i64 2, .slice none 0 0, .int .i64 6, .int .i64 8, .slice none 0 0, .int .i64 2, .int .i64 0, .slice none 0 0] 24 (0, 0)) := by
    rw [← hw3]
    exact ((((Below.refl (w2.alloc (.cells #[.int .i64 1, .int .i64 2, .slice none 0 0, .int .i64 6, .int .i64 8, .slice none 0 0, .int .i64 2, .int .i64 0, .slice none 0 0] 24)).heap.size (w2.alloc (.cells #[.int .i64 1, .int .i64 2, .slice none 0 0, .int .i64 6, .int .i64 8, .slice none 0 0, .int .i64 2, .int .i64 0, .slice none 0 0] 24))).alloc (Nat.le_refl _) _).alloc (by first | omega | (simp; omega) | simp) _).alloc (by first | omega | (simp; omega) | simp) _ |>.block _ (by simp)).trans (heap_alloc_new w2 (.cells #[.int .i64 1, .int .i64 2, .slice none 0 0, .int .i64 6, .int .i64 8, .slice none 0 0, .int .i64 2, .int .i64 0, .slice none 0 0] 24))
  have hv3 : w3.heap[w2.heap.size + 1 + 1]? = some (.cells #[.int .u64 258, .int .u64 0, .int .u64 0, .int .u64 0, .slice none 0 0, .slice none 0 0, .int .i64 0, .int .u64 0, .int .u64 0, .int .u64 0, .int .u64 0, .slice none 0 0, .slice none 0 0, .int .i64 0, .int .u64 1, .int .u64 0, .int .u64 0, .int .u64 0, .slice none 0 0, .slice none 0 0, .int .i64 0] 33 (0, 0)) := by
    rw [← hw3]
    have := heap_alloc_new ((w2.alloc (.cells #[.int .i64 1, .int .i64 2, .slice none 0 0, .int .i64 6, .int .i64 8, .slice none 0 0, .int .i64 2, .int .i64 0, .slice none 0 0] 24)).alloc (.cells #[.int .i64 7, .int .i64 0, .slice (some ⟨w2.heap.size, 0, none⟩) 3 3] 24)) (.cells #[.int .u64 258, .int .u64 0, .int .u64 0, .int .u64 0, .slice none 0 0, .slice none 0 0, .int .i64 0, .int .u64 0, .int .u64 0, .int .u64 0, .int .u64 0, .slice none 0 0, .slice none 0 0, .int .i64 0, .int .u64 1, .int .u64 0, .int .u64 0, .int .u64 0, .slice none 0 0, .slice none 0 0, .int .i64 0] 33)
    rw [World.size_alloc, World.size_alloc] at this
    exact (((Below.refl (((w2.alloc (.cells #[.int .i64 1, .int .i64 2, .slice none 0 0, .int .i64 6, .int .i64 8, .slice none 0 0, .int .i64 2, .int .i64 0, .slice none 0 0] 24)).alloc (.cells #[.int .i64 7, .int .i64 0, .slice (some ⟨w2.heap.size, 0, none⟩) 3 3] 24)).alloc (.cells #[.int .u64 258, .int .u64 0, .int .u64 0, .int .u64 0, .slice none 0 0, .slice none 0 0, .int .i64 0, .int .u64 0, .int .u64 0, .int .u64 0, .int .u64 0, .slice none 0 0, .slice none 0 0, .int .i64 0, .int .u64 1, .int .u64 0, .int .u64 0, .int .u64 0, .slice none 0 0, .slice none 0 0, .int .i64 0] 33)).heap.size (((w2.alloc (.cells #[.int .i64 1, .int .i64 2, .slice none 0 0, .int .i64 6, .int .i64 8, .slice none 0 0, .int .i64 2, .int .i64 0, .slice none 0 0] 24)).alloc (.cells #[.int .i64 7, .int .i64 0, .slice (some ⟨w2.heap.size, 0, none⟩) 3 3] 24)).alloc (.cells #[.int .u64 258, .int .u64 0, .int .u64 0, .int .u64 0, .slice none 0 0, .slice none 0 0, .int .i64 0, .int .u64 0, .int .u64 0, .int .u64 0, .int .u64 0, .slice none 0 0, .slice none 0 0, .int .i64 0, .int .u64 1, .int .u64 0, .int .u64 0, .int .u64 0, .slice none 0 0, .slice none 0 0, .int .i64 0] 33))).alloc (Nat.le_refl _) _).block _ (by simp)).trans this
  have HW3 := Lib.hid hw3
  clear hw3
  have tys : ∀ W, Below w3.heap.size w3 W → LayT W W.heap.size M.three (.slice (some ⟨w2.heap.size, 0, none⟩) 3 3) := fun W h => types_three ((h.block _ (by omega)).trans hr3) (by have := h.size; omega)
  have vas : ∀ W, Below w3.heap.size w3 W → Vl W W.heap.size 0 [] M.vthree none 0 (some ⟨w2.heap.size + 1 + 1, 0, none⟩) 3 := fun W h => ⟨by unfold M.In; omega, .nil_ (by decide), vals_three ((h.block _ (by omega)).trans hv3) (by have := h.size; omega)⟩
  have P2 := HZ.out.put 7 0 M.three (some ⟨w2.heap.size, 0, none⟩) 3 0 [] M.vthree 0 none 0 (some ⟨w2.heap.size + 1 + 1, 0, none⟩) 3 w3 (tys _ (Below.refl _ _)) (vas _ (Below.refl _ _)) (by decide) (by decide)
  rw [zx_2, vv8_0] at P2
  go_wp2_with fail
  rw [HW3.out]
  refine P2.mono ?_
  rintro e w4 ⟨rfl, hb4⟩
  clear P2
  have hb34 : Below w3.heap.size w3 w4 := hb4
  have G3 := HZ.out.get 7 0 M.three (some ⟨w2.heap.size, 0, none⟩) 3 [2, 1, 7, 0, 0, 0, 1, 1] w4 (tys _ hb34) (by decide) (by decide)
  rw [zx_3] at G3
  have t3 := (hT3.from_ hb34 (by omega)).c0
  have t4 := (hT3.from_ hb34 (by omega)).c1
  have t5 := (hT3.from_ hb34 (by omega)).c2
  go_wp2_with fail
  refine G3.mono ?_
  rintro e w5 ⟨⟨N, bs, us, p, ab, cb, au, cu, hg, rfl, hvl⟩, hb5⟩
  cases hg
  clear t0 t1 t2 t3 t4 t5 G3
  rw [vv8_0]
  have hb35 : Below w3.heap.size w3 w5 := hb34.trans (hb5.mono hb34.size)
  obtain ⟨w6, hw6⟩ : ∃ w6, w5.alloc (.cells #[.int .u64 0, .int .u64 0, .int .u64 0, .int .u64 0, .slice ab 0 cb, .slice au M.vthree.length cu, .int .i64 0] 33) = w6 := ⟨_, rfl⟩
  have hz6 : w6.heap.size = w5.heap.size + 1 := by rw [← hw6]; simp
  have hb6 : Below w5.heap.size w5 w6 := by rw [← hw6]; exact (Below.refl _ _).alloc (Nat.le_refl _) _
  have hb36 : Below w3.heap.size w3 w6 := hb35.trans (hb6.mono hb35.size)
  have hV6 : Cells7 w6 w5.heap.size 0 0 (.slice ab 0 cb) (.slice au M.vthree.length cu) 0 := by
    rw [← hw6]
    have := Cells7.new w5 0 (.slice ab 0 cb) (.slice au M.vthree.length cu) 0 33
    rwa [show M.pt 0 0 = 0 by decide +kernel, show M.pt 1 0 = 0 by decide +kernel, show M.pt 2 0 = 0 by decide +kernel, show M.pt 3 0 = 0 by decide +kernel] at this
  have HW6 := Lib.hid hw6
  clear hw6
  have G4 := HZ.out.get 7 0 M.three (some ⟨w2.heap.size, 0, none⟩) 3 [2, 1, 7, 0, 0, 0, 1, 1, 120] w6 (tys _ hb36) (by decide) (by decide)
  have x4 := zx_4
  generalize M.getT (.mk 7 0 M.three) [2, 1, 7, 0, 0, 0, 1, 1, 120] = r4 at G4 x4
  obtain ⟨y4, e4⟩ := r4
  cases x4
  have t0 := (hT3.from_ hb35 (by omega)).c0
  have t1 := (hT3.from_ hb35 (by omega)).c1
  have t2 := (hT3.from_ hb35 (by omega)).c2
  have t3 := (hT3.from_ hb36 (by omega)).c0
  have t4 := (hT3.from_ hb36 (by omega)).c1
  have t5 := (hT3.from_ hb36 (by omega)).c2
  rw [← HW6.out] at t3 t4 t5
  go_wp2_with fail
  rw [HW6.out, show (({ data := #[2, 1, 7, 0, 0, 0, 1, 1] } : ByteArray) ++ { data := #[120] }) = { data := [2, 1, 7, 0, 0, 0, 1, 1, 120].toArray } from rfl]
  refine G4.mono ?_
  rintro e w7 ⟨⟨N4, bs4, us4, p4, ab4, cb4, au4, cu4, _, rfl, _⟩, hb7⟩
  clear t0 t1 t2 t3 t4 t5 G4
  obtain ⟨w8, hw8⟩ : ∃ w8, w7.alloc (.cells #[.int .u64 (M.pt 0 N4), .int .u64 (M.pt 1 N4), .int .u64 (M.pt 2 N4), .int .u64 (M.pt 3 N4), .slice ab4 bs4.length cb4, .slice au4 us4.length cu4, .int .i64 p4] 33) = w8 := ⟨_, rfl⟩
  have hz8 : w8.heap.size = w7.heap.size + 1 := by rw [← hw8]; simp
  have hb8 : Below w7.heap.size w7 w8 := by rw [← hw8]; exact (Below.refl _ _).alloc (Nat.le_refl _) _
  have hb68 : Below w6.heap.size w6 w8 := Below.trans hb7 (hb8.mono hb7.size)
  have hb28 : Below w1.heap.size w1 w8 := (Below.trans hb2 ((hb3.trans (hb36.trans (hb68.mono hb36.size) |>.mono (by omega))).mono hb2.size))
  have HW8 := Lib.hid hw8
  clear hw8
  have G5 := HZ.out.get 6 8 [] none 0 [] w8 (.nil_ (by decide)) (by decide) (by decide)
  have x5 := zx_5
  unfold M.tl at x5
  generalize M.getT (.mk 6 8 []) [] = r5 at G5 x5
  obtain ⟨y5, e5⟩ := r5
  cases x5
  have t0 := (hB1.from_ hb28 (by omega)).c0
  have t1 := (hB1.from_ hb28 (by omega)).c1
  have t2 := (hB1.from_ hb28 (by omega)).c2
  rw [← HW8.out] at t0 t1 t2
  go_wp2_with fail
  rw [HW8.out]
  refine G5.mono ?_
  rintro e w9 ⟨⟨N5, bs5, us5, p5, ab5, cb5, au5, cu5, _, rfl, _⟩, hb9⟩
  clear t0 t1 t2 G5
  obtain ⟨w10, hw10⟩ : ∃ w10, w9.alloc (.cells #[.int .u64 (M.pt 0 N5), .int .u64 (M.pt 1 N5), .int .u64 (M.pt 2 N5), .int .u64 (M.pt 3 N5), .slice ab5 bs5.length cb5, .slice au5 us5.length cu5, .int .i64 p5] 33) = w10 := ⟨_, rfl⟩
  have hb10 : Below w9.heap.size w9 w10 := by rw [← hw10]; exact (Below.refl _ _).alloc (Nat.le_refl _) _
  have HW10 := Lib.hid hw10
  clear hw10
  have G6 := HZ.out.get 0 0 [] none 0 [] w10 (.nil_ (by decide)) (by decide) (by decide)
  have x6 := zx_6
  generalize M.getT (.mk 0 0 []) [] = r6 at G6 x6
  obtain ⟨y6, e6⟩ := r6
  cases x6
  go_wp2_with fail
  rw [HW10.out]
  refine G6.mono ?_
  rintro e w11 ⟨⟨N6, bs6, us6, p6, ab6, cb6, au6, cu6, _, rfl, _⟩, hb11⟩
  clear G6
  obtain ⟨w12, hw12⟩ : ∃ w12, w11.alloc (.cells #[.int .u64 (M.pt 0 N6), .int .u64 (M.pt 1 N6), .int .u64 (M.pt 2 N6), .int .u64 (M.pt 3 N6), .slice ab6 bs6.length cb6, .slice au6 us6.length cu6, .int .i64 p6] 33) = w12 := ⟨_, rfl⟩
  have hb12 : Below w11.heap.size w11 w12 := by rw [← hw12]; exact (Below.refl _ _).alloc (Nat.le_refl _) _
  have HW12 := Lib.hid hw12
  clear hw12
  have hb8c : Below w8.heap.size w8 w12 := Below.trans hb9 (((hb10.trans ((Below.trans hb11 (hb12.mono hb11.size)).mono hb10.size))).mono hb9.size)
  have hb6c : Below w6.heap.size w6 w12 := hb68.trans (hb8c.mono hb68.size)
  have hb3c : Below w3.heap.size w3 w12 := hb36.trans (hb6c.mono hb36.size)
  have hb5c : Below w5.heap.size w5 w12 := hb6.trans (hb6c.mono hb6.size)
  have C5 := hV3.from_ hb3c (by omega)
  have C8 := hV6.from_ hb6c (by omega)
  have a0 := C5.c0
  have a1 := C5.c1
  have a2 := C5.c2
  have a3 := C5.c3
  have a4 := C5.c4
  have a5 := C5.c5
  have a6 := C5.c6
  have b0 := C8.c0
  have b1 := C8.c1
  have b2 := C8.c2
  have b3 := C8.c3
  have b4 := C8.c4
  have b5 := C8.c5
  have b6 := C8.c6
  simp only [Nat.zero_add] at a1 a2 a3 a4 a5 a6 b1 b2 b3 b4 b5 b6
  rw [← HW12.out] at a0 a1 a2 a3 a4 a5 a6 b0 b1 b2 b3 b4 b5 b6
  go_wp2_with fail
  rw [HW12.out]
  refine (HM.out 0 [] M.vthree 0 none 0 (some ⟨w2.heap.size + 1 + 1, 0, none⟩) 3 0 [] M.vthree 0 ab cb au cu w12 (vas _ hb3c) ((hvl.from_ hb5c).mono hb5c.size) (by decide) (by decide)).mono ?_
  rintro e w13 ⟨rfl, hb13⟩
  rw [show M.sameV (.mk 0 [] M.vthree 0) (.mk 0 [] M.vthree 0) = true by decide +kernel]
  go_wp2_with fail
  go_ret
  refine ⟨rfl, ?_⟩
  exact hb1.trans ((hb28.trans ((hb8c.trans (Below.mono hb13 hb8c.size)).mono hb28.size)).mono hb1.size)
end Go.Proofs.YtgloapcfmlijlaaGreatDoor
namespace Go.Proofs.YtgloapcfmlijlaaGreatDoor
open Go Go.RowKit Go.Lib

theorem same_8 : SSame8Ok := shape_same
theorem z_works : ZWorks := zworks (Lib.hid ssz_ok) (Lib.hid same_8)
end Go.Proofs.YtgloapcfmlijlaaGreatDoor
namespace Go.Proofs.YtgloapcfmlijlaaGreatDoor
open Go Go.RowKit

theorem M.led_drop {s : List UInt8} {j : Nat} (h : j < s.length) : M.led (s.drop j) = s[j].toNat + 256 * M.led (s.drop (j + 1)) := by
  rw [List.drop_eq_getElem_cons h, M.led]
set_option maxRecDepth 100000 in
set_option maxHeartbeats 4000000 in
theorem zunle_any (s : List UInt8) (w : World) (h4 : s.length = 4) :
    Calls Tryz.prog 217 #[.string ⟨s.toArray⟩] w fun e w' => e = .returned (.tuple #[.int .u64 (M.led s : Nat), .int .i64 0]) ∧ w' = w := by
  have hb : ∀ j, j ≤ 4 → M.led (s.drop j) < 256 ^ (4 - j) := fun j hj => by
    have := M.led_lt (s.drop j)
    rw [List.length_drop, h4] at this
    exact this
  have HL := Lib.hid h4
  have hl1 : s.length ≤ 8 := by omega
  have hl2 : 1 ≤ s.length := by omega
  go_enter Tryz.func217, Tryz.ntmps217
  go_wp2_with fail
  go_loopw [4, 5] (fun m i wr => ∃ (j : Nat), j ≤ 4 ∧ i = .int .i64 ((j : Int) - 1) ∧ m = .int .u64 (M.led (s.drop j) : Nat) ∧ wr = w) (fun _ i _ => (RowKit.intOf i + 1).toNat)
  case atStart =>
    exact ⟨4, by omega, by simp, by rw [List.drop_of_length_le (by omega)]; rfl, rfl⟩
  case round =>
    obtain ⟨j, hj, rfl, rfl, rfl⟩ := hrel
    obtain ⟨q, hq⟩ : ∃ q, M.led (s.drop j) = q := ⟨_, rfl⟩
    have hqb := hb j hj
    rw [hq] at hqb ⊢
    cases j with
    | zero =>
      have HQ := Lib.hid hq
      clear hq hb hqb
      rw [show (((0 : Nat) : Int) - 1) = -1 by omega]
      go_wp2_with fail
      go_ret2
      refine ⟨?_, rfl⟩
      rw [← HQ.out]
      rfl
    | succ k =>
      have hk : k < s.length := by omega
      have hk3 : k < 4 := by omega
      obtain ⟨c, hc⟩ : ∃ c, s[k] = c := ⟨_, rfl⟩
      have ec : ((⟨s.toArray⟩ : ByteArray)[k]'(by simpa [ByteArray.size] using hk)) = c := hc
      have hn := M.led_drop hk
      rw [hc, hq] at hn
      have hcb := c.toNat_lt
      have hq3 : q < 72057594037927936 := Nat.lt_of_lt_of_le hqb (by
        have : 256 ^ (4 - (k + 1)) ≤ 256 ^ 4 := Nat.pow_le_pow_right (by omega) (by omega)
        omega)
      obtain ⟨c0, hc0⟩ : ∃ c0, c.toNat = c0 := ⟨_, rfl⟩
      rw [hc0] at hn hcb
      have HN := Lib.hid hn
      clear hn hq hb hqb hc
      rw [show (((k + 1 : Nat) : Int) - 1) = (k : Int) by omega]
      go_wp2_with fail
      exact ⟨⟨k, by omega, rfl, congrArg (Value.int .u64) (by rw [HN.out]; omega), trivial⟩, by simp [RowKit.intOf]⟩
theorem zlow4_any (s : List UInt8) (w : World) (h4 : s.length = 4) :
    Calls Tryz.prog 190 #[.string ⟨s.toArray⟩] w fun e w' => e = .returned (.int .i64 (M.led s : Nat)) ∧ w' = w := by
  have HU := Lib.hid (zunle_any s w h4)
  have hb := M.led_lt s
  rw [h4] at hb
  generalize M.led s = q at *
  have hw : wrap64 (q : Int) = q := by unfold wrap64; omega
  clear hb
  go_enter Tryz.func190, Tryz.ntmps190
  go_wp2_with fail
  refine HU.out.mono ?_
  rintro e X ⟨rfl, hX⟩
  obtain rfl : w = X := hX.symm
  go_wp2_with fail
  go_ret
  refine ⟨congrArg (fun x => Ending.returned (Value.int IntKind.i64 x)) (?_ : wrap64 _ = _), rfl⟩
  exact hw
end Go.Proofs.YtgloapcfmlijlaaGreatDoor
namespace Go.Proofs.YtgloapcfmlijlaaGreatDoor
open Go Go.RowKit

end Go.Proofs.YtgloapcfmlijlaaGreatDoor
namespace Go.Proofs.YtgloapcfmlijlaaGreatDoor
open Go Go.RowKit

end Go.Proofs.YtgloapcfmlijlaaGreatDoor
